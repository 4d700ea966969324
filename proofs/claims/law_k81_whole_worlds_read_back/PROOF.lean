import PyProof.Rows.All
import Wide.All
import OpenK.AllK
import PySem.Challenge.RW_forkplan_k81_whole_worlds_read_back
local macro_rules | `(tactic|wtm_at "d")=>`(tactic|decide +kernel)
set_option maxHeartbeats 4000000
set_option Elab.async false
set_option linter.all false
set_option maxRecDepth 100000
set_option maxHeartbeats 0 in
theorem FP.saidW:PySem.Challenge.rw_forkplan_k81_whole_worlds_read_back.wellSaid=true:=by wtm_at"d"
open List renaming getElem?_eq_getElem -> yYA, getElem?_eq_some_iff -> yYB, length_map -> yYC, size_toArray -> yYD, mem_of_getElem? -> yYE, length_take -> yYF, mem_cons_self -> yYG, mem_cons_of_mem -> yYH, length_append -> yYI, take_length -> yYJ, mem_cons -> yYK, mem_singleton -> yYL, take_add_one -> yYM, mem_append_right -> yYN, getElem?_map -> yYO, mem_map -> yYP, append_assoc -> yYQ, mem_append -> yYR, length_cons -> yYS, length_nil -> yYT, map_append -> yYU
open PySem renaming wpAny_bind -> yYV, wpAny_pure -> yYW
open PySem.Heap renaming get?_push_of_some -> yYX, lt_size -> yYY, get?_push_size -> yYZ, size_push -> yZA
open Nat renaming le_refl -> yZB, lt_of_lt_of_le -> yZC, ne_of_lt -> yZD, zero_le -> yZE, ne_of_gt -> yZF, lt_of_le_of_lt -> yZG, le_trans -> yZH
open Bool renaming false_eq_true -> yZI, false_ne_true -> yZJ
open Array renaming length_toList -> yZK, getElem?_toList -> yZL
open Option renaming map_some -> yZM
open PySem.W renaming Frag -> yZN
open PySem.Str renaming ofString -> Yb
open PySem renaming sizeLine -> Yc, mainGlobals -> Yd
open List renaming cons_ne_nil -> Ye, replicate -> Yg, length_reverse -> Yh, getD_eq_getElem?_getD -> Yi, getElem?_append_right -> Yj, length_replicate -> Yk, take_of_length_le -> Yl, map_cons -> Ym, mem_append_left -> Yn, map_map -> Yo, length_drop -> Yp, not_mem_nil -> Yq, append_nil -> Yr, getElem?_append_left -> Ys, mem_of_mem_take -> Yt, filterMap_cons -> Yu, replicate_succ -> Yv, take_sublist -> Yw, range_succ -> Yx
open PySem.F renaming plainAttrs_list -> Yy, slot_list_append -> Yz, type_list_append -> YT, plainAttrs_str -> YU, slot_str_split -> YV, type_str_split -> YW
open PySem.W renaming nsIn -> YX, mg_of -> YY, mg_none_of -> YZ, kia_one -> Y6, fnOf -> Y7
open PySem.NumText renaming digitsVal -> Y8
open Nat renaming pow_le_pow_right -> Y9
open Int renaming emod_lt_of_pos -> Za, emod_nonneg -> Zb
open Bool renaming eq_iff_iff -> Zc
open Option renaming map_eq_some_iff -> Zd
noncomputable section
namespace L2
open PySem
def xC (s:Stmt):Arguments:=match s with
 | .FunctionDef _ a _ _ _ _ _ _ _ _=>a
 | _=>{ posonlyargs:=[],args:=[],vararg:=none,kwonlyargs:=[],kw_defaults:=[],kwarg:=none,defaults:=[] }
def xB (s:Stmt):List Stmt:=match s with
 | .FunctionDef _ _ b _ _ _ _ _ _ _=>b
 | _=>[]
def xA (s:Stmt):Scope:=match s with
 | .FunctionDef _ _ _ _ _ _ sc _ _ _=>sc
 | _=>{ kind:=.function,names:=[],isGenerator:=false,isCoroutine:=false }
end L2
namespace FP
open PySem
def top (i:Nat):Stmt:=PySem.Challenge.pw_forkplan_k81_whole_worlds_read_back.main.body.getD i (.Pass ⟨0,0,0,0⟩)
abbrev oF (x:String)(i:Nat)(m:String)(n c:Nat):Obj:=Obj.mk (.type "function") none (Data.func (Y7 (Yb x) (Yb x) (L2.xC (top i)) (L2.xB (top i)) (L2.xA (top i)) .none .none .none (.str (Yb m) n) none (.ref c) .none)) #[]
abbrev oL (x:String)(i c:Nat):Obj:=oF x i "law_forkplan_k81_whole_worlds_read_back" 641 c
abbrev oG (x:String)(i:Nat):Obj:=Obj.mk .none none (Data.func { Y7 (Yb x) (Yb x) (L2.xC (top i)) (L2.xB (top i)) (L2.xA (top i)) .none .none .none .none none .none .none with globals:=0 }) #[]
abbrev oE (P:Params)(k:String)(n:Nat)(v:Value):DictEntry:=DictEntry.mk (PyData.keyHash P (Yb k)) (.str (Yb k) n) v
abbrev oS (x:String)(n:Nat):Value:=.str (Yb x) n
abbrev oR (n:Nat):Value:=.ref n
abbrev oI (n:Int):Value:=.int n 0
abbrev oN:Obj:=Obj.mk .none none (Data.fields #[]) #[]
abbrev oT (x:Array Value):Obj:=Obj.mk (.type "tuple") none (Data.seq x 0) #[]
abbrev oC (x:Array Value):Obj:=Obj.mk (.type "code") none (Data.fields x) #[]
abbrev oK (x y:String)(a b c:Nat)(L n f:Int)(r q:Nat)(v w u z:Value)(t:Int)(t2:Nat):Obj:=oC #[(oS x a),(oS y b),(oS "/claim/cut.py" c),(oI L),(oI n),(oI 0),(oI 0),(oI f),(oR r),(.bool Bool.true),(oI 181),(oR q),v,w,u,z,(oI t),(oI L),(oS "/claim/cut.py" t2)]
open PySem.W
def Y0(a0)(a1)(a2)(a3)(a4)(a5)(a6)(a7)(a8)(a9)(a10):=oC #[(oS a0 a1),(oS a2 a3),(oS "/claim/cut.py" a4),(oI a5),(oI 0),(oI 0),(oI 0),(oI 0),(oR a6),(.bool Bool.false),(oI 181),(oR a7),.none,.none,.none,.none,(oI a8),(oI a9),(oS "/claim/cut.py" a10)]
def Y1(a0)(a1)(a2)(a3):=Obj.mk (.type "frame") none Data.plain #[(some (oR a0)),(some (oR 3)),(some (oR a1)),none,(some (oS a2 a3)),none,(some (oR 0))]
def Y2 (P:Params)(a0)(a1)(a2)(a3)(a4)(a5)(a6)(a7)(a8):=Obj.mk (.type "dict") none (Data.dict #[(oE P "__module__" a0 (oS "forkplan.errors" 187)),(oE P "__qualname__" a1 (oS a2 a3)),(oE P "__firstlineno__" a4 (.int a5 a6)),(oE P "__static_attributes__" a7 (oR a8))] 4) #[]
def Y3:=Obj.mk (.type "builtin_function_or_method") none (Data.fields #[(.builtin "type.__prepare__"),(.type "type")]) #[]
def Y4(a0)(a1)(a2):=Obj.mk (.type "super") none (Data.fields #[(oR a0),(oR a1),(oR a2)]) #[]
def Y5(a0):=Obj.mk (.type "builtin_function_or_method") none (Data.fields #[(.builtin "object.__init_subclass__"),(oR a0)]) #[]
def Z3 (P:Params):=Obj.mk (.type "dict") none (Data.dict #[(oE P "__name__" 165 (oS "law_forkplan_k81_whole_worlds_read_back" 641)),(oE P "__doc__" 166 .none),(oE P "__package__" 167 .none),(oE P "__loader__" 168 (.builtin "__main__.__loader__#opaque")),(oE P "__spec__" 169 .none),(oE P "__annotations__" 170 (oR 6)),(oE P "__builtins__" 171 (oR 4)),(oE P "__file__" 173 (oS "/claim/cut.py" 172)),(oE P "__cached__" 174 .none),(oE P "ForkError" 206 (oR 24)),(oE P "NoWorld" 222 (oR 37)),(oE P "NoText" 238 (oR 49)),(oE P "holds" 249 (oR 58)),(oE P "names_in" 258 (oR 65)),(oE P "values_by_name" 264 (oR 70)),(oE P "worth_by" 275 (oR 77)),(oE P "holds_by" 286 (oR 84)),(oE P "LEAST_SIZE" 290 (.int 2 289)),(oE P "GREATEST_SIZE" 292 (.int 5 291)),(oE P "LEAST_PRICE" 294 (.int 1 293)),(oE P "WORDS_OF_CONDITIONS" 298 (oR 85)),(oE P "world_of" 304 (oR 90)),(oE P "standings_of_boxes" 310 (oR 95)),(oE P "copied_deed" 316 (oR 100)),(oE P "is_whole" 323 (oR 107)),(oE P "refuse_boxes" 329 (oR 112)),(oE P "refuse_twice" 337 (oR 119)),(oE P "refuse_price" 345 (oR 126)),(oE P "refuse_ways" 351 (oR 131)),(oE P "refuse_strange_name" 359 (oR 138)),(oE P "refuse_strange_names" 368 (oR 145)),(oE P "refuse_begin" 377 (oR 152)),(oE P "LETTERS" 381 (oS "abcdefghijklmnopqrstuvwxyz" 380)),(oE P "FIGURES" 383 (oS "0123456789" 382)),(oE P "MOST_LETTERS" 385 (.int 8 384)),(oE P "MOST_FIGURES_OF_A_SIZE" 387 (.int 1 386)),(oE P "MOST_FIGURES_OF_A_PRICE" 389 (.int 30 388)),(oE P "FIGURES_OF_A_BLOCK" 391 (.int 18 390)),(oE P "BLOCK" 393 (.int 1000000000000000000 392)),(oE P "YES" 395 (oR 153)),(oE P "FORMS" 437 (oR 154)),(oE P "LONGEST_FORM" 439 (.int 5 438)),(oE P "SIGNS" 448 (oR 167)),(oE P "STAGES" 467 (oR 168)),(oE P "shown_world" 473 (oR 173)),(oE P "read_world" 479 (oR 178)),(oE P "is_word" 485 (oR 183)),(oE P "shown_need" 492 (oR 190)),(oE P "shown_way" 498 (oR 195)),(oE P "shown_thing" 504 (oR 200)),(oE P "shown_number" 514 (oR 207)),(oE P "kind_of" 521 (oR 214)),(oE P "refuse_order" 527 (oR 219)),(oE P "refuse_unless" 535 (oR 226)),(oE P "read_box" 542 (oR 233)),(oE P "read_deeds" 551 (oR 240)),(oE P "read_deed" 560 (oR 247)),(oE P "read_need" 568 (oR 254)),(oE P "read_way" 574 (oR 259)),(oE P "read_change" 581 (oR 266)),(oE P "read_look" 589 (oR 273)),(oE P "read_name" 596 (oR 280)),(oE P "read_short_number" 604 (oR 287)),(oE P "read_number" 610 (oR 292)),(oE P "read_thing" 621 (oR 299)),(oE P "read_leaf" 628 (oR 306)),(oE P "kind_at_end" 634 (oR 311)),(oE P "put_together_at_end" 640 (oR 316)),(oE P "_law_cell_at" 650 (oR 323)),(oE P "_law_stir" 659 (oR 330)),(oE P "_law_drawn" 670 (oR 337)),(oE P "_law_deck" 677 (oR 344)),(oE P "_law_take" 686 (oR 351)),(oE P "_law_unlike" 702 (oR 358)),(oE P "_law_boxes" 715 (oR 365)),(oE P "_law_expr" 726 (oR 372)),(oE P "_law_cond" 737 (oR 379)),(oE P "_law_worth" 749 (oR 386)),(oE P "_law_holds" 758 (oR 393)),(oE P "_law_values" 764 (oR 398)),(oE P "_law_standings" 770 (oR 403)),(oE P "_law_deed" 785 (oR 410)),(oE P "_law_world" 791 (oR 415)),(oE P "_law_other" 806 (oR 422)),(oE P "_law_same" 812 (oR 427)),(oE P "_law_short" 819 (oR 434)),(oE P "law" 834 (oR 441))] 87) #[]
def Z15:=oT #[(.type "ValueError")]
def Z23 (P:Params):=Obj.mk (.type "dict") none (Data.dict #[(oE P "__module__" 196 (oS "forkplan.errors" 187)),(oE P "__firstlineno__" 200 (.int 2 199)),(oE P "__static_attributes__" 201 (oR 22)),(oE P "__weakref__" 203 (oR 25)),(oE P "__doc__" 204 .none)] 3) #[]
def Z24:=Obj.mk (.type "type") none (Data.cls (ClassData.mk (Yb "ForkError") [(.type "ValueError")] [(oR 24),(.type "ValueError"),(.type "Exception"),(.type "BaseException"),(.type "object")] 23 (Yb "ForkError") Bool.true [] [(oR 37),(oR 49)] Bool.false none Bool.false)) #[(some (oR 15)),none,(some (oS "ForkError" 189)),(some (oS "ForkError" 197)),(some (.builtin "ValueError.__new__")),(some (.bool Bool.true))]
def Z25:=Obj.mk (.type "getset_descriptor") none (Data.fields #[(oS "__weakref__" 202),(oR 24),(.builtin "ExceptionGroup.__weakref__"),.none]) #[]
def Z36 (P:Params):=Obj.mk (.type "dict") none (Data.dict #[(oE P "__module__" 214 (oS "forkplan.errors" 187)),(oE P "__firstlineno__" 218 (.int 4 217)),(oE P "__static_attributes__" 219 (oR 35)),(oE P "__doc__" 220 .none)] 2) #[]
def Z37:=Obj.mk (.type "type") none (Data.cls (ClassData.mk (Yb "NoWorld") [(oR 24)] [(oR 37),(oR 24),(.type "ValueError"),(.type "Exception"),(.type "BaseException"),(.type "object")] 36 (Yb "NoWorld") Bool.true [] [] Bool.false none Bool.false)) #[(some (oR 28)),none,(some (oS "NoWorld" 207)),(some (oS "NoWorld" 215)),(some (.builtin "ValueError.__new__")),(some (.bool Bool.true))]
def Z48 (P:Params):=Obj.mk (.type "dict") none (Data.dict #[(oE P "__module__" 230 (oS "forkplan.errors" 187)),(oE P "__firstlineno__" 234 (.int 6 233)),(oE P "__static_attributes__" 235 (oR 47)),(oE P "__doc__" 236 .none)] 2) #[]
def Z49:=Obj.mk (.type "type") none (Data.cls (ClassData.mk (Yb "NoText") [(oR 24)] [(oR 49),(oR 24),(.type "ValueError"),(.type "Exception"),(.type "BaseException"),(.type "object")] 48 (Yb "NoText") Bool.true [] [] Bool.false none Bool.false)) #[(some (oR 40)),none,(some (oS "NoText" 223)),(some (oS "NoText" 231)),(some (.builtin "ValueError.__new__")),(some (.bool Bool.true))]
def Z57:=oK "holds" "holds" 241 242 243 9 3 3 52 53 .none (oR 54) (oR 55) (oR 56) 247 248
def Z58:=oF "holds" 5 "forkplan.exprs" 239 57
def Z64:=oK "names_in" "names_in" 250 251 252 11 1 3 59 60 .none (oR 61) (oR 62) (oR 63) 256 257
def Z65:=oF "names_in" 6 "forkplan.exprs" 239 64
def Z69:=oK "values_by_name" "values_by_name" 259 260 261 19 2 3 66 67 .none .none .none (oR 68) 262 263
def Z70:=oF "values_by_name" 7 "forkplan.exprs" 239 69
def Z76:=oK "worth_by" "worth_by" 265 266 267 21 2 3 71 72 .none (oR 73) (oR 74) (oR 75) 273 274
def Z77:=oF "worth_by" 8 "forkplan.exprs" 239 76
def Z83:=oK "holds_by" "holds_by" 276 277 278 30 2 3 78 79 .none (oR 80) (oR 81) (oR 82) 284 285
def Z84:=oF "holds_by" 9 "forkplan.exprs" 239 83
def Z85:=oT #[(oS "not" 295),(oS "and" 296),(oS "yes" 297)]
def Z89:=oK "world_of" "world_of" 299 300 301 46 5 3 86 87 .none .none .none (oR 88) 302 303
def Z90:=oF "world_of" 15 "forkplan.worlds" 287 89
def Z94:=oK "standings_of_boxes" "standings_of_boxes" 305 306 307 61 1 3 91 92 .none .none .none (oR 93) 308 309
def Z95:=oF "standings_of_boxes" 16 "forkplan.worlds" 287 94
def Z99:=oK "copied_deed" "copied_deed" 311 312 313 69 1 3 96 97 .none .none .none (oR 98) 314 315
def Z100:=oF "copied_deed" 17 "forkplan.worlds" 287 99
def Z106:=oK "is_whole" "is_whole" 317 318 319 71 1 3 101 102 .none (oR 103) (oR 104) (oR 105) 321 322
def Z107:=oF "is_whole" 18 "forkplan.worlds" 287 106
def Z111:=oK "refuse_boxes" "refuse_boxes" 324 325 326 73 1 3 108 109 .none .none .none (oR 110) 327 328
def Z112:=oF "refuse_boxes" 19 "forkplan.worlds" 287 111
def Z118:=oK "refuse_twice" "refuse_twice" 330 331 332 82 2 3 113 114 .none (oR 115) (oR 116) (oR 117) 335 336
def Z119:=oF "refuse_twice" 20 "forkplan.worlds" 287 118
def Z125:=oK "refuse_price" "refuse_price" 338 339 340 85 2 3 120 121 .none (oR 122) (oR 123) (oR 124) 343 344
def Z126:=oF "refuse_price" 21 "forkplan.worlds" 287 125
def Z130:=oK "refuse_ways" "refuse_ways" 346 347 348 88 3 3 127 128 .none .none .none (oR 129) 349 350
def Z131:=oF "refuse_ways" 22 "forkplan.worlds" 287 130
def Z137:=oK "refuse_strange_name" "refuse_strange_name" 352 353 354 96 2 3 132 133 .none (oR 134) (oR 135) (oR 136) 357 358
def Z138:=oF "refuse_strange_name" 23 "forkplan.worlds" 287 137
def Z144:=oK "refuse_strange_names" "refuse_strange_names" 360 361 362 99 2 3 139 140 .none (oR 141) (oR 142) (oR 143) 366 367
def Z145:=oF "refuse_strange_names" 24 "forkplan.worlds" 287 144
def Z151:=oK "refuse_begin" "refuse_begin" 369 370 371 102 2 3 146 147 .none (oR 148) (oR 149) (oR 150) 375 376
def Z152:=oF "refuse_begin" 25 "forkplan.worlds" 287 151
def Z154 (P:Params):=Obj.mk (.type "dict") none (Data.dict #[(oE P "plus" 396 (oR 156)),(oE P "less" 403 (oR 158)),(oE P "same" 410 (oR 160)),(oE P "under" 415 (oR 162)),(oE P "not" 420 (oR 164)),(oE P "both" 424 (oR 166))] 6) #[]
def Z155:=oT #[(oS "(" 398),(oS "E" 399),(oS "+" 400),(oS "E" 401),(oS ")" 402)]
def Z156:=oT #[(oS "E" 397),(oR 155)]
def Z157:=oT #[(oS "(" 405),(oS "E" 406),(oS "-" 407),(oS "E" 408),(oS ")" 409)]
def Z158:=oT #[(oS "E" 404),(oR 157)]
def Z159:=oT #[(oS "E" 412),(oS "=" 413),(oS "E" 414)]
def Z160:=oT #[(oS "C" 411),(oR 159)]
def Z161:=oT #[(oS "E" 417),(oS "<" 418),(oS "E" 419)]
def Z162:=oT #[(oS "C" 416),(oR 161)]
def Z163:=oT #[(oS "not" 422),(oS "C" 423)]
def Z164:=oT #[(oS "C" 421),(oR 163)]
def Z165:=oT #[(oS "(" 426),(oS "C" 427),(oS "and" 428),(oS "C" 429),(oS ")" 430)]
def Z166:=oT #[(oS "C" 425),(oR 165)]
def Z167:=oT #[(oS "(" 440),(oS ")" 441),(oS "+" 442),(oS "-" 443),(oS "=" 444),(oS "<" 445),(oS "not" 446),(oS "and" 447)]
def Z168 (P:Params):=Obj.mk (.type "dict") none (Data.dict #[(oE P "box" 449 (.int 0 450)),(oE P "deed" 451 (.int 1 452)),(oE P "way" 453 (.int 1 454)),(oE P "look" 455 (.int 2 456)),(oE P "begin" 457 (.int 3 458)),(oE P "goal" 459 (.int 4 460))] 6) #[]
def Z172:=oK "shown_world" "shown_world" 468 469 470 120 1 3 169 170 .none .none .none (oR 171) 471 472
def Z173:=oF "shown_world" 39 "forkplan.texts" 378 172
def Z177:=oK "read_world" "read_world" 474 475 476 130 1 3 174 175 .none .none .none (oR 176) 477 478
def Z178:=oF "read_world" 40 "forkplan.texts" 378 177
def Z182:=oK "is_word" "is_word" 480 481 482 139 1 3 179 180 .none .none .none (oR 181) 483 484
def Z183:=oF "is_word" 41 "forkplan.texts" 378 182
def Z189:=oK "shown_need" "shown_need" 486 487 488 141 1 3 184 185 .none (oR 186) (oR 187) (oR 188) 490 491
def Z190:=oF "shown_need" 42 "forkplan.texts" 378 189
def Z194:=oK "shown_way" "shown_way" 493 494 495 143 1 3 191 192 .none .none .none (oR 193) 496 497
def Z195:=oF "shown_way" 43 "forkplan.texts" 378 194
def Z199:=oK "shown_thing" "shown_thing" 499 500 501 145 1 3 196 197 .none .none .none (oR 198) 502 503
def Z200:=oF "shown_thing" 44 "forkplan.texts" 378 199
def Z206:=oK "shown_number" "shown_number" 505 506 507 157 1 3 201 202 .none (oR 203) (oR 204) (oR 205) 512 513
def Z207:=oF "shown_number" 45 "forkplan.texts" 378 206
def Z213:=oK "kind_of" "kind_of" 515 516 517 167 1 3 208 209 .none (oR 210) (oR 211) (oR 212) 519 520
def Z214:=oF "kind_of" 46 "forkplan.texts" 378 213
def Z218:=oK "refuse_order" "refuse_order" 522 523 524 169 1 3 215 216 .none .none .none (oR 217) 525 526
def Z219:=oF "refuse_order" 47 "forkplan.texts" 378 218
def Z225:=oK "refuse_unless" "refuse_unless" 528 529 530 176 2 3 220 221 .none (oR 222) (oR 223) (oR 224) 533 534
def Z226:=oF "refuse_unless" 48 "forkplan.texts" 378 225
def Z232:=oK "read_box" "read_box" 536 537 538 179 1 3 227 228 .none (oR 229) (oR 230) (oR 231) 540 541
def Z233:=oF "read_box" 49 "forkplan.texts" 378 232
def Z239:=oK "read_deeds" "read_deeds" 543 544 545 182 1 3 234 235 .none (oR 236) (oR 237) (oR 238) 549 550
def Z240:=oF "read_deeds" 50 "forkplan.texts" 378 239
def Z246:=oK "read_deed" "read_deed" 552 553 554 190 1 3 241 242 .none (oR 243) (oR 244) (oR 245) 558 559
def Z247:=oF "read_deed" 51 "forkplan.texts" 378 246
def Z253:=oK "read_need" "read_need" 561 562 563 195 1 3 248 249 .none (oR 250) (oR 251) (oR 252) 566 567
def Z254:=oF "read_need" 52 "forkplan.texts" 378 253
def Z258:=oK "read_way" "read_way" 569 570 571 199 1 3 255 256 .none .none .none (oR 257) 572 573
def Z259:=oF "read_way" 53 "forkplan.texts" 378 258
def Z265:=oK "read_change" "read_change" 575 576 577 202 1 3 260 261 .none (oR 262) (oR 263) (oR 264) 579 580
def Z266:=oF "read_change" 54 "forkplan.texts" 378 265
def Z272:=oK "read_look" "read_look" 582 583 584 205 1 3 267 268 .none (oR 269) (oR 270) (oR 271) 587 588
def Z273:=oF "read_look" 55 "forkplan.texts" 378 272
def Z279:=oK "read_name" "read_name" 590 591 592 209 1 3 274 275 .none (oR 276) (oR 277) (oR 278) 594 595
def Z280:=oF "read_name" 56 "forkplan.texts" 378 279
def Z286:=oK "read_short_number" "read_short_number" 597 598 599 212 2 3 281 282 .none (oR 283) (oR 284) (oR 285) 602 603
def Z287:=oF "read_short_number" 57 "forkplan.texts" 378 286
def Z291:=oK "read_number" "read_number" 605 606 607 215 1 3 288 289 .none .none .none (oR 290) 608 609
def Z292:=oF "read_number" 58 "forkplan.texts" 378 291
def Z298:=oK "read_thing" "read_thing" 611 612 613 223 2 3 293 294 .none (oR 295) (oR 296) (oR 297) 619 620
def Z299:=oF "read_thing" 59 "forkplan.texts" 378 298
def Z305:=oK "read_leaf" "read_leaf" 622 623 624 233 1 3 300 301 .none (oR 302) (oR 303) (oR 304) 626 627
def Z306:=oF "read_leaf" 60 "forkplan.texts" 378 305
def Z310:=oK "kind_at_end" "kind_at_end" 629 630 631 241 1 3 307 308 .none .none .none (oR 309) 632 633
def Z311:=oF "kind_at_end" 61 "forkplan.texts" 378 310
def Z315:=oK "put_together_at_end" "put_together_at_end" 635 636 637 247 2 3 312 313 .none .none .none (oR 314) 638 639
def Z316:=oF "put_together_at_end" 62 "forkplan.texts" 378 315
def Z322:=oK "_law_cell_at" "_law_cell_at" 643 644 645 254 2 3 317 318 .none (oR 319) (oR 320) (oR 321) 648 649
def Z329:=oK "_law_stir" "_law_stir" 651 652 653 258 2 3 324 325 .none (oR 326) (oR 327) (oR 328) 657 658
def Z336:=oK "_law_drawn" "_law_drawn" 660 661 662 262 2 3 331 332 .none (oR 333) (oR 334) (oR 335) 668 669
def Z343:=oK "_law_deck" "_law_deck" 671 672 673 272 1 3 338 339 .none (oR 340) (oR 341) (oR 342) 675 676
def Z350:=oK "_law_take" "_law_take" 678 679 680 276 2 3 345 346 .none (oR 347) (oR 348) (oR 349) 684 685
def Z357:=oK "_law_unlike" "_law_unlike" 687 688 689 280 2 3 352 353 .none (oR 354) (oR 355) (oR 356) 700 701
def Z364:=oK "_law_boxes" "_law_boxes" 703 704 705 291 1 3 359 360 .none (oR 361) (oR 362) (oR 363) 713 714
def Z371:=oK "_law_expr" "_law_expr" 716 717 718 304 3 3 366 367 .none (oR 368) (oR 369) (oR 370) 724 725
def Z378:=oK "_law_cond" "_law_cond" 727 728 729 312 3 3 373 374 .none (oR 375) (oR 376) (oR 377) 735 736
def Z385:=oK "_law_worth" "_law_worth" 738 739 740 323 2 3 380 381 .none (oR 382) (oR 383) (oR 384) 747 748
def Z392:=oK "_law_holds" "_law_holds" 750 751 752 336 2 3 387 388 .none (oR 389) (oR 390) (oR 391) 756 757
def Z397:=oK "_law_values" "_law_values" 759 760 761 345 2 3 394 395 .none .none .none (oR 396) 762 763
def Z402:=oK "_law_standings" "_law_standings" 765 766 767 347 1 3 399 400 .none .none .none (oR 401) 768 769
def Z403:=oL "_law_standings" 76 402
def Z409:=oK "_law_deed" "_law_deed" 771 772 773 355 3 3 404 405 .none (oR 406) (oR 407) (oR 408) 783 784
def Z414:=oK "_law_world" "_law_world" 786 787 788 368 1 3 411 412 .none .none .none (oR 413) 789 790
def Z421:=oK "_law_other" "_law_other" 792 793 794 389 2 3 416 417 .none (oR 418) (oR 419) (oR 420) 804 805
def Z426:=oK "_law_same" "_law_same" 807 808 809 403 2 3 423 424 .none .none .none (oR 425) 810 811
def Z433:=oK "_law_short" "_law_short" 813 814 815 410 1 3 428 429 .none (oR 430) (oR 431) (oR 432) 817 818
def Z440:=oK "law" "law" 820 821 822 412 1 3 435 436 .none (oR 437) (oR 438) (oR 439) 832 833
def qOj (P:Params):List Obj:=[boot_o_0 P,
boot_o_1 P,
boot_o_2 P,
Z3 P,
boot_o_4 P,
boot_o_5 P,
boot_o_6 P,
boot_o_7 P,
boot_o_8 P,
boot_o_9 P,
boot_o_10 P,
oT #[],
Obj.mk .none none (Data.fields #[(oI 2),(oI 0),(oR 20),(oI 4),(oI 0),(oR 33),(oI 6),(oI 0),(oR 45),(oI 9),(oI 0),(oR 57),(oI 11),(oI 0),(oR 64),(oI 19),(oI 0),(oR 69),(oI 21),(oI 0),(oR 76),(oI 30),(oI 0),(oR 83),(oI 46),(oI 0),(oR 89),(oI 61),(oI 0),(oR 94),(oI 69),(oI 0),(oR 99),(oI 71),(oI 0),(oR 106),(oI 73),(oI 0),(oR 111),(oI 82),(oI 0),(oR 118),(oI 85),(oI 0),(oR 125),(oI 88),(oI 0),(oR 130),(oI 96),(oI 0),(oR 137),(oI 99),(oI 0),(oR 144),(oI 102),(oI 0),(oR 151),(oI 120),(oI 0),(oR 172),(oI 130),(oI 0),(oR 177),(oI 139),(oI 0),(oR 182),(oI 141),(oI 0),(oR 189),(oI 143),(oI 0),(oR 194),(oI 145),(oI 0),(oR 199),(oI 157),(oI 0),(oR 206),(oI 167),(oI 0),(oR 213),(oI 169),(oI 0),(oR 218),(oI 176),(oI 0),(oR 225),(oI 179),(oI 0),(oR 232),(oI 182),(oI 0),(oR 239),(oI 190),(oI 0),(oR 246),(oI 195),(oI 0),(oR 253),(oI 199),(oI 0),(oR 258),(oI 202),(oI 0),(oR 265),(oI 205),(oI 0),(oR 272),(oI 209),(oI 0),(oR 279),(oI 212),(oI 0),(oR 286),(oI 215),(oI 0),(oR 291),(oI 223),(oI 0),(oR 298),(oI 233),(oI 0),(oR 305),(oI 241),(oI 0),(oR 310),(oI 247),(oI 0),(oR 315),(oI 254),(oI 0),(oR 322),(oI 258),(oI 0),(oR 329),(oI 262),(oI 0),(oR 336),(oI 272),(oI 0),(oR 343),(oI 276),(oI 0),(oR 350),(oI 280),(oI 0),(oR 357),(oI 291),(oI 0),(oR 364),(oI 304),(oI 0),(oR 371),(oI 312),(oI 0),(oR 378),(oI 323),(oI 0),(oR 385),(oI 336),(oI 0),(oR 392),(oI 345),(oI 0),(oR 397),(oI 347),(oI 0),(oR 402),(oI 355),(oI 0),(oR 409),(oI 368),(oI 0),(oR 414),(oI 389),(oI 0),(oR 421),(oI 403),(oI 0),(oR 426),(oI 410),(oI 0),(oR 433),(oI 412),(oI 0),(oR 440)]) #[],
Y0 "<module>" 182 "<module>" 183 184 1 11 12 185 1 186,
Y1 13 3 "__main__" 164,
Z15,
Y3,
Y2 P 196 198 "ForkError" 197 200 2 199 201 22,
oT #[],
oN,
Y0 "ForkError" 191 "ForkError" 192 193 2 18 19 194 2 195,
Y1 20 17 "forkplan.errors" 187,
oT #[],
Z23 P,
Z24,
Z25,
Y4 24 24 24,
Y5 24,
oT #[(oR 24)],
Y3,
Y2 P 214 216 "NoWorld" 215 218 4 217 219 35,
oT #[],
oN,
Y0 "NoWorld" 209 "NoWorld" 210 211 4 31 32 212 4 213,
Y1 33 30 "forkplan.errors" 187,
oT #[],
Z36 P,
Z37,
Y4 37 37 37,
Y5 37,
oT #[(oR 24)],
Y3,
Y2 P 230 232 "NoText" 231 234 6 233 235 47,
oT #[],
oN,
Y0 "NoText" 225 "NoText" 226 227 6 43 44 228 6 229,
Y1 45 42 "forkplan.errors" 187,
oT #[],
Z48 P,
Z49,
Y4 49 49 49,
Y5 49,
oT #[],
oN,
oT #[(oS "condition" 244),(oS "boxes" 245),(oS "standing" 246)],
oT #[],
oG "holds" 5,
Z57,
Z58,
oT #[],
oN,
oT #[(oS "thing" 253),(oS "names" 254),(oS "part" 255)],
oT #[],
oG "names_in" 6,
Z64,
Z65,
oT #[],
oN,
oG "values_by_name" 7,
Z69,
Z70,
oT #[],
oN,
oT #[(oS "expression" 268),(oS "values" 269),(oS "kind" 270),(oS "one" 271),(oS "other" 272)],
oT #[],
oG "worth_by" 8,
Z76,
Z77,
oT #[],
oN,
oT #[(oS "condition" 279),(oS "values" 280),(oS "kind" 281),(oS "one" 282),(oS "other" 283)],
oT #[],
oG "holds_by" 9,
Z83,
Z84,
Z85,
oT #[],
oN,
oG "world_of" 15,
Z89,
Z90,
oT #[],
oN,
oG "standings_of_boxes" 16,
Z94,
Z95,
oT #[],
oN,
oG "copied_deed" 17,
Z99,
Z100,
oT #[],
oN,
oT #[(oS "thing" 320)],
oT #[],
oG "is_whole" 18,
Z106,
Z107,
oT #[],
oN,
oG "refuse_boxes" 19,
Z111,
Z112,
oT #[],
oN,
oT #[(oS "names" 333),(oS "kind" 334)],
oT #[],
oG "refuse_twice" 20,
Z118,
Z119,
oT #[],
oN,
oT #[(oS "name" 341),(oS "price" 342)],
oT #[],
oG "refuse_price" 21,
Z125,
Z126,
oT #[],
oN,
oG "refuse_ways" 22,
Z130,
Z131,
oT #[],
oN,
oT #[(oS "name" 355),(oS "names" 356)],
oT #[],
oG "refuse_strange_name" 23,
Z137,
Z138,
oT #[],
oN,
oT #[(oS "thing" 363),(oS "names" 364),(oS "name" 365)],
oT #[],
oG "refuse_strange_names" 24,
Z144,
Z145,
oT #[],
oN,
oT #[(oS "begin" 372),(oS "boxes" 373),(oS "standing" 374)],
oT #[],
oG "refuse_begin" 25,
Z151,
Z152,
oT #[(oS "yes" 394)],
Z154 P,
Z155,
Z156,
Z157,
Z158,
Z159,
Z160,
Z161,
Z162,
Z163,
Z164,
Z165,
Z166,
Z167,
Z168 P,
oT #[],
oN,
oG "shown_world" 39,
Z172,
Z173,
oT #[],
oN,
oG "read_world" 40,
Z177,
Z178,
oT #[],
oN,
oG "is_word" 41,
Z182,
Z183,
oT #[],
oN,
oT #[(oS "need" 489)],
oT #[],
oG "shown_need" 42,
Z189,
Z190,
oT #[],
oN,
oG "shown_way" 43,
Z194,
Z195,
oT #[],
oN,
oG "shown_thing" 44,
Z199,
Z200,
oT #[],
oN,
oT #[(oS "number" 508),(oS "sign" 509),(oS "rest" 510),(oS "blocks" 511)],
oT #[],
oG "shown_number" 45,
Z206,
Z207,
oT #[],
oN,
oT #[(oS "row" 518)],
oT #[],
oG "kind_of" 46,
Z213,
Z214,
oT #[],
oN,
oG "refuse_order" 47,
Z218,
Z219,
oT #[],
oN,
oT #[(oS "fits" 531),(oS "reason" 532)],
oT #[],
oG "refuse_unless" 48,
Z225,
Z226,
oT #[],
oN,
oT #[(oS "words" 539)],
oT #[],
oG "read_box" 49,
Z232,
Z233,
oT #[],
oN,
oT #[(oS "rows" 546),(oS "deeds" 547),(oS "row" 548)],
oT #[],
oG "read_deeds" 50,
Z239,
Z240,
oT #[],
oN,
oT #[(oS "words" 555),(oS "name" 556),(oS "price" 557)],
oT #[],
oG "read_deed" 51,
Z246,
Z247,
oT #[],
oN,
oT #[(oS "words" 564),(oS "need" 565)],
oT #[],
oG "read_need" 52,
Z253,
Z254,
oT #[],
oN,
oG "read_way" 53,
Z258,
Z259,
oT #[],
oN,
oT #[(oS "words" 578)],
oT #[],
oG "read_change" 54,
Z265,
Z266,
oT #[],
oN,
oT #[(oS "words" 585),(oS "price" 586)],
oT #[],
oG "read_look" 55,
Z272,
Z273,
oT #[],
oN,
oT #[(oS "word" 593)],
oT #[],
oG "read_name" 56,
Z279,
Z280,
oT #[],
oN,
oT #[(oS "figures" 600),(oS "most" 601)],
oT #[],
oG "read_short_number" 57,
Z286,
Z287,
oT #[],
oN,
oG "read_number" 58,
Z291,
Z292,
oT #[],
oN,
oT #[(oS "sign" 614),(oS "words" 615),(oS "row" 616),(oS "word" 617),(oS "kind" 618)],
oT #[],
oG "read_thing" 59,
Z298,
Z299,
oT #[],
oN,
oT #[(oS "word" 625)],
oT #[],
oG "read_leaf" 60,
Z305,
Z306,
oT #[],
oN,
oG "kind_at_end" 61,
Z310,
Z311,
oT #[],
oN,
oG "put_together_at_end" 62,
Z315,
Z316,
oT #[],
oN,
oT #[(oS "script" 646),(oS "k" 647)],
oT #[],
oG "_law_cell_at" 64,
Z322,
oL "_law_cell_at" 64 322,
oT #[],
oN,
oT #[(oS "cell" 654),(oS "k" 655),(oS "number" 656)],
oT #[],
oG "_law_stir" 65,
Z329,
oL "_law_stir" 65 329,
oT #[],
oN,
oT #[(oS "cell" 663),(oS "sizes" 664),(oS "found" 665),(oS "rest" 666),(oS "k" 667)],
oT #[],
oG "_law_drawn" 66,
Z336,
oL "_law_drawn" 66 336,
oT #[],
oN,
oT #[(oS "cell" 674)],
oT #[],
oG "_law_deck" 67,
Z343,
oL "_law_deck" 67 343,
oT #[],
oN,
oT #[(oS "deck" 681),(oS "many" 682),(oS "taken" 683)],
oT #[],
oG "_law_take" 68,
Z350,
oL "_law_take" 68 350,
oT #[],
oN,
oT #[(oS "number" 690),(oS "many" 691),(oS "letters" 692),(oS "pad" 693),(oS "size" 694),(oS "at" 695),(oS "first" 696),(oS "found" 697),(oS "k" 698),(oS "sign" 699)],
oT #[],
oG "_law_unlike" 69,
Z357,
oL "_law_unlike" 69 357,
oT #[],
oN,
oT #[(oS "cell" 706),(oS "drawn" 707),(oS "words" 708),(oS "boxes" 709),(oS "room" 710),(oS "k" 711),(oS "size" 712)],
oT #[],
oG "_law_boxes" 70,
Z364,
oL "_law_boxes" 70 364,
oT #[],
oN,
oT #[(oS "deck" 719),(oS "words" 720),(oS "deep" 721),(oS "kind" 722),(oS "one" 723)],
oT #[],
oG "_law_expr" 71,
Z371,
oL "_law_expr" 71 371,
oT #[],
oN,
oT #[(oS "deck" 730),(oS "words" 731),(oS "deep" 732),(oS "kind" 733),(oS "one" 734)],
oT #[],
oG "_law_cond" 72,
Z378,
oL "_law_cond" 72 378,
oT #[],
oN,
oT #[(oS "part" 741),(oS "values" 742),(oS "total" 743),(oS "pile" 744),(oS "one" 745),(oS "sign" 746)],
oT #[],
oG "_law_worth" 73,
Z385,
oL "_law_worth" 73 385,
oT #[],
oN,
oT #[(oS "cond" 753),(oS "values" 754),(oS "apart" 755)],
oT #[],
oG "_law_holds" 74,
Z392,
oL "_law_holds" 74 392,
oT #[],
oN,
oG "_law_values" 75,
Z397,
oL "_law_values" 75 397,
oT #[],
oN,
oG "_law_standings" 76,
Z402,
Z403,
oT #[],
oN,
oT #[(oS "deck" 774),(oS "name" 775),(oS "words" 776),(oS "price" 777),(oS "need" 778),(oS "ways" 779),(oS "k" 780),(oS "way" 781),(oS "word" 782)],
oT #[],
oG "_law_deed" 77,
Z409,
oL "_law_deed" 77 409,
oT #[],
oN,
oG "_law_world" 78,
Z414,
oL "_law_world" 78 414,
oT #[],
oN,
oT #[(oS "world" 795),(oS "cell" 796),(oS "boxes" 797),(oS "deeds" 798),(oS "looks" 799),(oS "begin" 800),(oS "goal" 801),(oS "way" 802),(oS "at" 803)],
oT #[],
oG "_law_other" 79,
Z421,
oL "_law_other" 79 421,
oT #[],
oN,
oG "_law_same" 80,
Z426,
oL "_law_same" 80 426,
oT #[],
oN,
oT #[(oS "world" 816)],
oT #[],
oG "_law_short" 81,
Z433,
oL "_law_short" 81 433,
oT #[],
oN,
oT #[(oS "script" 823),(oS "one" 824),(oS "other" 825),(oS "texts" 826),(oS "some" 827),(oS "world" 828),(oS "text" 829),(oS "found" 830),(oS "deed" 831)],
oT #[],
oG "law" 82,
Z440,
oL "law" 82 440]
def qOz (P:Params):List Obj:=[boot_o_0 P,boot_o_1 P,boot_o_2 P,boot_o_3 P,boot_o_4 P,boot_o_5 P,boot_o_6 P,boot_o_7 P,boot_o_8 P,boot_o_9 P,boot_o_10 P,oT #[],oN,oC #[(oS "<module>" 182),(oS "<module>" 183),(oS "/claim/cut.py" 184),(oI 1),(oI 0),(oI 0),(oI 0),(oI 0),(oR 11),(.bool Bool.false),(oI 181),(oR 12),.none,.none,.none,.none,(oI 185),(oI 1),(oS "/claim/cut.py" 186)],(Obj.mk (.type "frame") none Data.plain #[(some (oR 13)),(some (oR 3)),(some (oR 3)),none,(some (oS "__main__" 164)),none,(some (oR 0))])]
def qYz (os:List Obj):Nat->Nat->Nat->BT
 | 0,_,_=>.nil
 | f+1,a,b=>match os[b]? with
  | some o=>.node o (qYz os f (2 * a) (a+b)) (qYz os f (2 * a) (2 * a+b))
  | none=>.nil
def qWb:Life:=(Life.mk [] [] [] 0 [] [] Bool.false #[] [] 0 Bool.false Bool.false Bool.false 0 [2000,10,10] Bool.false 0 Bool.true [] [] 0 Bool.false)
def topEnv:Env:={ scope:=PySem.Challenge.pw_forkplan_k81_whole_worlds_read_back.main.scope,locals:=mainNs,globals:=mainNs,cells:=[],code:=(Value.ref 13),frame:=some 14 }
def qQq:List Stmt:=behindTheImports PySem.Challenge.pw_forkplan_k81_whole_worlds_read_back
def yU:Code:=.body qQq topEnv
def topA (w:World)(os:OsState):Shared:=⟨⟨⟨qOz w.params⟩,qWb⟩,⟨[]⟩,(Drawn.mk 0 0 0 0),187,os⟩
def topB (w:World)(os:OsState):SharedT:=⟨qYz (qOz w.params) 12 1 0,15,qWb,⟨[]⟩,(Drawn.mk 0 0 0 0),187,os⟩
def topZ (w:World)(os:OsState):SharedT:=⟨qYz (qOj w.params) 12 1 0,442,qWb,⟨[]⟩,(Drawn.mk 0 0 0 0),835,os⟩
theorem topPre (w:World)(os:OsState):topGo treeTable PySem.Challenge.pw_forkplan_k81_whole_worlds_read_back w 11 (some (Value.ref 6)) 12 ⟨boot_heap w.params,⟨[]⟩,boot_drawn,boot_toks,os⟩ (topStub PySem.Challenge.pw_forkplan_k81_whole_worlds_read_back)=some (topA w os,⟨denote treeTable yU,yU,(Pos.mk 0 0 0 0),[topFrame (Pos.mk 0 0 0 0)]⟩):=by kernel_rfl
theorem xQw (w:World)(os:OsState):segRun treeTable PySem.Challenge.pw_forkplan_k81_whole_worlds_read_back w 11 (some (Value.ref 6)) 1 1 (topA w os) (blockOf qQq topEnv yU (Pos.mk 0 0 0 0) [topFrame (Pos.mk 0 0 0 0)])=some (.next,(topB w os).abs,yU,(Pos.mk 0 0 0 0)):=by kernel_rfl
theorem xKg (w:World)(os:OsState):segRunT treeTable PySem.Challenge.pw_forkplan_k81_whole_worlds_read_back (w.withFollow "special-get-raises" false) 11 (some (Value.ref 6)) 1 2794 (topB (w.withFollow "special-get-raises" false) os) (piecesOf qQq topEnv yU (Pos.mk 0 0 0 0) [topFrame (Pos.mk 0 0 0 0)])=some (.next,topZ (w.withFollow "special-get-raises" false) os,yU,(Pos.mk 412 0 429 51)):=by kernel_rfl
theorem xKf (w:World)(os:OsState):segRunT treeTable PySem.Challenge.pw_forkplan_k81_whole_worlds_read_back (w.withFollow "special-get-raises" true) 11 (some (Value.ref 6)) 1 2794 (topB (w.withFollow "special-get-raises" true) os) (piecesOf qQq topEnv yU (Pos.mk 0 0 0 0) [topFrame (Pos.mk 0 0 0 0)])=some (.next,topZ (w.withFollow "special-get-raises" true) os,yU,(Pos.mk 412 0 429 51)):=by kernel_rfl
theorem topSeg (w:World)(os:OsState):segRunT treeTable PySem.Challenge.pw_forkplan_k81_whole_worlds_read_back w 11 (some (Value.ref 6)) 1 2794 (topB w os) (piecesOf qQq topEnv yU (Pos.mk 0 0 0 0) [topFrame (Pos.mk 0 0 0 0)])=some (.next,topZ w os,yU,(Pos.mk 412 0 429 51)):=by
 have e:=World.withFollow_self w "special-get-raises"
 cases c:w.params.followText "special-get-raises" with
 | false=>rw[c] at e;have h:=xKg w os;rw[e] at h;exact h
 | true=>rw[c] at e;have h:=xKf w os;rw[e] at h;exact h
theorem topFin (w:World)(os:OsState):topRun treeTable PySem.Challenge.pw_forkplan_k81_whole_worlds_read_back w 11 (some (Value.ref 6)) 2 (topZ w os).abs ⟨doneF .next,yU,(Pos.mk 412 0 429 51),[topFrame (Pos.mk 0 0 0 0)]⟩=some (topZ w os).abs:=by kernel_rfl
def qEb (P:Params):yZN:=
 (nat_lit 2,(Obj.mk .none none (Data.dict #[] 0) #[]))::
 (nat_lit 3,Z3 P)::
 (nat_lit 15,Z15)::
 (nat_lit 22,(Obj.mk (.type "tuple") none (Data.seq #[] 0) #[]))::
 (nat_lit 23,Z23 P)::
 (nat_lit 24,Z24)::
 (nat_lit 25,Z25)::
 (nat_lit 28,(Obj.mk (.type "tuple") none (Data.seq #[(.ref 24)] 0) #[]))::
 (nat_lit 35,(Obj.mk (.type "tuple") none (Data.seq #[] 0) #[]))::
 (nat_lit 36,Z36 P)::
 (nat_lit 37,Z37)::
 (nat_lit 40,(Obj.mk (.type "tuple") none (Data.seq #[(.ref 24)] 0) #[]))::
 (nat_lit 47,(Obj.mk (.type "tuple") none (Data.seq #[] 0) #[]))::
 (nat_lit 48,Z48 P)::
 (nat_lit 49,Z49)::
 (nat_lit 57,Z57)::
 (nat_lit 58,Z58)::
 (nat_lit 64,Z64)::
 (nat_lit 65,Z65)::
 (nat_lit 69,Z69)::
 (nat_lit 70,Z70)::
 (nat_lit 76,Z76)::
 (nat_lit 77,Z77)::
 (nat_lit 83,Z83)::
 (nat_lit 84,Z84)::
 (nat_lit 85,Z85)::
 (nat_lit 89,Z89)::
 (nat_lit 90,Z90)::
 (nat_lit 94,Z94)::
 (nat_lit 95,Z95)::
 (nat_lit 99,Z99)::
 (nat_lit 100,Z100)::
 (nat_lit 106,Z106)::
 (nat_lit 107,Z107)::
 (nat_lit 111,Z111)::
 (nat_lit 112,Z112)::
 (nat_lit 118,Z118)::
 (nat_lit 119,Z119)::
 (nat_lit 125,Z125)::
 (nat_lit 126,Z126)::
 (nat_lit 130,Z130)::
 (nat_lit 131,Z131)::
 (nat_lit 137,Z137)::
 (nat_lit 138,Z138)::
 (nat_lit 144,Z144)::
 (nat_lit 145,Z145)::
 (nat_lit 151,Z151)::
 (nat_lit 152,Z152)::
 (nat_lit 153,(Obj.mk (.type "tuple") none (Data.seq #[(.str (Yb "yes") 394)] 0) #[]))::
 (nat_lit 154,Z154 P)::
 (nat_lit 155,Z155)::
 (nat_lit 156,Z156)::
 (nat_lit 157,Z157)::
 (nat_lit 158,Z158)::
 (nat_lit 159,Z159)::
 (nat_lit 160,Z160)::
 (nat_lit 161,Z161)::
 (nat_lit 162,Z162)::
 (nat_lit 163,Z163)::
 (nat_lit 164,Z164)::
 (nat_lit 165,Z165)::
 (nat_lit 166,Z166)::
 (nat_lit 167,Z167)::
 (nat_lit 168,Z168 P)::
 (nat_lit 172,Z172)::
 (nat_lit 173,Z173)::
 (nat_lit 177,Z177)::
 (nat_lit 178,Z178)::
 (nat_lit 182,Z182)::
 (nat_lit 183,Z183)::
 (nat_lit 189,Z189)::
 (nat_lit 190,Z190)::
 (nat_lit 194,Z194)::
 (nat_lit 195,Z195)::
 (nat_lit 199,Z199)::
 (nat_lit 200,Z200)::
 (nat_lit 206,Z206)::
 (nat_lit 207,Z207)::
 (nat_lit 213,Z213)::
 (nat_lit 214,Z214)::
 (nat_lit 218,Z218)::
 (nat_lit 219,Z219)::
 (nat_lit 225,Z225)::
 (nat_lit 226,Z226)::
 (nat_lit 232,Z232)::
 (nat_lit 233,Z233)::
 (nat_lit 239,Z239)::
 (nat_lit 240,Z240)::
 (nat_lit 246,Z246)::
 (nat_lit 247,Z247)::
 (nat_lit 253,Z253)::
 (nat_lit 254,Z254)::
 (nat_lit 258,Z258)::
 (nat_lit 259,Z259)::
 (nat_lit 265,Z265)::
 (nat_lit 266,Z266)::
 (nat_lit 272,Z272)::
 (nat_lit 273,Z273)::
 (nat_lit 279,Z279)::
 (nat_lit 280,Z280)::
 (nat_lit 286,Z286)::
 (nat_lit 287,Z287)::
 (nat_lit 291,Z291)::
 (nat_lit 292,Z292)::
 (nat_lit 298,Z298)::
 (nat_lit 299,Z299)::
 (nat_lit 305,Z305)::
 (nat_lit 306,Z306)::
 (nat_lit 310,Z310)::
 (nat_lit 311,Z311)::
 (nat_lit 315,Z315)::
 (nat_lit 316,Z316)::
 (nat_lit 322,Z322)::
 (nat_lit 323,oL "_law_cell_at" 64 322)::
 (nat_lit 329,Z329)::
 (nat_lit 330,oL "_law_stir" 65 329)::
 (nat_lit 336,Z336)::
 (nat_lit 337,oL "_law_drawn" 66 336)::
 (nat_lit 343,Z343)::
 (nat_lit 344,oL "_law_deck" 67 343)::
 (nat_lit 350,Z350)::
 (nat_lit 351,oL "_law_take" 68 350)::
 (nat_lit 357,Z357)::
 (nat_lit 358,oL "_law_unlike" 69 357)::
 (nat_lit 364,Z364)::
 (nat_lit 365,oL "_law_boxes" 70 364)::
 (nat_lit 371,Z371)::
 (nat_lit 372,oL "_law_expr" 71 371)::
 (nat_lit 378,Z378)::
 (nat_lit 379,oL "_law_cond" 72 378)::
 (nat_lit 385,Z385)::
 (nat_lit 386,oL "_law_worth" 73 385)::
 (nat_lit 392,Z392)::
 (nat_lit 393,oL "_law_holds" 74 392)::
 (nat_lit 397,Z397)::
 (nat_lit 398,oL "_law_values" 75 397)::
 (nat_lit 402,Z402)::
 (nat_lit 403,Z403)::
 (nat_lit 409,Z409)::
 (nat_lit 410,oL "_law_deed" 77 409)::
 (nat_lit 414,Z414)::
 (nat_lit 415,oL "_law_world" 78 414)::
 (nat_lit 421,Z421)::
 (nat_lit 422,oL "_law_other" 79 421)::
 (nat_lit 426,Z426)::
 (nat_lit 427,oL "_law_same" 80 426)::
 (nat_lit 433,Z433)::
 (nat_lit 434,oL "_law_short" 81 433)::
 (nat_lit 440,Z440)::
 (nat_lit 441,oL "law" 82 440)::[]
def qYx:Program:={ PySem.Challenge.pw_forkplan_k81_whole_worlds_read_back with main:={ PySem.Challenge.pw_forkplan_k81_whole_worlds_read_back.main with body:=([1,2,3,5,6,7,8,9,11,12,13,14,15,16,17,18,19,20,21,22,23,24,25,27,28,29,30,31,32,33,34,35,36,37,38,39,40,41,42,43,44,45,46,47,48,49,50,51,52,53,54,55,56,57,58,59,60,61,62,64,65,66,67,68,69,70,71,72,73,74,75,76,77,78,79,80,81,82]:List Nat).filterMap fun i=>PySem.Challenge.pw_forkplan_k81_whole_worlds_read_back.main.body[i]? } }
def qXd:PySem.W.Hook:=PySem.W.kHook qEb [2,3,15,22,23,24,25,28,35,36,37,40,47,48,49,57,58,64,65,69,70,76,77,83,84,85,89,90,94,95,99,100,106,107,111,112,118,119,125,126,130,131,137,138,144,145,151,152,153,154,155,156,157,158,159,160,161,162,163,164,165,166,167,168,172,173,177,178,182,183,189,190,194,195,199,200,206,207,213,214,218,219,225,226,232,233,239,240,246,247,253,254,258,259,265,266,272,273,279,280,286,287,291,292,298,299,305,306,310,311,315,316,322,323,329,330,336,337,343,344,350,351,357,358,364,365,371,372,378,379,385,386,392,393,397,398,402,403,409,410,414,415,421,422,426,427,433,434,440,441] (fun _=>by kernel_rfl)
theorem xKh:LeftO (PySem.W.OpenLaw.row PySem.Challenge.rw_forkplan_k81_whole_worlds_read_back).prog qYx [Yb "FORMS",Yb "STAGES"] (fun s=>xlAt qYx [] s && recOk (RowW.records (OpenRow.toRowW (PySem.W.OpenLaw.row PySem.Challenge.rw_forkplan_k81_whole_worlds_read_back))) s) (Hook.obs qXd) (Hook.val qXd) 6312:=
 LeftO.of_pieces (H₀:=boot_heap) (H₁:=fun P=>absHeap (qYz (qOj P) 12 1 0) 442 qWb) (gs₀:=⟨[]⟩) (gs₁:=⟨[]⟩) (d₀:=boot_drawn) (d₁:=(Drawn.mk 0 0 0 0)) (k₀:=boot_toks) (k₁:=835) (m₀:=11) (ann:=(some (Value.ref 6))) (M:=12+(1+(2794+2)))
  (boot_open (p:=PySem.Challenge.pw_forkplan_k81_whole_worlds_read_back) (by kernel_rfl) (by wtm_at"d") (fun s=>by rfl)) (fun w=>by kernel_rfl)
  (fun w os=>go_top (topPre w os) (piece_block (xQw w os) (Yr qQq▸piece_app (l:=qQq) (rest:=[]) (segRun_of (topSeg w os)) (topFin w os)))) (by wtm_at"d") (fun w=>by kernel_rfl)
end FP
namespace L2
open PySem PySem.Spec PyProof.Rows
abbrev Key:=Sum Int Str
def keyIs:Key->Value->Bool
 | .inl k,v=>Value.isInt k v
 | .inr x,v=>Value.isStrOf x v
def keyH (w:World):Key->Int
 | .inl k=>hashInt k
 | .inr x=>hashStr w x
theorem jA:∀{k:Key} {v:Value},keyIs k v=true->(∃i t,k=Sum.inl i/\v=Value.int i t)\/(∃x t,k=Sum.inr x/\v=Value.str x t)
 | .inl i,v,h=>by
  obtain⟨t,e⟩:=Value.isInt_shape (k:=i) (v:=v) h
  exact .inl ⟨i,t,rfl,e⟩
 | .inr x,v,h=>by
  obtain⟨t,e⟩:=Value.isStrOf_shape (x:=x) (v:=v) h
  exact .inr ⟨x,t,rfl,e⟩
theorem qSc (i:Int)(t:Tok):keyIs (.inl i) (.int i t)=true:=by simp[keyIs,Value.isInt]
theorem qSb (x:Str)(t:Tok):keyIs (.inr x) (.str x t)=true:=by simp[keyIs,Value.isStrOf]
theorem xCo (a b:Int):decide ((Sum.inl a:Key)=Sum.inl b)=(a == b):=by
 by_cases e:a=b
 .subst e;simp
 .have h:¬(Sum.inl a:Key)=Sum.inl b:=fun q=>e (Sum.inl.inj q)
  rw[decide_eq_false h]
  exact(beq_eq_false_iff_ne.mpr e).symm
theorem xCl (a b:Str):decide ((Sum.inr a:Key)=Sum.inr b)=decide (a=b):=by
 by_cases e:a=b
 .subst e;simp
 .have h:¬(Sum.inr a:Key)=Sum.inr b:=fun q=>e (Sum.inr.inj q)
  rw[decide_eq_false h,decide_eq_false e]
theorem xCn (a:Int)(b:Str):decide ((Sum.inl a:Key)=Sum.inr b)=false:=decide_eq_false (fun q=>nomatch q)
theorem xCm (a:Str)(b:Int):decide ((Sum.inr a:Key)=Sum.inl b)=false:=decide_eq_false (fun q=>nomatch q)
def zO (prog:Program)(w:World):PySem.KeyKind prog w Key where
 is:=keyIs
 hash:=keyH w
 inj:=fun v a b ha hb=>by
  rcases jA ha with⟨i,t,rfl,rfl⟩ | ⟨x,t,rfl,rfl⟩
  .rcases jA hb with⟨j,u,rfl,e⟩ | ⟨y,u,rfl,e⟩
   .injection e with e1 _;rw[e1]
   .exact nomatch e
  .rcases jA hb with⟨j,u,rfl,e⟩ | ⟨y,u,rfl,e⟩
   .exact nomatch e
   .injection e with e1 _;rw[e1]
 byValue:=fun k v h=>by
  rcases jA h with⟨i,t,rfl,rfl⟩ | ⟨x,t,rfl,rfl⟩ <;> rfl
 pyHash:=fun hv h=>by
  rcases jA hv with⟨i,t,rfl,rfl⟩ | ⟨x,t,rfl,rfl⟩
  .exact wpAny_pyHash_int h
  .exact wpAny_pyHash_str h
 eqBool:=fun hu hv h=>by
  rcases jA hu with⟨i,t,rfl,rfl⟩ | ⟨x,t,rfl,rfl⟩
  .rcases jA hv with⟨j,u,rfl,rfl⟩ | ⟨y,u,rfl,rfl⟩
   .rw[xCo] at h;exact wpAny_eqBool_int h
   .rw[xCn] at h;exact SeqAt.EqAt.int_str i t y u _ _ _ _ h
  .rcases jA hv with⟨j,u,rfl,rfl⟩ | ⟨y,u,rfl,rfl⟩
   .rw[xCm] at h;exact SeqAt.EqAt.str_int x t j u _ _ _ _ h
   .rw[xCl] at h;exact wpAny_eqBool_str h
 «strs»:=fun k x t v h=>by
  rcases jA h with⟨i,u,rfl,e⟩ | ⟨y,u,rfl,e⟩
  .exact nomatch e
  .injection e with e1 _
   subst e1
   cases v <;> rfl
theorem qFk (prog:Program)(w:World)(i:Int)(t:Tok):(zO prog w).is (.inl i) (.int i t)=true:=qSc i t
theorem jW (prog:Program)(w:World)(x:Str)(t:Tok):(zO prog w).is (.inr x) (.str x t)=true:=qSb x t
end L2
namespace L2
open PySem PySem.Spec PyProof.Rows
inductive V where
 | non | bl (b:Bool) | int (i:Int) | str (x:Str) | byt (b:Array UInt8) | flt (b:UInt64) | ref (a:Addr) | ty (n:String)
 deriving DecidableEq
def RelV:V->Value->Prop
 | .non,u=>u=Value.none
 | .bl b,u=>u=Value.bool b
 | .int i,u=>∃t,u=Value.int i t
 | .str x,u=>∃t,u=Value.str x t
 | .byt b,u=>∃t,u=Value.bytes b t
 | .flt b,u=>∃t,u=Value.float b t
 | .ref a,u=>u=Value.ref a
 | .ty n,u=>u=Value.type n
abbrev Vals:List V->List Value->Prop:=Paired RelV
theorem Vals.length {xs:List V}{us:List Value}(r:Vals xs us):xs.length=us.length:=Paired.length r
theorem Vals.get:∀{xs:List V} {us:List Value} {i:Nat} {x:V},Vals xs us->xs[i]? = some x->∃u,us[i]? = some u/\RelV x u
 | _,_,_,_,.nil,e=>by simp at e
 | _,_,0,_,.cons r _,e=>by simp at e;subst e;exact⟨_,rfl,r⟩
 | _,_,i+1,x,.cons _ t,e=>by
  obtain⟨u,h1,h2⟩:=Vals.get (i:=i) (x:=x) t (by simpa using e)
  exact⟨u,by simpa using h1,h2⟩
theorem Vals.set {x:V}{u:Value}(r:RelV x u):∀{xs:List V} {us:List Value} (i:Nat),Vals xs us->Vals (xs.set i x) (us.set i u)
 | _,_,_,.nil=>.nil
 | _,_,0,.cons _ t=>.cons r t
 | _,_,i+1,.cons q t=>.cons q (Vals.set r i t)
theorem Vals.append:∀{xs ys:List V} {us ws:List Value},Vals xs us->Vals ys ws->Vals (xs++ys) (us++ws)
 | _,_,_,_,.nil,s=>s
 | _,_,_,_,.cons r t,s=>.cons r (Vals.append t s)
theorem Vals.take:∀{xs:List V} {us:List Value} (n:Nat),Vals xs us->Vals (xs.take n) (us.take n)
 | _,_,0,_=>.nil
 | _,_,_+1,.nil=>.nil
 | _,_,n+1,.cons r t=>.cons r (Vals.take n t)
theorem Vals.drop:∀{xs:List V} {us:List Value} (n:Nat),Vals xs us->Vals (xs.drop n) (us.drop n)
 | _,_,0,r=>r
 | _,_,_+1,.nil=>.nil
 | _,_,n+1,.cons _ t=>Vals.drop n t
def RelO:Option V->Option Value->Prop
 | some v,some u=>RelV v u
 | none,none=>True
 | _,_=>False
def KV {κ:Type}:List (κ×V)->List (κ×Value)->Prop:=Paired fun(p:κ×V) (q:κ×Value)=>p.1=q.1/\RelV p.2 q.2
def kV:Key->V
 | .inl i=>.int i
 | .inr x=>.str x
inductive HO where
 /-- a list -/
 | lst (xs:List V)
 /-- a tuple (never changes) -/
 | tup (xs:List V)
 /-- a dict whose keys are ints and texts; one whose keys are tuples of ints and texts (the empty one is both) -/
 | dK (kvs:List (Key×V)) | dT (kvs:List (List Key×V))
 /-- a set of ints: its members, its size -/
 | set (S:Int->Bool) (n:Nat)
 /-- an instance of the class at C, its dict at dx, its attributes -/
 | ins (C dx:Addr) (fs:List (Str×V))
 /-- the dict of the instance at x -/
 | own (x:Addr)
 /-- the dict of an exception -/
 | xd (fs:List (Str×V))
 /-- a bound method, f of x -/
 | met (f x:Addr)
 /-- a range object lo, lo + 1, .. below hi -/
 | rng (lo hi:Int)
 /-- a thing that is known to the object (the script; a dict while a loop walks it): read, never written while it is so -/
 | frz (o:Obj) (u:HO)
 /-- a code object's table -/
 | tbl (ps:Array Value)
 /-- any other thing, by what is true of its one object (a def of one's own: SetO a S n := HO.ext fun h => ..) -/
 | ext (φ:Heap->Prop)
abbrev Hp:=Addr->Option HO
def upd (H:Hp)(a:Addr)(o:HO):Hp:=fun b=>if b=a then some o else H b
theorem qW {H:Hp}{a:Addr}{o:HO}:upd H a o a=some o:=by unfold upd;rw[if_pos rfl]
theorem qA {H:Hp}{a b:Addr}{o:HO}(h:b≠a):upd H a o b=H b:=by unfold upd;rw[if_neg h]
theorem qOq {H:Hp}{a:Addr}{o u:HO}:upd (upd H a o) a u=upd H a u:=by
 funext b;unfold upd;split <;> rfl
theorem wO {H:Hp}{a b:Addr}{o u:HO}(h:H a=some o)(h':H b=some u)(d:o≠u):a≠b:=by
 intro e;subst e;rw[h] at h';exact d (Option.some.inj h')
theorem qB {H:Hp}{a b:Addr}{o:HO}(h:H a=some o)(h':H b=none):a≠b:=by
 intro e;subst e;rw[h] at h';cases h'
def TupX (h:Heap)(a:Addr)(its:Array Value):Prop:=∃o,h.get? a=some o/\o.cls=.type "tuple" /\ ∃n,o.data=.seq its n/\o.dict=none
theorem TupX.tup {h:Heap}{a:Addr}{its:Array Value}(x:TupX h a its):IsTup h a its:=let ⟨o,e,c,n,d,_⟩:=x;⟨o,e,c,n,d⟩
theorem TupX.lt {h:Heap}{a:Addr}{its:Array Value}(x:TupX h a its):a<h.objs.size:=x.tup.lt
theorem TupX.new (h:Heap)(its:Array Value):TupX (h.push { cls:=.type "tuple",data:=.seq its }) h.objs.size its:=⟨_,yYZ _ rfl,rfl,_,rfl,rfl⟩
section
variable (P:Program)(w:World)
def ObjOk (H:Hp)(h:Heap)(a:Addr):HO->Prop
 | .lst xs=>xs.length<=Yc/\∃(its:List Value) (n:Nat),Vals xs its/\h.get? a=some { cls:=.type "list",data:=.seq its.toArray n }
 | .tup xs=>xs.length<=Yc/\∃its:List Value,Vals xs its/\TupX h a its.toArray
 | .dK kvs=>kvs.length<=Yc/\(a == sysModules)=false/\∃vs,KV kvs vs/\h.DictOf (zO P w) a vs
 | .dT kvs=>kvs.length<=Yc/\(a == sysModules)=false/\∃xs:List (List Key×Addr×Value),
   Paired (fun(p:List Key×V) (q:List Key×Addr×Value)=>p.1=q.1/\H q.2.1=some (.tup (p.1.map kV))/\RelV p.2 q.2.2) kvs xs/\
   ∃o es ep,h.get? a=some o/\o.ExactDict/\o.data=.dict es ep/\es.toList=xs.map (entryOfKey (tupleKind (zO P w)))/\(xs.map (·.1)).Nodup
 | .set S n=>h.SetOf (intKind P w) a S n
 | .ins C dx fs=>H dx=some (.own a)/\fs.length<=1000/\dx≠a/\h.get? a=some (PySem.W.instObj C dx)/\
   ∃mA,h.Ns1 dx mA/\(∀f,RelO (fs.lookup f) (mA f))/\PySem.Within mA (fs.map (·.1))
 | .own _=>∃o,h.get? a=some o
 | .xd fs=>∃mA,h.Ns1 a mA/\∀f,RelO (fs.lookup f) (mA f)
 | .rng lo hi=>∃t u v,h.get? a=some { cls:=.type "range",data:=.fields #[.int lo t,.int hi u,.int 1 v] }
 | .frz o u=>h.get? a=some o/\ObjOk H h a u
 | .tbl ps=>h.get? a=some { cls:=.none,data:=.fields ps }
 | .met f x=>h.get? a=some (PySem.W.methodObj (.ref f) (.ref x))
 | .ext φ=>φ h/\(∃o,h.get? a=some o)/\∀h1 h2:Heap,φ h1->(∀o,h1.get? a=some o->h2.get? a=some o)->φ h2
def HOk (H:Hp)(h:Heap):Prop:=∀a o,H a=some o->ObjOk P w H h a o
end
section
variable {P:Program}{w:World}{H H':Hp}{h h':Heap}{a:Addr}{o:HO}
theorem ObjOk.lt (x:ObjOk P w H h a o):a<h.objs.size:=by
 cases o with
 | lst xs=>obtain⟨_,_,_,_,e⟩:=x;exact yYY e
 | tup xs=>obtain⟨_,_,_,p⟩:=x;exact p.lt
 | dK kvs=>obtain⟨_,_,_,_,o,_,_,e,_⟩:=x;exact yYY e
 | dT kvs=>obtain⟨_,_,_,_,o,_,_,e,_⟩:=x;exact yYY e
 | set S n=>obtain⟨o,_,_,_,e,_⟩:=x;exact yYY e
 | ins C dx fs=>obtain⟨_,_,_,e,_⟩:=x;exact yYY e
 | own y=>obtain⟨_,e⟩:=x;exact yYY e
 | xd fs=>obtain⟨_,⟨_,_,_,e,_⟩,_⟩:=x;exact yYY e
 | rng lo hi=>obtain⟨_,_,_,e⟩:=x;exact yYY e
 | frz ob u=>obtain⟨e,_⟩:=x;exact yYY e
 | tbl ps=>exact yYY (show h.get? a=some _ from x)
 | met f y=>exact yYY (show h.get? a=some _ from x)
 | ext φ=>obtain⟨_,⟨_,e⟩,_⟩:=x;exact yYY e
theorem Paired.mapP {α β:Type}{F G:α->β->Prop}:∀{l₁:List α} {l₂:List β},Paired F l₁ l₂->(∀a b,F a b->G a b)->Paired G l₁ l₂
 | _,_,.nil,_=>.nil
 | _,_,.cons r t,f=>.cons (f _ _ r) (Paired.mapP t f)
theorem ObjOk.stay (x:ObjOk P w H h a o)(k:∀b u,(b=a\/H b=some (.own a))->h.get? b=some u->h'.get? b=some u)
  (ho:∀b,H b=some (.own a)->H' b=some (.own a)) (ht:∀b xs,H b=some (.tup xs)->H' b=some (.tup xs)):ObjOk P w H' h' a o:=by
 induction o with
 | lst xs=>obtain⟨z,its,n,r,e⟩:=x;exact⟨z,its,n,r,k _ _ (.inl rfl) e⟩
 | tup xs=>obtain⟨z,its,r,ob,e,c⟩:=x;exact⟨z,its,r,ob,k _ _ (.inl rfl) e,c⟩
 | dK kvs=>obtain⟨z,y,vs,r,ob,es,ep,e,c⟩:=x;exact⟨z,y,vs,r,ob,es,ep,k _ _ (.inl rfl) e,c⟩
 | dT kvs=>
  obtain⟨z,y,xs,r,ob,es,ep,e,c⟩:=x
  exact⟨z,y,xs,Paired.mapP r fun p q z=>⟨z.1,ht _ _ z.2.1,z.2.2⟩,ob,es,ep,k _ _ (.inl rfl) e,c⟩
 | set S n=>obtain⟨ob,es,ep,t,e,c⟩:=x;exact⟨ob,es,ep,t,k _ _ (.inl rfl) e,c⟩
 | ins C dx fs=>
  obtain⟨d,z,ne,e,mA,⟨od,es,ep,e2,c⟩,r⟩:=x
  exact⟨ho _ d,z,ne,k _ _ (.inl rfl) e,mA,⟨od,es,ep,k _ _ (.inr d) e2,c⟩,r⟩
 | own y=>obtain⟨ob,e⟩:=x;exact⟨ob,k _ _ (.inl rfl) e⟩
 | xd fs=>obtain⟨mA,⟨od,es,ep,e,c⟩,r⟩:=x;exact⟨mA,⟨od,es,ep,k _ _ (.inl rfl) e,c⟩,r⟩
 | rng lo hi=>obtain⟨t,u,v,e⟩:=x;exact⟨t,u,v,k _ _ (.inl rfl) e⟩
 | frz ob u ih=>obtain⟨e,q⟩:=x;exact⟨k _ _ (.inl rfl) e,ih q⟩
 | tbl ps=>
  have e:h.get? a=some { cls:=.none,data:=.fields ps }:=x
  show h'.get? a=some { cls:=.none,data:=.fields ps }
  exact k a _ (.inl rfl) e
 | met f y=>
  have e:h.get? a=some (PySem.W.methodObj (.ref f) (.ref y)):=x
  show h'.get? a=some (PySem.W.methodObj (.ref f) (.ref y))
  exact k a _ (.inl rfl) e
 | ext φ=>obtain⟨p,⟨o,e⟩,st⟩:=x;exact⟨st _ _ p fun o q=>k _ _ (.inl rfl) q,⟨o,k _ _ (.inl rfl) e⟩,st⟩
theorem HOk.lt (x:HOk P w H h)(e:H a=some o):a<h.objs.size:=(x a o e).lt
theorem HOk.fresh (x:HOk P w H h)(e:h.objs.size<=a):H a=none:=by
 cases q:H a with
 | none=>rfl
 | some u=>exact absurd (yZC (x.lt q) e) (Nat.lt_irrefl _)
theorem HOk.kept (x:HOk P w H h)(k:∀b u,h.get? b=some u->h'.get? b=some u):HOk P w H h':=fun a o e=>
 (x a o e).stay (fun b u _ q=>k b u q) (fun _ q=>q) fun _ _ q=>q
theorem HOk.laid (x:HOk P w H h)(k:∀b u,h.get? b=some u->h'.get? b=some u)(hp:h.objs.size<=a)(new:ObjOk P w (upd H a o) h' a o):HOk P w (upd H a o) h':=fun b u e=>by
 have hn:=x.fresh hp
 by_cases hb:b=a
 .subst hb;rw[qW] at e;cases e;exact new
 .rw[qA hb] at e
  exact(x b u e).stay (fun c v _ q=>k c v q) (fun c q=>by rw[qA (qB q hn)];exact q) fun c xs q=>by rw[qA (qB q hn)];exact q
end
def Rd (H:Hp)(a:Addr)(u:HO):Prop:=H a=some u\/∃o,H a=some (.frz o u)
theorem Rd.ok {P:Program}{w:World}{H:Hp}{h:Heap}{a:Addr}{u:HO}(r:Rd H a u)(x:HOk P w H h):ObjOk P w H h a u:=by
 rcases r with r | ⟨o,r⟩
 .exact x a u r
 .obtain⟨_,q⟩:=x a _ r
  exact q
def Mut:Option HO->Prop
 | some (.lst _)=>True
 | some (.dK _)=>True
 | some (.dT _)=>True
 | some (.set _ _)=>True
 | some (.ins _ _ _)=>True
 | some (.ext _)=>True
 | _=>False
section
variable {P:Program}{w:World}{H:Hp}{h h':Heap}{x e:Addr}{o':HO}
theorem HOk.write (ok:HOk P w H h)(mu:Mut (H x))(he:e=x\/H e=some (.own x))(k:∀b u,b≠e->h.get? b=some u->h'.get? b=some u)(heo:∃u,h'.get? e=some u)
  (new:ObjOk P w (upd H x o') h' x o'):HOk P w (upd H x o') h':=fun b u q=>by
 have nown:∀c y,H c=some (.own y)->c≠x:=fun c y r z=>by subst z;rw[r] at mu;exact mu
 have ntup:∀c xs,H c=some (.tup xs)->c≠x:=fun c xs r z=>by subst z;rw[r] at mu;exact mu
 by_cases hb:b=x
 .subst hb;rw[qW] at q;cases q;exact new
 .rw[qA hb] at q
  by_cases hbe:b=e
  .have q':H b=some (.own x):=by
    rcases he with z | z
    .exact absurd (hbe.trans z) hb
    .rw[hbe];exact z
   rw[q] at q';cases q'
   obtain⟨v,hv⟩:=heo
   exact⟨v,by rw[hbe];exact hv⟩
  .refine(ok b u q).stay (fun c v hc r=>k c v ?_ r) (fun c r=>by rw[qA (nown c b r)];exact r) fun c xs r=>by rw[qA (ntup c xs r)];exact r
   rcases hc with rfl | hc
   .exact hbe
   .rintro rfl
    rcases he with z | z
    .exact nown c b hc z
    .rw[hc] at z;cases z;exact hb rfl
end
def NoT (x:Option HO):Prop:=x=none\/∃xs,x=some (.tup xs)
structure Un (fs ex:List Addr)(H H':Hp)(h h':Heap):Prop where
 keep:∀b o,h.get? b=some o->H b=none->b∉fs->b∉ex->h'.get? b=some o
 slot:∀b o,h.get? b=some o->H b=none->b∈fs->b∉ex->∃sl,h'.get? b=some { o with slots:=sl }
 free:∀b o,h.get? b=some o->H b=none->b∉ex->H' b=none
 there:∀b o,h.get? b=some o->b∉ex->∃o',h'.get? b=some o'
 tups:∀b xs,H b=some (.tup xs)->H' b=some (.tup xs)
 frzs:∀b o u,H b=some (.frz o u)->H' b=some (.frz o u)
 tbls:∀b ps,H b=some (.tbl ps)->∃more,H' b=some (.tbl (ps++more))
 tupk:∀b xs o,H b=some (.tup xs)->h.get? b=some o->h'.get? b=some o
section
variable {fs fs' ex ex':List Addr}{H H1 H2:Hp}{h h1 h2 h':Heap}{a x e:Addr}{o:HO}
theorem Un.any (u:Un fs ex H H1 h h1){b:Addr}{ob:Obj}(q:h.get? b=some ob)(n:H b=none)(hx:b∉ex):∃sl,h1.get? b=some { ob with slots:=sl }:=by
 by_cases hb:b∈fs
 .exact u.slot b ob q n hb hx
 .exact⟨ob.slots,u.keep b ob q n hb hx⟩
theorem Un.trans (a:Un fs ex H H1 h h1)(b:Un fs ex H1 H2 h1 h2):Un fs ex H H2 h h2 where
 keep:=fun c ob q n hc hx=>b.keep c ob (a.keep c ob q n hc hx) (a.free c ob q n hx) hc hx
 slot:=fun c ob q n hc hx=>by
  obtain⟨sl,e1⟩:=a.slot c ob q n hc hx
  obtain⟨sl',e2⟩:=b.slot c _ e1 (a.free c ob q n hx) hc hx
  exact⟨sl',e2⟩
 free:=fun c ob q n hx=>by
  obtain⟨o',e1⟩:=a.there c ob q hx
  exact b.free c o' e1 (a.free c ob q n hx) hx
 there:=fun c ob q hx=>by
  obtain⟨o',e1⟩:=a.there c ob q hx
  exact b.there c o' e1 hx
 tups:=fun c xs q=>b.tups c xs (a.tups c xs q)
 frzs:=fun c ob xs q=>b.frzs c ob xs (a.frzs c ob xs q)
 tbls:=fun c ps q=>by
  obtain⟨m1,e1⟩:=a.tbls c ps q
  obtain⟨m2,e2⟩:=b.tbls c _ e1
  exact⟨m1++m2,by rw[e2,Array.append_assoc]⟩
 tupk:=fun c xs ob q e=>b.tupk c xs ob (a.tups c xs q) (a.tupk c xs ob q e)
theorem Un.kept (k:∀b u,h.get? b=some u->h'.get? b=some u):Un fs ex H H h h':=
 ⟨fun b ob q _ _ _=>k b ob q,fun b ob q _ _ _=>⟨ob.slots,k b ob q⟩,fun _ _ _ n _=>n,fun b ob q _=>⟨ob,k b ob q⟩,fun _ _ q=>q,fun _ _ _ q=>q,fun _ ps q=>⟨#[],by rw[q];simp⟩,fun b _ ob _ e=>k b ob e⟩
theorem Un.refl:Un fs ex H H h h:=Un.kept fun _ _ q=>q
theorem Un.laid (k:∀b u,h.get? b=some u->h'.get? b=some u)(hp:h.objs.size<=a)(hn:H a=none):Un fs ex H (upd H a o) h h' where
 keep:=fun b u q _ _ _=>k b u q
 slot:=fun b u q _ _ _=>⟨u.slots,k b u q⟩
 free:=fun b u q n _=>by rw[qA (yZD (yZC (yYY q) hp))];exact n
 there:=fun b u q _=>⟨u,k b u q⟩
 tups:=fun b xs q=>by rw[qA (qB q hn)];exact q
 frzs:=fun b u xs q=>by rw[qA (qB q hn)];exact q
 tbls:=fun b ps q=>⟨#[],by rw[qA (qB q hn),q];simp⟩
 tupk:=fun b _ u _ e=>k b u e
theorem Un.write (mu:Mut (H x))(he:e=x\/H e=some (.own x))(k:∀b u,b≠e->h.get? b=some u->h'.get? b=some u)(heo:∃u,h'.get? e=some u):Un fs ex H (upd H x o) h h':=by
 have hx:∀b,H b=none->b≠x:=fun b n z=>by subst z;rw[n] at mu;exact mu
 have hb:∀b,H b=none->b≠e:=fun b n z=>by
  subst z
  rcases he with r | r
  .exact hx b n r
  .rw[n] at r;cases r
 have hm:∀b u,H b=some u->¬Mut (some u)->b≠x:=fun b u q nm z=>by subst z;rw[q] at mu;exact nm mu
 refine⟨fun b u q n _ _=>k b u (hb b n) q,fun b u q n _ _=>⟨u.slots,k b u (hb b n) q⟩,fun b u q n _=>by rw[qA (hx b n)];exact n,fun b u q _=>?_,
  fun b xs q=>by rw[qA (hm b _ q fun z=>z)];exact q,fun b u xs q=>by rw[qA (hm b _ q fun z=>z)];exact q,fun b ps q=>⟨#[],by rw[qA (hm b _ q fun z=>z),q];simp⟩,fun b xs u q hu=>k b u (fun z=>?_) hu⟩
 .by_cases hbe:b=e
  .subst hbe;exact heo
  .exact⟨u,k b u hbe q⟩
 .subst z
  rcases he with r | r
  .exact hm b _ q (fun z=>z) r
  .rw[q] at r;cases r
end
def trk (h:Heap)(H:Hp):List Addr:=(List.range h.objs.size).filter fun a=>(H a).isSome
def hidT (h:Heap)(H:Hp):Heap:=PySem.W.hideAll h (trk h H)
theorem qSm (h:Heap)(H:Hp):(hidT h H).objs.size=h.objs.size:=PySem.W.hideAll_size _ _
theorem xZb {h:Heap}{H:Hp}{b:Addr}{o:Obj}(e:h.get? b=some o)(n:H b=none):(hidT h H).get? b=some o:=
 PySem.W.hideAll_get _ e fun hm=>by
  have q:(H b).isSome=true:=(List.mem_filter.mp hm).2
  rw[n] at q;simp at q
theorem qRb {h:Heap}{H:Hp}{b:Addr}{o:Obj}(e:(hidT h H).get? b=some o):h.get? b=some o/\H b=none:=by
 have e':h.get? b=some o:=PySem.W.of_hideAll (trk h H) e
 refine⟨e',?_⟩
 cases q:H b with
 | none=>rfl
 | some x=>
  have hm:b∈trk h H:=List.mem_filter.mpr ⟨List.mem_range.mpr (yYY e'),by simp[q]⟩
  have z:(hidT h H).get? b=none:=PySem.W.hideAll_none (trk h H) hm
  rw[z] at e;cases e
end L2
namespace L2
open PySem PySem.Spec PyProof.Rows
structure Mod (K:yZN)(mg:Str->Option Value)(base:Heap):Prop where
 kin:K.In base
 glob:base.Ns Yd mg
 blt:∃mb,base.Ns builtinsNs mb/\∀x:Str,x ≠ "__name__" -> mb x=bootBuiltins x
 nolimit:base.NoLimit
/-- the context: a def's body (or a comprehension's block) running. base: fixed through the whole law; s₀, H₀: the entry; outer: the frames whose slots others may change (a def's callers); stack: all frames that run;
   ex: iterators that were made ahead of the entry and are walked here (a comprehension's); fn: the names whose cells were made at the entry (a def: all; a comprehension's block: its own); calm: not within an except suite; pn: zy that every state bears; xe: what is wanted of an exception that leaves the code -/
structure Cx where
 prog:Program
 w:World
 K:yZN
 mg:Str->Option Value
 base:Heap
 A:Around
 N:List Str
 s₀:Shared
 H₀:Hp
 env:Env
 outer:List Env
 stack:List Env
 ex:List Addr
 fn:Str->Bool
 calm:Bool
 pn:List (Addr×Obj)
 xe:Value->Shared->Prop
def frs (l:List Env):List Addr:=l.filterMap (·.frame)
abbrev Cx.fs (X:Cx):List Addr:=frs X.outer
def Vis (sc:Scope)(x:Str):Prop:=sc.names.lookup x=some .local\/sc.names.lookup x=some .cell\/sc.names.lookup x=some .free
def Loc (sc:Scope)(x:Str):Prop:=sc.names.lookup x=some .local\/sc.names.lookup x=some .cell
def Look (env:Env)(h:Heap)(m:Str->Option Value)(x:Str)(u:Value):Prop:=
 (env.kindOf x=some .local/\m x=some u)\/((env.kindOf x=some .cell\/env.kindOf x=some .free)/\∃c,env.cells.lookup x=some c/\h.IsCell c (some u))
structure Cx.Ok (X:Cx):Prop where
 mod:Mod X.K X.mg X.base
 kind:X.env.scope.kind=.function
 glob:X.env.globals=Yd
 blt:X.env.builtins=builtinsNs
 above:X.s₀.heap.objs.size<=X.env.locals
 inj:∀x y c,X.env.cells.lookup x=some c->X.env.cells.lookup y=some c->x=y
 has:∀x,(X.env.kindOf x=some .cell\/X.env.kindOf x=some .free)->∃c,X.env.cells.lookup x=some c
 cab:∀x c,X.fn x=true->X.env.cells.lookup x=some c->X.s₀.heap.objs.size<=c
 hd:X.calm=true->X.A.handled=none
 frames:X.A.frames=some X.stack
 stk:X.stack=X.outer\/(X.stack=X.env::X.outer/\X.env.frame=some X.env.locals)
 exf:∀b∈X.ex,b≠X.env.locals/\∀x c,X.env.cells.lookup x=some c->c≠b
 bs:∀b o,X.base.get? b=some o->X.s₀.heap.get? b=some o/\NoT (X.H₀ b)
 bsz:X.base.objs.size<=X.s₀.heap.objs.size
 noex:∀b o,X.base.get? b=some o->b∉X.ex
 exfs:∀b∈X.ex,b∉X.fs
 funs:X.s₀.heap.FunFrames X.base X.outer
 frf:∀b∈X.fs,X.H₀ b=none
structure Inv (X:Cx)(zy:List (Addr×Obj))(σ:List (Option V))(H:Hp)(s:Shared):Prop where
 ok:X.Ok
 os:s.os=X.s₀.os
 bare:AllBare s.gens
 base:Un X.fs X.ex X.H₀ H X.s₀.heap s.heap
 loc:∃m,s.heap.Ns X.env.locals m/\∀(i:Nat) (x:Str) (v:V),X.N[i]? = some x->σ[i]? = some (some v)->Vis X.env.scope x->∃u,RelV v u/\Look X.env s.heap m x u
 cell:∀x c,X.env.cells.lookup x=some c->∃v,s.heap.IsCell c v
 free:H X.env.locals=none
 freeC:∀x c,X.env.cells.lookup x=some c->H c=none
 pin:∀p∈X.pn++zy,s.heap.get? p.1=some p.2/\H p.1=none/\p.1≠X.env.locals/\p.1∉X.fs/\∀v,p.2.data≠.cell v
 hok:HOk X.prog X.w H s.heap
 len:σ.length=X.N.length
section
variable {X:Cx}{zy:List (Addr×Obj)}{σ:List (Option V)}{H H':Hp}{s:Shared}{h':Heap}
theorem Cx.Ok.nofr (ok:X.Ok){b:Addr}{o:Obj}(e:X.base.get? b=some o):b∉X.fs:=fun hb=>by
 have:=(ok.funs.mem hb).1
 rw[e] at this;cases this
theorem Inv.bs (I:Inv X zy σ H s):∀b o,X.base.get? b=some o->s.heap.get? b=some o/\NoT (H b):=fun b o e=>by
 obtain⟨e1,z⟩:=I.ok.bs b o e
 rcases z with z | ⟨xs,z⟩
 .exact⟨I.base.keep b o e1 z (I.ok.nofr e) (I.ok.noex b o e),.inl (I.base.free b o e1 z (I.ok.noex b o e))⟩
 .exact⟨I.base.tupk b xs o z e1,.inr ⟨xs,I.base.tups b xs z⟩⟩
theorem Inv.bk (I:Inv X zy σ H s):∀b o,X.base.get? b=some o->s.heap.get? b=some o:=fun b o e=>(I.bs b o e).1
theorem Inv.mod (I:Inv X zy σ H s):Mod X.K X.mg X.base:=I.ok.mod
theorem Inv.kIn (I:Inv X zy σ H s):X.K.In s.heap:=I.ok.mod.kin.keeps I.bk
theorem Inv.lt (I:Inv X zy σ H s):X.env.locals<s.heap.objs.size:=let ⟨_,hn,_⟩:=I.loc;hn.lt
theorem Inv.sz (I:Inv X zy σ H s):X.s₀.heap.objs.size<=s.heap.objs.size:=yZH I.ok.above (Nat.le_of_lt I.lt)
theorem Inv.nofs (I:Inv X zy σ H s){a:Addr}(h:s.heap.objs.size<=a):a∉X.fs:=fun hb=>by
 obtain⟨_,o,ho,_⟩:=I.ok.funs.mem hb
 exact absurd (yZC (yYY ho) (yZH I.sz h)) (Nat.lt_irrefl _)
theorem Inv.cne (I:Inv X zy σ H s):∀x c,X.env.cells.lookup x=some c->c≠X.env.locals:=fun x c e z=>by
 obtain⟨v,o,ho,hd⟩:=I.cell x c e
 obtain⟨m,⟨o',es,ep,ho',hd',_⟩,_⟩:=I.loc
 rw[z,ho'] at ho;cases ho;rw[hd'] at hd;cases hd
theorem Inv.funs (I:Inv X zy σ H s):s.heap.FunFrames X.base X.outer:=by
 have all:∀(l:List Env),(∀b∈frs l,b∈X.fs)->X.s₀.heap.FunFrames X.base l->s.heap.FunFrames X.base l:=by
  intro l
  induction l with
  | nil=>intro _ _;trivial
  | cons env r ih=>
   intro hs hl
   obtain⟨hk,⟨L,o,hf,hn,ho,hd⟩,hr⟩:=hl
   have hL:L∈X.fs:=hs L (by unfold frs;rw[Yu,hf];exact yYG)
   obtain⟨sl,e⟩:=I.base.slot L o ho (I.ok.frf L hL) hL fun z=>I.ok.exfs L z hL
   exact⟨hk,⟨L,_,hf,hn,e,hd⟩,ih (fun b hb=>hs b (by unfold frs;rw[Yu,hf];exact yYH _ hb)) hr⟩
 exact all X.outer (fun _ hb=>hb) I.ok.funs
theorem Inv.stack (I:Inv X zy σ H s):s.heap.FunFrames X.base X.stack:=by
 rcases I.ok.stk with e | ⟨e,hf⟩
 .rw[e];exact I.funs
 .rw[e]
  obtain⟨m,hn,_⟩:=I.loc
  refine .cons (by rw[I.ok.kind];decide) hf hn ?_ I.funs
  exact Heap.get?_none_of_le (yZH I.ok.bsz I.ok.above)
theorem Inv.stkSub (I:Inv X zy σ H s):∀b∈frs X.stack,b∈X.env.locals::X.fs:=fun b hb=>by
 rcases I.ok.stk with e | ⟨e,hf⟩
 .rw[e] at hb;exact yYH _ hb
 .rw[e] at hb
  unfold frs at hb
  rw[Yu,hf] at hb
  exact hb
theorem Inv.stkFree (I:Inv X zy σ H s):∀b∈frs X.stack,H b=none:=fun b hb=>by
 rcases yYK.mp (I.stkSub b hb) with e | hb
 .rw[e];exact I.free
 .obtain⟨_,o,ho,_⟩:=I.ok.funs.mem hb
  exact I.base.free b o ho (I.ok.frf b hb) fun z=>I.ok.exfs b z hb
theorem Inv.step {g':Array GenState}{t':Nat}{d':Drawn}{ch:List Addr}(I:Inv X zy σ H s)
  (hch:∀b∈ch,(b∈X.ex\/X.s₀.heap.objs.size<=b)/\b≠X.env.locals/\(∀x c,X.env.cells.lookup x=some c->c≠b)/\∀p∈X.pn++zy,p.1≠b)
  (keep:∀b o,b≠X.env.locals->b∉X.fs->b∉ch->s.heap.get? b=some o->H b=none->h'.get? b=some o)
  (slot:∀b o,b≠X.env.locals->b∈X.fs->b∉ch->s.heap.get? b=some o->H b=none->∃sl,h'.get? b=some { o with slots:=sl }) (free:∀b o,b∉ch->s.heap.get? b=some o->H b=none->H' b=none)
  (there:∀b o,b∉ch->s.heap.get? b=some o->∃o',h'.get? b=some o')
  (tups:∀b xs,H b=some (.tup xs)->H' b=some (.tup xs)) (frzs:∀b o u,H b=some (.frz o u)->H' b=some (.frz o u)) (tbls:∀b ps,H b=some (.tbl ps)->∃more,H' b=some (.tbl (ps++more)))
  (ns:∀m,s.heap.Ns X.env.locals m->h'.Ns X.env.locals m) (hok:HOk X.prog X.w H' h') (hg:AllBare g')
  (tupk:∀b xs o,H b=some (.tup xs)->s.heap.get? b=some o->h'.get? b=some o:=by first | exact fun b _ o q e=>keep b o (nfp b _ q) e | exact u.tupk):
  Inv X zy σ H' { s with heap:=h',gens:=g',drawn:=d',toks:=t' }:=by
 have neL:∀b o,X.s₀.heap.get? b=some o->b≠X.env.locals:=fun b o e=>yZD (yZC (yYY e) I.ok.above)
 have neC:∀b o,X.s₀.heap.get? b=some o->b∉X.ex->b∉ch:=fun b o e hx hb=>by
  rcases(hch b hb).1 with z | z
  .exact hx z
  .exact absurd (yZC (yYY e) z) (Nat.lt_irrefl _)
 have cellK:∀x c,X.env.cells.lookup x=some c->∀v,s.heap.IsCell c v->h'.IsCell c v:=fun x c e v ⟨o,ho,hd⟩=>by
  have nch:c∉ch:=fun z=>(hch c z).2.2.1 x c e rfl
  by_cases hc:c∈X.fs
  .obtain⟨sl,q⟩:=slot c o (I.cne x c e) hc nch ho (I.freeC x c e)
   exact⟨_,q,hd⟩
  .exact⟨o,keep c o (I.cne x c e) hc nch ho (I.freeC x c e),hd⟩
 refine⟨I.ok,I.os,hg,⟨fun b o e n hb hx=>?_,fun b o e n hb hx=>?_,fun b o e n hx=>?_,fun b o e hx=>?_,fun b xs e=>tups b xs (I.base.tups b xs e),fun b o xs e=>frzs b o xs (I.base.frzs b o xs e),fun b ps e=>?_,fun b xs o q e=>tupk b xs o (I.base.tups b xs q) (I.base.tupk b xs o q e)⟩,?_,fun x c e=>?_,?_,fun x c e=>?_,fun p hp=>?_,hok,I.len⟩
 .exact keep b o (neL b o e) hb (neC b o e hx) (I.base.keep b o e n hb hx) (I.base.free b o e n hx)
 .obtain⟨sl,e1⟩:=I.base.slot b o e n hb hx
  obtain⟨sl',e2⟩:=slot b _ (neL b o e) hb (neC b o e hx) e1 (I.base.free b o e n hx)
  exact⟨sl',e2⟩
 .obtain⟨o',e1⟩:=I.base.there b o e hx
  exact free b o' (neC b o e hx) e1 (I.base.free b o e n hx)
 .obtain⟨o',e1⟩:=I.base.there b o e hx
  exact there b o' (neC b o e hx) e1
 .obtain⟨m1,e1⟩:=I.base.tbls b ps e
  obtain⟨m2,e2⟩:=tbls b _ e1
  exact⟨m1++m2,by rw[e2,Array.append_assoc]⟩
 .obtain⟨m,hn,hl⟩:=I.loc
  refine⟨m,ns m hn,fun i x v e1 e2 e3=>?_⟩
  obtain⟨u,r,l⟩:=hl i x v e1 e2 e3
  refine⟨u,r,?_⟩
  rcases l with l | ⟨k,c,e,z⟩
  .exact .inl l
  .exact .inr ⟨k,c,e,cellK x c e _ z⟩
 .obtain⟨v,z⟩:=I.cell x c e
  exact⟨v,cellK x c e v z⟩
 .obtain⟨m,⟨o,_,_,ho,_⟩,_⟩:=I.loc
  exact free _ o (fun z=>(hch _ z).2.1 rfl) ho I.free
 .obtain⟨v,o,ho,hd⟩:=I.cell x c e
  exact free c o (fun z=>(hch c z).2.2.1 x c e rfl) ho (I.freeC x c e)
 .obtain⟨e,n,ne,nf,d⟩:=I.pin p hp
  have nch:p.1∉ch:=fun z=>(hch p.1 z).2.2.2 p hp rfl
  exact⟨keep p.1 p.2 ne nf nch e n,free p.1 p.2 nch e n,ne,nf,d⟩
theorem Inv.un {t':Nat}(I:Inv X zy σ H s)(u:Un X.fs [] H H' s.heap h')(hok:HOk X.prog X.w H' h'):Inv X zy σ H' { s with heap:=h',toks:=t' }:=by
 obtain⟨m,⟨o,es,ep,ho,r⟩,_⟩:=id I.loc
 obtain⟨sl,hL⟩:=u.any ho I.free (by simp)
 exact I.step (g':=s.gens) (d':=s.drawn) (ch:=[]) (fun _ z=>nomatch z) (fun b o _ hb _ e n=>u.keep b o e n hb (by simp)) (fun b o _ hb _ e n=>u.slot b o e n hb (by simp)) (fun b o _ e n=>u.free b o e n (by simp)) (fun b o _ e=>u.there b o e (by simp)) u.tups u.frzs u.tbls (fun m' hm=>by
  obtain⟨o',es',ep',ho',r'⟩:=hm
  rw[ho] at ho';cases ho'
  exact⟨_,es',ep',hL,r'⟩) hok I.bare
theorem Inv.call {g':Array GenState}{t':Nat}{d':Drawn}{ch:List Addr}(I:Inv X zy σ H s)(u:Un (frs X.stack) ch H H' s.heap h')(hok:HOk X.prog X.w H' h')(hg:AllBare g')
  (hch:∀b∈ch,(b∈X.ex\/X.s₀.heap.objs.size<=b)/\b≠X.env.locals/\(∀x c,X.env.cells.lookup x=some c->c≠b)/\∀p∈X.pn++zy,p.1≠b):
  Inv X zy σ H' { s with heap:=h',gens:=g',drawn:=d',toks:=t' }:=by
 obtain⟨m,⟨o,es,ep,ho,r⟩,_⟩:=id I.loc
 obtain⟨sl,hL⟩:=u.any ho I.free fun z=>(hch _ z).2.1 rfl
 exact I.step (ch:=ch) hch (fun b o hL hb hc e n=>u.keep b o e n (fun z=>(yYK.mp (I.stkSub b z)).elim hL hb) hc) (fun b o _ _ hc e n=>u.any e n hc) (fun b o hc e n=>u.free b o e n hc) (fun b o hc e=>u.there b o e hc) u.tups u.frzs u.tbls (fun m' hm=>by
  obtain⟨o',es',ep',ho',r'⟩:=hm
  rw[ho] at ho';cases ho'
  exact⟨_,es',ep',hL,r'⟩) hok hg
theorem Inv.turned {t':Nat}{it:Addr}(I:Inv X zy σ H s)(k:∀b o,b≠it->s.heap.get? b=some o->h'.get? b=some o)(hn:H it=none)(hL:it≠X.env.locals)
  (h1:it∈X.ex\/X.s₀.heap.objs.size<=it) (h2:∀x c,X.env.cells.lookup x=some c->c≠it) (h3:∀p∈X.pn++zy,p.1≠it):Inv X zy σ H { s with heap:=h',toks:=t' }:=by
 have nit:∀b u,H b=some u->b≠it:=fun b u e z=>by rw[z,hn] at e;cases e
 refine I.step (g':=s.gens) (d':=s.drawn) (ch:=[it]) (fun b hb=>?_) (fun b o _ _ hc e _=>k b o (fun z=>hc (by simp[z])) e) (fun b o _ _ hc e _=>⟨o.slots,k b o (fun z=>hc (by simp[z])) e⟩) (fun _ _ _ _ n=>n)
  (fun b o hc e=>⟨o,k b o (fun z=>hc (by simp[z])) e⟩) (fun _ _ e=>e) (fun _ _ _ e=>e) (fun b ps e=>⟨#[],by rw[e];simp⟩) (fun m hm=>?_) (fun b u e=>?_) I.bare fun b _ o q e=>k b o (nit b _ q) e
 .have e:b=it:=by simpa using hb
  subst e
  exact⟨h1,hL,h2,h3⟩
 .obtain⟨o,es,ep,ho,r⟩:=hm
  exact⟨o,es,ep,k _ o (Ne.symm hL) ho,r⟩
 .refine(I.hok b u e).stay (fun c v hc q=>k c v ?_ q) (fun _ q=>q) fun _ _ q=>q
  rcases hc with z | z
  .rw[z];exact nit b u e
  .exact nit c _ z
theorem Inv.tok (I:Inv X zy σ H s)(t:Nat):Inv X zy σ H { s with toks:=t }:=I.un (h':=s.heap) (t':=t) Un.refl I.hok
theorem Inv.kept {t':Nat}(I:Inv X zy σ H s)(k:∀b u,s.heap.get? b=some u->h'.get? b=some u):Inv X zy σ H { s with heap:=h',toks:=t' }:=I.un (Un.kept k) (I.hok.kept k)
theorem Inv.laid {a:Addr}{o:HO}{t':Nat}(I:Inv X zy σ H s)(k:∀b u,s.heap.get? b=some u->h'.get? b=some u)(hp:s.heap.objs.size<=a)(new:ObjOk X.prog X.w (upd H a o) h' a o):
  Inv X zy σ (upd H a o) { s with heap:=h',toks:=t' }:=I.un (Un.laid k hp (I.hok.fresh hp)) (I.hok.laid k hp new)
theorem Inv.write {x e:Addr}{o:HO}{t':Nat}(I:Inv X zy σ H s)(mu:Mut (H x))(he:e=x\/H e=some (.own x))(k:∀b u,b≠e->s.heap.get? b=some u->h'.get? b=some u)(heo:∃u,h'.get? e=some u)
  (new:ObjOk X.prog X.w (upd H x o) h' x o):Inv X zy σ (upd H x o) { s with heap:=h',toks:=t' }:=I.un (Un.write mu he k heo) (I.hok.write mu he k heo new)
theorem Inv.weak {σ':List (Option V)}(I:Inv X zy σ H s)(hl:σ'.length=σ.length)(w:∀(i:Nat) v,σ'[i]? = some (some v)->σ[i]? = some (some v)):Inv X zy σ' H s:=
 ⟨I.ok,I.os,I.bare,I.base,let ⟨m,hn,hl'⟩:=I.loc;⟨m,hn,fun i x v e1 e2 e3=>hl' i x v e1 (w i v e2) e3⟩,I.cell,I.free,I.freeC,I.pin,I.hok,hl.trans I.len⟩
theorem Inv.pins_of {pins':List (Addr×Obj)}(I:Inv X zy σ H s)(h:∀p∈pins',s.heap.get? p.1=some p.2/\H p.1=none/\p.1≠X.env.locals/\p.1∉X.fs/\∀v,p.2.data≠.cell v):Inv X pins' σ H s:=
 ⟨I.ok,I.os,I.bare,I.base,I.loc,I.cell,I.free,I.freeC,fun p hp=>(yYR.mp hp).elim (fun z=>I.pin p (Yn _ z)) (h p),I.hok,I.len⟩
theorem qHm {N:List Str}(hN:N.Nodup){i j:Nat}{x:Str}(a:N[i]? = some x)(b:N[j]? = some x):i=j:=by
 obtain⟨h1,e1⟩:=yYB.mp a
 obtain⟨h2,e2⟩:=yYB.mp b
 exact(List.getElem_inj hN).mp (e1.trans e2.symm)
theorem qBf {M:Model}{A:Around}{E:Value->Shared->Prop}{i:Nat}{x:Str}{v:V}{u:Value}{Q:Unit->Shared->Prop}(I:Inv X zy σ H s)(hN:X.N.Nodup)(hi:X.N[i]? = some x)(hx:Loc X.env.scope x)(r:RelV v u)
  (h:∀s',Inv X zy (σ.set i (some v)) H s'->(∃a,Heap.SameBut a s.heap s'.heap/\(a=X.env.locals\/X.env.cells.lookup x=some a))->Q () s') (hf:X.fn x=true\/X.env.scope.names.lookup x=some .local:=by first | exact .inl rfl | exact .inr rfl | assumption):wpAny M A (storeName X.env x u) Q E s:=by
 obtain⟨m,hn,hl⟩:=id I.loc
 have hcls:(X.env.scope.kind == .class || (X.env.scope.kind == .module && X.env.locals != X.env.globals))=false:=by rw[I.ok.kind];rfl
 have hiσ:i<σ.length:=by rw[I.len];exact(yYB.mp hi).1
 have cne:=I.cne
 have tracked:∀{a:Addr} {h':Heap},(∃o,s.heap.get? a=some o/\H a=none)->Heap.SameBut a s.heap h'->HOk X.prog X.w H h':=fun{a h'} ha hs b ob e=>by
  obtain⟨_,_,hfree⟩:=ha
  refine(I.hok b ob e).stay (fun c w' hc q=>(hs.2 c ?_).trans q) (fun _ q=>q) fun _ _ q=>q
  rintro rfl
  rcases hc with rfl | hc
  .rw[hfree] at e;cases e
  .rw[hfree] at hc;cases hc
 rcases hx with hk | hk
 .refine wpAny_storeName_local hk hn (fun h' hn' hs=>?_) hcls
  obtain⟨oL,_,_,hoL,_⟩:=id hn
  refine h _ ⟨I.ok,I.os,I.bare,⟨fun b o e n hb hx=>?_,fun b o e n hb hx=>?_,I.base.free,fun b o e hx=>?_,I.base.tups,I.base.frzs,I.base.tbls,fun b xs o q e=>(hs.2 b (yZD (yZC (yYY e) I.ok.above))).trans (I.base.tupk b xs o q e)⟩,⟨_,hn',fun j y v' e1 e2 e3=>?_⟩,fun y c e=>?_,I.free,I.freeC,fun p hp=>?_,tracked ⟨oL,hoL,I.free⟩ hs,by simpa using I.len⟩ ⟨_,hs,.inl rfl⟩
  .exact(hs.2 b (yZD (yZC (yYY e) I.ok.above))).trans (I.base.keep b o e n hb hx)
  .obtain⟨sl,e1⟩:=I.base.slot b o e n hb hx
   exact⟨sl,(hs.2 b (yZD (yZC (yYY e) I.ok.above))).trans e1⟩
  .obtain⟨o',e1⟩:=I.base.there b o e hx
   exact⟨o',(hs.2 b (yZD (yZC (yYY e) I.ok.above))).trans e1⟩
  .by_cases hj:j=i
   .subst hj
    rw[hi] at e1;cases e1
    rw[List.getElem?_set_self hiσ] at e2
    cases e2
    exact⟨u,r,.inl ⟨hk,by simp⟩⟩
   .rw[List.getElem?_set_ne (Ne.symm hj)] at e2
    obtain⟨u',r',q⟩:=hl j y v' e1 e2 e3
    refine⟨u',r',?_⟩
    rcases q with⟨k,e⟩ | ⟨k,c,e,z⟩
    .refine .inl ⟨k,?_⟩
     have:y≠x:=fun e=>hj (qHm hN e1 (e▸hi))
     simp[this,e]
    .exact .inr ⟨k,c,e,z.sameBut hs (cne y c e)⟩
  .obtain⟨w',z⟩:=I.cell y c e
   exact⟨w',z.sameBut hs (cne y c e)⟩
  .obtain⟨e,n,ne,nf,d⟩:=I.pin p hp
   exact⟨(hs.2 p.1 ne).trans e,n,ne,nf,d⟩
 .have hfn:X.fn x=true:=by
   rcases hf with z | z
   .exact z
   .rw[z] at hk;cases hk
  obtain⟨c,hc⟩:=I.ok.has x (.inl hk)
  obtain⟨w',z⟩:=I.cell x c hc
  refine wpAny_storeName_cell I.ok.kind hk hc z (fun h' hc' hs=>?_)
  obtain⟨oc,hoc,hocd⟩:=id z
  refine h { s with heap:=h' } ⟨I.ok,I.os,I.bare,⟨fun b o e n hb hx=>?_,fun b o e n hb hx=>?_,I.base.free,fun b o e hx=>?_,I.base.tups,I.base.frzs,I.base.tbls,fun b xs o q e=>(hs.2 b (yZD (yZC (yYY e) (I.ok.cab x c hfn hc)))).trans (I.base.tupk b xs o q e)⟩,⟨m,hn.sameBut hs (Ne.symm (cne x c hc)),fun j y v' e1 e2 e3=>?_⟩,fun y c' e=>?_,I.free,I.freeC,fun p hp=>?_,tracked ⟨oc,hoc,I.freeC x c hc⟩ hs,by simpa using I.len⟩ ⟨c,hs,.inr hc⟩
  .exact(hs.2 b (yZD (yZC (yYY e) (I.ok.cab x c hfn hc)))).trans (I.base.keep b o e n hb hx)
  .obtain⟨sl,e1⟩:=I.base.slot b o e n hb hx
   exact⟨sl,(hs.2 b (yZD (yZC (yYY e) (I.ok.cab x c hfn hc)))).trans e1⟩
  .obtain⟨o',e1⟩:=I.base.there b o e hx
   exact⟨o',(hs.2 b (yZD (yZC (yYY e) (I.ok.cab x c hfn hc)))).trans e1⟩
  .by_cases hj:j=i
   .subst hj
    rw[hi] at e1;cases e1
    rw[List.getElem?_set_self hiσ] at e2
    cases e2
    exact⟨u,r,.inr ⟨.inl hk,c,hc,hc'⟩⟩
   .rw[List.getElem?_set_ne (Ne.symm hj)] at e2
    obtain⟨u',r',q⟩:=hl j y v' e1 e2 e3
    refine⟨u',r',?_⟩
    rcases q with q | ⟨k,c',e,z'⟩
    .exact .inl q
    .refine .inr ⟨k,c',e,z'.sameBut hs ?_⟩
     rintro rfl
     exact hj (qHm hN e1 (I.ok.inj _ _ _ e hc▸hi))
  .by_cases hcc:c'=c
   .subst hcc;exact⟨_,hc'⟩
   .obtain⟨w2,z2⟩:=I.cell y c' e
    exact⟨w2,z2.sameBut hs hcc⟩
  .obtain⟨e,n,ne,nf,d⟩:=I.pin p hp
   refine⟨(hs.2 p.1 ?_).trans e,n,ne,nf,d⟩
   intro q
   rw[q,hoc] at e
   have q':oc=p.2:=Option.some.inj e
   exact d w' (by rw[<- q'];exact hocd)
theorem qGc {M:Model}{A:Around}{E:Value->Shared->Prop}{i:Nat}{x:Str}{v:V}{u:Value}{Q:Unit->Shared->Prop}(I:Inv X zy σ H s)(hN:X.N.Nodup)(hi:X.N[i]? = some x)(hx:Loc X.env.scope x)(r:RelV v u)
  (h:∀s',Inv X zy (σ.set i (some v)) H s'->Q () s') (hf:X.fn x=true\/X.env.scope.names.lookup x=some .local:=by first | exact .inl rfl | exact .inr rfl | assumption):wpAny M A (storeName X.env x u) Q E s:=
 qBf I hN hi hx r (fun s' I' _=>h s' I') hf
theorem Inv.call' {s':Shared}{ch:List Addr}(I:Inv X zy σ H s)(ho:s'.os=s.os)(u:Un (frs X.stack) ch H H' s.heap s'.heap)(hok:HOk X.prog X.w H' s'.heap)(hg:AllBare s'.gens)
  (hch:∀b∈ch,(b∈X.ex\/X.s₀.heap.objs.size<=b)/\b≠X.env.locals/\(∀x c,X.env.cells.lookup x=some c->c≠b)/\∀p∈X.pn++zy,p.1≠b):Inv X zy σ H' s':=by
 obtain⟨h',g',d',t',o'⟩:=s'
 have e:o'=s.os:=ho
 subst e
 exact I.call (g':=g') (t':=t') (d':=d') u hok hg hch
end
abbrev XK:=Value->Option Addr->Hp->Prop
abbrev St:=List (Option V)
abbrev VK:=V->Hp->Prop
abbrev TE:=St->Hp->VK->Prop
abbrev TT:=St->Hp->(Bool->Hp->Prop)->Prop
abbrev TA:=St->Hp->(List V->Hp->Prop)->Prop
structure Ends where
 nx:St->Hp->Prop
 rt:VK
 bk:St->Hp->Prop:=fun _ _=>False
 ct:St->Hp->Prop:=fun _ _=>False
abbrev TS:=Ends->St->Hp->Prop
def EP (X:Cx)(zy:List (Addr×Obj))(σ:St)(Q:VK)(u:Value)(s':Shared):Prop:=∃v H',Inv X zy σ H' s'/\RelV v u/\Q v H'
def TP (X:Cx)(zy:List (Addr×Obj))(σ:St)(Q:Bool->Hp->Prop)(b:Bool)(s':Shared):Prop:=∃H',Inv X zy σ H' s'/\Q b H'
def AP (X:Cx)(zy:List (Addr×Obj))(σ:St)(Q:List V->Hp->Prop)(us:List Value)(s':Shared):Prop:=∃vs H',Inv X zy σ H' s'/\Vals vs us/\Q vs H'
def SP (X:Cx)(zy:List (Addr×Obj))(D:Ends)(f:Flow)(s':Shared):Prop:=
 match f with
 | .next=>∃σ' H',Inv X zy σ' H' s'/\D.nx σ' H'
 | .brk=>∃σ' H',Inv X zy σ' H' s'/\D.bk σ' H'
 | .cont=>∃σ' H',Inv X zy σ' H' s'/\D.ct σ' H'
 | .ret u=>∃v σ' H',Inv X zy σ' H' s'/\RelV v u/\D.rt v H'
def PE (X:Cx)(e:Expr)(t:TE):Prop:=
 ∀(zy:List (Addr×Obj)) (s:Shared) (σ:St) (H:Hp) (Q:VK),Inv X zy σ H s->t σ H Q->wpAny (model X.prog X.w) X.A (eval e X.env) (EP X zy σ Q) X.xe s
def PT (X:Cx)(e:Expr)(t:TT):Prop:=
 ∀(zy:List (Addr×Obj)) (s:Shared) (σ:St) (H:Hp) (Q:Bool->Hp->Prop),Inv X zy σ H s->t σ H Q->wpAny (model X.prog X.w) X.A (isTrue e X.env (eval e X.env)) (TP X zy σ Q) X.xe s
def PW (X:Cx)(e:Expr)(t:TT):Prop:=
 ∀(whole:Sem Value) (zy:List (Addr×Obj)) (s:Shared) (σ:St) (H:Hp) (Q:Bool->Hp->Prop),Inv X zy σ H s->t σ H Q->wpAny (model X.prog X.w) X.A (isTrue e X.env whole) (TP X zy σ Q) X.xe s
theorem PW.pt {X:Cx}{e:Expr}{t:TT}(h:PW X e t):PT X e t:=h _
def PA (X:Cx)(es:List Expr)(t:TA):Prop:=
 ∀(pos:Pos) (zy:List (Addr×Obj)) (s:Shared) (σ:St) (H:Hp) (Q:List V->Hp->Prop),Inv X zy σ H s->t σ H Q->wpAny (model X.prog X.w) X.A (spliced (backTo pos (starEach es X.env))) (AP X zy σ Q) X.xe s
def PS (X:Cx)(st:Stmt)(t:TS):Prop:=
 ∀(zy:List (Addr×Obj)) (s:Shared) (σ:St) (H:Hp) (D:Ends),Inv X zy σ H s->t D σ H->wpAny (model X.prog X.w) X.A (exec st X.env) (SP X zy D) X.xe s
def PSs (X:Cx)(st:List Stmt)(t:TS):Prop:=
 ∀(zy:List (Addr×Obj)) (s:Shared) (σ:St) (H:Hp) (D:Ends),Inv X zy σ H s->t D σ H->wpAny (model X.prog X.w) X.A (execs st X.env) (SP X zy D) X.xe s
theorem thn {α:Type}{t:Sem α}{Q Q':α->Shared->Prop}{M:Model}{A:Around}{E:Value->Shared->Prop}{s:Shared}(h:wpAny M A t Q E s)(hQ:∀a s,Q a s->Q' a s):wpAny M A t Q' E s:=wpAny_mono h hQ fun _ _ x=>x
end L2
namespace L2
open PySem PySem.Spec PyProof.Rows
section
variable {X:Cx}
def tVar (i:Nat):TE:=fun σ H Q=>∃v,σ[i]? = some (some v)/\Q v H
def tC (v:V):TE:=fun _ H Q=>Q v H
theorem xBi {i:Nat}{x:Str}{pos:Pos}(hN:X.N[i]? = some x)(hv:Vis X.env.scope x)(hd:(x == ("__debug__" : Str))=false:=by decide)(hcd:(x == ("__classdict__" : Str))=false:=by decide):PE X (.Name x pos) (tVar i):=by
 intro zy s σ H Q I h
 obtain⟨v,e,h⟩:=h
 obtain⟨m,hn,hl⟩:=I.loc
 obtain⟨u,r,l⟩:=hl i x v hN e hv
 have fin:EP X zy σ Q u s:=⟨v,H,I,r,h⟩
 rcases l with⟨hk,hm⟩ | ⟨hk,c,hc,hcell⟩
 .exact wpAny_Name (wpAny_loadName_local I.ok.kind hk hn hm fin) hd
 .rcases hk with hk | hk
  .exact wpAny_Name (wpAny_loadName_cell I.ok.kind hk hc hcell fin) hd
  .exact wpAny_Name (wpAny_loadName_free I.ok.kind hk hc hcell fin hcd) hd
theorem qE {i j pos}:PE X (.Constant (.int i) j pos) (tC (.int i)):=fun _ _ _ H _ I h=>wpAny_Constant_int ⟨.int i,H,I.tok _,⟨_,rfl⟩,h⟩
theorem qCx {b j pos}:PE X (.Constant (.bool b) j pos) (tC (.bl b)):=fun _ _ _ H _ I h=>Constant_bool ⟨.bl b,H,I,rfl,h⟩
theorem qHa {j pos}:PE X (.Constant .none j pos) (tC .non):=fun _ _ _ H _ I h=>Constant_none ⟨.non,H,I,rfl,h⟩
theorem qF {x j pos}:PE X (.Constant (.str x) j pos) (tC (.str x)):=fun _ _ _ H _ I h=>Calls.Constant_str ⟨.str x,H,I.tok _,⟨_,rfl⟩,h⟩
def Gl (X:Cx)(x:Str):Prop:=X.env.kindOf x=some .globalImplicit
theorem qSj {E:Value->Shared->Prop}{zy:List (Addr×Obj)}{s:Shared}{σ:St}{H:Hp}{x:Str}{u:Value}{pos:Pos}{Q:Value->Shared->Prop}(I:Inv X zy σ H s)(hg:Gl X x)(hm:X.mg x=some u)(h:Q u s)
  (hd:(x == ("__debug__" : Str))=false:=by decide):wpAny (model X.prog X.w) X.A (eval (.Name x pos) X.env) Q E s:=
 Calls.Name_function_global I.ok.kind hg (Calls.loadGlobal_global (by rw[I.ok.glob];exact I.mod.glob.keeps I.bk) hm h) hd
theorem qKv {E:Value->Shared->Prop}{zy:List (Addr×Obj)}{s:Shared}{σ:St}{H:Hp}{x:Str}{u:Value}{pos:Pos}{Q:Value->Shared->Prop}(I:Inv X zy σ H s)(hg:Gl X x)(hm:X.mg x=none)(hv:bootBuiltins x=some u)(h:Q u s)
  (hn:x ≠ "__name__" := by decide) (hd:(x == ("__debug__" : Str))=false:=by decide):wpAny (model X.prog X.w) X.A (eval (.Name x pos) X.env) Q E s:=by
 obtain⟨mb,h1,h2⟩:=I.mod.blt
 exact Calls.Name_function_global I.ok.kind hg (Calls.loadGlobal_builtin (by rw[I.ok.glob];exact I.mod.glob.keeps I.bk) hm (by rw[I.ok.blt];exact h1.keeps I.bk) ((h2 x hn).trans hv) h) hd
theorem vG {x:Str}{v:V}{u:Value}{pos:Pos}(hg:Gl X x)(hm:X.mg x=some u)(r:RelV v u)(hd:(x == ("__debug__" : Str))=false:=by decide):PE X (.Name x pos) (tC v):=
 fun _ _ _ H _ I h=>qSj I hg hm ⟨v,H,I,r,h⟩ hd
theorem xVj {x:Str}{v:V}{u:Value}{pos:Pos}(hg:Gl X x)(hm:X.mg x=none)(hv:bootBuiltins x=some u)(r:RelV v u)(hn:x ≠ "__name__" := by decide)(hd:(x == ("__debug__" : Str))=false:=by decide):PE X (.Name x pos) (tC v):=
 fun _ _ _ H _ I h=>qKv I hg hm hv ⟨v,H,I,r,h⟩ hn hd
variable {a b:Expr}{ta tb:TE}{pos:Pos}
def PC (X:Cx)(op:CmpOp)(a b:Expr)(t:TE):Prop:=
 ∀(zy:List (Addr×Obj)) (s:Shared) (σ:St) (H:Hp) (Q:VK),Inv X zy σ H s->t σ H Q->
  wpAny (model X.prog X.w) X.A (eval a X.env) (fun v s₁=>wpAny (model X.prog X.w) X.A (eval b X.env) (fun u s₂=>wpAny (model X.prog X.w) X.A (compareOp op v u) (EP X zy σ Q) X.xe s₂) X.xe s₁) X.xe s
def tB (t:TE):TT:=fun σ H Q=>t σ H fun x H1=>∃c,x=.bl c/\Q c H1
theorem xBo {op:CmpOp}{t:TE}(h:PC X op a b t)(h1:behindInMarks op b=false:=by first | exact nobehind _ (by decide) (by decide) | rfl):PE X (.Compare a [op] [b] pos) t:=fun zy s σ H Q I hw=>wpAny_Compare1 (h zy s σ H Q I hw) h1
theorem kH {e:Expr}{t:TE}(h:PE X e t)(he:∀whole,isTrue e X.env whole=(do let v <- whole;standAt e.pos;holding [v] (truthy v)):=by intro _;rfl):PT X e (tB t):=by
 intro zy s σ H Q I hw
 refine isTrue_plain (thn (h zy s σ H _ I hw) fun v s1 ⟨x,H1,I1,r1,q1⟩=>?_) (he _)
 obtain⟨d,rfl,q⟩:=q1
 cases r1
 exact wpAny_truthy_bool ⟨H1,I1,q⟩
variable {tA tB':TT}{rest:List Expr}
def tOr (t u:TT):TT:=fun σ H Q=>t σ H fun c H1=>if c=true then Q true H1 else u σ H1 Q
def tNot (t:TT):TT:=fun σ H Q=>t σ H fun c H1=>Q (!c) H1
theorem qYf (ha:PT X a tA):PW X (.BoolOp .Or [a] pos) tA:=by
 intro wh zy s σ H Q I h
 refine isTrue_or (thn (ha zy s σ H Q I h) fun c s1 e=>?_)
 cases c with
 | false=>exact isTrue_or_nil e
 | true=>exact e
theorem qVz (ha:PT X a tA)(hb:PW X (.BoolOp .Or (b::rest) pos) tB'):PW X (.BoolOp .Or (a::b::rest) pos) (tOr tA tB'):=by
 intro wh zy s σ H Q I h
 refine isTrue_or (thn (ha zy s σ H _ I h) fun c s1 ⟨H1,I1,q1⟩=>?_)
 cases c with
 | true=>exact⟨H1,I1,q1⟩
 | false=>exact hb wh zy s1 σ H1 Q I1 q1
theorem qQe (ha:PT X a tA):PT X (.UnaryOp .Not a pos) (tNot tA):=by
 intro zy s σ H Q I h
 exact isTrue_not (ha zy s σ H (fun c H1=>Q (!c) H1) I h)
def tAndV (ta tb:TE):TE:=fun σ H Q=>ta σ H fun x H1=>∃c,x=.bl c/\if c=true then tb σ H1 Q else Q (.bl false) H1
def tOrV (ta tb:TE):TE:=fun σ H Q=>ta σ H fun x H1=>∃c,x=.bl c/\if c=true then Q (.bl true) H1 else tb σ H1 Q
def tNotV (ta:TE):TE:=fun σ H Q=>ta σ H fun x H1=>∃c,x=.bl c/\Q (.bl (!c)) H1
theorem qQf {op}{t:TE}(h:PE X a t):PE X (.BoolOp op [a] pos) t:=fun zy s σ H Q I hw=>BoolOp_one (h zy s σ H Q I hw)
theorem qZa (ha:PE X a ta)(hb:PE X (.BoolOp .And (b::rest) pos) tb):PE X (.BoolOp .And (a::b::rest) pos) (tAndV ta tb):=by
 intro zy s σ H Q I h
 refine BoolOp_and (thn (ha zy s σ H _ I h) fun v s1 ⟨x,H1,I1,r1,q1⟩=>?_)
 obtain⟨c,rfl,q1⟩:=q1
 cases r1
 refine wpAny_truthy_bool ?_
 cases c with
 | true=>exact hb zy s1 σ H1 Q I1 q1
 | false=>exact⟨.bl false,H1,I1,rfl,q1⟩
theorem xBl (ha:PE X a ta)(hb:PE X (.BoolOp .Or (b::rest) pos) tb):PE X (.BoolOp .Or (a::b::rest) pos) (tOrV ta tb):=by
 intro zy s σ H Q I h
 refine BoolOp_or (thn (ha zy s σ H _ I h) fun v s1 ⟨x,H1,I1,r1,q1⟩=>?_)
 obtain⟨c,rfl,q1⟩:=q1
 cases r1
 refine wpAny_truthy_bool ?_
 cases c with
 | false=>exact hb zy s1 σ H1 Q I1 q1
 | true=>exact⟨.bl true,H1,I1,rfl,q1⟩
theorem qHw (ha:PE X a ta):PE X (.UnaryOp .Not a pos) (tNotV ta):=by
 intro zy s σ H Q I h
 refine UnaryOp_ (thn (ha zy s σ H _ I h) fun v s1 ⟨x,H1,I1,r1,q1⟩=>?_)
 obtain⟨c,rfl,q1⟩:=q1
 cases r1
 exact not_of (wpAny_truthy_bool ⟨.bl (!c),H1,I1,rfl,q1⟩)
def tIf (t:TT)(ta tb:TE):TE:=fun σ H Q=>t σ H fun c H1=>if c=true then ta σ H1 Q else tb σ H1 Q
theorem vF {c:Expr}(hc:PT X c tA)(ha:PE X a ta)(hb:PE X b tb):PE X (.IfExp c a b pos) (tIf tA ta tb):=by
 intro zy s σ H Q I h
 refine wpAny_IfExp (thn (hc zy s σ H _ I h) fun d s1 ⟨H1,I1,q1⟩=>?_)
 cases d with
 | true=>exact ha zy s1 σ H1 Q I1 q1
 | false=>exact hb zy s1 σ H1 Q I1 q1
end
end L2
namespace L2
open PySem PySem.Spec PyProof.Rows
def SqL (K:yZN)(H:Hp)(a:Addr)(xs:List V):Prop:=
 Rd H a (.lst xs)\/
  ∃(o:Obj) (its:Array Value) (n:Nat),K.lookup a=some o/\o.cls=.type "list" /\ o.dict=none/\o.data=.seq its n/\its.size<=Yc/\Vals xs its.toList
def SqT (K:yZN)(H:Hp)(a:Addr)(xs:List V):Prop:=
 Rd H a (.tup xs)\/
  ∃(o:Obj) (its:Array Value) (n:Nat),K.lookup a=some o/\o.cls=.type "tuple" /\ o.data=.seq its n/\its.size<=Yc/\Vals xs its.toList
def absV:Value->Option V
 | .none=>some .non
 | .bool b=>some (.bl b)
 | .int i _=>some (.int i)
 | .str x _=>some (.str x)
 | .bytes b _=>some (.byt b)
 | .float b _=>some (.flt b)
 | .ref a=>some (.ref a)
 | .type n=>some (.ty n)
 | _=>none
theorem RelV.abs {x:V}{u:Value}(r:RelV x u):absV u=some x:=by
 cases x with
 | non=>cases r;rfl
 | bl _=>cases r;rfl
 | int _=>obtain⟨t,rfl⟩:=r;rfl
 | str _=>obtain⟨t,rfl⟩:=r;rfl
 | byt _=>obtain⟨t,rfl⟩:=r;rfl
 | flt _=>obtain⟨t,rfl⟩:=r;rfl
 | ref _=>cases r;rfl
 | ty _=>cases r;rfl
theorem RelV.inj {x y:V}{u:Value}(r:RelV x u)(q:RelV y u):x=y:=Option.some.inj (r.abs.symm.trans q.abs)
theorem Vals.inj {xs ys:List V}{us:List Value}(h:Vals xs us)(h':Vals ys us):xs=ys:=by
 induction h generalizing ys with
 | nil=>cases h';rfl
 | cons r _ ih=>
  cases h' with
  | cons r' t'=>rw[r.inj r',ih t']
section
variable {X:Cx}{zy:List (Addr×Obj)}{σ:St}{H:Hp}{s:Shared}{a:Addr}{xs ys:List V}
theorem SqL.of {K:yZN}(h:H a=some (.lst xs)):SqL K H a xs:=.inl (.inl h)
theorem SqT.of {K:yZN}(h:H a=some (.tup xs)):SqT K H a xs:=.inl (.inl h)
theorem Inv.list (I:Inv X zy σ H s)(h:SqL X.K H a xs):∃its:List Value,Vals xs its/\PlainL s.heap a its.toArray/\xs.length<=Yc:=by
 rcases h with h | ⟨o,its,n,hk,hc,hd,hs,hz,r⟩
 .obtain⟨z,its,n,r,e⟩:=h.ok I.hok
  exact⟨its,r,⟨_,n,e,rfl,rfl,rfl⟩,z⟩
 .refine⟨its.toList,r,⟨o,n,I.kIn a o hk,hc,hd,by simpa using hs⟩,?_⟩
  have e:=r.length
  simp only[yZK] at e
  omega
theorem Inv.tuple (I:Inv X zy σ H s)(h:SqT X.K H a xs):∃its:List Value,Vals xs its/\IsTup s.heap a its.toArray/\xs.length<=Yc:=by
 rcases h with h | ⟨o,its,n,hk,hc,hs,hz,r⟩
 .obtain⟨z,its,r,p⟩:=h.ok I.hok
  exact⟨its,r,p.tup,z⟩
 .refine⟨its.toList,r,⟨o,I.kIn a o hk,hc,n,by simpa using hs⟩,?_⟩
  have e:=r.length
  simp only[yZK] at e
  omega
theorem Inv.list_inj (I:Inv X zy σ H s)(h:SqL X.K H a xs)(h':SqL X.K H a ys):xs=ys:=by
 obtain⟨its,r,⟨o,n,e,_,_,d⟩,_⟩:=I.list h
 obtain⟨its',r',⟨o',n',e',_,_,d'⟩,_⟩:=I.list h'
 rw[e] at e';cases e'
 rw[d] at d'
 injection d' with d1 _
 have:its=its':=by simpa using congrArg Array.toList d1
 subst this
 exact r.inj r'
theorem Inv.tuple_inj (I:Inv X zy σ H s)(h:SqT X.K H a xs)(h':SqT X.K H a ys):xs=ys:=by
 obtain⟨its,r,⟨o,e,_,n,d⟩,_⟩:=I.tuple h
 obtain⟨its',r',⟨o',e',_,n',d'⟩,_⟩:=I.tuple h'
 rw[e] at e';cases e'
 rw[d] at d'
 injection d' with d1 _
 have:its=its':=by simpa using congrArg Array.toList d1
 subst this
 exact r.inj r'
end
abbrev Cx.wish (X:Cx)(E:Value->Shared->Prop):Cx:={ X with xe:=E }
abbrev Cx.nox (X:Cx):Cx:=X.wish fun _ _=>False
theorem Cx.Ok.wish {X:Cx}(ok:X.Ok)(E:Value->Shared->Prop):(X.wish E).Ok:=
 ⟨ok.mod,ok.kind,ok.glob,ok.blt,ok.above,ok.inj,ok.has,ok.cab,ok.hd,ok.frames,ok.stk,ok.exf,ok.bs,ok.bsz,ok.noex,ok.exfs,ok.funs,ok.frf⟩
theorem Cx.Ok.unwish {X:Cx}{E:Value->Shared->Prop}(ok:(X.wish E).Ok):X.Ok:=
 ⟨ok.mod,ok.kind,ok.glob,ok.blt,ok.above,ok.inj,ok.has,ok.cab,ok.hd,ok.frames,ok.stk,ok.exf,ok.bs,ok.bsz,ok.noex,ok.exfs,ok.funs,ok.frf⟩
section
variable {X:Cx}{zy:List (Addr×Obj)}{σ:St}{H:Hp}{s:Shared}{E:Value->Shared->Prop}
theorem Inv.wish (I:Inv X zy σ H s)(E:Value->Shared->Prop):Inv (X.wish E) zy σ H s:=⟨I.ok.wish E,I.os,I.bare,I.base,I.loc,I.cell,I.free,I.freeC,I.pin,I.hok,I.len⟩
theorem Inv.unwish (I:Inv (X.wish E) zy σ H s):Inv X zy σ H s:=⟨I.ok.unwish,I.os,I.bare,I.base,I.loc,I.cell,I.free,I.freeC,I.pin,I.hok,I.len⟩
theorem SP.unwish {D:Ends}{f:Flow}{s':Shared}(h:SP (X.wish E) zy D f s'):SP X zy D f s':=by
 cases f with
 | next=>obtain⟨σ',H',I,q⟩:=h;exact⟨σ',H',I.unwish,q⟩
 | brk=>obtain⟨σ',H',I,q⟩:=h;exact⟨σ',H',I.unwish,q⟩
 | cont=>obtain⟨σ',H',I,q⟩:=h;exact⟨σ',H',I.unwish,q⟩
 | ret u=>obtain⟨v,σ',H',I,r,q⟩:=h;exact⟨v,σ',H',I.unwish,r,q⟩
theorem PSs.nox {st:List Stmt}{t:TS}(h:PSs X.nox st t):PSs X st t:=fun zy s σ H D I hw=>
 wpAny_mono (h zy s σ H D (I.wish _) hw) (fun _ _ q=>q.unwish) fun _ _ z=>False.elim z
end
section
variable {X:Cx}{st:Stmt}{rest:List Stmt}{t u:TS}{e:Expr}{te:TE}{pos:Pos}
def tNext:TS:=fun D σ H=>D.nx σ H
def tSeq (t u:TS):TS:=fun D σ H=>t { D with nx:=u D } σ H
theorem qY:PSs X [] tNext:=fun _ _ σ H _ I h=>wpAny_execs_nil ⟨σ,H,I,h⟩
theorem qZ (h1:PS X st t)(h2:PSs X rest u):PSs X (st::rest) (tSeq t u):=by
 intro zy s σ H D I h
 refine wpAny_execs_cons (thn (h1 zy s σ H { D with nx:=u D } I h) fun f s1 q=>?_)
 cases f with
 | next=>
  obtain⟨σ',H',I',q⟩:=q
  exact h2 zy s1 σ' H' D I' q
 | ret v=>exact q
 | brk=>exact q
 | cont=>exact q
theorem qJ (h1:PS X st t):PSs X [st] t:=by
 intro zy s σ H D I h
 refine wpAny_execs_cons (thn (h1 zy s σ H D I h) fun f s1 q=>?_)
 cases f with
 | next=>exact wpAny_execs_nil q
 | ret v=>exact q
 | brk=>exact q
 | cont=>exact q
theorem Inv.quiet {zy:List (Addr×Obj)}{σ:St}{H:Hp}{s:Shared}(I:Inv X zy σ H s):interactive X.env=false:=by simp[interactive,I.ok.kind]
def tDrop (te:TE):TS:=fun D σ H=>te σ H fun _ H1=>D.nx σ H1
theorem qP (he:PE X e te)(hs:swapsWith e none pos.line X.env=pure false:=by rfl):PS X (.Expr e pos) (tDrop te):=by
 intro zy s σ H D I h
 exact wpAny_Expr_any (thn (he zy s σ H _ I h) fun v s1 ⟨x,H1,I1,r1,q1⟩=>⟨σ,H1,I1,q1⟩) I.quiet hs
def tRet (te:TE):TS:=fun D σ H=>te σ H D.rt
theorem qN (he:PE X e te):PS X (.Return (some e) pos) (tRet te):=by
 intro zy s σ H D I h
 exact wpAny_Return_some (thn (he zy s σ H _ I h) fun v s1 ⟨x,H1,I1,r1,q1⟩=>⟨x,σ,H1,I1,r1,q1⟩)
def tRetN:TS:=fun D _ H=>D.rt .non H
theorem xVq:PS X (.Return none pos) tRetN:=fun _ _ σ H _ I h=>wpAny_Return_none ⟨.non,σ,H,I,rfl,h⟩
def tIfS (c:TT)(t u:TS):TS:=fun D σ H=>c σ H fun b H1=>if b=true then t D σ H1 else u D σ H1
theorem zD {c:Expr}{a b:List Stmt}{tc:TT}(hc:PT X c tc)(ha:PSs X a t)(hb:PSs X b u):PS X (.If c a b pos) (tIfS tc t u):=by
 intro zy s σ H D I h
 refine wpAny_If (thn (hc zy s σ H _ I h) fun d s1 ⟨H1,I1,q1⟩=>?_)
 cases d with
 | true=>exact ha zy s1 σ H1 D I1 q1
 | false=>exact hb zy s1 σ H1 D I1 q1
def tNever:TS:=fun _ _ _=>False
theorem yX:PS X st tNever:=fun _ _ _ _ _ _ h=>h.elim
end
abbrev TG:=V->St->Hp->(St->Hp->Prop)->Prop
abbrev TGs:=List V->St->Hp->(St->Hp->Prop)->Prop
def PG (X:Cx)(target:Expr)(t:TG):Prop:=
 ∀(zy:List (Addr×Obj)) (s:Shared) (σ:St) (H:Hp) (v:V) (u:Value) (Q:St->Hp->Prop),Inv X zy σ H s->RelV v u->t v σ H Q->
  wpAny (model X.prog X.w) X.A (assign target X.env u) (fun _ s'=>∃σ' H',Inv X zy σ' H' s'/\Q σ' H') X.xe s
def PGs (X:Cx)(ts:List Expr)(t:TGs):Prop:=
 ∀(zy:List (Addr×Obj)) (s:Shared) (σ:St) (H:Hp) (vs:List V) (us:List Value) (Q:St->Hp->Prop),Inv X zy σ H s->Vals vs us->t vs σ H Q->
  wpAny (model X.prog X.w) X.A (assignInOrder ((assignEach ts X.env).map (·.2)) us) (fun _ s'=>∃σ' H',Inv X zy σ' H' s'/\Q σ' H') X.xe s
abbrev TSet:=V->V->V->Hp->(Hp->Prop)->Prop
def PSet (X:Cx)(t:TSet):Prop:=
 ∀(zy:List (Addr×Obj)) (s:Shared) (σ:St) (H:Hp) (o i v:V) (ov iv u:Value) (Q:Hp->Prop),Inv X zy σ H s->RelV o ov->RelV i iv->RelV v u->t o i v H Q->
  wpAny (model X.prog X.w) X.A (setItem ov iv u) (fun _ s'=>∃H',Inv X zy σ H' s'/\Q H') X.xe s
section
variable {X:Cx}{pos:Pos}
def gName (i:Nat):TG:=fun v σ H Q=>Q (σ.set i (some v)) H
theorem qG {i:Nat}{x:Str}(hN:X.N.Nodup)(hi:X.N[i]? = some x)(hx:Loc X.env.scope x)(hf:X.fn x=true\/X.env.scope.names.lookup x=some .local:=by first | exact .inl rfl | exact .inr rfl | assumption):PG X (.Name x pos) (gName i):=by
 intro zy s σ H v u Q I r h
 exact wpAny_assign_Name (qGc I hN hi hx r (fun s' I'=>⟨_,H,I',h⟩) hf)
def gNil:TGs:=fun vs σ H Q=>vs=[]/\Q σ H
def gCons (t:TG)(u:TGs):TGs:=fun vs σ H Q=>∃v r,vs=v::r/\t v σ H fun σ' H'=>u r σ' H' Q
theorem qI:PGs X [] gNil:=by
 intro zy s σ H vs us Q I r h
 obtain⟨e,h⟩:=h
 subst e
 cases r
 exact assignInOrder_nil ⟨σ,H,I,h⟩
theorem qH {e:Expr}{es:List Expr}{t:TG}{u:TGs}(h1:PG X e t)(h2:PGs X es u)
  (hs:(assignEach (e::es) X.env).map (·.2)=assign e X.env::(assignEach es X.env).map (·.2):=by rfl):PGs X (e::es) (gCons t u):=by
 intro zy s σ H vs us Q I r h
 obtain⟨v,vr,e1,h⟩:=h
 subst e1
 cases r with
 | cons r rr=>
  rw[hs]
  refine assignInOrder_cons (thn (h1 zy s σ H _ _ _ I r h) fun _ s1 ⟨σ1,H1,I1,q1⟩=>?_)
  exact h2 zy s1 σ1 H1 _ _ Q I1 rr q1
def gTup (K:yZN)(n:Nat)(t:TGs):TG:=fun v σ H Q=>∃a xs,v=.ref a/\SqT K H a xs/\xs.length=n/\t xs σ H Q
theorem xYx {es:List Expr}{k:Nat}{t:TGs}{n:Nat}(hc:X.calm=true)(h:PGs X es t)
  (hn:(assignEach es X.env).length=n:=by rfl) (hst:(assignEach es X.env).findIdx? (·.1)=none:=by rfl):PG X (.Tuple es k pos) (gTup X.K n t):=by
 intro zy s σ H v u Q I r hw
 obtain⟨a,xs,e1,hq,hl,hw⟩:=hw
 subst e1
 cases r
 obtain⟨its,rv,ht,hz⟩:=I.tuple hq
 refine assign_Tuple_tuple (I.ok.hd hc) ht (by simp[hn,<- hl,rv.length]) hst fun h' hx=>?_
 have I1:Inv X zy σ H { s with heap:=h' }:=I.kept (t':=s.toks) fun b o e=>hx b o (yZD (yYY e)) e
 exact h zy _ σ H xs _ Q I1 (by simpa using rv) hw
def gSub (to ti:TE)(t:TSet):TG:=fun v σ H Q=>to σ H fun o H1=>ti σ H1 fun i H2=>t o i v H2 fun H3=>Q σ H3
theorem xBh {o i:Expr}{to ti:TE}{t:TSet}(ho:PE X o to)(hi:PE X i ti)(hs:PSet X t)
  (ha:∀v,assign (.Subscript o i pos) X.env v=(do
   let ov <- holding [v] (eval o X.env)
   let iv <- holding [v,ov] (eval i X.env)
   standAt pos
   holding [v,ov,iv] (setItem ov iv v)
   release [v,ov,iv] []):=by intro _;rfl):PG X (.Subscript o i pos) (gSub to ti t):=by
 intro zy s σ H v u Q I r h
 rw[ha]
 refine yYV (wpAny_holding (thn (ho zy s σ H _ I h) fun ov s1 ⟨x,H1,I1,r1,q1⟩=>?_))
 refine yYV (wpAny_holding (thn (hi zy s1 σ H1 _ I1 q1) fun iv s2 ⟨y,H2,I2,r2,q2⟩=>?_))
 refine yYV (wpAny_standAt (yYV (wpAny_holding (thn (hs zy s2 σ H2 x y v ov iv u _ I2 r1 r2 r q2) fun _ s3 ⟨H3,I3,q3⟩=>?_))))
 exact wpAny_release ⟨σ,H3,I3,q3⟩
def tAsg (te:TE)(g:TG):TS:=fun D σ H=>te σ H fun x H1=>g x σ H1 D.nx
theorem qO {tg e:Expr}{te:TE}{g:TG}(he:PE X e te)(hg:PG X tg g)(hs:swapsWithSole [tg] e pos.line X.env=pure false:=by rfl)(hw:swappedStores [tg] e X.env=pure none:=by rfl)
  (h1:(assignEach [tg] X.env).map (·.2)=[assign tg X.env]:=by rfl):PS X (.Assign [tg] e pos) (tAsg te g):=by
 intro zy s σ H D I h
 refine wpAny_Assign_stores (thn (he zy s σ H _ I h) fun v s1 ⟨x,H1,I1,r1,q1⟩=>?_) hs hw
 rw[h1]
 exact thn (hg zy s1 σ H1 x v _ I1 r1 q1) fun _ s2 q=>q
theorem qM {i:Nat}{x:Str}{e:Expr}{te:TE}{pos':Pos}(hN:X.N.Nodup)(hi:X.N[i]? = some x)(hx:Loc X.env.scope x)(he:PE X e te)(hs:swapsWith e (some (.Name x pos')) pos.line X.env=pure false:=by rfl)(hf:X.fn x=true\/X.env.scope.names.lookup x=some .local:=by first | exact .inl rfl | exact .inr rfl | assumption):
  PS X (.Assign [.Name x pos'] e pos) (tAsg te (gName i)):=by
 intro zy s σ H D I h
 refine wpAny_Assign_Name (thn (he zy s σ H _ I h) fun v s1 ⟨y,H1,I1,r1,q1⟩=>?_) hs
 exact qGc I1 hN hi hx r1 (fun s2 I2=>⟨_,H1,I2,q1⟩) hf
end
section
variable {X:Cx}{pos:Pos}
def tWhile (c:TT)(tb:TS):TS:=fun D σ H=>∃W:Nat->St->Hp->Prop,(∃m,W m σ H)/\∀m σ H,W m σ H->
 c σ H fun b H1=>if b=true then ∃N:St->Hp->Prop,(∀σ' H',N σ' H'->∃m',m'<m/\W m' σ' H')/\tb { D with nx:=N,ct:=N,bk:=D.nx } σ H1 else D.nx σ H1
theorem qWo {c:Expr}{body:List Stmt}{tc:TT}{tb:TS}(hp:PassesOwn (model X.prog X.w) X.A X.env X.xe)(hc:PT X c tc)(hb:PSs X body tb):PS X (.While c body [] pos) (tWhile tc tb):=by
 intro zy s σ H D I h
 obtain⟨W,⟨m0,w0⟩,turn⟩:=h
 refine wpAny_While (codeAny_whileLoop (fun n s'=>∃σ' H',Inv X zy σ' H' s'/\W n σ' H') ?_ m0 ⟨σ,H,I,w0⟩)
 rintro n s1 ⟨σ1,H1,I1,w1⟩
 refine wpAny_passesOwn hp (thn (hc zy s1 σ1 H1 _ I1 (turn n σ1 H1 w1)) fun b s2 ⟨H2,I2,q2⟩=>?_)
 cases b with
 | true=>
  obtain⟨N,hN,q2⟩:=q2
  rw[if_pos rfl]
  refine wpAny_passesOwn hp (thn (hb zy s2 σ1 H2 _ I2 q2) fun f s3 q3=>?_)
  cases f with
  | next=>
   obtain⟨σ3,H3,I3,n3⟩:=q3
   obtain⟨m',hm,w3⟩:=hN σ3 H3 n3
   exact⟨m',hm,σ3,H3,I3,w3⟩
  | cont=>
   obtain⟨σ3,H3,I3,n3⟩:=q3
   obtain⟨m',hm,w3⟩:=hN σ3 H3 n3
   exact⟨m',hm,σ3,H3,I3,w3⟩
  | brk=>exact q3
  | ret v=>exact q3
 | false=>
  rw[if_neg yZJ]
  exact wpAny_execs_nil ⟨σ1,H2,I2,q2⟩
end
structure It where
 go:Nat->Hp->Prop
 yld:Nat->Hp->V->Hp->Prop
 stop:Nat->Hp->Prop
def FpOk (X:Cx)(zy:List (Addr×Obj))(H:Hp)(b:Addr):Prop:=
 H b=none/\b≠X.env.locals/\b∉X.fs/\(b∈X.ex\/X.s₀.heap.objs.size<=b)/\(∀x c,X.env.cells.lookup x=some c->c≠b)/\∀p∈X.pn++zy,p.1≠b
theorem Inv.fpOk {X:Cx}{zy:List (Addr×Obj)}{σ:St}{H H':Hp}{s:Shared}{b:Addr}(I:Inv X zy σ H s)(hb:s.heap.objs.size<=b)(hn:H' b=none):FpOk X zy H' b:=by
 refine⟨hn,yZF (yZC I.lt hb),I.nofs hb,.inr (yZH I.sz hb),fun x c e z=>?_,fun p hp z=>?_⟩
 .obtain⟨v,q⟩:=I.cell x c e
  exact absurd (yZC q.lt (by rw[z];exact hb)) (Nat.lt_irrefl _)
 .exact absurd (yZC (yYY (I.pin p hp).1) (by rw[z];exact hb)) (Nat.lt_irrefl _)
structure Turn (P:Program)(w:World)(K:yZN)(tg:Expr)(J:It)(fp:List Addr)(it:Addr)(tn:Nat->Heap->Prop):Prop where
 mem:it∈fp
 obj:∀i h,tn i h->∀b∈fp,∃o,h.get? b=some o/\∀v,o.data≠.cell v
 keep:∀i h h',tn i h->(∀b∈fp,∀o,h.get? b=some o->h'.get? b=some o)->tn i h'
 item:∀(X:Cx),X.prog=P->X.w=w->X.K=K->X.calm=true->∀(i:Nat) (zy:List (Addr×Obj)) (s:Shared) (σ:St) (H:Hp) (E:Value->Shared->Prop),Inv X zy σ H s->(∀b∈fp,FpOk X zy H b)->tn i s.heap->J.go i H->
  wpAny (model P w) X.A (pyNext (.ref it)) (fun r s1=>∃u,r=some u/\
   wpAny (model P w) X.A (letOwnedTupleGo tg (.ref it) u) (fun _ s2=>∃x H',Inv X zy σ H' s2/\RelV x u/\J.yld i H x H'/\tn (i+1) s2.heap/\∀b∈fp,H' b=none) E s1) E s
 done:∀(X:Cx),X.prog=P->X.w=w->X.K=K->X.calm=true->∀(i:Nat) (zy:List (Addr×Obj)) (s:Shared) (σ:St) (H:Hp) (E:Value->Shared->Prop),Inv X zy σ H s->(∀b∈fp,FpOk X zy H b)->tn i s.heap->J.stop i H->
  wpAny (model P w) X.A (pyNext (.ref it)) (fun r s1=>r=none/\Inv X zy σ H s1) E s
 self:∀(A:Around) (i:Nat) (s:Shared) (Q:Value->Shared->Prop) (E:Value->Shared->Prop),tn i s.heap->Q (.ref it) s->wpAny (model P w) A (pyIter (.ref it)) Q E s
abbrev TI:=St->Hp->(It->Hp->Prop)->Prop
def PIE (X:Cx)(zy:List (Addr×Obj))(σ:St)(tg:Expr)(R:It->Hp->Prop)(itv:Value)(s2:Shared):Prop:=
 ∃(it:Addr) (fp:List Addr) (tn:Nat->Heap->Prop) (J:It) (H':Hp),itv=.ref it/\Inv X zy σ H' s2/\Turn X.prog X.w X.K tg J fp it tn/\tn 0 s2.heap/\(∀b∈fp,FpOk X zy H' b)/\R J H'
def PI (X:Cx)(tg iter:Expr)(wi:TI):Prop:=
 ∀(zy:List (Addr×Obj)) (s:Shared) (σ:St) (H:Hp) (R:It->Hp->Prop),Inv X zy σ H s->wi σ H R->
  wpAny (model X.prog X.w) X.A (eval iter X.env) (fun v s1=>wpAny (model X.prog X.w) X.A (pyIter v) (PIE X zy σ tg R) X.xe s1) X.xe s
theorem qSn {M:Model}{A:Around}{E:Value->Shared->Prop}{s:Shared}{tg:Expr}{it:Addr}{u:Value}{o:Obj}{n:String}{vs:Array Value}{Q:Unit->Shared->Prop}(ho:s.heap.get? it=some o)(hc:o.cls=.type n)(hd:o.data=.fields vs)
  (hn:["enumerate","zip","dict_itemiterator","dict_reverseitemiterator","odict_iterator","itertools.zip_longest","itertools.pairwise"].contains n=false) (hQ:Q () s):wpAny M A (letOwnedTupleGo tg (.ref it) u) Q E s:=by
 unfold letOwnedTupleGo
 cases tg <;> first
  | exact yYW hQ
  | (cases u <;> first
    | exact yYW hQ
    | (refine yYV (wpAny_load ho ?_)
       rw[hc,hd]
       show wpAny M A (if (["enumerate","zip","dict_itemiterator","dict_reverseitemiterator","odict_iterator","itertools.zip_longest","itertools.pairwise"].contains n && vs[0]? == some (rawInt _))=true then _ else _) Q E s
       rw[if_neg (by intro h;rw[hn,Bool.false_and] at h;cases h)]
       exact yYW hQ))
def Itl (K:yZN)(a:Addr):It:=
 ⟨fun i H=>∃xs x,SqL K H a xs/\xs[i]? = some x,fun i H x H'=>H'=H/\∀xs,SqL K H a xs->xs[i]? = some x,fun i H=>∃xs,SqL K H a xs/\xs.length<=i⟩
def Itt (K:yZN)(a:Addr):It:=
 ⟨fun i H=>∃xs x,SqT K H a xs/\xs[i]? = some x,fun i H x H'=>H'=H/\∀xs,SqT K H a xs->xs[i]? = some x,fun i H=>∃xs,SqT K H a xs/\xs.length<=i⟩
def Itr (lo:Int)(n:Nat):It:=⟨fun i _=>i<n,fun i H x H'=>H'=H/\x=.int (lo+i),fun i _=>n<=i⟩
theorem qOx {P:Program}{w:World}{K:yZN}{tg:Expr}(a it:Addr):Turn P w K tg (Itl K a) [it] it (fun i h=>h.IsListIter it a i) where
 mem:=by simp
 obj:=fun i h st b hb=>by
  have e:b=it:=by simpa using hb
  subst e
  obtain⟨o,e,c,d⟩:=st
  exact⟨o,e,fun v z=>by rw[d] at z;cases z⟩
 keep:=fun i h h' st k=>st.at fun o e=>k it (by simp) o e
 item:=by
  intro X hP hw hK hc i zy s σ H E I hf st hg
  subst hP hw hK
  obtain⟨xs,x,hq,hx⟩:=hg
  obtain⟨its,rv,p,hz⟩:=I.list hq
  obtain⟨u,hu,ru⟩:=rv.get hx
  obtain⟨f0,f1,f2,f3,f4,f5⟩:=hf it (by simp)
  refine wpAny_pyNext_list_item st p.isList (x:=u) (by simpa using hu) fun h' st' sb=>?_
  have I1:Inv X zy σ H { s with heap:=h' }:=I.turned (t':=s.toks) (fun b o hb e=>(sb.2 b hb).trans e) f0 f1 f3 f4 f5
  obtain⟨o,e,c,d⟩:=id st'
  exact⟨u,rfl,qSn (s:={ s with heap:=h' }) e c d (by decide) ⟨x,H,I1,ru,⟨rfl,fun ys hy=>by rw[I.list_inj hy hq];exact hx⟩,st',fun b hb=>(hf b hb).1⟩⟩
 done:=by
  intro X hP hw hK hc i zy s σ H E I hf st hg
  subst hP hw hK
  obtain⟨xs,hq,hx⟩:=hg
  obtain⟨its,rv,p,hz⟩:=I.list hq
  obtain⟨f0,f1,f2,f3,f4,f5⟩:=hf it (by simp)
  have hl:=rv.length
  exact wpAny_pyNext_list_end (I.ok.hd hc) st p.isList (by simp;omega) fun h' eb=>⟨rfl,I.turned (t':=s.toks) (fun b o hb e=>eb b o hb e) f0 f1 f3 f4 f5⟩
 self:=fun _ _ _ _ _ st h=>wpAny_pyIter_listiter st h
theorem qIi {P:Program}{w:World}{K:yZN}{tg:Expr}(a it:Addr):Turn P w K tg (Itt K a) [it] it (fun i h=>h.IsTupleIter it a i) where
 mem:=by simp
 obj:=fun i h st b hb=>by
  have e:b=it:=by simpa using hb
  subst e
  obtain⟨o,e,c,d⟩:=st
  exact⟨o,e,fun v z=>by rw[d] at z;cases z⟩
 keep:=fun i h h' st k=>st.at fun o e=>k it (by simp) o e
 item:=by
  intro X hP hw hK hc i zy s σ H E I hf st hg
  subst hP hw hK
  obtain⟨xs,x,hq,hx⟩:=hg
  obtain⟨its,rv,p,hz⟩:=I.tuple hq
  obtain⟨u,hu,ru⟩:=rv.get hx
  obtain⟨f0,f1,f2,f3,f4,f5⟩:=hf it (by simp)
  refine wpAny_pyNext_tuple_item st (show s.heap.IsTuple a its.toArray from p) (x:=u) (by simpa using hu) fun h' st' sb=>?_
  have I1:Inv X zy σ H { s with heap:=h' }:=I.turned (t':=s.toks) (fun b o hb e=>(sb.2 b hb).trans e) f0 f1 f3 f4 f5
  obtain⟨o,e,c,d⟩:=id st'
  exact⟨u,rfl,qSn (s:={ s with heap:=h' }) e c d (by decide) ⟨x,H,I1,ru,⟨rfl,fun ys hy=>by rw[I.tuple_inj hy hq];exact hx⟩,st',fun b hb=>(hf b hb).1⟩⟩
 done:=by
  intro X hP hw hK hc i zy s σ H E I hf st hg
  subst hP hw hK
  obtain⟨xs,hq,hx⟩:=hg
  obtain⟨its,rv,p,hz⟩:=I.tuple hq
  obtain⟨f0,f1,f2,f3,f4,f5⟩:=hf it (by simp)
  have hl:=rv.length
  exact wpAny_pyNext_tuple_end (I.ok.hd hc) st (show s.heap.IsTuple a its.toArray from p) (by simp;omega) fun h' eb=>⟨rfl,I.turned (t':=s.toks) (fun b o hb e=>eb b o hb e) f0 f1 f3 f4 f5⟩
 self:=fun _ _ _ _ _ st h=>wpAny_pyIter_tupleiter st h
theorem qIl {P:Program}{w:World}{K:yZN}{tg:Expr}(it:Addr)(lo:Int)(n:Nat):Turn P w K tg (Itr lo n) [it] it (fun i h=>IsRangeIter h it (lo+(i:Nat) * 1) ((n:Int) - (i:Nat)) 1) where
 mem:=by simp
 obj:=fun i h st b hb=>by
  have e:b=it:=by simpa using hb
  subst e
  exact⟨_,st,fun v z=>by
   have z':Data.fields _=Data.cell v:=z
   cases z'⟩
 keep:=fun i h h' st k=>k it (by simp) _ st
 item:=by
  intro X hP hw hK hc i zy s σ H E I hf st hg
  subst hP hw hK
  obtain⟨f0,f1,f2,f3,f4,f5⟩:=hf it (by simp)
  have W:=Walks.range (prog:=X.prog) (w:=X.w) (I.ok.hd hc) it lo 1 n
  refine W.item i s _ _ hg st fun v h' tk hv st' kk=>?_
  obtain⟨t,rfl⟩:=hv
  have I1:Inv X zy σ H { s with heap:=h',toks:=tk }:=I.turned (fun b o hb e=>kk b o (by simpa using hb) e) f0 f1 f3 f4 f5
  refine⟨_,rfl,qSn (s:={ s with heap:=h',toks:=tk }) (n := "range_iterator") st' rfl rfl (by decide) ⟨.int (lo+i),H,I1,⟨t,?_⟩,⟨rfl,rfl⟩,st',fun b hb=>(hf b hb).1⟩⟩
  rw[Int.mul_one]
 done:=by
  intro X hP hw hK hc i zy s σ H E I hf st hg
  subst hP hw hK
  obtain⟨f0,f1,f2,f3,f4,f5⟩:=hf it (by simp)
  exact wpAny_pyNext_range_end (I.ok.hd hc) st (by have:n<=i:=hg;omega) fun h' eb=>⟨rfl,I.turned (t':=s.toks) (fun b o hb e=>eb b o hb e) f0 f1 f3 f4 f5⟩
 self:=fun _ _ _ _ _ st h=>wpAny_pyIter_rangeiter st h
end L2
namespace L2
open PySem PySem.Spec PyProof.Rows
section
variable {X:Cx}{tg:Expr}
def iList (K:yZN)(tl:TE):TI:=fun σ H R=>tl σ H fun x H1=>∃a,x=.ref a/\(∃xs,SqL K H1 a xs)/\R (Itl K a) H1
def iTup (K:yZN)(tl:TE):TI:=fun σ H R=>tl σ H fun x H1=>∃a,x=.ref a/\(∃xs,SqT K H1 a xs)/\R (Itt K a) H1
theorem qPe {l:Expr}{tl:TE}(hl:PE X l tl):PI X tg l (iList X.K tl):=by
 intro zy s σ H R I h
 refine thn (hl zy s σ H _ I h) fun v s1 ⟨x,H1,I1,r1,q1⟩=>?_
 obtain⟨a,e,⟨xs,hq⟩,q⟩:=q1
 subst e
 cases r1
 obtain⟨its,rv,p,hz⟩:=I1.list hq
 refine wpAny_pyIter_list p.isList ?_
 refine⟨s1.heap.objs.size,[s1.heap.objs.size],_,_,H1,rfl,I1.kept (t':=s1.toks) fun b o e=>yYX _ e,qOx a _,⟨_,yYZ _ rfl,rfl,rfl⟩,fun b hb=>?_,q⟩
 have e:b=s1.heap.objs.size:=by simpa using hb
 subst e
 exact I1.fpOk (yZB _) (I1.hok.fresh (yZB _))
theorem xBg {l:Expr}{tl:TE}(hl:PE X l tl):PI X tg l (iTup X.K tl):=by
 intro zy s σ H R I h
 refine thn (hl zy s σ H _ I h) fun v s1 ⟨x,H1,I1,r1,q1⟩=>?_
 obtain⟨a,e,⟨xs,hq⟩,q⟩:=q1
 subst e
 cases r1
 obtain⟨its,rv,p,hz⟩:=I1.tuple hq
 refine wpAny_pyIter_tuple (show s1.heap.IsTuple a its.toArray from p) ?_
 refine⟨s1.heap.objs.size,[s1.heap.objs.size],_,_,H1,rfl,I1.kept (t':=s1.toks) fun b o e=>yYX _ e,qIi a _,⟨_,yYZ _ rfl,rfl,rfl⟩,fun b hb=>?_,q⟩
 have e:b=s1.heap.objs.size:=by simpa using hb
 subst e
 exact I1.fpOk (yZB _) (I1.hok.fresh (yZB _))
theorem xXv {zy:List (Addr×Obj)}{σ:St}{H:Hp}{s:Shared}{R:It->Hp->Prop}{E:Value->Shared->Prop}{lo hi:Int}{t u v:Tok}{tk:Nat}(I:Inv X zy σ H s)(h1 : -(2 ^ 62)<=lo)(h2:lo<2 ^ 62)(h3 : -(2 ^ 62)<=hi)(h4:hi<2 ^ 62)
  (q:R (Itr lo (hi - lo).toNat) H):wpAny (model X.prog X.w) X.A (pyIter (.ref s.heap.objs.size)) (PIE X zy σ tg R) E { s with heap:=s.heap.push { cls:=.type "range",data:=.fields #[.int lo t,.int hi u,.int 1 v] },toks:=tk }:=by
 refine wpAny_pyIter_range (IsRange.new ..) (small_one h1 h2 h3 h4) ?_
 have I1:Inv X zy σ H { s with heap:=s.heap.push { cls:=.type "range",data:=.fields #[.int lo t,.int hi u,.int 1 v] },toks:=tk }:=I.kept fun b o e=>yYX _ e
 refine⟨(s.heap.push { cls:=.type "range",data:=.fields #[.int lo t,.int hi u,.int 1 v] }).objs.size,[(s.heap.push { cls:=.type "range",data:=.fields #[.int lo t,.int hi u,.int 1 v] }).objs.size],_,_,H,rfl,
  I1.kept (t':=tk) fun b o e=>yYX _ e,qIl _ lo (hi - lo).toNat,?_,fun b hb=>?_,q⟩
 .have e1:lo+((0:Nat):Int) * 1=lo:=by simp
  have e2:(((hi - lo).toNat:Nat):Int) - ((0:Nat):Int)=Builtin.Range.rangeSize lo hi 1:=by rw[rangeSize_one];split <;> omega
  show IsRangeIter _ _ (lo+((0:Nat):Int) * 1) ((((hi - lo).toNat:Nat):Int) - ((0:Nat):Int)) 1
  rw[e1,e2]
  exact yYZ _ rfl
 .have e:b=(s.heap.push { cls:=.type "range",data:=.fields #[.int lo t,.int hi u,.int 1 v] }).objs.size:=by simpa using hb
  subst e
  exact I1.fpOk (yZB _) (I1.hok.fresh (yZB _))
def iRng1 (ta:TA):TI:=fun σ H R=>ta σ H fun vs H1=>∃j:Int,vs=[.int j]/\-(2 ^ 62)<=j/\j<2 ^ 62/\R (Itr 0 j.toNat) H1
theorem yZ {a:Expr}{ta:TA}{p pos:Pos}(hg:Gl X "range")(hm:X.mg "range" = none)(ha:PA X [a] ta)(hs:starEach [a] X.env=[(false,eval a X.env)]:=by rfl):PI X tg (.Call (.Name "range" p) [a] [] pos) (iRng1 ta):=by
 intro zy s σ H R I h
 refine Call_ (qKv I hg hm boot_range (PyProof.Rows.callWith_type1 (thn (ha pos zy s σ H _ I h) fun us s1 ⟨vs,H1,I1,r1,q1⟩=>?_) hs rfl))
 obtain⟨j,e,q1,q2,q⟩:=q1
 subst e
 cases r1 with
 | cons r rr=>
  cases rr
  obtain⟨t,rfl⟩:=r
  exact call_range_1 (xXv I1 (by omega) (by omega) q1 q2 (by simpa using q))
def tFor (wi:TI)(g:TG)(tb:TS):TS:=fun D σ H=>wi σ H fun J H1=>∃W:Nat->Nat->St->Hp->Prop,(∃m,W 0 m σ H1)/\∀i m σ H,W i m σ H->
 (J.stop i H/\D.nx σ H)\/(J.go i H/\∃N:St->Hp->Prop,(∀σ' H',N σ' H'->∃m',m'<m/\W (i+1) m' σ' H')/\∀x H',J.yld i H x H'->g x σ H' fun σ2 H2=>tb { D with nx:=N,ct:=N,bk:=D.nx } σ2 H2)
def pinsAt (fp:List Addr)(h:Heap):List (Addr×Obj):=fp.filterMap fun b=>(h.get? b).map fun o=>(b,o)
theorem wH {fp:List Addr}{h:Heap}{b:Addr}{o:Obj}(hb:b∈fp)(e:h.get? b=some o):(b,o)∈pinsAt fp h:=List.mem_filterMap.mpr ⟨b,hb,by rw[e];rfl⟩
theorem qRa {fp:List Addr}{h:Heap}{p:Addr×Obj}(hp:p∈pinsAt fp h):p.1∈fp/\h.get? p.1=some p.2:=by
 obtain⟨b,hb,e⟩:=List.mem_filterMap.mp hp
 cases q:h.get? b with
 | none=>rw[q] at e;cases e
 | some o=>
  rw[q] at e
  have e':(b,o)=p:=Option.some.inj e
  subst e'
  exact⟨hb,q⟩
theorem Inv.pinned {zy:List (Addr×Obj)}{σ:St}{H:Hp}{s:Shared}{fp:List Addr}(I:Inv X zy σ H s)(hf:∀b∈fp,FpOk X zy H b)(ho:∀b∈fp,∃o,s.heap.get? b=some o/\∀v,o.data≠.cell v):Inv X (zy++pinsAt fp s.heap) σ H s:=
 I.pins_of fun p hp=>(yYR.mp hp).elim (fun z=>I.pin p (yYN _ z)) fun z=>by
  obtain⟨hb,e⟩:=qRa z
  obtain⟨f0,f1,f2,_⟩:=hf p.1 hb
  obtain⟨o,e',d⟩:=ho p.1 hb
  rw[e] at e';cases e'
  exact⟨e,f0,f1,f2,d⟩
theorem Inv.unpinned {zy pl:List (Addr×Obj)}{σ:St}{H:Hp}{s:Shared}(I:Inv X (zy++pl) σ H s):Inv X zy σ H s:=I.pins_of fun p hp=>I.pin p (yYN _ (Yn _ hp))
theorem zH {iter:Expr}{body:List Stmt}{wi:TI}{g:TG}{tb:TS}{pos:Pos}(hp:PassesOwn (model X.prog X.w) X.A X.env X.xe)(hc:X.calm=true)(hi:PI X tg iter wi)(hg:PG X tg g)(hb:PSs X body tb)
  (hs:∀x,foldedSetIterable iter X.env x=pure x:=by intro _;rfl):PS X (.For tg iter body [] pos) (tFor wi g tb):=by
 intro zy s σ H D I h
 refine wpAny_For (thn (hi zy s σ H _ I h) fun v s1 h1=>thn h1 fun itv s2 h2=>?_) hs
 obtain⟨it,fp,tn,J,H2,e,I2,T,st2,f2,W,⟨m0,w0⟩,turn⟩:=h2
 subst e
 have stat:∀{H':Hp},(∀b∈fp,H' b=none)->∀b∈fp,FpOk X zy H' b:=fun hn b hb=>⟨hn b hb,(f2 b hb).2⟩
 refine codeAny_forLoop_any (fun n s'=>∃i σ' H',Inv X zy σ' H' s'/\tn i s'.heap/\(∀b∈fp,H' b=none)/\W i n σ' H') ?_ m0 ⟨0,σ,H2,I2,st2,fun b hb=>(f2 b hb).1,w0⟩
 rintro n s3 ⟨i,σ3,H3,I3,st3,fr3,w3⟩
 rcases turn i n σ3 H3 w3 with⟨stop,qn⟩ | ⟨go,N,hN,step⟩
 .refine wpAny_passesOwn hp (thn (T.done X rfl rfl rfl hc i zy s3 σ3 H3 X.xe I3 (stat fr3) st3 stop) fun r s4 ⟨hr,I4⟩=>?_)
  subst hr
  exact wpAny_execs_nil ⟨σ3,H3,I4,qn⟩
 .refine wpAny_passesOwn hp (thn (T.item X rfl rfl rfl hc i zy s3 σ3 H3 X.xe I3 (stat fr3) st3 go) fun r s4 ⟨u,hr,h4⟩=>?_)
  subst hr
  refine wpAny_passesOwn hp (thn h4 fun _ s5 ⟨x,H5,I5,r5,y5,st5,fr5⟩=>?_)
  have I5':=I5.pinned (stat fr5) (T.obj _ _ st5)
  refine wpAny_passesOwn hp (thn (hg _ s5 σ3 H5 x u _ I5' r5 (step x H5 y5)) fun _ s6 ⟨σ6,H6,I6,q6⟩=>?_)
  refine wpAny_passesOwn hp (thn (hb _ s6 σ6 H6 _ I6 q6) fun f s7 q7=>?_)
  have again:∀{σ7:St} {H7:Hp},Inv X (zy++pinsAt fp s5.heap) σ7 H7 s7->N σ7 H7->∃m,m<n/\∃i σ' H',Inv X zy σ' H' s7/\tn i s7.heap/\(∀b∈fp,H' b=none)/\W i m σ' H':=fun{σ7 H7} I7 n7=>by
   obtain⟨m',hm,w7⟩:=hN σ7 H7 n7
   refine⟨m',hm,i+1,σ7,H7,I7.unpinned,T.keep _ _ _ st5 fun b hb o e=>(I7.pin (b,o) (yYN _ (yYN _ (wH hb e)))).1,fun b hb=>?_,w7⟩
   obtain⟨o,e,d⟩:=T.obj _ _ st5 b hb
   exact(I7.pin (b,o) (yYN _ (yYN _ (wH hb e)))).2.1
  cases f with
  | next=>obtain⟨σ7,H7,I7,n7⟩:=q7;exact again I7 n7
  | cont=>obtain⟨σ7,H7,I7,n7⟩:=q7;exact again I7 n7
  | brk=>obtain⟨σ7,H7,I7,q7⟩:=q7;exact⟨σ7,H7,I7.unpinned,q7⟩
  | ret v=>obtain⟨x7,σ7,H7,I7,r7,q7⟩:=q7;exact⟨x7,σ7,H7,I7.unpinned,r7,q7⟩
end
theorem wM {K:yZN}{a:Addr}{xs:List V}{g:TG}{tb:TS}{D:Ends}{σ:St}{H:Hp}(Pv:Nat->St->Hp->Prop)(h0:Pv 0 σ H)(hl:∀i σ H,i<=xs.length->Pv i σ H->SqL K H a xs)
  (hs:∀i x σ H,xs[i]? = some x->Pv i σ H->g x σ H fun σ2 H2=>tb { D with nx:=Pv (i+1),ct:=Pv (i+1),bk:=D.nx } σ2 H2) (hd:∀σ H,Pv xs.length σ H->D.nx σ H):
  ∃W:Nat->Nat->St->Hp->Prop,(∃m,W 0 m σ H)/\∀i m σ H,W i m σ H->
   ((Itl K a).stop i H/\D.nx σ H)\/((Itl K a).go i H/\∃N:St->Hp->Prop,(∀σ' H',N σ' H'->∃m',m'<m/\W (i+1) m' σ' H')/\∀x H',(Itl K a).yld i H x H'->g x σ H' fun σ2 H2=>tb { D with nx:=N,ct:=N,bk:=D.nx } σ2 H2):=by
 refine⟨fun i m σ H=>m=xs.length - i/\i<=xs.length/\Pv i σ H,⟨xs.length,by simp,yZE _,h0⟩,?_⟩
 rintro i m σ H ⟨rfl,hi,p⟩
 have q:=hl i σ H hi p
 by_cases hlt:i<xs.length
 .refine .inr ⟨⟨xs,xs[i],q,by simp[hlt]⟩,Pv (i+1),fun σ' H' p'=>⟨xs.length - (i+1),by omega,rfl,hlt,p'⟩,fun x H' y=>?_⟩
  obtain⟨e,y⟩:=y
  subst e
  exact hs i x σ _ (y xs q) p
 .have e:i=xs.length:=by omega
  subst e
  exact .inl ⟨⟨xs,q,yZB _⟩,hd σ H p⟩
theorem qFc {K:yZN}{a:Addr}{xs:List V}{g:TG}{tb:TS}{D:Ends}{σ:St}{H:Hp}(Pv:Nat->St->Hp->Prop)(h0:Pv 0 σ H)(hl:∀i σ H,i<=xs.length->Pv i σ H->SqT K H a xs)
  (hs:∀i x σ H,xs[i]? = some x->Pv i σ H->g x σ H fun σ2 H2=>tb { D with nx:=Pv (i+1),ct:=Pv (i+1),bk:=D.nx } σ2 H2) (hd:∀σ H,Pv xs.length σ H->D.nx σ H):
  ∃W:Nat->Nat->St->Hp->Prop,(∃m,W 0 m σ H)/\∀i m σ H,W i m σ H->
   ((Itt K a).stop i H/\D.nx σ H)\/((Itt K a).go i H/\∃N:St->Hp->Prop,(∀σ' H',N σ' H'->∃m',m'<m/\W (i+1) m' σ' H')/\∀x H',(Itt K a).yld i H x H'->g x σ H' fun σ2 H2=>tb { D with nx:=N,ct:=N,bk:=D.nx } σ2 H2):=by
 refine⟨fun i m σ H=>m=xs.length - i/\i<=xs.length/\Pv i σ H,⟨xs.length,by simp,yZE _,h0⟩,?_⟩
 rintro i m σ H ⟨rfl,hi,p⟩
 have q:=hl i σ H hi p
 by_cases hlt:i<xs.length
 .refine .inr ⟨⟨xs,xs[i],q,by simp[hlt]⟩,Pv (i+1),fun σ' H' p'=>⟨xs.length - (i+1),by omega,rfl,hlt,p'⟩,fun x H' y=>?_⟩
  obtain⟨e,y⟩:=y
  subst e
  exact hs i x σ _ (y xs q) p
 .have e:i=xs.length:=by omega
  subst e
  exact .inl ⟨⟨xs,q,yZB _⟩,hd σ H p⟩
theorem qDx {lo:Int}{n:Nat}{g:TG}{tb:TS}{D:Ends}{σ:St}{H:Hp}(Pv:Nat->St->Hp->Prop)(h0:Pv 0 σ H)
  (hs:∀i σ H,i<n->Pv i σ H->g (.int (lo+i)) σ H fun σ2 H2=>tb { D with nx:=Pv (i+1),ct:=Pv (i+1),bk:=D.nx } σ2 H2) (hd:∀σ H,Pv n σ H->D.nx σ H):
  ∃W:Nat->Nat->St->Hp->Prop,(∃m,W 0 m σ H)/\∀i m σ H,W i m σ H->
   ((Itr lo n).stop i H/\D.nx σ H)\/((Itr lo n).go i H/\∃N:St->Hp->Prop,(∀σ' H',N σ' H'->∃m',m'<m/\W (i+1) m' σ' H')/\∀x H',(Itr lo n).yld i H x H'->g x σ H' fun σ2 H2=>tb { D with nx:=N,ct:=N,bk:=D.nx } σ2 H2):=by
 refine⟨fun i m σ H=>m=n - i/\i<=n/\Pv i σ H,⟨n,by simp,yZE _,h0⟩,?_⟩
 rintro i m σ H ⟨rfl,hi,p⟩
 by_cases hlt:i<n
 .refine .inr ⟨hlt,Pv (i+1),fun σ' H' p'=>⟨n - (i+1),by omega,rfl,hlt,p'⟩,fun x H' y=>?_⟩
  obtain⟨e,y⟩:=y
  subst e y
  exact hs i σ _ hlt p
 .have e:i=n:=by omega
  subst e
  exact .inl ⟨yZB _,hd σ H p⟩
end L2
namespace L2
open PySem PySem.Spec PyProof.Rows
abbrev R2:=V->V->Hp->VK->Prop
def OpR (X:Cx)(f:Value->Value->Sem Value)(r:R2):Prop:=
 ∀(zy:List (Addr×Obj)) (s:Shared) (σ:St) (H:Hp) (x y:V) (v u:Value) (Q:VK),Inv X zy σ H s->RelV x v->RelV y u->r x y H Q->
  wpAny (model X.prog X.w) X.A (f v u) (EP X zy σ Q) X.xe s
def UnR (X:Cx)(f:Value->Sem Value)(r:V->Hp->VK->Prop):Prop:=
 ∀(zy:List (Addr×Obj)) (s:Shared) (σ:St) (H:Hp) (x:V) (v:Value) (Q:VK),Inv X zy σ H s->RelV x v->r x H Q->
  wpAny (model X.prog X.w) X.A (f v) (EP X zy σ Q) X.xe s
def CallR (X:Cx)(f:Value)(r:List V->Hp->VK->Prop):Prop:=
 ∀(zy:List (Addr×Obj)) (s:Shared) (σ:St) (H:Hp) (xs:List V) (us:List Value) (Q:VK),Inv X zy σ H s->Vals xs us->r xs H Q->
  wpAny (model X.prog X.w) X.A (call f us) (EP X zy σ Q) X.xe s
def tOp (r:R2)(ta tb:TE):TE:=fun σ H Q=>ta σ H fun x H1=>tb σ H1 fun y H2=>r x y H2 Q
def tUn (r:V->Hp->VK->Prop)(ta:TE):TE:=fun σ H Q=>ta σ H fun x H1=>r x H1 Q
def rI (C:Int->Int->Prop)(g:Int->Int->V):R2:=fun x y H Q=>∃i j,x=.int i/\y=.int j/\C i j/\Q (g i j) H
def rI0 (g:Int->Int->V):R2:=fun x y H Q=>∃i j,x=.int i/\y=.int j/\Q (g i j) H
def rU (g:Int->V):V->Hp->VK->Prop:=fun x H Q=>∃i,x=.int i/\Q (g i) H
section
variable {X:Cx}{a b c:Expr}{ta tb tc:TE}{pos:Pos}
theorem binT (ha:PE X a ta)(hb:PE X b tb){zy:List (Addr×Obj)}{s:Shared}{σ:St}{H:Hp}{R:V->V->Hp->Prop}(I:Inv X zy σ H s)
  (h:ta σ H fun x H1=>tb σ H1 fun y H2=>R x y H2) {Q:Value->Shared->Prop} {f:Value->Value->Sem Value}
  (hf:∀v u s2 x y H2,Inv X zy σ H2 s2->RelV x v->RelV y u->R x y H2->wpAny (model X.prog X.w) X.A (f v u) Q X.xe s2):
  wpAny (model X.prog X.w) X.A (eval a X.env) (fun v s₁=>wpAny (model X.prog X.w) X.A (eval b X.env) (fun u s₂=>wpAny (model X.prog X.w) X.A (f v u) Q X.xe s₂) X.xe s₁) X.xe s:=by
 refine thn (ha zy s σ H _ I h) fun v s1 ⟨x,H1,I1,r1,q1⟩=>?_
 refine thn (hb zy s1 σ H1 _ I1 q1) fun u s2 ⟨y,H2,I2,r2,q2⟩=>?_
 exact hf v u s2 x y H2 I2 r1 r2 q2
theorem xQ {op:Operator}{r:R2}(ho:OpR X (binaryOp op) r)(ha:PE X a ta)(hb:PE X b tb):PE X (.BinOp a op b pos) (tOp r ta tb):=by
 intro zy s σ H Q I h
 exact wpAny_BinOp (binT ha hb I h fun v u s2 x y H2 I2 rx ry q=>ho zy s2 σ H2 x y v u Q I2 rx ry q)
theorem qYi {op:UnaryOp}{r:V->Hp->VK->Prop}(ho:UnR X (unaryOp op) r)(ha:PE X a ta):PE X (.UnaryOp op a pos) (tUn r ta):=by
 intro zy s σ H Q I h
 exact UnaryOp_ (thn (ha zy s σ H _ I h) fun v s1 ⟨x,H1,I1,r1,q1⟩=>ho zy s1 σ H1 x v Q I1 r1 q1)
theorem opI {f:Value->Value->Sem Value}{C:Int->Int->Prop}{g:Int->Int->Int}
  (rule:∀(i j:Int) (t u:Tok) (s:Shared) (Q:Value->Shared->Prop) (E:Value->Shared->Prop),C i j->Q (.int (g i j) s.toks) { s with toks:=s.toks+1 }->wpAny (model X.prog X.w) X.A (f (.int i t) (.int j u)) Q E s):
  OpR X f (rI C fun i j=>.int (g i j)):=by
 intro zy s σ H x y v u Q I rx ry h
 obtain⟨i,j,rfl,rfl,hc,q⟩:=h
 obtain⟨t,rfl⟩:=rx
 obtain⟨t',rfl⟩:=ry
 exact rule i j t t' s _ _ hc ⟨.int (g i j),H,I.tok _,⟨_,rfl⟩,q⟩
theorem opI0 {f:Value->Value->Sem Value}{g:Int->Int->Int}
  (rule:∀(i j:Int) (t u:Tok) (s:Shared) (Q:Value->Shared->Prop) (E:Value->Shared->Prop),Q (.int (g i j) s.toks) { s with toks:=s.toks+1 }->wpAny (model X.prog X.w) X.A (f (.int i t) (.int j u)) Q E s):
  OpR X f (rI0 fun i j=>.int (g i j)):=by
 intro zy s σ H x y v u Q I rx ry h
 obtain⟨i,j,rfl,rfl,q⟩:=h
 obtain⟨t,rfl⟩:=rx
 obtain⟨t',rfl⟩:=ry
 exact rule i j t t' s _ _ ⟨.int (g i j),H,I.tok _,⟨_,rfl⟩,q⟩
theorem opB0 {f:Value->Value->Sem Value}{g:Int->Int->Bool}
  (rule:∀(i j:Int) (t u:Tok) (s:Shared) (Q:Value->Shared->Prop) (E:Value->Shared->Prop),Q (.bool (g i j)) s->wpAny (model X.prog X.w) X.A (f (.int i t) (.int j u)) Q E s):
  OpR X f (rI0 fun i j=>.bl (g i j)):=by
 intro zy s σ H x y v u Q I rx ry h
 obtain⟨i,j,rfl,rfl,q⟩:=h
 obtain⟨t,rfl⟩:=rx
 obtain⟨t',rfl⟩:=ry
 exact rule i j t t' s _ _ ⟨.bl (g i j),H,I,rfl,q⟩
def CPow (i j:Int):Prop:=0<=j/\j<=1000000/\i.natAbs<2 ^ 64
theorem jJ:OpR X (binaryOp .Add) (rI0 fun i j=>.int (i+j)):=opI0 fun _ _ _ _ _ _ _ q=>add_int q
theorem wJ:OpR X (binaryOp .Sub) (rI0 fun i j=>.int (i - j)):=opI0 fun _ _ _ _ _ _ _ q=>sub_int q
theorem kY:OpR X (binaryOp .Mod) (rI (fun _ j=>0<j) fun i j=>.int (i % j)):=opI fun i j _ _ _ _ _ hc q=>by
 have h1:(0:Int)<j:=hc
 exact mod_int' (by omega) (by rw[Int.fmod_eq_emod_of_nonneg i (by omega)];exact q)
theorem kU:OpR X (binaryOp .Pow) (rI CPow fun i j=>.int (i ^ j.toNat)):=opI fun _ _ _ _ _ _ _ hc q=>pow_int_small hc.1 hc.2.1 hc.2.2 q
theorem unI {f:Value->Sem Value}{g:Int->Int}
  (rule:∀(i:Int) (t:Tok) (s:Shared) (Q:Value->Shared->Prop) (E:Value->Shared->Prop),Q (.int (g i) s.toks) { s with toks:=s.toks+1 }->wpAny (model X.prog X.w) X.A (f (.int i t)) Q E s):
  UnR X f (rU fun i=>.int (g i)):=by
 intro zy s σ H x v Q I rx h
 obtain⟨i,rfl,q⟩:=h
 obtain⟨t,rfl⟩:=rx
 exact rule i t s _ _ ⟨.int (g i),H,I.tok _,⟨_,rfl⟩,q⟩
theorem vS:UnR X (unaryOp .USub) (rU fun i=>.int (-i)):=unI fun _ _ _ _ _ q=>neg_int q
end
def scal:V->V->Bool
 | .non,.non=>true | .non,.int _=>true | .int _,.non=>true | .non,.bl _=>true | .bl _,.non=>true | .non,.str _=>true | .str _,.non=>true
 | .int _,.int _=>true | .bl _,.bl _=>true | .str _,.str _=>true | .byt _,.byt _=>true
 | .int _,.str _=>true | .str _,.int _=>true | .bl _,.str _=>true | .str _,.bl _=>true
 | _,_=>false
def rEq:R2:=fun x y H Q=>scal x y=true/\Q (.bl (decide (x=y))) H
def rNe:R2:=fun x y H Q=>scal x y=true/\Q (.bl (!decide (x=y))) H
theorem qTo {i j:Int}:decide (V.int i=V.int j)=(i == j):=by
 rw[Zc]
 simp
theorem xYl {i j:Bool}:decide (V.bl i=V.bl j)=(i == j):=by
 rw[Zc]
 simp
theorem qTm {i j:Str}:decide (V.str i=V.str j)=(i == j):=by
 rw[Zc]
 simp
theorem qUq {i j:Array UInt8}:decide (V.byt i=V.byt j)=(i.toList == j.toList):=by
 rw[Zc]
 cases i
 cases j
 simp
section
variable {X:Cx}{a b c:Expr}{ta tb tc:TE}{pos:Pos}
theorem zG {zy:List (Addr×Obj)}{σ:St}{H:Hp}{s:Shared}{Q:VK}{k k':Bool}(I:Inv X zy σ H s)(q:Q (.bl k) H)(e:k=k'):EP X zy σ Q (.bool k') s:=by
 subst e
 exact⟨.bl k,H,I,rfl,q⟩
theorem zM:OpR X (compareOp .Eq) rEq:=by
 intro zy s σ H x y v u Q I rx ry h
 obtain⟨hs,q⟩:=h
 cases x with
 | non=>
  cases rx
  cases y with
  | non=>cases ry;exact PySem.EqNone.eq_none_none (zG I q (by simp))
  | bl j=>cases ry;exact PySem.EqNone.eq_none_bool (zG I q (by simp))
  | int j=>obtain⟨t',rfl⟩:=ry;exact PySem.EqNone.eq_none_int (zG I q (by simp))
  | str j=>obtain⟨t',rfl⟩:=ry;exact PySem.EqNone.eq_none_str (zG I q (by simp))
  | _=>exact absurd (show false=true from hs) yZJ
 | bl i=>
  cases rx
  cases y with
  | non=>cases ry;exact PySem.EqNone.eq_bool_none (zG I q (by simp))
  | bl j=>cases ry;exact eq_bool (zG I q xYl)
  | str j=>obtain⟨t',rfl⟩:=ry;exact PySem.EqMixed.eq_bool_str (zG I q (by simp))
  | _=>exact absurd (show false=true from hs) yZJ
 | int i=>
  obtain⟨t,rfl⟩:=rx
  cases y with
  | non=>cases ry;exact PySem.EqNone.eq_int_none (zG I q (by simp))
  | int j=>obtain⟨t',rfl⟩:=ry;exact eq_int (zG I q qTo)
  | str j=>obtain⟨t',rfl⟩:=ry;exact PySem.EqMixed.eq_int_str (zG I q (by simp))
  | _=>exact absurd (show false=true from hs) yZJ
 | str i=>
  obtain⟨t,rfl⟩:=rx
  cases y with
  | non=>cases ry;exact PySem.EqNone.eq_str_none (zG I q (by simp))
  | bl j=>cases ry;exact PySem.EqMixed.eq_str_bool (zG I q (by simp))
  | int j=>obtain⟨t',rfl⟩:=ry;exact PySem.EqMixed.eq_str_int (zG I q (by simp))
  | str j=>obtain⟨t',rfl⟩:=ry;exact eq_str (zG I q qTm)
  | _=>exact absurd (show false=true from hs) yZJ
 | byt i=>
  obtain⟨t,rfl⟩:=rx
  cases y with
  | byt j=>obtain⟨t',rfl⟩:=ry;exact PySem.W.eq_bytes (zG I q qUq)
  | _=>exact absurd (show false=true from hs) yZJ
 | _=>cases y <;> exact absurd (show false=true from hs) yZJ
theorem qMg:OpR X (compareOp .NotEq) rNe:=by
 intro zy s σ H x y v u Q I rx ry h
 obtain⟨hs,q⟩:=h
 cases x with
 | non=>
  cases rx
  cases y with
  | non=>cases ry;exact PySem.EqNone.ne_none_none (zG I q (by simp))
  | bl j=>cases ry;exact PySem.EqNone.ne_none_bool (zG I q (by simp))
  | int j=>obtain⟨t',rfl⟩:=ry;exact PySem.EqNone.ne_none_int (zG I q (by simp))
  | str j=>obtain⟨t',rfl⟩:=ry;exact PySem.EqNone.ne_none_str (zG I q (by simp))
  | _=>exact absurd (show false=true from hs) yZJ
 | bl i=>
  cases rx
  cases y with
  | non=>cases ry;exact PySem.EqNone.ne_bool_none (zG I q (by simp))
  | bl j=>cases ry;exact ne_bool (zG I q (congrArg not xYl))
  | str j=>obtain⟨t',rfl⟩:=ry;exact PySem.EqMixed.ne_bool_str (zG I q (by simp))
  | _=>exact absurd (show false=true from hs) yZJ
 | int i=>
  obtain⟨t,rfl⟩:=rx
  cases y with
  | non=>cases ry;exact PySem.EqNone.ne_int_none (zG I q (by simp))
  | int j=>obtain⟨t',rfl⟩:=ry;exact ne_int (zG I q (congrArg not qTo))
  | str j=>obtain⟨t',rfl⟩:=ry;exact PySem.EqMixed.ne_int_str (zG I q (by simp))
  | _=>exact absurd (show false=true from hs) yZJ
 | str i=>
  obtain⟨t,rfl⟩:=rx
  cases y with
  | non=>cases ry;exact PySem.EqNone.ne_str_none (zG I q (by simp))
  | bl j=>cases ry;exact PySem.EqMixed.ne_str_bool (zG I q (by simp))
  | int j=>obtain⟨t',rfl⟩:=ry;exact PySem.EqMixed.ne_str_int (zG I q (by simp))
  | str j=>obtain⟨t',rfl⟩:=ry;exact ne_str (zG I q (congrArg not qTm))
  | _=>exact absurd (show false=true from hs) yZJ
 | byt i=>
  obtain⟨t,rfl⟩:=rx
  cases y with
  | byt j=>obtain⟨t',rfl⟩:=ry;exact PySem.W.ne_bytes (zG I q (congrArg not qUq))
  | _=>exact absurd (show false=true from hs) yZJ
 | _=>cases y <;> exact absurd (show false=true from hs) yZJ
theorem qAx:OpR X (compareOp .Lt) (rI0 fun i j=>.bl (decide (i<j))):=opB0 fun _ _ _ _ _ _ _ q=>lt_int q
theorem xCb:OpR X (compareOp .LtE) (rI0 fun i j=>.bl (decide (i<=j))):=opB0 fun _ _ _ _ _ _ _ q=>le_int q
theorem xXc:OpR X (compareOp .Gt) (rI0 fun i j=>.bl (decide (j<i))):=opB0 fun _ _ _ _ _ _ _ q=>gt_int q
theorem xVc:OpR X (compareOp .GtE) (rI0 fun i j=>.bl (decide (j<=i))):=opB0 fun _ _ _ _ _ _ _ q=>ge_int q
theorem qCv:OpR X (compareOp .In) (fun x y H Q=>∃i j,x=.str i/\y=.str j/\Q (.bl (!(Builtin.Str.occurrences j i 0 j.length 1).isEmpty)) H):=by
 intro zy s σ H x y v u Q I rx ry h
 obtain⟨i,j,rfl,rfl,q⟩:=h
 obtain⟨t,rfl⟩:=rx
 obtain⟨t',rfl⟩:=ry
 exact in_str (zG I q rfl)
theorem xVv:OpR X (compareOp .IsNot) (fun x y H Q=>y=.non/\Q (.bl (!decide (x=.non))) H):=by
 intro zy s σ H x y v u Q I rx ry h
 obtain⟨rfl,q⟩:=h
 cases ry
 refine isnot_none_gen (zG I q ?_)
 cases x <;> first
  | (cases rx;rfl)
  | (obtain⟨t,rfl⟩:=rx;rfl)
theorem xD (b:Expr){op:CmpOp}(h:op≠.In:=by decide)(h2:op≠.NotIn:=by decide):behindInMarks op b=false:=by
 have e1:(op == CmpOp.In)=false:=by cases op <;> first | rfl | exact absurd rfl h
 have e2:(op == CmpOp.NotIn)=false:=by cases op <;> first | rfl | exact absurd rfl h2
 cases b <;> simp[behindInMarks,e1,e2]
theorem zJ {op:CmpOp}{r:R2}(ho:OpR X (compareOp op) r)(ha:PE X a ta)(hb:PE X b tb)(hm:behindInMarks op b=false):PE X (.Compare a [op] [b] pos) (tOp r ta tb):=by
 intro zy s σ H Q I h
 exact wpAny_Compare1 (binT ha hb I h fun v u s2 x y H2 I2 rx ry q=>ho zy s2 σ H2 x y v u Q I2 rx ry q) hm
def tTest (t:TE):TT:=fun σ H Q=>t σ H fun x H'=>∃k,x=.bl k/\Q k H'
theorem qR {op:CmpOp}{r:R2}(ho:OpR X (compareOp op) r)(ha:PE X a ta)(hb:PE X b tb)(hm:behindInMarks op b=false):PT X (.Compare a [op] [b] pos) (tTest (tOp r ta tb)):=by
 intro zy s σ H Q I h
 refine wpAny_isTrue_Compare1 (thn (ha zy s σ H _ I h) fun v s1 ⟨x,H1,I1,r1,q1⟩=>thn (hb zy s1 σ H1 _ I1 q1) fun u s2 ⟨y,H2,I2,r2,q2⟩=>
  thn (ho zy s2 σ H2 x y v u _ I2 r1 r2 q2) fun c s3 ⟨z,H3,I3,r3,k,e,q3⟩=>?_) hm
 subst e
 cases r3
 exact wpAny_truthy_bool ⟨H3,I3,q3⟩
theorem line63:(Yc:Nat)<2 ^ 63:=by rw[sizeLine_eq];decide
theorem jQ:OpR X (binaryOp .Add) (fun x y H Q=>∃i j,x=.str i/\y=.str j/\i.length+j.length<=Yc/\Q (.str (i++j)) H):=by
 intro zy s σ H x y v u Q I rx ry h
 obtain⟨i,j,rfl,rfl,hz,q⟩:=h
 obtain⟨t,rfl⟩:=rx
 obtain⟨t',rfl⟩:=ry
 exact add_str (fun t' tk=>⟨.str (i++j),H,I.tok _,⟨_,rfl⟩,q⟩) hz
theorem vals1 {x:V}{us:List Value}(r:Vals [x] us):∃u,us=[u]/\RelV x u:=by
 cases r with
 | cons r1 r2=>cases r2;exact⟨_,rfl,r1⟩
theorem vals2 {x y:V}{us:List Value}(r:Vals [x,y] us):∃u w',us=[u,w']/\RelV x u/\RelV y w':=by
 cases r with
 | cons r1 r2=>
  cases r2 with
  | cons r3 r4=>cases r4;exact⟨_,_,rfl,r1,r3⟩
theorem xJf:CallR X (.builtin "abs") (fun xs H Q=>∃i,xs=[.int i]/\Q (.int (if i<0 then -i else i)) H):=by
 intro zy s σ H xs us Q I r h
 obtain⟨i,rfl,q⟩:=h
 obtain⟨u,rfl,t,rfl⟩:=vals1 r
 exact call_abs_int fun u tk=>⟨.int (if i<0 then -i else i),H,I.tok _,⟨_,rfl⟩,q⟩
theorem qUa (hc:X.calm=true):CallR X (.builtin "min") (fun xs H Q=>∃i j,xs=[.int i,.int j]/\Q (.int (if j<i then j else i)) H):=by
 intro zy s σ H xs us Q I r h
 obtain⟨i,j,rfl,q⟩:=h
 obtain⟨u,w',rfl,⟨t,rfl⟩,⟨t',rfl⟩⟩:=vals2 r
 refine min_two_ints (I.ok.hd hc) fun h' tk k=>⟨_,H,I.kept k,?_,q⟩
 by_cases hj:j<i
 .rw[if_pos hj,if_pos hj];exact⟨_,rfl⟩
 .rw[if_neg hj,if_neg hj];exact⟨_,rfl⟩
theorem qDg:CallR X (.type "int") (fun xs H Q=>(∃i,xs=[.int i]/\Q (.int i) H)\/∃k,xs=[.bl k]/\Q (.int (if k then 1 else 0)) H):=by
 intro zy s σ H xs us Q I r h
 rcases h with⟨i,rfl,q⟩ | ⟨k,rfl,q⟩
 .obtain⟨u,rfl,t,rfl⟩:=vals1 r
  exact call_int_int ⟨.int i,H,I,⟨_,rfl⟩,q⟩
 .obtain⟨u,rfl,r1⟩:=vals1 r
  cases r1
  exact call_int_bool ⟨.int (if k then 1 else 0),H,I.tok _,⟨_,rfl⟩,q⟩
theorem qDd:CallR X (.type "str") (fun xs H Q=>∃i,xs=[.int i]/\i.natAbs.log2<1920/\Q (.str (toString i)) H):=by
 intro zy s σ H xs us Q I r h
 obtain⟨i,rfl,hz,q⟩:=h
 obtain⟨u,rfl,t,rfl⟩:=vals1 r
 exact PySem.P.str_of_int hz ⟨.str _,H,I.tok _,⟨_,rfl⟩,q⟩
end
end L2
namespace L2
open PySem PySem.Spec PyProof.Rows
structure ObjM (h:Heap)(x dx C:Addr)(mA:Str->Option Value):Prop where
 obj:h.get? x=some (PySem.W.instObj C dx)
 ns:h.Ns1 dx mA
 ne:dx≠x
theorem qSq {h:Heap}{dx:Addr}{mA:Str->Option Value}(n:h.Ns1 dx mA):∃od,h.get? dx=some od/\∀name,PySem.W.lookIn name od=some (mA name):=by
 obtain⟨o,es,ep,ho,hd,hk,_,hm⟩:=n
 refine⟨o,ho,fun name=>?_⟩
 have e:=hm name
 unfold nsFind findBy at e
 rw[<- Array.find?_toList] at e
 unfold PySem.W.lookIn
 rw[hd]
 dsimp only
 split
 .rename_i y q
  rw[q] at e
  exact congrArg some e
 .rename_i q
  rw[q] at e
  have a:es.toList.any (·.refKey)=false:=by
   rw[List.any_eq_false]
   intro y hy
   obtain⟨z,t,hkey⟩:=hk y (Array.mem_toList_iff.mp hy)
   simp[DictEntry.refKey,hkey]
  have a':¬es.toList.any (·.refKey)=true:=by rw[a];exact yZJ
  rw[if_neg a']
  exact congrArg some e
theorem ObjM.look {h:Heap}{x dx C:Addr}{mA:Str->Option Value}(I:ObjM h x dx C mA):∃od,PySem.W.InstAt h x (PySem.W.instObj C dx) C (some od)/\∀name,PySem.W.lookIn name od=some (mA name):=
 let ⟨od,ho,hl⟩:=qSq I.ns
 ⟨od,⟨I.obj,rfl,rfl,ho⟩,hl⟩
section
variable {prog:Program}{w:World}{A:Around}{E:Value->Shared->Prop}{s:Shared}{K:yZN}{x dx C f:Addr}{mA:Str->Option Value}{name:Str}{v:Value}
end
theorem RelO.some_of {v:V}{o:Option Value}(r:RelO (some v) o):∃u,o=some u/\RelV v u:=by
 cases o with
 | none=>exact(show False from r).elim
 | some u=>exact⟨u,rfl,r⟩
section
variable {P:Program}{w:World}{H H':Hp}{h h':Heap}{a C dx:Addr}{fs fs':List (Str×V)}
theorem xWk (hok:HOk P w H h)(e:H a=some (.ins C dx fs)):∃mA,ObjM h a dx C mA/\(∀f,RelO (fs.lookup f) (mA f))/\PySem.Within mA (fs.map (·.1))/\fs.length<=1000/\H dx=some (.own a):=by
 obtain⟨d,z,ne,ob,mA,n,r,q⟩:=(show ObjOk P w H h a (.ins C dx fs) from hok a _ e)
 exact⟨mA,⟨ob,n,ne⟩,r,q,z,d⟩
end
structure Cls (K:yZN)(C:Addr):Prop where
 pg:PySem.W.plainGet K C Str.empty=true
 hd:PySem.W.hasDictIn K C=true
 po:PySem.W.plainOver K C=true
 sa:PySem.W.findIn K (.ref C) "__setattr__" = some (some (.builtin "object.__setattr__"))
theorem Cls.get {K:yZN}{C:Addr}(c:Cls K C)(f:Str):PySem.W.plainGet K C f=true:=c.pg
section
variable {X:Cx}{zy:List (Addr×Obj)}{σ:St}{H:Hp}{s:Shared}{a C dx:Addr}{fs:List (Str×V)}{f:Str}{v:V}{A:Around}{E:Value->Shared->Prop}
end
section
variable {X:Cx}{zy:List (Addr×Obj)}{σ:St}{H:Hp}{s:Shared}{A:Around}{E:Value->Shared->Prop}{Q:Value->Shared->Prop}{c:Value}{b:Bool}
inductive TyOf (K:yZN)(H:Hp):V->Value->Prop where
 | non:TyOf K H .non (.type "NoneType")
 | bl (x:Bool):TyOf K H (.bl x) (.type "bool")
 | int (i:Int):TyOf K H (.int i) (.type "int")
 | str (x:Str):TyOf K H (.str x) (.type "str")
 | flt (x:UInt64):TyOf K H (.flt x) (.type "float")
 | lst {a:Addr} {xs:List V} (e:H a=some (.lst xs)):TyOf K H (.ref a) (.type "list")
 | frz {a:Addr} {o:Obj} {xs:List V} (e:H a=some (.frz o (.lst xs))):TyOf K H (.ref a) (.type "list")
 | tup {a:Addr} {xs:List V} (e:H a=some (.tup xs)):TyOf K H (.ref a) (.type "tuple")
 | dK {a:Addr} {kvs:List (Key×V)} (e:H a=some (.dK kvs)):TyOf K H (.ref a) (.type "dict")
 | dT {a:Addr} {kvs:List (List Key×V)} (e:H a=some (.dT kvs)):TyOf K H (.ref a) (.type "dict")
 | ins {a C dx:Addr} {fs:List (Str×V)} (e:H a=some (.ins C dx fs)) (cl:Cls K C) (ha:PySem.W.findIn K (.ref C) "__class__" = some (some (.builtin "object.__class__")))
   (hn:PySem.W.specialIn K (.builtin "object.__class__") "__get__" = some (some (.builtin "getset_descriptor.__get__"))) (htk:PySem.W.takesIn K (.builtin "object.__class__")=some true)
   (hm:PySem.W.mroIn K C (.type "object")=some true):TyOf K H (.ref a) (.ref C)
theorem qSg {x:V}{u t:Value}(I:Inv X zy σ H s)(rx:RelV x u)(ty:TyOf X.K H x t)(e:PySem.W.kitOne X.K t c=some b)(h:∀tk,Q (.bool b) { s with toks:=tk }):
  wpAny (model X.prog X.w) A (call (.builtin "isinstance") [u,c]) Q E s:=by
 cases ty with
 | non=>cases(show u=Value.none from rx);exact Y6 PySem.W.kitx_none I.kIn True.intro e (fun z=>nomatch z) h
 | bl y=>cases(show u=Value.bool y from rx);exact Y6 PySem.W.kitx_bool I.kIn True.intro e (fun z=>nomatch z) h
 | int i=>obtain⟨t,q⟩:=(show∃t,u=Value.int i t from rx);cases q;exact Y6 PySem.W.kitx_int I.kIn True.intro e (fun z=>nomatch z) h
 | str y=>obtain⟨t,q⟩:=(show∃t,u=Value.str y t from rx);cases q;exact Y6 PySem.W.kitx_str I.kIn True.intro e (fun z=>nomatch z) h
 | flt y=>obtain⟨t,q⟩:=(show∃t,u=Value.float y t from rx);cases q;exact Y6 PySem.W.kitx_float I.kIn True.intro e (fun z=>nomatch z) h
 | @lst a xs ea=>
  cases(show u=Value.ref a from rx)
  obtain⟨_,_,n,_,h1⟩:=(show ObjOk X.prog X.w H s.heap a (.lst xs) from I.hok a _ ea)
  exact Y6 PySem.W.kitx_list I.kIn ⟨_,h1,rfl⟩ e (fun z=>nomatch z) h
 | @frz a ob xs ea=>
  cases(show u=Value.ref a from rx)
  obtain⟨_,_,_,n,_,h1⟩:=(show ObjOk X.prog X.w H s.heap a (.frz ob (.lst xs)) from I.hok a _ ea)
  exact Y6 PySem.W.kitx_list I.kIn ⟨_,h1,rfl⟩ e (fun z=>nomatch z) h
 | @tup a xs ea=>
  cases(show u=Value.ref a from rx)
  obtain⟨_,_,_,p⟩:=(show ObjOk X.prog X.w H s.heap a (.tup xs) from I.hok a _ ea)
  obtain⟨o,h1,h2,_⟩:=p
  exact Y6 PySem.W.kitx_tuple I.kIn ⟨o,h1,h2⟩ e (fun z=>nomatch z) h
 | @dK a kvs ea=>
  cases(show u=Value.ref a from rx)
  obtain⟨_,_,vs,_,p⟩:=(show ObjOk X.prog X.w H s.heap a (.dK kvs) from I.hok a _ ea)
  obtain⟨o,es,ep,h1,h2,_⟩:=p
  exact Y6 PySem.W.kitx_dict I.kIn ⟨o,h1,h2.1⟩ e (fun z=>nomatch z) h
 | @dT a kvs ea=>
  cases(show u=Value.ref a from rx)
  obtain⟨_,_,xs,_,o,es,ep,h1,h2,_⟩:=(show ObjOk X.prog X.w H s.heap a (.dT kvs) from I.hok a _ ea)
  exact Y6 PySem.W.kitx_dict I.kIn ⟨o,h1,h2.1⟩ e (fun z=>nomatch z) h
 | @ins a C dx fs ea cl ha hn htk hm=>
  cases(show u=Value.ref a from rx)
  obtain⟨mA,O,_⟩:=xWk I.hok ea
  obtain⟨od,J,_⟩:=O.look
  exact Y6 (PySem.W.kitx_own (cl.get _) cl.hd ha hn htk hm) I.kIn J e (fun z=>nomatch z) h
end
end L2
namespace L2
open PySem PySem.Spec PyProof.Rows
structure Room (k:Nat)(A:Around):Prop where
 hd:A.handled=none
 dp:A.depth+3 * k+5<recursionLimit
 un:A.units+16 * k+200<cLine
theorem Room.mono {j k:Nat}{A:Around}(r:Room k A)(h:j<=k):Room j A:=⟨r.hd,by have:=r.dp;omega,by have:=r.un;omega⟩
theorem Room.deeper {k:Nat}{A:Around}(r:Room (k+1) A)(env:Env):Room k (A.deeper env):=
 ⟨r.hd,by have:=r.dp;show A.depth+1+3 * k+5<_;omega,by have:=r.un;show A.units+3+16 * k+200<_;omega⟩
theorem Room.depth {k:Nat}{A:Around}(r:Room k A):A.depth<recursionLimit:=by have:=r.dp;omega
theorem Room.units {k:Nat}{A:Around}(r:Room k A):A.units+64<cLine:=by have:=r.un;omega
def tNil:TA:=fun _ H Q=>Q [] H
def tCons (ta:TE)(tr:TA):TA:=fun σ H Q=>ta σ H fun x H1=>tr σ H1 fun xs H2=>Q (x::xs) H2
section
variable {X:Cx}{e:Expr}{es:List Expr}{te:TE}{t:TA}{pos:Pos}
theorem qX:PA X [] tNil:=fun _ _ _ _ H Q I h=>Calls.spliced_nil ⟨[],H,I,.nil,h⟩
theorem qQ (ha:PE X e te)(hr:PA X es t)(hs:starEach (e::es) X.env=(false,eval e X.env)::starEach es X.env:=by rfl):PA X (e::es) (tCons te t):=by
 intro pos zy s σ H Q I h
 rw[hs]
 show wpAny _ _ (spliced ((false,eval e X.env)::backTo pos (starEach es X.env))) _ _ s
 refine Calls.spliced_cons (thn (ha zy s σ H _ I h) fun u s1 ⟨x,H1,I1,r1,q1⟩=>?_)
 exact thn (hr pos zy s1 σ H1 _ I1 q1) fun us s2 ⟨xs,H2,I2,r2,q2⟩=>⟨x::xs,H2,I2,.cons r1 r2,q2⟩
def tTup (t:TA):TE:=fun σ H Q=>t σ H fun xs H1=>xs.length<=Yc/\∀p,H1 p=none->Q (.ref p) (upd H1 p (.tup xs))
def tLst (t:TA):TE:=fun σ H Q=>t σ H fun xs H1=>xs.length<=Yc/\∀p,H1 p=none->Q (.ref p) (upd H1 p (.lst xs))
theorem xN {x1}(h:PA X es t):PE X (.Tuple es x1 pos) (tTup t):=by
 intro zy s σ H Q I hq
 refine wpAny_Tuple_spliced (thn (h pos zy s σ H _ I hq) fun us s1 ⟨xs,H1,I1,r,z,q⟩=>⟨by rw[<- r.length];exact z,?_⟩)
 have hf:H1 s1.heap.objs.size=none:=I1.hok.fresh (yZB _)
 refine⟨.ref s1.heap.objs.size,upd H1 s1.heap.objs.size (.tup xs),I1.laid (t':=s1.toks) (fun b u e=>yYX _ e) (yZB _) ?_,rfl,q _ hf⟩
 exact⟨z,us,r,⟨_,yYZ _ rfl,rfl,_,rfl,rfl⟩⟩
theorem xU (h:PA X es t):PE X (.List es pos) (tLst t):=by
 intro zy s σ H Q I hq
 refine wpAny_List_spliced (thn (h pos zy s σ H _ I hq) fun us s1 ⟨xs,H1,I1,r,z,q⟩=>⟨by rw[<- r.length];exact z,?_⟩)
 have hf:H1 s1.heap.objs.size=none:=I1.hok.fresh (yZB _)
 refine⟨.ref s1.heap.objs.size,upd H1 s1.heap.objs.size (.lst xs),I1.laid (t':=s1.toks) (fun b u e=>yYX _ e) (yZB _) ?_,rfl,q _ hf⟩
 exact⟨z,us,0,r,yYZ _ rfl⟩
end
abbrev Sp:=List V->Hp->VK->XK->Prop
abbrev CXT:=List Env->Hp->Shared->XK->Value->Shared->Prop
structure Env0 (P:Program)(w:World)(K:yZN)(mg:Str->Option Value)(base:Heap)(A:Around)(outer:List Env)(s:Shared)(H:Hp):Prop where
 frames:A.frames=some outer
 mod:Mod K mg base
 bs:∀b o,base.get? b=some o->s.heap.get? b=some o/\NoT (H b)
 bsz:base.objs.size<=s.heap.objs.size
 funs:s.heap.FunFrames base outer
 frf:∀b∈frs outer,H b=none
 hok:HOk P w H s.heap
 bare:AllBare s.gens
def CE (outer:List Env)(P:Program)(w:World)(H:Hp)(s:Shared)(Q:VK)(u:Value)(s':Shared):Prop:=
 ∃v H',s'.os=s.os/\AllBare s'.gens/\Un (frs outer) [] H H' s.heap s'.heap/\HOk P w H' s'.heap/\RelV v u/\Q v H'
def CR (CX:CXT)(outer:List Env)(P:Program)(w:World)(H:Hp)(s:Shared)(Q:VK)(E:XK)(r:Result)(s':Shared):Prop:=
 match r with
 | .ok (.ret u)=>CE outer P w H s Q u s'
 | .ok _=>False
 | .error e=>CX outer H s E e s'
structure FnOk (P:Program)(w:World)(K:yZN)(mg:Str->Option Value)(base:Heap)(CX:CXT)(k:Nat)(f:Addr)(fd:FuncData)(ps:List Str)(sp:Sp):Prop where
 len:∀vs H Q E,sp vs H Q E->vs.length=ps.length
 run:∀(A:Around) (outer:List Env) (s:Shared) (H:Hp) (args:Args) (us:List Value) (vs:List V) (Q:VK) (E:XK),Room k A->Env0 P w K mg base A outer s H->BindsTo s fd args (ps.zip us)->Vals vs us->sp vs H Q E->
  codeAny (model P w) A (.call (.ref f) args) (CR CX outer P w H s Q E) s
theorem FnOk.mono {P:Program}{w:World}{K:yZN}{mg:Str->Option Value}{base:Heap}{CX:CXT}{j k:Nat}{f:Addr}{fd:FuncData}{ps:List Str}{sp:Sp}(F:FnOk P w K mg base CX j f fd ps sp)(h:j<=k):
  FnOk P w K mg base CX k f fd ps sp:=⟨F.len,fun A outer s H args us vs Q E hr=>F.run A outer s H args us vs Q E (hr.mono h)⟩
section
variable {X:Cx}{zy:List (Addr×Obj)}{σ:St}{H:Hp}{s s':Shared}
theorem Inv.env0 (I:Inv X zy σ H s):Env0 X.prog X.w X.K X.mg X.base X.A X.stack s H:=
 ⟨I.ok.frames,I.ok.mod,I.bs,yZH I.ok.bsz I.sz,I.stack,I.stkFree,I.hok,I.bare⟩
theorem Inv.after {Q:VK}{u:Value}(I:Inv X zy σ H s)(h:CE X.stack X.prog X.w H s Q u s'):EP X zy σ Q u s':=by
 obtain⟨v,H',os,bare,un,hok,r,q⟩:=h
 obtain⟨hh,g,d,t,os'⟩:=s'
 obtain rfl:os'=s.os:=os
 exact⟨v,H',I.call (h':=hh) (g':=g) (d':=d) (t':=t) (ch:=[]) un hok bare (fun b z=>absurd z (by simp)),r,q⟩
end
def tCall (sp:Sp)(dvs:List V)(E:XK)(t:TA):TE:=fun σ H Q=>t σ H fun vs H1=>sp (vs++dvs) H1 Q E
def Binds (K:yZN)(fd:FuncData)(ps:List Str)(ds:List Value):Prop:=
 ∀(s:Shared) (us:List Value),K.In s.heap->(us++ds).length=ps.length->BindsTo s fd ⟨us,[]⟩ (ps.zip (us++ds))
theorem Binds.all {K:yZN}{fd:FuncData}{ps:List Str}(h:∀us:List Value,us.length=ps.length->bindArgs fd ⟨us,[]⟩=pure (ps.zip us)):Binds K fd ps []:=fun s us _ hl=>by
 rw[Yr] at hl ⊢
 exact .of_eq (h us hl)
def Passes (CX:CXT)(X:Cx)(E:XK):Prop:=∀(zy:List (Addr×Obj)) (σ:St) (H:Hp) (s:Shared) (e:Value) (s':Shared),Inv X zy σ H s->CX X.stack H s E e s'->X.xe e s'
section
variable {X:Cx}{CX:CXT}{k:Nat}{f C:Addr}{fd:FuncData}{ps:List Str}{sp:Sp}{dvs:List V}{ds:List Value}{E:XK}{x m:Str}{p pos apos:Pos}{e o:Expr}{es:List Expr}{ta:TE}{t:TA}
theorem xBc {zy:List (Addr×Obj)}{σ:St}{H:Hp}{s:Shared}{Q:VK}{us:List Value}{vs:List V}(F:FnOk X.prog X.w X.K X.mg X.base CX k f fd ps sp)(hr:Room k X.A)(hb:Binds X.K fd ps ds)(hd:Vals dvs ds)(hx:Passes CX X E)
  (I:Inv X zy σ H s) (r:Vals vs us) (h:sp (vs++dvs) H Q E):wpAny (model X.prog X.w) X.A (call (.ref f) us) (EP X zy σ Q) X.xe s:=by
 have r2:Vals (vs++dvs) (us++ds):=r.append hd
 have hl:(us++ds).length=ps.length:=by rw[<- r2.length];exact F.len _ _ _ _ h
 refine wpAny_call (codeAny_mono (F.run X.A X.stack s H ⟨us,[]⟩ (us++ds) (vs++dvs) Q E hr I.env0 (hb s us I.kIn hl) r2 h) fun r s' hq=>?_)
 cases r with
 | error e=>exact hx zy σ H s e s' I hq
 | ok fl=>
  cases fl with
  | ret u=>exact I.after hq
  | next=>exact False.elim hq
  | brk=>exact False.elim hq
  | cont=>exact False.elim hq
theorem zU (F:FnOk X.prog X.w X.K X.mg X.base CX k f fd ps sp)(hr:Room k X.A)(hg:Gl X x)(hm:X.mg x=some (.ref f))(hk:PySem.W.keepIn X.K (.ref f)=true)(hb:Binds X.K fd ps ds)(hd:Vals dvs ds)(hx:Passes CX X E)
  (ha:PA X (e::es) t) (hdb:(x == ("__debug__" : Str))=false:=by decide) (he:starEach (e::es) X.env=(false,eval e X.env)::starEach es X.env:=by rfl) (hpl:(backTo pos (starEach es X.env)).any (·.1)=false:=by rfl):
  PE X (.Call (.Name x p) (e::es) [] pos) (tCall sp dvs E t):=by
 intro zy s σ H Q I h
 refine wpAny_Call_Name_kw (qSj I hg hm ?_ hdb)
 refine PySem.W.callWith_K (h₀:=X.base) I.ok.mod.kin hk (thn (ha pos zy s σ H _ I h) fun us s1 ⟨vs,H1,I1,r,q⟩=>⟨I1.kIn,?_⟩) he hpl
 exact xBc F hr hb hd hx I1 r q
end
structure xM (N P:List Str)(sc:Scope):Prop where
 kind:sc.kind=.function
 co:sc.isCoroutine=false
 gen:sc.isGenerator=false
 nd:N.Nodup
 pre:N.take P.length=P
 par:∀x∈P,sc.names.lookup x=some .local\/sc.names.lookup x=some .cell
 nofree:∀y∈sc.names,y.2≠.free
theorem qDn {kindOf:Str->Option NameKind}{x:Str}:∀{binds:List (Str×Value)} {m:Str->Option Value},(∀v,(x,v)∉binds)->bindL kindOf binds m x=m x
 | [],_,_=>rfl
 | (n,v)::r,m,h=>by
  unfold bindL
  rw[qDn fun w hw=>h w (yYH _ hw)]
  split
  .have:x≠n:=by rintro rfl;exact h v yYG
   simp[this]
  .rfl
theorem qEq {kindOf:Str->Option NameKind}{x:Str}:∀{binds:List (Str×Value)} {m:Str->Option Value},(∀v,(x,v)∉binds)->bindC kindOf binds m x=m x
 | [],_,_=>rfl
 | (n,v)::r,m,h=>by
  unfold bindC
  rw[qEq fun w hw=>h w (yYH _ hw)]
  split
  .rfl
  .have:x≠n:=by rintro rfl;exact h v yYG
   simp[this]
theorem qDo {kindOf:Str->Option NameKind}{x:Str}{v:Value}:∀{P:List Str} {vs:List Value} {i:Nat} {m:Str->Option Value},P.Nodup->P[i]? = some x->vs[i]? = some v->kindOf x=some .local->
  bindL kindOf (P.zip vs) m x=some v
 | [],_,_,_,_,h,_,_=>by simp at h
 | _::_,[],_,_,_,_,h,_=>by simp at h
 | p::P,w::vs,0,m,nd,h1,h2,hk=>by
  simp at h1 h2;subst h1;subst h2
  show bindL kindOf ((p,w)::P.zip vs) m p=_
  unfold bindL
  rw[qDn fun v hv=>(List.nodup_cons.mp nd).1 (List.of_mem_zip hv).1,if_pos hk]
  simp
 | p::P,w::vs,i+1,m,nd,h1,h2,hk=>by
  show bindL kindOf ((p,w)::P.zip vs) m x=_
  unfold bindL
  exact qDo (i:=i) (List.nodup_cons.mp nd).2 (by simpa using h1) (by simpa using h2) hk
theorem qEx {kindOf:Str->Option NameKind}{x:Str}{v:Value}:∀{P:List Str} {vs:List Value} {i:Nat} {m:Str->Option Value},P.Nodup->P[i]? = some x->vs[i]? = some v->kindOf x≠some .local->
  bindC kindOf (P.zip vs) m x=some v
 | [],_,_,_,_,h,_,_=>by simp at h
 | _::_,[],_,_,_,_,h,_=>by simp at h
 | p::P,w::vs,0,m,nd,h1,h2,hk=>by
  simp at h1 h2;subst h1;subst h2
  show bindC kindOf ((p,w)::P.zip vs) m p=_
  unfold bindC
  rw[qEq fun v hv=>(List.nodup_cons.mp nd).1 (List.of_mem_zip hv).1,if_neg hk]
  simp
 | p::P,w::vs,i+1,m,nd,h1,h2,hk=>by
  show bindC kindOf ((p,w)::P.zip vs) m x=_
  unfold bindC
  exact qEx (i:=i) (List.nodup_cons.mp nd).2 (by simpa using h1) (by simpa using h2) hk
def start (N:List Str)(vs:List V):St:=vs.map some++Yg (N.length - vs.length) none
def cxOf (CX:CXT)(P:Program)(w:World)(K:yZN)(mg:Str->Option Value)(base:Heap)(N:List Str)(qual:Str)(scope:Scope)(f:Addr)(cd:Value)(A:Around)(outer:List Env)(s:Shared)(H:Hp)(E:XK):Cx where
 prog:=P
 w:=w
 K:=K
 mg:=mg
 base:=base
 A:=A.deeper (envOfC qual scope s.heap.objs.size f cd)
 N:=N
 s₀:=s
 H₀:=H
 env:=envOfC qual scope s.heap.objs.size f cd
 outer:=outer
 stack:=envOfC qual scope s.heap.objs.size f cd::outer
 ex:=[]
 calm:=true
 fn:=fun _=>true
 pn:=[]
 xe:=fun e s'=>wpAny (model P w) (A.deeper (envOfC qual scope s.heap.objs.size f cd)) (leaving (envOfC qual scope s.heap.objs.size f cd) e) (fun _ s''=>CX outer H s E e s'') (fun e' s''=>CX outer H s E e' s'') s'
theorem qIc {sc:Scope}{n:Nat}{x:Str}(h:sc.names.lookup x=some .cell):∃c,(cellsFrom n sc.names []).lookup x=some c:=by
 have q:=PySem.W.cellsFrom_some sc.names n [] (.inl h)
 exact Option.isSome_iff_exists.mp q
theorem qSh {CX:CXT}{P:Program}{w:World}{K:yZN}{mg:Str->Option Value}{base:Heap}{N ps:List Str}{qual:Str}{scope:Scope}{f:Addr}{cd:Value}{A:Around}{outer:List Env}{s s1:Shared}{H:Hp}{E:XK}{us:List Value}{vs:List V}
  (S:xM N ps scope) (hd:A.handled=none) (e0:Env0 P w K mg base A outer s H) (hl:vs.length=ps.length) (r:Vals vs us)
  (x:InCallC s s.heap.objs.size (bindL (envOfC qual scope s.heap.objs.size f cd).kindOf (ps.zip us) fun _=>none) (cellsFrom (s.heap.objs.size+1) scope.names []) (bindC (envOfC qual scope s.heap.objs.size f cd).kindOf (ps.zip us) fun _=>none) s1):
  Inv (cxOf CX P w K mg base N qual scope f cd A outer s H E) [] (start N vs) H s1:=by
 have hpl:ps.length<=N.length:=by have:=congrArg List.length S.pre;rw[yYF] at this;omega
 obtain⟨h1,tk,rfl,hk⟩:=x.done
 have noA:∀b:Addr,b∉(cxOf CX P w K mg base N qual scope f cd A outer s H E).ex:=fun b z=>absurd (show b∈([]:List Addr) from z) (by simp)
 refine⟨⟨e0.mod,S.kind,rfl,rfl,yZB _,fun y z c h1 h2=>?_,fun y hy=>?_,fun y c _ h=>?_,fun _=>hd,Around.frames_deeper e0.frames,.inr ⟨rfl,rfl⟩,fun b z=>absurd z (noA b),e0.bs,e0.bsz,fun b _ _=>noA b,fun b z=>absurd z (noA b),e0.funs,e0.frf⟩,
  rfl,e0.bare,Un.kept hk,⟨_,x.toInCall.ns,fun i y v h1 h2 h3=>?_⟩,fun y c h=>⟨_,x.cell y c h⟩,e0.hok.fresh (yZB _),fun y c h=>?_,fun p hp=>absurd (show p∈([]:List (Addr×Obj)) from hp) (by simp),e0.hok.kept hk,?_⟩
 .exact name_of_addr x.apart (PySem.mem_of_lookup h1) (PySem.mem_of_lookup h2)
 .have hy:scope.names.lookup y=some .cell\/scope.names.lookup y=some .free:=hy
  rcases hy with hy | hy
  .exact qIc hy
  .exact absurd rfl (S.nofree _ (PySem.mem_of_lookup hy))
 .exact Nat.le_of_lt (x.above y c (PySem.mem_of_lookup h))
 .have hi:i<vs.length:=by
   unfold start at h2
   by_cases hi:i<vs.length
   .exact hi
   .rw[Yj (by simpa using hi)] at h2
    rw[List.getElem?_replicate] at h2
    split at h2 <;> cases h2
  have ha:vs[i]? = some v:=by
   unfold start at h2
   rw[Ys (by simpa using hi),yYO] at h2
   cases e:vs[i]? with
   | none=>rw[e] at h2;cases h2
   | some a=>rw[e] at h2;cases h2;rfl
  obtain⟨u,hu,rv⟩:=r.get ha
  have hp:ps[i]? = some y:=by
   rw[<- S.pre,List.getElem?_take_of_lt (by omega)];exact h1
  have ndP:ps.Nodup:=by rw[<- S.pre];exact S.nd.sublist (Yw _ _)
  refine⟨u,rv,?_⟩
  rcases S.par y (yYE hp) with k | k
  .exact .inl ⟨k,qDo ndP hp hu k⟩
  .obtain⟨c,e⟩:=qIc (n:=s.heap.objs.size+1) k
   refine .inr ⟨.inl k,c,e,?_⟩
   have q:=x.cell y c e
   rw[qEx ndP hp hu (by show scope.names.lookup y≠_;rw[k];decide)] at q
   exact q
 .exact e0.hok.fresh (Nat.le_of_lt (x.above y c (PySem.mem_of_lookup h)))
 .unfold start
  show _=N.length
  rw[yYI,yYC,Yk]
  omega
theorem xFv {CX:CXT}{P:Program}{w:World}{K:yZN}{mg:Str->Option Value}{base:Heap}{k:Nat}{f:Addr}{name qual:Str}{params:Arguments}{body:List Stmt}{scope:Scope}{dV kV doc pm zx ct oc:Value}{an od:Option Addr}
  {osl:Array (Option Value)} {N ps:List Str} {sp:Sp} (lk:K.lookup f=some ⟨oc,od,.func (Y7 name qual params body scope dV kV doc pm an zx ct),osl⟩) (hcd:PySem.W.codeIn K zx qual=true) (S:xM N ps scope)
  (len:∀vs H Q E,sp vs H Q E->vs.length=ps.length)
  (hbody:∀(A:Around) (outer:List Env) (s:Shared) (H:Hp) (vs:List V) (Q:VK) (E:XK),Room k (A.deeper (envOfC qual scope s.heap.objs.size f zx))->sp vs H Q E->
   ∃t,PSs (cxOf CX P w K mg base N qual scope f zx A outer s H E) body t/\t { nx:=fun _ H'=>Q .non H',rt:=Q } (start N vs) H):
  FnOk P w K mg base CX (k+1) f (Y7 name qual params body scope dV kV doc pm an zx ct) ps sp:=by
 refine⟨len,fun A outer s H args us vs Q E hr e0 hb r hsp=>?_⟩
 have hl:=len _ _ _ _ hsp
 have KX:K.In s.heap:=e0.mod.kin.keeps fun b o e=>(e0.bs b o e).1
 have lim:s.heap.NoLimit:=e0.mod.nolimit.keeps fun b o e=>(e0.bs b o e).1
 have hkind:∀y∈ps.zip us,scope.names.lookup y.1=some .local\/(scope.names.lookup y.1=some .cell/\((cellsFrom (s.heap.objs.size+1) scope.names []).lookup y.1).isSome=true):=fun⟨n,v⟩ hy=>by
  rcases S.par n (List.of_mem_zip hy).1 with q | q
  .exact .inl q
  .exact .inr ⟨q,PySem.W.cellsFrom_some _ _ _ (.inl q)⟩
 refine codeAny_call_function hr.depth (KX _ _ lk) rfl S.co S.gen rfl (PySem.W.codeRec_of KX hcd) (hb _ _ _ _ ?_)
 refine wpAny_newFunctionEnv_cells S.kind hkind fun env he s1 x=>?_
 subst he
 refine⟨lim.keeps x.toInCall.keep,codeAny_func ?_⟩
 obtain⟨t,ht,hq⟩:=hbody A outer s H vs Q E (hr.deeper _) hsp
 have I:Inv (cxOf CX P w K mg base N qual scope f zx A outer s H E) [] (start N vs) H s1:=qSh S hr.hd e0 hl r x
 refine wpAny_mono (ht [] s1 (start N vs) H _ I hq) (fun fl s' hs=>?_) fun e s' hs=>hs
 have fin:∀{σ':St} {H':Hp} {v:V} {u:Value},Inv (cxOf CX P w K mg base N qual scope f zx A outer s H E) [] σ' H' s'->RelV v u->Q v H'->CE outer P w H s Q u s':=
  fun{σ' H' v u} J rv q=>⟨v,H',J.os,J.bare,J.base,J.hok,rv,q⟩
 cases fl with
 | ret u=>
  obtain⟨v,σ',H',J,rv,q⟩:=hs
  exact fin J rv q
 | next=>
  obtain⟨σ',H',J,q⟩:=hs
  exact fin (v:=V.non) (u:=Value.none) J rfl q
 | brk=>
  obtain⟨_,_,_,q⟩:=hs
  exact False.elim q
 | cont=>
  obtain⟨_,_,_,q⟩:=hs
  exact False.elim q
end L2
namespace L2
open PySem PySem.Spec PyProof.Rows
section
variable {X:Cx}{x:Str}{p pos:Pos}{e:Expr}{es:List Expr}{t:TA}{id T:String}{r:List V->Hp->VK->Prop}
def tCB (r:List V->Hp->VK->Prop)(t:TA):TE:=fun σ H Q=>t σ H fun vs H1=>r vs H1 Q
theorem xZ (hc:CallR X (.builtin id) r)(hg:Gl X x)(hm:X.mg x=none)(hv:bootBuiltins x=some (.builtin id))(ha:PA X (e::es) t)(hn:x ≠ "__name__" := by decide)(hdb:(x == ("__debug__" : Str))=false:=by decide)
  (he:starEach (e::es) X.env=(false,eval e X.env)::starEach es X.env:=by rfl) (hpl:(backTo pos (starEach es X.env)).any (·.1)=false:=by rfl):PE X (.Call (.Name x p) (e::es) [] pos) (tCB r t):=by
 intro zy s σ H Q I h
 refine wpAny_Call_Name_kw (qKv I hg hm hv ?_ hn hdb)
 exact PyProof.Rows.callWith_builtin1 (thn (ha pos zy s σ H _ I h) fun us s1 ⟨vs,H1,I1,r1,q1⟩=>hc zy s1 σ H1 vs us Q I1 r1 q1) he hpl
theorem xX (hc:CallR X (.type T) r)(hg:Gl X x)(hm:X.mg x=none)(hv:bootBuiltins x=some (.type T))(ha:PA X (e::es) t)(hn:x ≠ "__name__" := by decide)(hdb:(x == ("__debug__" : Str))=false:=by decide)
  (he:starEach (e::es) X.env=(false,eval e X.env)::starEach es X.env:=by rfl) (hpl:(backTo pos (starEach es X.env)).any (·.1)=false:=by rfl):PE X (.Call (.Name x p) (e::es) [] pos) (tCB r t):=by
 intro zy s σ H Q I h
 refine wpAny_Call_Name_kw (qKv I hg hm hv ?_ hn hdb)
 exact PyProof.Rows.callWith_type1 (thn (ha pos zy s σ H _ I h) fun us s1 ⟨vs,H1,I1,r1,q1⟩=>hc zy s1 σ H1 vs us Q I1 r1 q1) he hpl
end
end L2
namespace HT
open PySem PyProof.Rows
section
open PySem.SeqAt
open PySem.AutoSeq1 (wpAny_loadPart')
open PySem.MeetsSeq PySem.MeetsSeq2 PySem.MeetsSeq3
end
section
variable {prog:Program}{w:World}{A:Around}{E:Value->Shared->Prop}{s:Shared}
theorem cat_tup {t b:Addr}{vs ws:List Value}{Q:Value->Shared->Prop}(ht:IsTup s.heap t vs.toArray)(hb:IsTup s.heap b ws.toArray)(hv:vs≠[])
  (h1:ws=[]->Q (.ref t) s) (h2:ws≠[]->Q (.ref s.heap.objs.size) { s with heap:=s.heap.push { cls:=.type "tuple",data:=.seq (vs++ws).toArray } })
  (hsz:vs.length+ws.length<=Yc):wpAny (model prog w) A (binaryOp .Add (.ref t) (.ref b)) Q E s:=by
 obtain⟨⟨cls,dd,data,sl⟩,ho,hc,n,hd⟩:=id ht
 obtain⟨⟨cls2,dd2,data2,sl2⟩,ho2,hc2,n2,hd2⟩:=id hb
 simp only at hc hd hc2 hd2
 subst hc hd hc2 hd2
 have e:vs.toArray++ws.toArray=(vs++ws).toArray:=by simp
 by_cases hw:ws=[]
 .exact concat_meets ⟨_,ho,rfl⟩ ⟨_,ho2,rfl⟩ noFill_tuple_add seq_tuple_add PySem.F.slot_tuple_add PySem.F.entry_tuple_add (PySem.F.args_tuple_add_2 _ _)
   (tuple_addW1 t b vs.toArray ws.toArray n n2 dd dd2 sl sl2 (by simpa using hv) (by simp[hw])) ⟨ho,ho2,h1 hw⟩
 .refine concat_meets ⟨_,ho,rfl⟩ ⟨_,ho2,rfl⟩ noFill_tuple_add seq_tuple_add PySem.F.slot_tuple_add PySem.F.entry_tuple_add (PySem.F.args_tuple_add_2 _ _)
   (tuple_addW2 t b vs.toArray ws.toArray n n2 dd dd2 sl sl2 (by simpa using hv) (by simpa using hw) (by rw[yYD,yYD];exact hsz)) ⟨ho,ho2,?_⟩
  rw[e]
  exact h2 hw
def sIx (n d:Nat):Option Int->Nat
 | none=>d
 | some v=>if v<0 then (v+(n:Int)).toNat else min v.toNat n
theorem sIx_none (n d:Nat):sIx n d none=d:=rfl
theorem sIx_nat (n d k:Nat):sIx n d (some (k:Int))=min k n:=by
 show(if (k:Int)<0 then ((k:Int)+(n:Int)).toNat else min (k:Int).toNat n)=min k n
 rw[if_neg (by omega),Int.toNat_natCast]
theorem xBb (n d:Nat)(hd:d<=n)(o:Option Int):sIx n d o<=n:=by
 cases o with
 | none=>exact hd
 | some v=>
  show(if v<0 then (v+(n:Int)).toNat else min v.toNat n)<=n
  by_cases hv:v<0
  .rw[if_pos hv];omega
  .rw[if_neg hv];exact Nat.min_le_right _ _
theorem qUj (v:Int)(n d:Nat):(if v<0 then max (v+(n:Int)) 0 else min v (n:Int))=((sIx n d (some v):Nat):Int):=by
 show(if v<0 then max (v+(n:Int)) 0 else min v (n:Int))=(((if v<0 then (v+(n:Int)).toNat else min v.toNat n):Nat):Int)
 by_cases hv:v<0
 .simp only[if_pos hv];omega
 .simp only[if_neg hv];omega
theorem qNh (lo hi:Option Int)(n:Nat):Builtin.Slice.sliceAdjust lo hi 1 (n:Int)=(((sIx n 0 lo:Nat):Int),((sIx n n hi:Nat):Int)):=by
 have h1:¬((1:Int)<0):=by omega
 unfold Builtin.Slice.sliceAdjust
 simp only[h1,if_false]
 refine Prod.ext ?_ ?_
 .cases lo with
  | none=>rfl
  | some v=>exact qUj v n 0
 .cases hi with
  | none=>rfl
  | some v=>exact qUj v n n
theorem qMd (i j:Nat):Builtin.Slice.slicePlaces (i:Int) (j:Int) 1=j - i:=by
 unfold Builtin.Slice.slicePlaces
 have h1:(1:Int)>0:=by omega
 simp only[h1,if_true,Int.ediv_one]
 split <;> omega
theorem qVa {v:Value}{o:Option Int}{Q:Option Int->Shared->Prop}(p:IsPart v o)(h:Q o s):wpAny (model prog w) A (Builtin.Slice.slicePartIndex v) Q E s:=by
 cases p with
 | none=>exact slicePart_none h
 | int i t=>exact slicePart_int h
theorem vN {sl:Addr}{vl vu:Value}{lo hi:Option Int}{n:Nat}{Q:Int×Int×Nat->Shared->Prop}(hs:s.heap.IsSliceOf sl vl vu .none)(pl:IsPart vl lo)(pu:IsPart vu hi)
  (h:Q (((sIx n 0 lo:Nat):Int),1,sIx n n hi - sIx n 0 lo) s):wpAny (model prog w) A (Builtin.Slice.sliceApplied (.ref sl) (pure (n:Int))) Q E s:=by
 obtain⟨os,hos,hcs,hds⟩:=id hs
 unfold Builtin.Slice.sliceApplied Builtin.Slice.sliceFields
 refine yYV (yYV (wpAny_field hos hds (x:=vl) rfl (yYV (wpAny_field hos hds (x:=vu) rfl (yYV (wpAny_field hos hds (x:=.none) rfl (yYW ?_)))))))
 refine yYV (slicePart_none ?_)
 show wpAny _ _ (if ((1:Int) == 0)=true then _ else _) _ _ s
 rw[if_neg (by decide)]
 refine yYV (qVa pl (yYV (qVa pu (yYV (yYW ?_)))))
 show wpAny _ _ (match Builtin.Slice.sliceAdjust lo hi 1 (n:Int) with | (lo,hi)=>pure (lo,(1:Int),Builtin.Slice.slicePlaces lo hi 1)) _ _ s
 rw[qNh lo hi n]
 show wpAny _ _ (pure (((sIx n 0 lo:Nat):Int),(1:Int),Builtin.Slice.slicePlaces ((sIx n 0 lo:Nat):Int) ((sIx n n hi:Nat):Int) 1)) _ _ s
 rw[qMd]
 exact yYW h
theorem xXw (xs:Array Value)(i k:Nat):((List.range k).filterMap fun(m:Nat)=>xs[((i:Int)+(m:Int) * 1).toNat]?).toArray=((xs.toList.drop i).take k).toArray:=by
 have e:(fun(m:Nat)=>xs[((i:Int)+(m:Int) * 1).toNat]?)=fun m=>xs[i+m]? := by
  funext m
  have:((i:Int)+(m:Int) * 1).toNat=i+m:=by omega
  rw[this]
 rw[e]
 have:=pick_run xs i k
 rw[List.filterMap_map] at this
 have e2:((fun x=>xs[x]?)∘fun x=>i+x)=fun m=>xs[i+m]? := rfl
 rw[e2] at this
 rw[this]
theorem getItem_tuple_cut {t sl:Addr}{items:Array Value}{vl vu:Value}{lo hi:Option Int}{Q:Value->Shared->Prop}(ht:IsTup s.heap t items)(hs:s.heap.IsSliceOf sl vl vu .none)(pl:IsPart vl lo)(pu:IsPart vu hi)
  (hw:¬(sIx items.size 0 lo=0/\sIx items.size items.size hi=items.size))
  (h:Q (.ref s.heap.objs.size) { s with heap:=s.heap.push { cls:=.type "tuple",data:=.seq ((items.toList.drop (sIx items.size 0 lo)).take (sIx items.size items.size hi - sIx items.size 0 lo)).toArray } })
  (hsz:items.size<=Yc):wpAny (model prog w) A (getItem (.ref t) (.ref sl)) Q E s:=by
 have htake:sizeOk (.seq ((items.toList.drop (sIx items.size 0 lo)).take (sIx items.size items.size hi - sIx items.size 0 lo)).toArray):=by
  show((items.toList.drop (sIx items.size 0 lo)).take (sIx items.size items.size hi - sIx items.size 0 lo)).toArray.size<=Yc
  rw[yYD,yYF,Yp,yZK]
  omega
 have hj:sIx items.size items.size hi<=items.size:=xBb _ _ (yZB _) hi
 obtain⟨os,hos,hcs,hds⟩:=id hs
 have hTs:s.TypeIs (.ref sl) "slice" := ⟨os,hos,hcs⟩
 unfold getItem
 try with_reducible refine wpAny_holding ?_
 first | refine yYV (yYW ?_) | skip
 refine yYV (wpAny_sequenceKey ht.typeIs (by decide) ?_)
 refine yYV (wpAny_callSpecial?_slot (name:=Yb "__getitem__") ht.typeIs PyProof.Rows.slot_tuple_getitem
  (wpAny_call_entry PyProof.Rows.slot_tuple_getitem ht.typeIs entry_tuple_getitem ?_ (args_tuple_getitem _ _)))
 show wpAny _ _ (Builtin.Tuple.tupleItemsOf (.ref t) >>= _) _ _ s
 refine yYV (tupleItemsOf_ ht ?_)
 refine yYV (wpAny_typeOf hTs ?_)
 rw[if_pos (by decide)]
 refine yYV (vN hs pl pu ?_)
 have hno:¬((((sIx items.size 0 lo:Nat):Int) == 0 && (1:Int) == 1 && (sIx items.size items.size hi - sIx items.size 0 lo) == items.size)=true):=by
  intro q
  rw[Bool.and_eq_true,Bool.and_eq_true] at q
  have q1:((sIx items.size 0 lo:Nat):Int)=0:=eq_of_beq q.1.1
  have q2:sIx items.size items.size hi - sIx items.size 0 lo=items.size:=eq_of_beq q.2
  exact hw ⟨by omega,by omega⟩
 show wpAny _ _ (if (((sIx items.size 0 lo:Nat):Int) == 0 && (1:Int) == 1 && (sIx items.size items.size hi - sIx items.size 0 lo) == items.size)=true then _ else _) _ _ s
 rw[if_neg hno,xXw]
 first
  | exact yYV (m:=Builtin.Tuple.tupleExact _) (wpAny_newObj_type (yYW ⟨_,rfl,yYW h⟩) htake)
  | exact yYV (m:=Builtin.Tuple.tupleExact _) (wpAny_newObj_type (yYV (yYW (yYW ⟨_,rfl,yYW h⟩))) htake)
  | exact yYV (yYV (m:=Builtin.Tuple.tupleExact _) (wpAny_newObj_type (yYW (yYW ⟨_,rfl,yYW h⟩)) htake))
  | exact yYV (yYV (m:=Builtin.Tuple.tupleExact _) (wpAny_newObj_type (yYW ⟨_,rfl,yYW h⟩) htake))
end
end HT
namespace L2
open PySem PySem.Spec PyProof.Rows
abbrev TO:=St->Hp->(Option Int->Hp->Prop)->Prop
def PO (X:Cx)(e:Option Expr)(t:TO):Prop:=
 ∀(zy:List (Addr×Obj)) (s:Shared) (σ:St) (H:Hp) (Q:Option Int->Hp->Prop),Inv X zy σ H s->t σ H Q->
  wpAny (model X.prog X.w) X.A (evalPart e X.env) (fun u s'=>∃o H',Inv X zy σ H' s'/\IsPart u o/\Q o H') X.xe s
def qOv:TO:=fun _ H Q=>Q none H
def tPart (t:TE):TO:=fun σ H Q=>t σ H fun x H1=>∃i,x=.int i/\Q (some i) H1
theorem qNq {ns:List Int}:∀{us:List Value},Vals (ns.map V.int) us->IntsAre us ns:=by
 induction ns with
 | nil=>intro us r;rw[List.map_nil] at r;cases r;exact .nil
 | cons n ns ih=>
  intro us r
  rw[Ym] at r
  cases r with
  | cons r1 r2=>
   obtain⟨t,e⟩:=r1
   subst e
   exact .cons n t (ih r2)
section
variable {X:Cx}{e:Expr}{te:TE}{lo hi:Option Expr}{tl th:TO}{pos p2:Pos}
theorem zC:PO X none qOv:=by
 intro zy s σ H Q I h
 rw[evalPart_none]
 exact yYW ⟨none,H,I,.none,h⟩
theorem zB (h:PE X e te):PO X (some e) (tPart te):=by
 intro zy s σ H Q I hw
 rw[evalPart_some]
 refine thn (h zy s σ H _ I hw) fun u s1 ⟨x,H1,I1,r1,q1⟩=>?_
 obtain⟨i,rfl,q⟩:=q1
 obtain⟨t,rfl⟩:=r1
 exact⟨some i,H1,I1,.int i t,q⟩
def SlR (X:Cx)(r:V->Option Int->Option Int->Hp->VK->Prop):Prop:=
 ∀(zy:List (Addr×Obj)) (s:Shared) (σ:St) (H:Hp) (x:V) (v vl vu:Value) (lo hi:Option Int) (sl:Addr) (Q:VK),Inv X zy σ H s->RelV x v->s.heap.IsSliceOf sl vl vu .none->IsPart vl lo->IsPart vu hi->r x lo hi H Q->
  ∃T id,typeLookup (.type T) "__getitem__" = pure (some (.builtin id))/\s.TypeIs v T/\wpAny (model X.prog X.w) X.A (getItem v (.ref sl)) (EP X zy σ Q) X.xe s
def tSl (r:V->Option Int->Option Int->Hp->VK->Prop)(te:TE)(tl th:TO):TE:=fun σ H Q=>te σ H fun x H1=>tl σ H1 fun l H2=>th σ H2 fun u H3=>r x l u H3 Q
theorem zK {r:V->Option Int->Option Int->Hp->VK->Prop}(hr:SlR X r)(he:PE X e te)(hl:PO X lo tl)(hu:PO X hi th):PE X (.Subscript e (.Slice lo hi none p2) pos) (tSl r te tl th):=by
 intro zy s σ H Q I h
 refine Subscript_ (thn (he zy s σ H _ I h) fun v s1 ⟨x,H1,I1,r1,q1⟩=>?_)
 refine wpAny_Slice (thn (hl zy s1 σ H1 _ I1 q1) fun vl s2 ⟨l,H2,I2,pl,q2⟩=>thn (hu zy s2 σ H2 _ I2 q2) fun vu s3 ⟨u,H3,I3,pu,q3⟩=>?_)
 rw[evalPart_none]
 refine yYW ?_
 have I4:Inv X zy σ H3 { s3 with heap:=s3.heap.push { cls:=.type "slice",data:=.fields #[vl,vu,.none] } }:=I3.kept (t':=s3.toks) fun b ob q=>yYX _ q
 obtain⟨T,id,hT,ht,hg⟩:=hr zy { s3 with heap:=s3.heap.push { cls:=.type "slice",data:=.fields #[vl,vu,.none] } } σ H3 x v vl vu l u s3.heap.objs.size Q I4 r1 (Heap.IsSliceOf.new ..) pl pu q3
 show wpAny (model X.prog X.w) X.A (subscriptTail e (.Slice lo hi none p2) v (.ref s3.heap.objs.size)) (EP X zy σ Q) X.xe { s3 with heap:=s3.heap.push { cls:=.type "slice",data:=.fields #[vl,vu,.none] } }
 exact tail_any (ops:=[.ref s3.heap.objs.size,v]) ht hT hg (by with_unfolding_all rfl)
def cutV (xs:List V)(lo hi:Option Int):List V:=(xs.drop (HT.sIx xs.length 0 lo)).take (HT.sIx xs.length xs.length hi - HT.sIx xs.length 0 lo)
theorem qKg (xs:List V)(lo hi:Option Int):(cutV xs lo hi).length<=xs.length:=by
 unfold cutV
 rw[yYF,Yp]
 omega
def rSlT (K:yZN):V->Option Int->Option Int->Hp->VK->Prop:=fun x lo hi H Q=>∃a xs,x=.ref a/\SqT K H a xs/\
 ¬(HT.sIx xs.length 0 lo=0/\HT.sIx xs.length xs.length hi=xs.length)/\∀p,H p=none->Q (.ref p) (upd H p (.tup (cutV xs lo hi)))
theorem xJo:SlR X (rSlT X.K):=by
 intro zy s σ H x v vl vu lo hi sl Q I rx hs pl pu h
 obtain⟨a,xs,rfl,hx,hw,q⟩:=h
 cases rx
 obtain⟨its,r,ht,hz⟩:=I.tuple hx
 have hlen:its.toArray.size=xs.length:=by rw[yYD];exact r.length.symm
 refine⟨"tuple",_,PyProof.Rows.slot_tuple_getitem.lookup,ht.typeIs,?_⟩
 refine HT.getItem_tuple_cut ht hs pl pu (by rw[hlen];exact hw) ?_ (by rw[hlen];exact hz)
 rw[hlen]
 refine⟨.ref s.heap.objs.size,_,I.laid (t':=s.toks) (o:=.tup (cutV xs lo hi)) (fun b ob q=>yYX _ q) (yZB _) ?_,rfl,q _ (I.hok.fresh (yZB _))⟩
 exact⟨yZH (qKg xs lo hi) hz,_,(r.drop (HT.sIx xs.length 0 lo)).take (HT.sIx xs.length xs.length hi - HT.sIx xs.length 0 lo),TupX.new _ _⟩
def rCatT (K:yZN):R2:=fun x y H Q=>∃a b xs ys,x=.ref a/\y=.ref b/\SqT K H a xs/\SqT K H b ys/\xs≠[]/\xs.length+ys.length<=Yc/\
 (ys=[]->Q (.ref a) H)/\(ys≠[]->∀p,H p=none->Q (.ref p) (upd H p (.tup (xs++ys))))
theorem Vals.nil_iff {xs:List V}{us:List Value}(r:Vals xs us):us=[]↔xs=[]:=by
 cases r with
 | nil=>simp
 | cons _ _=>simp
theorem xVf:OpR X (binaryOp .Add) (rCatT X.K):=by
 intro zy s σ H x y v u Q I rx ry h
 obtain⟨a,b,xs,ys,rfl,rfl,ha,hb,hx,hz,q1,q2⟩:=h
 cases rx
 cases ry
 obtain⟨its,r1,p1,_⟩:=I.tuple ha
 obtain⟨its2,r2,p2,_⟩:=I.tuple hb
 refine HT.cat_tup p1 p2 (fun z=>hx (r1.nil_iff.mp z)) (fun z=>⟨.ref a,H,I,rfl,q1 (r2.nil_iff.mp z)⟩) (fun z=>?_) (by rw[<- r1.length,<- r2.length];exact hz)
 refine⟨.ref s.heap.objs.size,_,I.laid (t':=s.toks) (o:=.tup (xs++ys)) (fun b ob q=>yYX _ q) (yZB _) ?_,rfl,q2 (fun w=>z (r2.nil_iff.mpr w)) _ (I.hok.fresh (yZB _))⟩
 exact⟨by rw[yYI];exact hz,_,r1.append r2,TupX.new _ _⟩
end
end L2
namespace L2
open PySem PySem.Spec PyProof.Rows
def ixN (n:Nat)(i:Int):Option Nat:=if 0<=i then (if i<n then some i.toNat else none) else if -(n:Int)<=i then some (i+n).toNat else none
def atI {α:Type}(xs:List α)(i:Int):Option α:=(ixN xs.length i).bind fun j=>xs[j]?
theorem qSf {n:Nat}{i:Int}{j:Nat}(h:ixN n i=some j):seqIndex? i n=some j/\j<n/\-(n:Int)<=i/\i<n:=by
 unfold ixN at h
 by_cases h0:0<=i
 .rw[if_pos h0] at h
  by_cases h1:i<n
  .rw[if_pos h1] at h
   have e:i.toNat=j:=Option.some.inj h
   exact⟨by rw[seqIndex_of h0 h1,e],by omega,by omega,h1⟩
  .rw[if_neg h1] at h;cases h
 .rw[if_neg h0] at h
  by_cases h1 : -(n:Int)<=i
  .rw[if_pos h1] at h
   have e:(i+n).toNat=j:=Option.some.inj h
   exact⟨by rw[seqIndex_neg (by omega) h1,e],by omega,h1,by omega⟩
  .rw[if_neg h1] at h;cases h
theorem qGq {α:Type}{xs:List α}{i:Int}{v:α}(h:atI xs i=some v):∃j,seqIndex? i xs.length=some j/\xs[j]? = some v/\j<xs.length/\-(xs.length:Int)<=i/\i<xs.length:=by
 unfold atI at h
 cases e:ixN xs.length i with
 | none=>rw[e] at h;cases h
 | some j=>
  rw[e] at h
  obtain⟨h1,h2,h3,h4⟩:=qSf e
  exact⟨j,h1,h,h2,h3,h4⟩
theorem jM {α:Type}{xs:List α}{j:Nat}{v:α}(h:xs[j]? = some v):atI xs (j:Int)=some v:=by
 have hj:j<xs.length:=(yYB.mp h).1
 have e:ixN xs.length (j:Int)=some j:=by
  unfold ixN
  rw[if_pos (by omega),if_pos (by omega)];simp
 unfold atI;rw[e];exact h
def qUi (b:Expr):Prop:=∀o i,subscripted b false o i=operate [o,i] (getItem o i)
def IxR (X:Cx)(r:R2):Prop:=
 ∀(value slice:Expr) (zy:List (Addr×Obj)) (s:Shared) (σ:St) (H:Hp) (x y:V) (v u:Value) (Q:VK),Inv X zy σ H s->RelV x v->RelV y u->r x y H Q->
  subscripted slice false v u=operate [v,u] (getItem v u)->wpAny (model X.prog X.w) X.A (subscriptTail value slice v u) (EP X zy σ Q) X.xe s
def MtR (X:Cx)(id:String)(r:V->List V->Hp->VK->Prop):Prop:=
 ∀(zy:List (Addr×Obj)) (s:Shared) (σ:St) (H:Hp) (x:V) (xs:List V) (v:Value) (us:List Value) (Q:VK),Inv X zy σ H s->RelV x v->Vals xs us->r x xs H Q->
  wpAny (model X.prog X.w) X.A (call (.builtin id) (v::us)) (EP X zy σ Q) X.xe s
section
variable {X:Cx}{a b:Expr}{ta tb:TE}{pos:Pos}
theorem xEo {r:R2}(hr:IxR X r)(ha:PE X a ta)(hb:PE X b tb)(hs:qUi b):PE X (.Subscript a b pos) (tOp r ta tb):=by
 intro zy s σ H Q I h
 exact Subscript_ (binT ha hb I h fun v u s2 x y H2 I2 rx ry q=>hr a b zy s2 σ H2 x y v u Q I2 rx ry q (hs _ _))
def rIxL (K:yZN):R2:=fun x y H Q=>∃p xs i v,x=.ref p/\y=.int i/\SqL K H p xs/\atI xs i=some v/\Q v H
def rIxT (K:yZN):R2:=fun x y H Q=>∃p xs i v,x=.ref p/\y=.int i/\SqT K H p xs/\atI xs i=some v/\Q v H
def rIxS:R2:=fun x y H Q=>∃z i c,x=.str z/\y=.int i/\z.length<=Yc/\atI z.cps.toList i=some c/\Q (.str ⟨#[c]⟩) H
theorem qSe:IxR X (rIxL X.K):=by
 intro value slice zy s σ H x y v u Q I rx ry h hs
 obtain⟨p,xs,i,z,rfl,rfl,hq,he,q⟩:=h
 cases rx
 obtain⟨t,rfl⟩:=ry
 obtain⟨its,r,pl,hz⟩:=I.list hq
 obtain⟨j,h1,h2,h3,h4,h5⟩:=qGq he
 obtain⟨w,ew,rw'⟩:=r.get h2
 have hl:=r.length
 have hn:=line63
 have fin:EP X zy σ Q w s:=⟨z,H,I,rw',q⟩
 by_cases h0:0<=i
 .have hj:i.toNat=j:=by
   rw[seqIndex_of h0 h5] at h1
   exact Option.some.inj h1
  exact item_listR pl.isList h0 (by omega) (by rw[hj];simpa using ew) fin hs
 .have hj:(i+(its.toArray.size:Int)).toNat=j:=by
   rw[seqIndex_neg (by omega) h4] at h1
   rw[yYD,<- hl]
   exact Option.some.inj h1
  exact subscriptTail_builtinR (x:=w) pl.isList.typeIs slot_list_getitem.lookup
   (wpAny_getItem_list_neg (Q:=fun r s'=>r=w/\EP X zy σ Q r s') pl.isList (by omega) (by rw[yYD] <;> omega) (by omega) (by rw[hj];simpa using ew) ⟨rfl,fin⟩) hs
theorem qSd:IxR X (rIxT X.K):=by
 intro value slice zy s σ H x y v u Q I rx ry h hs
 obtain⟨p,xs,i,z,rfl,rfl,hq,he,q⟩:=h
 cases rx
 obtain⟨t,rfl⟩:=ry
 obtain⟨its,r,pl,hz⟩:=I.tuple hq
 obtain⟨j,h1,h2,h3,h4,h5⟩:=qGq he
 obtain⟨w,ew,rw'⟩:=r.get h2
 have hl:=r.length
 have hn:=line63
 have fin:EP X zy σ Q w s:=⟨z,H,I,rw',q⟩
 exact subscriptTail_builtinR (x:=w) pl.typeIs slot_tuple_getitem.lookup
  (getItem_tuple (j:=j) (Q:=fun r s'=>r=w/\EP X zy σ Q r s') pl (by omega) (by omega) (by rw[yYD,<- hl];exact h1) (by simpa using ew) ⟨rfl,fin⟩) hs
theorem xYw:IxR X rIxS:=by
 intro value slice zy s σ H x y v u Q I rx ry h hs
 obtain⟨z,i,c,rfl,rfl,hz,he,q⟩:=h
 obtain⟨t,rfl⟩:=rx
 obtain⟨t',rfl⟩:=ry
 obtain⟨j,h1,h2,h3,h4,h5⟩:=qGq he
 have hl:z.cps.toList.length=z.length:=by simp[Str.length]
 rw[hl] at h1 h4 h5
 have hn:=line63
 exact tail_any (typeIs_str s z t) slot_str_getitem.lookup (getItem_str (c:=c) (by
  have e1:decide (i < -(2 ^ 63:Int))=false:=decide_eq_false (by omega)
  have e2:decide (i>=2 ^ 63)=false:=decide_eq_false (by omega)
  rw[e1,e2,Bool.or_false]) (by rw[h1];simpa using h2) ⟨.str ⟨#[c]⟩,H,I.tok _,⟨_,rfl⟩,q⟩) hs
theorem qMm (its:List Value)(n j:Nat)(u:Value):Obj.mapSeq (·.setIfInBounds j u) { cls:=.type "list",data:=.seq its.toArray n }={ cls:=.type "list",data:=.seq (its.set j u).toArray n }:=by
 simp[Obj.mapSeq]
theorem Inv.lst {zy:List (Addr×Obj)}{σ:St}{H:Hp}{s:Shared}{p:Addr}{xs:List V}(I:Inv X zy σ H s)(h:H p=some (.lst xs)):
  ∃(its:List Value) (n:Nat),Vals xs its/\s.heap.get? p=some { cls:=.type "list",data:=.seq its.toArray n }/\xs.length<=Yc:=by
 obtain⟨z,its,n,r,e⟩:=I.hok p _ h
 exact⟨its,n,r,e,z⟩
theorem Inv.lstUpd {zy:List (Addr×Obj)}{σ:St}{H:Hp}{s:Shared}{p:Addr}{xs ys:List V}{its its':List Value}{n n':Nat}{f:Obj->Obj}(I:Inv X zy σ H s)(h:H p=some (.lst xs))
  (ho:s.heap.get? p=some { cls:=.type "list",data:=.seq its.toArray n }) (hf:f { cls:=.type "list",data:=.seq its.toArray n }={ cls:=.type "list",data:=.seq its'.toArray n' }) (r:Vals ys its') (hz:ys.length<=Yc) (t:Nat):
  Inv X zy σ (upd H p (.lst ys)) { s with heap:=s.heap.update p f,toks:=t }:=by
 have e:(s.heap.update p f).get? p=some { cls:=.type "list",data:=.seq its'.toArray n' }:=by
  rw[Heap.get?_update_self f ho (by rw[hf] <;> rfl),hf]
 refine I.write (x:=p) (e:=p) (by rw[h];trivial) (.inl rfl) (fun b u hb q=>(Heap.get?_update_other _ _ (Ne.symm hb)).trans q) ⟨_,e⟩ ?_
 exact⟨hz,its',n',r,e⟩
def rSetL:V->V->V->Hp->(Hp->Prop)->Prop:=fun o i v H Q=>∃p xs k j,o=.ref p/\i=.int k/\H p=some (.lst xs)/\ixN xs.length k=some j/\Q (upd H p (.lst (xs.set j v)))
theorem xQm:PSet X rSetL:=by
 intro zy s σ H o i v ov iv u Q I ro ri rv h
 obtain⟨p,xs,k,j,rfl,rfl,hp,hj,q⟩:=h
 cases ro
 obtain⟨t,rfl⟩:=ri
 obtain⟨its,n,r,ho,hz⟩:=I.lst hp
 obtain⟨h1,h2,h3,h4⟩:=qSf hj
 have hl:=r.length
 have hn:=line63
 have I':Inv X zy σ (upd H p (.lst (xs.set j v))) { s with heap:=s.heap.update p (Obj.mapSeq (·.setIfInBounds j u)) }:=
  I.lstUpd hp ho (qMm its n j u) (r.set rv j) (by rw[List.length_set];exact hz) s.toks
 by_cases h0:0<=k
 .have hk:k.toNat=j:=by
   rw[seqIndex_of h0 h4] at h1
   exact Option.some.inj h1
  exact PySem.W.ki_setAt ho h0 (by omega) (by rw[yYD,<- hl];exact h4) (by rw[hk];exact⟨_,I',q⟩)
 .have hk:(k+(its.toArray.size:Int)).toNat=j:=by
   rw[seqIndex_neg (by omega) h3] at h1
   rw[yYD,<- hl]
   exact Option.some.inj h1
  exact PySem.W.ki_setBack ho (by omega) (by rw[yYD,<- hl];exact h3) (by omega) (by rw[hk];exact⟨_,I',q⟩)
theorem qBh (lo hi:Option Int)(n:Nat):(sliceBounds lo hi none n).1=((HT.sIx n 0 lo:Nat):Int)/\(sliceBounds lo hi none n).2.1=((HT.sIx n n hi:Nat):Int)/\(sliceBounds lo hi none n).2.2=1:=by
 refine⟨?_,?_,rfl⟩
 .cases lo with
  | none=>simp[sliceBounds,HT.sIx]
  | some i=>
   simp only[sliceBounds,HT.sIx,Option.getD_none,show(1:Int)>0 by decide,if_true]
   by_cases h:i<0
   .simp only[h,if_true] <;> omega
   .simp only[h,if_false] <;> omega
 .cases hi with
  | none=>simp[sliceBounds,HT.sIx]
  | some i=>
   simp only[sliceBounds,HT.sIx,Option.getD_none,show(1:Int)>0 by decide,if_true]
   by_cases h:i<0
   .simp only[h,if_true] <;> omega
   .simp only[h,if_false] <;> omega
theorem qWl (its:List Value)(lo hi:Option Int):slicePick its.toArray lo hi none=((its.drop (HT.sIx its.length 0 lo)).take (HT.sIx its.length its.length hi - HT.sIx its.length 0 lo)).toArray:=by
 obtain⟨h1,h2,h3⟩:=qBh lo hi its.toArray.size
 unfold slicePick
 rw[h1,h2,h3]
 simp only[sliceRange_one,pick_run,yYD] <;> rfl
def rSlL (K:yZN):V->Option Int->Option Int->Hp->VK->Prop:=fun x lo hi H Q=>∃a xs,x=.ref a/\SqL K H a xs/\∀p,H p=none->Q (.ref p) (upd H p (.lst (cutV xs lo hi)))
theorem xKi:SlR X (rSlL X.K):=by
 intro zy s σ H x v vl vu lo hi sl Q I rx hs pl pu h
 obtain⟨a,xs,rfl,hx,q⟩:=h
 cases rx
 obtain⟨its,r,ht,hz⟩:=I.list hx
 have hlen:=r.length
 refine⟨"list",_,slot_list_getitem.lookup,ht.isList.typeIs,?_⟩
 refine wpAny_getItem_list_slice ht.isList hs pl pu .none (by simp) ?_ (by rw[yYD] <;> omega)
 rw[qWl,<- hlen]
 refine⟨.ref s.heap.objs.size,_,I.laid (t':=s.toks) (o:=.lst (cutV xs lo hi)) (fun b ob q=>yYX _ q) (yZB _) ?_,rfl,q _ (I.hok.fresh (yZB _))⟩
 exact⟨yZH (qKg xs lo hi) hz,_,0,(r.drop (HT.sIx xs.length 0 lo)).take (HT.sIx xs.length xs.length hi - HT.sIx xs.length 0 lo),yYZ _ rfl⟩
def flatV:V->Bool
 | .non=>true
 | .bl _=>true
 | .int _=>true
 | .str _=>true
 | _=>false
def eqV:V->V->Bool
 | .non,.non=>true
 | .bl a,.bl b=>a == b
 | .bl a,.int b=>(if a then 1 else 0) == b
 | .int a,.bl b=>a == (if b then 1 else 0)
 | .int a,.int b=>a == b
 | .str a,.str b=>a == b
 | _,_=>false
theorem xYh {A:Around}{s:Shared}{y x:V}{u v:Value}(ry:RelV y u)(rx:RelV x v)(fy:flatV y=true)(fx:flatV x=true):SeqAt.EqAt A s u v (eqV y x):=by
 cases y with
 | non=>
  cases ry
  cases x with
  | non=>cases rx;exact SeqAt.EqAt.same _
  | bl b=>cases rx;exact SeqAt.EqAt.none_bool b
  | int b=>obtain⟨t,rfl⟩:=rx;exact SeqAt.EqAt.none_int b t
  | str b=>obtain⟨t,rfl⟩:=rx;exact SeqAt.EqAt.none_str b t
  | _=>exact absurd (show false=true from fx) yZJ
 | bl a=>
  cases ry
  cases x with
  | non=>cases rx;exact SeqAt.EqAt.bool_none a
  | bl b=>cases rx;exact SeqAt.EqAt.bool_bool a b
  | int b=>obtain⟨t,rfl⟩:=rx;exact SeqAt.EqAt.bool_int a b t
  | str b=>obtain⟨t,rfl⟩:=rx;exact SeqAt.EqAt.bool_str a b t
  | _=>exact absurd (show false=true from fx) yZJ
 | int a=>
  obtain⟨t',rfl⟩:=ry
  cases x with
  | non=>cases rx;exact SeqAt.EqAt.int_none a t'
  | bl b=>cases rx;exact SeqAt.EqAt.int_bool a t' b
  | int b=>obtain⟨t,rfl⟩:=rx;exact SeqAt.EqAt.int_int a t' b t
  | str b=>obtain⟨t,rfl⟩:=rx;exact SeqAt.EqAt.int_str a t' b t
  | _=>exact absurd (show false=true from fx) yZJ
 | str a=>
  obtain⟨t',rfl⟩:=ry
  cases x with
  | non=>cases rx;exact SeqAt.EqAt.str_none a t'
  | bl b=>cases rx;exact SeqAt.EqAt.str_bool a t' b
  | int b=>obtain⟨t,rfl⟩:=rx;exact SeqAt.EqAt.str_int a t' b t
  | str b=>obtain⟨t,rfl⟩:=rx;exact SeqAt.EqAt.str_str a t' b t
  | _=>exact absurd (show false=true from fx) yZJ
 | _=>exact absurd (show false=true from fy) yZJ
def eqU (x:V)(u:Value):Bool:=match u with
 | .none=>eqV .non x
 | .bool b=>eqV (.bl b) x
 | .int i _=>eqV (.int i) x
 | .str z _=>eqV (.str z) x
 | _=>false
theorem xYg {x y:V}{u:Value}(r:RelV y u)(f:flatV y=true):eqU x u=eqV y x:=by
 cases y with
 | non=>cases r;rfl
 | bl b=>cases r;rfl
 | int i=>obtain⟨t,rfl⟩:=r;rfl
 | str z=>obtain⟨t,rfl⟩:=r;rfl
 | _=>exact absurd (show false=true from f) yZJ
theorem qKn {x:V}:∀{xs:List V} {us:List Value},Vals xs us->xs.all flatV=true->us.any (eqU x)=xs.any fun y=>eqV y x
 | _,_,.nil,_=>rfl
 | y::xs,u::us,.cons r t,f=>by
  rw[List.all_cons,Bool.and_eq_true] at f
  rw[List.any_cons,List.any_cons,xYg r f.1,qKn t f.2]
theorem qQh {A:Around}{s:Shared}{x:V}{v:Value}(rx:RelV x v)(fx:flatV x=true):∀{xs:List V} {us:List Value},Vals xs us->xs.all flatV=true->∀u∈us,SeqAt.EqAt A s u v (eqU x u)
 | _,_,.nil,_=>fun u hu=>by cases hu
 | y::xs,u::us,.cons r t,f=>fun u' hu=>by
  rw[List.all_cons,Bool.and_eq_true] at f
  rcases yYK.mp hu with rfl | hu
  .rw[xYg r f.1];exact xYh r rx f.1 fx
  .exact qQh rx fx t f.2 u' hu
def inV (x:V)(xs:List V):Bool:=xs.any fun y=>eqV y x
def rIn (K:yZN)(neg:Bool):R2:=fun x y H Q=>∃p xs,y=.ref p/\(SqL K H p xs\/SqT K H p xs)/\flatV x=true/\xs.all flatV=true/\Q (.bl (if neg then !inV x xs else inV x xs)) H
theorem qPl:OpR X (compareOp .In) (rIn X.K false):=by
 intro zy s σ H x y v u Q I rx ry h
 obtain⟨p,xs,rfl,hq,fx,fs,q⟩:=h
 cases ry
 rcases hq with hq | hq
 .obtain⟨its,r,pl,hz⟩:=I.list hq
  refine SeqAt.in_listAt (eqU x) pl.isList (fun w hw=>qQh rx fx r fs w (by simpa using hw)) ⟨.bl _,H,I,rfl,?_⟩
  rw[show its.toArray.any (eqU x)=its.any (eqU x) by simp,qKn r fs]
  exact q
 .obtain⟨its,r,pl,hz⟩:=I.tuple hq
  refine SeqAt.in_tupleAt (eqU x) pl (fun w hw=>qQh rx fx r fs w (by simpa using hw)) ⟨.bl _,H,I,rfl,?_⟩
  rw[show its.toArray.any (eqU x)=its.any (eqU x) by simp,qKn r fs]
  exact q
theorem qCj:OpR X (compareOp .NotIn) (rIn X.K true):=by
 intro zy s σ H x y v u Q I rx ry h
 obtain⟨p,xs,rfl,hq,fx,fs,q⟩:=h
 cases ry
 rcases hq with hq | hq
 .obtain⟨its,r,pl,hz⟩:=I.list hq
  refine SeqAt.notIn_listAt (eqU x) pl.isList (fun w hw=>qQh rx fx r fs w (by simpa using hw)) ⟨.bl _,H,I,rfl,?_⟩
  rw[show its.toArray.any (eqU x)=its.any (eqU x) by simp,qKn r fs]
  exact q
 .obtain⟨its,r,pl,hz⟩:=I.tuple hq
  refine SeqAt.notIn_tupleAt (eqU x) pl (fun w hw=>qQh rx fx r fs w (by simpa using hw)) ⟨.bl _,H,I,rfl,?_⟩
  rw[show its.toArray.any (eqU x)=its.any (eqU x) by simp,qKn r fs]
  exact q
theorem qZl:CallR X (.builtin "len") (fun xs H Q=>∃p ys,xs=[.ref p]/\(SqL X.K H p ys\/SqT X.K H p ys)/\Q (.int ys.length) H):=by
 intro zy s σ H xs us Q I r h
 obtain⟨p,ys,rfl,hq,q⟩:=h
 obtain⟨u,rfl,rx⟩:=vals1 r
 cases rx
 have hn:=line63
 rcases hq with hq | hq
 .obtain⟨its,r',pl,hz⟩:=I.list hq
  have hlen:=r'.length
  exact Calls.call_len_list pl.isList (by simp only[yYD] <;> omega) ⟨.int ys.length,H,I.tok _,⟨s.toks+1,by rw[yYD,hlen]⟩,q⟩
 .obtain⟨its,r',pl,hz⟩:=I.tuple hq
  have hlen:=r'.length
  exact len_tuple pl (by simp only[yYD] <;> omega) ⟨.int ys.length,H,I.tok _,⟨s.toks+1,by rw[yYD,hlen]⟩,q⟩
theorem yO:CallR X (.builtin "len") (fun xs H Q=>∃z,xs=[.str z]/\z.length<=Yc/\Q (.int z.length) H):=by
 intro zy s σ H xs us Q I r h
 obtain⟨z,rfl,hz,q⟩:=h
 obtain⟨u,rfl,t,rfl⟩:=vals1 r
 have hn:=line63
 exact len_str (by omega) ⟨.int z.length,H,I.tok _,⟨_,rfl⟩,q⟩
theorem qDe:CallR X (.type "list") (fun xs H Q=>∃p ys,xs=[.ref p]/\(SqL X.K H p ys\/SqT X.K H p ys)/\∀l,H l=none->Q (.ref l) (upd H l (.lst ys))):=by
 intro zy s σ H xs us Q I r h
 obtain⟨p,ys,rfl,hq,q⟩:=h
 obtain⟨u,rfl,rx⟩:=vals1 r
 cases rx
 have fin:∀(its:List Value),Vals ys its->ys.length<=Yc->∀(h':Heap) (c':Nat),(∀b o',s.heap.get? b=some o'->h'.get? b=some o')->
   h'.get? s.heap.objs.size=some { cls:=.type "list",dict:=none,data:=.seq its.toArray c',slots:=#[] }->EP X zy σ Q (.ref s.heap.objs.size) { s with heap:=h' }:=fun its r' hz h' c' kp e=>
  ⟨.ref s.heap.objs.size,_,I.laid (t':=s.toks) kp (yZB _) (show ObjOk X.prog X.w _ h' _ (.lst ys) from⟨hz,its,c',r',e⟩),rfl,q _ (I.hok.fresh (yZB _))⟩
 rcases hq with hq | hq
 .obtain⟨its,r',pl,hz⟩:=I.list hq
  have hlen:=r'.length
  obtain⟨o,ho,hc,n,hd⟩:=pl.isList
  exact call_list_seq p (.inl rfl) ho hc hd (fun h' c' kp e=>fin its r' hz h' c' kp e) (by simp only[yYD] <;> omega)
 .obtain⟨its,r',pl,hz⟩:=I.tuple hq
  have hlen:=r'.length
  obtain⟨o,ho,hc,n,hd⟩:=pl
  exact call_list_seq p (.inr rfl) ho hc hd (fun h' c' kp e=>fin its r' hz h' c' kp e) (by simp only[yYD] <;> omega)
theorem qAm:CallR X (.type "tuple") (fun xs H Q=>∃p ys,xs=[.ref p]/\((SqL X.K H p ys/\∀l,H l=none->Q (.ref l) (upd H l (.tup ys)))\/(SqT X.K H p ys/\Q (.ref p) H))):=by
 intro zy s σ H xs us Q I r h
 obtain⟨p,ys,rfl,h⟩:=h
 obtain⟨u,rfl,rx⟩:=vals1 r
 cases rx
 rcases h with⟨hq,q⟩ | ⟨hq,q⟩
 .obtain⟨its,r',pl,hz⟩:=I.list hq
  have hlen:=r'.length
  refine call_tuple_list pl.isList (fun h' kp=>?_) (by simp only[yYD] <;> omega)
  have I1:Inv X zy σ H { s with heap:=h' }:=I.kept (t':=s.toks) kp
  have I2:Inv X zy σ (upd H h'.objs.size (.tup ys)) { s with heap:=h'.push { cls:=.type "tuple",data:=.seq its.toArray } }:=
   I1.laid (t':=s.toks) (fun b o e=>yYX _ e) (yZB _) (show ObjOk X.prog X.w _ _ _ (.tup ys) from⟨hz,its,r',TupX.new _ _⟩)
  exact⟨.ref h'.objs.size,_,I2,rfl,q _ (I1.hok.fresh (yZB _))⟩
 .obtain⟨its,r',pl,hz⟩:=I.tuple hq
  exact call_tuple_same pl ⟨.ref p,H,I,rfl,q⟩
def tyV (K:yZN)(T:String)(x:V)(H:Hp):Prop:=match x with
 | .str _=>T = "str"
 | .int _=>T = "int"
 | .ref p=>(T = "list" /\ ∃xs,SqL K H p xs)\/(T = "tuple" /\ ∃o,K.lookup p=some o/\o.cls=.type "tuple" /\ o.dict=none)\/
   (T = "dict" /\ ((∃kvs,H p=some (.dK kvs))\/∃kvs,H p=some (.dT kvs)))\/(T = "set" /\ ∃S n,H p=some (.set S n))
 | _=>False
theorem xJm {zy:List (Addr×Obj)}{σ:St}{H:Hp}{s:Shared}{T:String}{x:V}{v:Value}(I:Inv X zy σ H s)(r:RelV x v)(ty:tyV X.K T x H):
  s.TypeIs v T/\∀a,v=.ref a->∃ob,s.heap.get? a=some ob/\ob.dict=none:=by
 cases x with
 | str z=>
  obtain⟨t,rfl⟩:=r
  cases(show T = "str" from ty)
  exact⟨typeIs_str s z t,fun _ e=>nomatch e⟩
 | int i=>
  obtain⟨t,rfl⟩:=r
  cases(show T = "int" from ty)
  exact⟨typeIs_int s i t,fun _ e=>nomatch e⟩
 | ref p=>
  cases r
  rcases ty with⟨rfl,xs,hq⟩ | ⟨rfl,o,hk,hc,hd⟩ | ⟨rfl,hk⟩ | ⟨rfl,S,n,hk⟩
  .obtain⟨its,_,pl,_⟩:=I.list hq
   refine⟨pl.isList.typeIs,fun a e=>?_⟩
   cases e
   obtain⟨o,n,e,c,hd,_⟩:=pl
   exact⟨o,e,hd⟩
  .refine⟨⟨o,I.kIn p o hk,hc⟩,fun a e=>?_⟩
   cases e
   exact⟨o,I.kIn _ o hk,hd⟩
  .have z:∃o,s.heap.get? p=some o/\o.ExactDict:=by
    rcases hk with⟨kvs,hk⟩ | ⟨kvs,hk⟩
    .obtain⟨_,_,_,_,o,_,_,e,ex,_⟩:=I.hok p _ hk
     exact⟨o,e,ex⟩
    .obtain⟨_,_,_,_,o,_,_,e,ex,_⟩:=I.hok p _ hk
     exact⟨o,e,ex⟩
   obtain⟨o,e,ex⟩:=z
   refine⟨⟨o,e,ex.1⟩,fun a e2=>?_⟩
   cases e2
   exact⟨o,e,ex.2.1⟩
  .obtain⟨o,_,_,_,e,ex,_⟩:=I.hok p _ hk
   refine⟨⟨o,e,ex.1⟩,fun a e2=>?_⟩
   cases e2
   exact⟨o,e,ex.2.1⟩
 | _=>exact False.elim ty
def tBM0 (K:yZN)(T:String)(r:V->List V->Hp->VK->Prop)(to:TE):TE:=fun σ H Q=>to σ H fun x H1=>tyV K T x H1/\r x [] H1 Q
def tBM (K:yZN)(T:String)(r:V->List V->Hp->VK->Prop)(to:TE)(t:TA):TE:=fun σ H Q=>to σ H fun x H1=>tyV K T x H1/\t σ H1 fun xs H2=>r x xs H2 Q
variable {o e:Expr}{es:List Expr}{to:TE}{t:TA}{name:Str}{apos cpos:Pos}{T id:String}{r:V->List V->Hp->VK->Prop}
theorem xCq (pa:PlainAttrs T)(slot:Slot T name id)(hty:typeOf (.builtin id)=pure (.type "method_descriptor"))(hm:MtR X id r)(ho:PE X o to)
  (hbase:attributeBase o name X.env (eval o X.env)=eval o X.env:=by rfl) (hline:(apos.endLine == cpos.line)=true:=by rfl):PE X (.Call (.Attribute o name apos) [] [] cpos) (tBM0 X.K T r to):=by
 intro zy s σ H Q I h
 refine wpAny_Call_method0_late hbase hline (thn (ho zy s σ H _ I h) fun v s1 ⟨x,H1,I1,r1,ty,q1⟩=>?_)
 obtain⟨h1,h2⟩:=xJm I1 r1 ty
 exact⟨T,id,pa,slot,hty,h1,h2,Calls.callWith_builtin rfl (PySem.evalArgs_none (hm zy s1 σ H1 x [] v [] Q I1 r1 .nil q1))⟩
theorem xFx (pa:PlainAttrs T)(slot:Slot T name id)(hty:typeOf (.builtin id)=pure (.type "method_descriptor"))(hm:MtR X id r)(ho:PE X o to)(ha:PA X (e::es) t)
  (hbase:attributeBase o name X.env (eval o X.env)=eval o X.env:=by rfl)
  (hfew:((backTo cpos (starEach (e::es) X.env)).all (fun x=>!x.1) && (backToKw cpos (keywordEach [] X.env)).all (fun x=>x.1.isSome)
   && decide ((e::es).length+([]:List Keyword).length+(if ([]:List Keyword).isEmpty then 0 else 1)<30))=true:=by rfl)
  (hline:(apos.endLine == cpos.line)=true:=by rfl) (hs:starEach (e::es) X.env=(false,eval e X.env)::starEach es X.env:=by rfl) (hplain:(backTo cpos (starEach es X.env)).any (·.1)=false:=by rfl):
  PE X (.Call (.Attribute o name apos) (e::es) [] cpos) (tBM X.K T r to t):=by
 intro zy s σ H Q I h
 refine wpAny_Call_method_late hbase hfew hline rfl (thn (ho zy s σ H _ I h) fun v s1 ⟨x,H1,I1,r1,ty,q1⟩=>?_)
 obtain⟨h1,h2⟩:=xJm I1 r1 ty
 refine⟨T,id,pa,slot,hty,h1,h2,?_⟩
 have hA:=ha cpos zy s1 σ H1 _ I1 q1
 rw[hs] at hA ⊢
 refine Calls.callWith_builtin (by show(false || (backTo cpos (starEach es X.env)).any (·.1))=false;rw[hplain] <;> rfl) (Calls.evalArgs_plain ?_)
 exact thn hA fun us s2 ⟨vs,H2,I2,r2,q2⟩=>hm zy s2 σ H2 x vs v us Q I2 r1 r2 q2
end
end L2
namespace L2
open PySem PySem.Spec PyProof.Rows
def MtM (X:Cx)(id:String)(r:V->List V->Hp->VK->Prop):Prop:=
 ∀(zy:List (Addr×Obj)) (s:Shared) (σ:St) (H:Hp) (x:V) (xs:List V) (v:Value) (us:List Value) (Q:VK),Inv X zy σ H s->RelV x v->Vals xs us->r x xs H Q->
  wpAny (model X.prog X.w) X.A (call (.builtin id) (v::us)) (EP X zy σ Q) X.xe s
theorem Vals.one {x:V}{us:List Value}(h:Vals [x] us):∃u,us=[u]/\RelV x u:=by
 cases h with
 | cons r t=>
  cases t
  exact⟨_,rfl,r⟩
theorem Vals.zero:∀{us:List Value},Vals [] us->us=[]
 | _,.nil=>rfl
theorem Vals.dropLast {xs:List V}{us:List Value}(h:Vals xs us):Vals xs.dropLast us.dropLast:=by
 induction h with
 | nil=>exact .nil
 | cons r t ih=>
  cases t with
  | nil=>exact .nil
  | cons q t'=>exact .cons r ih
theorem Vals.eraseIdx:∀{xs:List V} {us:List Value} (i:Nat),Vals xs us->Vals (xs.eraseIdx i) (us.eraseIdx i)
 | _,_,_,.nil=>.nil
 | _,_,0,.cons _ t=>t
 | _,_,i+1,.cons r t=>.cons r (Vals.eraseIdx i t)
theorem Vals.reverse {xs:List V}{us:List Value}(h:Vals xs us):Vals xs.reverse us.reverse:=by
 induction h with
 | nil=>exact .nil
 | cons r t ih=>rw[List.reverse_cons,List.reverse_cons];exact Vals.append ih (.cons r .nil)
theorem Vals.rep {xs:List V}{us:List Value}(h:Vals xs us):∀k:Nat,Vals (Yg k xs).flatten (Yg k us).flatten
 | 0=>.nil
 | k+1=>by
  rw[Yv,Yv,List.flatten_cons,List.flatten_cons]
  exact Vals.append h (Vals.rep h k)
theorem qNj {α:Type}(l:List α):l.eraseIdx (l.length - 1)=l.dropLast:=by
 induction l with
 | nil=>rfl
 | cons a r ih=>
  cases r with
  | nil=>rfl
  | cons b r=>
   have e:(a::b::r).length - 1=((b::r).length - 1)+1:=by
    have h1:(a::b::r).length=r.length+2:=rfl
    have h2:(b::r).length=r.length+1:=rfl
    omega
   rw[e,List.eraseIdx_cons_succ,ih]
   all_goals rfl
theorem qCi {α:Type}:∀(l:List α) (i:Nat),(l.eraseIdx i).length<=l.length
 | [],_=>yZB _
 | _::_,0=>Nat.le_succ _
 | _::r,i+1=>Nat.succ_le_succ (qCi r i)
theorem qDz (its:List Value):∀(k:Nat) (acc:List Value),
  List.foldl (fun x1 x2=>x1++x2) acc.toArray (Yg k its.toArray)=(acc++(Yg k its).flatten).toArray
 | 0,acc=>by simp
 | k+1,acc=>by
  have e:acc.toArray++its.toArray=(acc++its).toArray:=by simp
  have e2:(acc++its)++(Yg k its).flatten=acc++(Yg (k+1) its).flatten:=by
   rw[Yv,List.flatten_cons,yYQ]
  rw[<- e2,<- qDz its k (acc++its),<- e,Yv,List.foldl_cons]
section
variable {X:Cx}{zy:List (Addr×Obj)}{σ:St}{H:Hp}{s:Shared}{l b:Addr}{xs ys zs:List V}
theorem Inv.lset {its its':List Value}{n:Nat}{f:Array Value->Array Value}{t':Nat}(I:Inv X zy σ H s)(hH:H l=some (.lst xs))
  (e:s.heap.get? l=some { cls:=.type "list",data:=.seq its.toArray n }) (hf:f its.toArray=its'.toArray) (hv:Vals ys its') (hz:ys.length<=Yc):
  Inv X zy σ (upd H l (.lst ys)) { s with heap:=s.heap.update l (Obj.mapSeq f),toks:=t' }:=by
 have q:=PySem.IsL.update e f
 rw[hf] at q
 refine I.write (x:=l) (e:=l) (by rw[hH];exact trivial) (.inl rfl) (fun b' u hb hu=>(Heap.get?_update_other s.heap (Obj.mapSeq f) (Ne.symm hb)).trans hu) ⟨_,q⟩ ?_
 exact⟨hz,its',_,hv,q⟩
theorem Inv.lnew {its:List Value}{t':Nat}(I:Inv X zy σ H s)(hv:Vals ys its)(hz:ys.length<=Yc):
  Inv X zy σ (upd H s.heap.objs.size (.lst ys)) { s with heap:=s.heap.push { cls:=.type "list",data:=.seq its.toArray },toks:=t' }:=
 I.laid (fun _ _ q=>yYX _ q) (yZB _) ⟨hz,its,0,hv,yYZ _ rfl⟩
theorem Inv.fresh (I:Inv X zy σ H s):H s.heap.objs.size=none:=I.hok.fresh (yZB _)
theorem Inv.lstM (I:Inv X zy σ H s)(hH:H l=some (.lst xs)):xs.length<=Yc/\∃(its:List Value) (n:Nat),Vals xs its/\xs.length=its.length/\s.heap.get? l=some { cls:=.type "list",data:=.seq its.toArray n }:=by
 obtain⟨z,its,n,r,e⟩:=I.hok l _ hH
 exact⟨z,its,n,r,r.length,e⟩
theorem qHi {n:Nat}(h:n<=Yc):Builtin.List.listTooLong n=false:=by
 unfold Builtin.List.listTooLong
 exact decide_eq_false (by omega)
end
section
variable {X:Cx}
def qEl:V->List V->Hp->VK->Prop:=fun x vs H Q=>∃l xs y,x=.ref l/\vs=[y]/\H l=some (.lst xs)/\xs.length<Yc/\Q .non (upd H l (.lst (xs++[y])))
theorem xO:MtM X "list.append" qEl:=by
 intro zy s σ H x vs v us Q I rx rv h
 obtain⟨l,xs,y,rfl,rfl,hH,hz,q⟩:=h
 cases rx
 obtain⟨u,rfl,ru⟩:=rv.one
 obtain⟨z,its,n,r,hl,e⟩:=I.lstM hH
 refine call_meets F.slot_list_append ⟨_,e,rfl⟩ F.entry_list_append (F.args_list_append_2 _ _) (PySem.list_append l its.toArray n u (by rw[yYD];omega)) ⟨e,?_⟩
 refine⟨.non,_,I.lset (its':=its++[u]) hH e (by simp) (r.append (.cons ru .nil)) ?_,rfl,q⟩
 rw[yYI,List.length_singleton]
 omega
def xKo:V->List V->Hp->VK->Prop:=fun x vs H Q=>∃l b xs zs,x=.ref l/\vs=[.ref b]/\H l=some (.lst xs)/\H b=some (.lst zs)/\xs.length+zs.length<=Yc/\Q .non (upd H l (.lst (xs++zs)))
theorem qKj:MtM X "list.extend" xKo:=by
 intro zy s σ H x vs v us Q I rx rv h
 obtain⟨l,b,xs,zs,rfl,rfl,hH,hB,hz,q⟩:=h
 cases rx
 obtain⟨u,rfl,ru⟩:=rv.one
 cases ru
 obtain⟨z,its,n,r,hl,e⟩:=I.lstM hH
 obtain⟨z2,its2,n2,r2,hl2,e2⟩:=I.lstM hB
 have hsz:its.toArray.size+its2.toArray.size<=Yc:=by rw[yYD,yYD];omega
 have hlong:¬(!its.toArray.isEmpty && Builtin.List.listTooLong (its.toArray.size+its2.toArray.size))=true:=by
  rw[qHi hsz,Bool.and_false]
  exact yZJ
 refine call_meets F.slot_list_extend ⟨_,e,rfl⟩ F.entry_list_extend (F.args_list_extend_2 _ _)
  (AutoSeq1.list_extend_list_list_0 l its.toArray n b its2.toArray n2 hlong (by rw[yYD];omega) (by omega)) ⟨e,e2,?_⟩
 refine⟨.non,_,I.lset (its':=its++its2) hH e (by simp) (r.append r2) ?_,rfl,q⟩
 rw[yYI]
 omega
def rPop:V->List V->Hp->VK->Prop:=fun x vs H Q=>∃l xs y,x=.ref l/\vs=[]/\H l=some (.lst xs)/\xs[xs.length - 1]? = some y/\Q y (upd H l (.lst xs.dropLast))
theorem xYk:MtM X "list.pop" rPop:=by
 intro zy s σ H x vs v us Q I rx rv h
 obtain⟨l,xs,y,rfl,rfl,hH,hy,q⟩:=h
 cases rx
 have hus:=rv.zero
 subst hus
 obtain⟨z,its,n,r,hl,e⟩:=I.lstM hH
 obtain⟨u,hu,ru⟩:=r.get hy
 have hy':its.toArray[its.toArray.size - 1]? = some u:=by
  show its.toArray[its.length - 1]? = some u
  rw[<- yZL,<- hl]
  exact hu
 refine call_meets F.slot_list_pop ⟨_,e,rfl⟩ F.entry_list_pop (F.args_list_pop_1 _) (MeetsSeq.list_pop_last l its.toArray n u hy' (by rw[yYD];omega)) ⟨e,?_⟩
 refine⟨y,_,I.lset (its':=its.dropLast) hH e ?_ r.dropLast ?_,ru,q⟩
 .show its.toArray.eraseIdxIfInBounds (its.toArray.size - 1)=its.dropLast.toArray
  rw[yYD,List.eraseIdxIfInBounds_toArray,qNj]
 .rw[List.length_dropLast]
  omega
def rPopAt:V->List V->Hp->VK->Prop:=fun x vs H Q=>∃l xs i k y,x=.ref l/\vs=[.int i]/\H l=some (.lst xs)/\-(2 ^ 63)<=i/\i<2 ^ 63/\seqIndex? i xs.length=some k/\xs[k]? = some y/\Q y (upd H l (.lst (xs.eraseIdx k)))
theorem xZx:MtM X "list.pop" rPopAt:=by
 intro zy s σ H x vs v us Q I rx rv h
 obtain⟨l,xs,i,k,y,rfl,rfl,hH,h1,h2,hk,hy,q⟩:=h
 cases rx
 obtain⟨u,rfl,ru⟩:=rv.one
 obtain⟨t,rfl⟩:=ru
 obtain⟨z,its,n,r,hl,e⟩:=I.lstM hH
 obtain⟨w,hw,rw'⟩:=r.get hy
 refine call_meets F.slot_list_pop ⟨_,e,rfl⟩ F.entry_list_pop (F.args_list_pop_2 _ _)
  (MeetsSeq.list_pop_at l its.toArray n i t k w (fitsIndex_both h1 h2) (by rw[yYD,<- hl];exact hk) (by rw[<- yZL];exact hw) (by rw[yYD];omega)) ⟨e,?_⟩
 refine⟨y,_,I.lset (its':=its.eraseIdx k) hH e ?_ (r.eraseIdx k) ?_,rw',q⟩
 .show its.toArray.eraseIdxIfInBounds k=(its.eraseIdx k).toArray
  rw[List.eraseIdxIfInBounds_toArray]
 .have:=qCi xs k
  omega
def qHv:V->List V->Hp->VK->Prop:=fun x vs H Q=>∃l xs,x=.ref l/\vs=[]/\H l=some (.lst xs)/\Q .non (upd H l (.lst xs.reverse))
theorem qVg:MtM X "list.reverse" qHv:=by
 intro zy s σ H x vs v us Q I rx rv h
 obtain⟨l,xs,rfl,rfl,hH,q⟩:=h
 cases rx
 have hus:=rv.zero
 subst hus
 obtain⟨z,its,n,r,hl,e⟩:=I.lstM hH
 refine call_meets F.slot_list_reverse ⟨_,e,rfl⟩ F.entry_list_reverse (F.args_list_reverse_1 _) (AutoSeq1.list_reverse_list_0 l its.toArray n (by rw[yYD];omega)) ⟨e,?_⟩
 refine⟨.non,_,I.lset (its':=its.reverse) hH e (by simp) r.reverse ?_,rfl,q⟩
 rw[Yh]
 omega
def rCat:R2:=fun x y H Q=>∃l b xs zs,x=.ref l/\y=.ref b/\H l=some (.lst xs)/\H b=some (.lst zs)/\xs.length+zs.length<=Yc/\∀p,H p=none->Q (.ref p) (upd H p (.lst (xs++zs)))
theorem qKq:OpR X (binaryOp .Add) rCat:=by
 intro zy s σ H x y v u Q I rx ry h
 obtain⟨l,b,xs,zs,rfl,rfl,hH,hB,hz,q⟩:=h
 cases rx
 cases ry
 obtain⟨z,its,n,r,hl,e⟩:=I.lstM hH
 obtain⟨z2,its2,n2,r2,hl2,e2⟩:=I.lstM hB
 refine PySem.P.add_list e e2 ?_ (by rw[yYD,yYD];omega)
 have ea:its.toArray++its2.toArray=(its++its2).toArray:=by simp
 rw[ea]
 exact⟨.ref _,_,I.lnew (t':=s.toks) (r.append r2) (by rw[yYI];omega),rfl,q _ I.fresh⟩
def rRep:R2:=fun x y H Q=>∃l k xs,x=.ref l/\y=.int k/\H l=some (.lst xs)/\-(2 ^ 63)<=k/\k<2 ^ 63/\xs.length * k.toNat<=Yc/\
 ∀p,H p=none->Q (.ref p) (upd H p (.lst (Yg k.toNat xs).flatten))
theorem xWz {α:Type}(xs:List α)(k:Nat):(Yg k xs).flatten.length=k * xs.length:=by
 induction k with
 | zero=>simp
 | succ k ih=>rw[Yv,List.flatten_cons,yYI,ih,Nat.succ_mul,Nat.add_comm]
theorem xCk:OpR X (binaryOp .Mult) rRep:=by
 intro zy s σ H x y v u Q I rx ry h
 obtain⟨l,k,xs,rfl,rfl,hH,h1,h2,hz,q⟩:=h
 cases rx
 obtain⟨t,rfl⟩:=ry
 obtain⟨z,its,n,r,hl,e⟩:=I.lstM hH
 have hlen:its.toArray.size * k.toNat<=Yc:=by rw[yYD,<- hl];exact hz
 have hcap:¬its.toArray.size * k.toNat>(2 ^ 63 - 1) / 8:=by
  have:(Yc:Nat)<=(2 ^ 63 - 1) / 8:=by decide
  omega
 have hfit:¬(!Builtin.List.listFitsIndex k)=true:=by
  rw[fitsIndex_both h1 h2]
  exact yZJ
 have hlong:¬Builtin.List.listTooLong (its.toArray.size * k.toNat)=true:=by
  rw[qHi hlen]
  exact yZJ
 have hnew:List.foldl (fun x1 x2=>x1++x2) #[] (Yg (if its.toArray.isEmpty=true then 0 else k.toNat) its.toArray)=(Yg k.toNat its).flatten.toArray:=by
  have f0:∀m:Nat,List.foldl (fun x1 x2=>x1++x2) #[] (Yg m its.toArray)=(Yg m its).flatten.toArray:=fun m=>by
   have:=qDz its m []
   rw[List.nil_append] at this
   exact this
  rw[f0]
  cases its with
  | nil=>simp
  | cons a r'=>rw[if_neg (by simp)]
 refine wpAny_binaryOp_repeat_ref (T := "list") (U := "int") (by decide) ⟨_,e,rfl⟩ (fun s'=>typeIs_int s' k t) noFill_list_mul F.fills_int_mul F.slot_int_rmul repeat_list F.slot_int_index.lookup
  (call_meets F.slot_int_rmul (typeIs_int s k t) F.entry_int_rmul (F.args_int_rmul_2 _ _) (int___rmul___int_list k t l its.toArray n)
   ⟨e,rfl,⟨_,e,rfl⟩,call_meets F.slot_list_mul ⟨_,e,rfl⟩ F.entry_list_mul (F.args_list_mul_2 _ _) (AutoListH.list___mul___list_int_3 l its.toArray n k t hfit hcap hlong) ⟨e,?_⟩⟩)
 rw[hnew]
 exact⟨.ref _,_,I.lnew (t':=s.toks) (r.rep k.toNat) (by rw[xWz,Nat.mul_comm];exact hz),rfl,q _ I.fresh⟩
end
end L2
namespace L2
open PySem PySem.Spec PyProof.Rows
section
variable {κ:Type}[DecidableEq κ]
def valV (kvs:List (κ×V))(k:κ):Option V:=(kvs.find? fun kv=>decide (kv.1=k)).map (·.2)
def putK (kvs:List (κ×V))(k:κ)(v:V):List (κ×V):=
 if (kvs.any fun kv=>decide (kv.1=k))=true then kvs.map (fun kv=>if kv.1=k then (kv.1,v) else kv) else kvs++[(k,v)]
theorem jP {p:κ×V}{r:List (κ×V)}{k:κ}(e:p.1=k):valV (p::r) k=some p.2:=by simp[valV,List.find?_cons,e]
theorem jR {p:κ×V}{r:List (κ×V)}{k:κ}(e:¬p.1=k):valV (p::r) k=valV r k:=by simp[valV,List.find?_cons,e]
theorem qWa (k:κ):∀kvs:List (κ×V),(kvs.any fun kv=>decide (kv.1=k))=(valV kvs k).isSome
 | []=>rfl
 | p::r=>by
  rw[List.any_cons]
  by_cases e:p.1=k
  .simp only[jP e,decide_eq_true e,Bool.true_or,Option.isSome_some]
  .rw[jR e,decide_eq_false e,Bool.false_or];exact qWa k r
theorem qGa (k j:κ)(y:V):∀kvs:List (κ×V),valV (kvs.map fun kv=>if kv.1=k then (kv.1,y) else kv) j=(valV kvs j).map fun x=>if j=k then y else x
 | []=>rfl
 | p::r=>by
  have ih:=qGa k j y r
  rw[Ym]
  by_cases h:p.1=k
  .rw[if_pos h]
   by_cases e:p.1=j
   .rw[jP (p:=(p.1,y)) e,jP e,yZM,if_pos (e.symm.trans h)]
   .rw[jR (p:=(p.1,y)) e,jR e,ih]
  .rw[if_neg h]
   by_cases e:p.1=j
   .rw[jP (p:=p) e,jP e,yZM,if_neg (fun z=>h (e.trans z))]
   .rw[jR (p:=p) e,jR e,ih]
theorem qBb (k j:κ)(y:V):∀kvs:List (κ×V),valV kvs k=none->valV (kvs++[(k,y)]) j=if j=k then some y else valV kvs j
 | [],_=>by
  by_cases e:k=j
  .rw[if_pos e.symm];exact jP (p:=(k,y)) e
  .rw[if_neg (fun z=>e z.symm)];exact jR (p:=(k,y)) e
 | p::r,hn=>by
  rw[List.cons_append]
  have hk:¬p.1=k:=fun z=>by rw[jP z] at hn;cases hn
  rw[jR hk] at hn
  have ih:=qBb k j y r hn
  by_cases e:p.1=j
  .rw[jP e,jP e,if_neg (fun z=>hk (e.trans z))]
  .rw[jR e,jR e,ih]
theorem qJx (kvs:List (κ×V))(k j:κ)(y:V):valV (putK kvs k y) j=if j=k then some y else valV kvs j:=by
 unfold putK
 by_cases a:(kvs.any fun kv=>decide (kv.1=k))=true
 .rw[if_pos a,qGa]
  rw[qWa] at a
  by_cases e:j=k
  .obtain⟨x,hx⟩:=Option.isSome_iff_exists.mp a
   rw[if_pos e,e,hx,yZM,if_pos rfl]
  .rw[if_neg e]
   cases valV kvs j with
   | none=>rfl
   | some x=>rw[yZM,if_neg e]
 .rw[if_neg a]
  refine qBb k j y kvs ?_
  rw[qWa] at a
  cases q:valV kvs k with
  | none=>rfl
  | some x=>rw[q] at a;exact(a rfl).elim
theorem qFw (kvs:List (κ×V))(k:κ)(v:V):(putK kvs k v).length<=kvs.length+1:=by
 unfold putK
 split
 .rw[yYC];omega
 .rw[yYI,yYS,yYT];omega
theorem KV.val {kvs:List (κ×V)}{vs:List (κ×Value)}(r:KV kvs vs)(k:κ):RelO (valV kvs k) (valueAt vs k):=by
 unfold KV at r
 induction r with
 | nil=>exact True.intro
 | @cons p q ps qs h t ih=>
  obtain⟨h1,h2⟩:=h
  by_cases e:p.1=k
  .have e':q.1=k:=h1.symm.trans e
   have b:valueAt (q::qs) k=some q.2:=by simp[valueAt,List.find?_cons,e']
   rw[jP e,b];exact h2
  .have e':¬q.1=k:=fun z=>e (h1.trans z)
   have b:valueAt (q::qs) k=valueAt qs k:=by simp[valueAt,List.find?_cons,e']
   rw[jR e,b];exact ih
theorem KV.any {kvs:List (κ×V)}{vs:List (κ×Value)}(r:KV kvs vs)(k:κ):(kvs.any fun kv=>decide (kv.1=k))=vs.any fun kv=>decide (kv.1=k):=by
 unfold KV at r
 induction r with
 | nil=>rfl
 | cons h t ih=>rw[List.any_cons,List.any_cons,ih,h.1]
theorem KV.repl {kvs:List (κ×V)}{vs:List (κ×Value)}(r:KV kvs vs)(k:κ){y:V}{u:Value}(ry:RelV y u):
  KV (kvs.map fun kv=>if kv.1=k then (kv.1,y) else kv) (vs.map fun kv=>if kv.1=k then (kv.1,u) else kv):=by
 unfold KV at r ⊢
 induction r with
 | nil=>exact .nil
 | @cons p q ps qs h t ih=>
  rw[Ym,Ym]
  refine .cons ?_ ih
  obtain⟨h1,h2⟩:=h
  by_cases e:p.1=k
  .rw[if_pos e,if_pos (h1.symm.trans e)];exact⟨h1,ry⟩
  .rw[if_neg e,if_neg (fun z=>e (h1.trans z))];exact⟨h1,h2⟩
theorem KV.put {kvs:List (κ×V)}{vs:List (κ×Value)}(r:KV kvs vs)(k:κ){y:V}{u:Value}(ry:RelV y u):KV (putK kvs k y) (stored vs k u):=by
 unfold putK stored
 rw[r.any k]
 by_cases e:(vs.any fun kv=>decide (kv.1=k))=true
 .rw[if_pos e,if_pos e];exact r.repl k ry
 .rw[if_neg e,if_neg e];exact Paired.snoc r ⟨rfl,ry⟩
theorem KV.length {kvs:List (κ×V)}{vs:List (κ×Value)}(r:KV kvs vs):kvs.length=vs.length:=Paired.length r
end
theorem qMo {P:Program}{w:World}{k:Key}{u:Value}(r:RelV (kV k) u):(zO P w).is k u=true:=by
 cases k with
 | inl i=>obtain⟨t,e⟩:=(show∃t,u=Value.int i t from r);subst e;exact qFk P w i t
 | inr x=>obtain⟨t,e⟩:=(show∃t,u=Value.str x t from r);subst e;exact jW P w x t
theorem qCo {P:Program}{w:World}:∀{ks:List Key} {us:List Value},Vals (ks.map kV) us->ItemsAre (zO P w) ks us
 | [],_,r=>by rw[List.map_nil] at r;cases r;exact .nil
 | k::ks,_,r=>by
  rw[Ym] at r
  cases r with
  | cons h t=>exact .cons (qMo h) (qCo t)
abbrev KT (H:Hp):List (List Key×V)->List (List Key×Addr×Value)->Prop:=Paired fun p q=>p.1=q.1/\H q.2.1=some (.tup (p.1.map kV))/\RelV p.2 q.2.2
theorem KT.val {H:Hp}{kvs:List (List Key×V)}{xs:List (List Key×Addr×Value)}(r:KT H kvs xs)(k:List Key):RelO (valV kvs k) ((atKey xs k).map (·.2)):=by
 induction r with
 | nil=>exact True.intro
 | @cons p q ps qs h t ih=>
  obtain⟨h1,_,h2⟩:=h
  by_cases e:p.1=k
  .have e':q.1=k:=h1.symm.trans e
   have b:atKey (q::qs) k=some q.2:=by simp[atKey,List.find?_cons,e']
   rw[jP e,b];exact h2
  .have e':¬q.1=k:=fun z=>e (h1.trans z)
   have b:atKey (q::qs) k=atKey qs k:=by simp[atKey,List.find?_cons,e']
   rw[jR e,b];exact ih
section
variable {P:Program}{w:World}{H:Hp}{h:Heap}{a:Addr}
theorem xBf {u:HO}(ok:HOk P w H h)(e:Rd H a u):ObjOk P w H h a u:=e.ok ok
theorem xDc {kvs:List (Key×V)}(ok:HOk P w H h)(e:Rd H a (.dK kvs)):kvs.length<=Yc/\(a == sysModules)=false/\∃vs,KV kvs vs/\h.DictOf (zO P w) a vs:=
 show ObjOk P w H h a (.dK kvs) from xBf ok e
theorem xYv {ks:List Key}(ok:HOk P w H h)(e:H a=some (.tup (ks.map kV))):(tupleKind (zO P w)).is h ks a:=by
 obtain⟨_,its,r,o,h1,h2,n,h3,_⟩:=(show ObjOk P w H h a (.tup (ks.map kV)) from ok a _ e)
 exact⟨o,its.toArray,n,h1,h2,h3,by simpa using qCo r⟩
theorem xDk {kvs:List (List Key×V)}(ok:HOk P w H h)(e:Rd H a (.dT kvs)):kvs.length<=Yc/\(a == sysModules)=false/\
  ∃xs,KT H kvs xs/\h.DictOfH (tupleKind (zO P w)) a xs:=by
 obtain⟨z,y,xs,r,o,es,ep,h1,h2,h3,h4,h5⟩:=(show ObjOk P w H h a (.dT kvs) from xBf ok e)
 refine⟨z,y,xs,r,o,es,ep,h1,h2,h3,h4,fun x hx=>?_,h5⟩
 have all:∀{l:List (List Key×V)} {m:List (List Key×Addr×Value)},KT H l m->∀x∈m,(tupleKind (zO P w)).is h x.1 x.2.1:=by
  intro l m q
  induction q with
  | nil=>intro x hx;exact nomatch hx
  | @cons p q ps qs hq t ih=>
   intro x hx
   rcases yYK.mp hx with e | hx
   .subst e
    exact xYv ok (by rw[<- hq.1];exact hq.2.1)
   .exact ih x hx
 exact all r x hx
end
def DGet (H:Hp)(a:Addr)(y:V)(r:Option V):Prop:=
 (∃kvs k,Rd H a (.dK kvs)/\y=kV k/\r=valV kvs k)\/∃kvs k b,Rd H a (.dT kvs)/\y=.ref b/\H b=some (.tup (k.map kV))/\r=valV kvs k
theorem DGet.k {H:Hp}{a:Addr}{kvs:List (Key×V)}{k:Key}(e:H a=some (.dK kvs)):DGet H a (kV k) (valV kvs k):=.inl ⟨kvs,k,.inl e,rfl,rfl⟩
section
variable {X:Cx}{zy:List (Addr×Obj)}{σ:St}{H:Hp}{s:Shared}{a:Addr}{y v:V}{u r:Value}{o:Option V}{A:Around}{E:Value->Shared->Prop}
theorem Inv.big (I:Inv X zy σ H s):sysModules<s.heap.objs.size:=by
 have h:Yd<s.heap.objs.size:=(I.mod.glob.keeps I.bk).lt
 exact Nat.lt_trans (by decide) h
theorem qUx {Q:Value->Shared->Prop}(hu:A.units+1<cLine)(I:Inv X zy σ H s)(g:DGet H a y (some v))(ry:RelV y u)(h:∀w' s',Inv X zy σ H s'->RelV v w'->Q w' s'):
  wpAny (model X.prog X.w) A (getItem (.ref a) u) Q E s:=by
 rcases g with⟨kvs,k,e,ey,l⟩ | ⟨kvs,k,b,e,ey,eb,l⟩
 .subst ey
  obtain⟨z,hd,vs,rel,dd⟩:=xDc I.hok e
  obtain⟨w',hw,rw'⟩:=RelO.some_of (v:=v) (o:=valueAt vs k) (by rw[l];exact rel.val k)
  exact wpAny_getItem_of (qMo ry) dd.mapOf hw (h w' _ (I.tok _) rw')
 .subst ey
  cases(show u=Value.ref b from ry)
  obtain⟨z,hd,xs,rel,dd⟩:=xDk I.hok e
  obtain⟨w',hw,rw'⟩:=RelO.some_of (v:=v) (o:=(atKey xs k).map (·.2)) (by rw[l];exact rel.val k)
  obtain⟨p,hp,hp2⟩:=Zd.mp hw
  refine wpAny_getItem_heap (tupleKind_room_in1 hu) (xYv I.hok eb) dd hp ?_
  rw[hp2]
  exact h w' _ (I.tok _) rw'
end
def NoSl (i:Expr):Prop:=∀ov iv,subscripted i false ov iv=operate [ov,iv] (getItem ov iv)
theorem qWd {prog:Program}{w:World}{A:Around}{E:Value->Shared->Prop}{s:Shared}{env:Env}{value slice:Expr}{pos:Pos}{T id:String}{Q:Value->Shared->Prop}
  (hl:typeLookup (.type T) "__getitem__" = pure (some (.builtin id))) (hs:NoSl slice)
  (h:wpAny (model prog w) A (eval value env) (fun o s₁=>wpAny (model prog w) A (eval slice env) (fun i s₂=>s₂.TypeIs o T/\wpAny (model prog w) A (getItem o i) Q E s₂) E s₁) E s):
  wpAny (model prog w) A (eval (.Subscript value slice pos) env) Q E s:=by
 refine Subscript_ (wpAny_mono h (fun o s₁ h₁=>wpAny_mono h₁ (fun i s₂ h₂=>?_) fun _ _ x=>x) fun _ _ x=>x)
 obtain⟨hT,h₂⟩:=h₂
 unfold subscriptTail
 refine yYV ?_
 rw[getitemInPython_of_ne hT.not_modules]
 refine yYV (wpAny_specialOf hT hl ?_)
 have fin:wpAny (model prog w) A (subscripted slice false o i) (fun r s₃=>wpAny (model prog w) A (letTemporaryGo value o r >>= fun _=>pure r) Q E s₃) E s₂:=by
  rw[hs o i]
  exact wpAny_operating (wpAny_mono h₂ (fun r s₃ h₃=>yYV (wpAny_letTemporaryGo (yYW h₃))) fun _ _ x=>x)
 first
  | exact yYW (yYV fin)
  | exact yYV (yYW (yYV fin))
  | exact yYV fin
theorem qFf {X:Cx}{zy:List (Addr×Obj)}{σ:St}{H:Hp}{s:Shared}{a:Addr}{y:V}{o:Option V}(I:Inv X zy σ H s)(g:DGet H a y o):s.TypeIs (.ref a) "dict" := by
 rcases g with⟨kvs,k,e,_,_⟩ | ⟨kvs,k,b,e,_,_,_⟩
 .obtain⟨_,_,vs,_,dd⟩:=xDc I.hok e
  exact dd.typeIs
 .obtain⟨_,_,xs,_,dd⟩:=xDk I.hok e
  exact dd.typeIs
def tDGet (td ty:TE):TE:=fun σ H Q=>td σ H fun x H1=>ty σ H1 fun y H2=>∃a v,x=.ref a/\DGet H2 a y (some v)/\Q v H2
section
variable {X:Cx}{o i e value:Expr}{pos pos' tpos:Pos}{td ty tv:TE}
theorem qPg (hu:X.A.units+1<cLine)(ho:PE X o td)(hi:PE X i ty)(hs:NoSl i):PE X (.Subscript o i pos) (tDGet td ty):=by
 intro zy s σ H Q I h
 refine qWd PySem.F.slot_dict_getitem.lookup hs (thn (ho zy s σ H _ I h) fun u s1 ⟨x,H1,I1,rx,q1⟩=>thn (hi zy s1 σ H1 _ I1 q1) fun iv s2 ⟨y,H2,I2,ry,a,v,ex,g,q2⟩=>?_)
 subst ex
 obtain rfl:u=Value.ref a:=rx
 exact⟨qFf I2 g,qUx hu I2 g ry fun w' s3 I3 rw'=>⟨v,H2,I3,rw',q2⟩⟩
end
def mergeK (kvs more:List (Key×V)):List (Key×V):=more.foldl (fun acc kv=>putK acc kv.1 kv.2) kvs
theorem KV.merge:∀{more:List (Key×V)} {rs:List (Key×Value)} {kvs:List (Key×V)} {vs:List (Key×Value)},KV more rs->KV kvs vs->KV (mergeK kvs more) (merged vs rs):=by
 intro more rs kvs vs r
 unfold KV at r
 induction r generalizing kvs vs with
 | nil=>intro q;exact q
 | @cons p q ps qs h t ih=>
  intro r0
  have e:KV (putK kvs p.1 p.2) (stored vs q.1 q.2):=by
   have:=r0.put p.1 h.2
   rw[<- h.1];exact this
  exact ih e
theorem qQm:∀(more kvs:List (Key×V)),(mergeK kvs more).length<=kvs.length+more.length
 | [],kvs=>by show kvs.length<=kvs.length+0;omega
 | p::r,kvs=>by
  have h1:=qQm r (putK kvs p.1 p.2)
  have h2:=qFw kvs p.1 p.2
  show(mergeK (putK kvs p.1 p.2) r).length<=_
  rw[yYS];omega
end L2
namespace Att
open PySem PySem.W PySem.Calls PyProof.Rows
theorem qKb {P:Params}{h:Heap}:∀(ns:List Int) (vs:List Value),WellAll P h vs (ns.map WData.int)->IntsAre vs ns:=by
 intro ns
 induction ns with
 | nil=>
  intro vs w
  rw[List.map_nil] at w
  cases w
  exact .nil
 | cons n ns ih=>
  intro vs w
  rw[Ym] at w
  cases w with
  | cons a b=>
   cases a
   exact .cons _ _ (ih _ b)
theorem qPk {l:OpenLaw}{n:Nat}(hn:l.most=some n){P:Params}{h:Heap}{args:List WData}{vals:List Value}
  (hpre:l.row.toRowW.claim.pre args=true) (hwl:WellAll P h vals args):
  ∃a vs ns,vals=[Value.ref a]/\args=[WData.list (ns.map WData.int)]/\h.get? a=some { cls:=.type "list",data:=.seq vs.toArray }/\IntsAre vs ns/\ns.length<=n:=by
 have hsh:WShape.hasAll [] args [.list .int]=true:=(pre_splitW hpre).1
 have hc:l.pre.holds [] { args:=args }=true:=(pre_splitW hpre).2
 obtain⟨d,r,rfl,h1,h2⟩:=hasAllW_cons hsh
 obtain rfl:=hasAllW_nil h2
 obtain⟨xs,rfl,h3⟩:=hasW_list h1
 obtain⟨ns,rfl⟩:=items_int h3
 have hlen:ns.length<=n:=by
  unfold OpenLaw.pre at hc
  have h4:(WTm.not (.lt (.lit (.int (n:Int))) (.len (.arg 0)))).holds [] { args:=[.list (ns.map .int)] }=true:=by
   have h4:=(holds_andW hc).1
   rw[hn] at h4
   exact h4
  have h5:=condW_of h4 (w_not (w_lt w_lit (w_len_list (w_arg rfl))))
  rw[yYC] at h5
  refine Nat.le_of_not_lt fun q=>?_
  have q':(n:Int)<((ns.length:Nat):Int):=by omega
  first
   | (rw[decide_eq_true q'] at h5;exact absurd h5 (by decide))
   | (simp at h5;omega)
 cases hwl with
 | cons w1 w2=>
  cases w2
  cases w1 with
  | list ho hall=>exact⟨_,_,ns,rfl,rfl,ho,qKb ns _ hall,hlen⟩
theorem qPb (l:OpenLaw)(args:List WData):l.row.toRowW.claim.post args (.bool true) args=true:=
 postW_of (r:=l.row.toRowW) (X:=(true == true))
  (show WShape.has [] (.bool true) .bool=true by first | rfl | decide | simp[WShape.has,WShape.arms,WShape.armsAll])
  (show(WTm.eq .res (.lit (.bool true))).value [] { args:=args,res:=some (.bool true),after:=args }=some (.bool (true == true)) from w_eq_bool (w_res rfl) w_lit) rfl
theorem attach_call {l:OpenLaw}{n:Nat}{q:Program}{loose:List Str}{XP:(Str->Option Value)->Heap->Prop}{YP:World->Heap->Prop}{d:DefRec}
  (hn:l.most=some n) (hdf:d.params.defaults=[])
  (call:∀(w:World) (s₀ s₁:Shared) (mg mb:Str->Option Value) (fa:Addr) (o:Obj) (pm cd doc:Value) (a:Addr) (vs:List Value) (ns:List Int),
   Ground q loose [] XP w s₀ mg mb s₁.heap->YP w s₁.heap->
   s₁.heap.get? fa=some o->o.data=.func (docDef d.name d.params d.body d.scope pm cd doc)->s₁.heap.CodeRec cd d.name->mg d.name=some (.ref fa)->
   s₁.heap.get? a=some { cls:=.type "list",data:=.seq vs.toArray }->IntsAre vs ns->ns.length<=n->s₁.gens=#[]->
   codeAny (model l.prog w) callerA (.call (.ref fa) ⟨[.ref a],[]⟩) (fun r s'=>r=.ok (.ret (.bool true))/\OldK s₁.heap s'.heap/\s'.os=s₁.os/\AllBare s'.gens) s₁):
  WalkO q loose XP YP l.row.toRowW d [] (fun f vs=>PySem.call f vs):=by
 intro w s₀ s₁ mg mb G Y fa o pm cd doc dV kV ho hd hcd hD hmg hg args vals as hpre hlay hrd hwl hlo
 obtain rfl:dV=.none:=Dflts.none hD hdf
 obtain rfl:kV=.none:=Dflts.noKw hD
 obtain⟨a,vs,ns,rfl,rfl,hobj,hints,hlen⟩:=qPk hn hpre hwl
 refine enter_call (codeAny_mono (call w s₀ s₁ mg mb fa o pm cd doc a vs ns G Y ho (fd_plain hd) hcd hmg hobj hints hlen hg) fun r s' hq=>?_)
 obtain⟨rfl,h2,h3,h4⟩:=hq
 exact⟨.inl ⟨.bool true,.bool true,[],rfl,fun _=>rfl,.bool true,qPb l _,fun _=>⟨List.Pairwise.nil,fun _ hm=>(nomatch hm)⟩⟩,h2,h3,h4⟩
section
variable {prog:Program}{w:World}{A:Around}{E:Value->Shared->Prop}{s:Shared}{K:Frag}
end
end Att
namespace L2
open PySem PySem.Spec PyProof.Rows
theorem qBa:∀{vs:List Value} {ns:List Int},IntsAre vs ns->Vals (ns.map V.int) vs
 | _,_,.nil=>.nil
 | _,_,.cons n t h=>.cons ⟨t,rfl⟩ (qBa h)
def Only (H:Hp):Prop:=∀b,H b=none\/∃o xs,H b=some (.frz o (.lst xs))
end L2
namespace L2
open PySem PySem.Spec PyProof.Rows
end L2
namespace L2
open PySem PySem.Spec PyProof.Rows
abbrev CX0:CXT:=fun _ _ _ _ _ _=>False
abbrev E0:XK:=fun _ _ _=>False
theorem pass0 {X:Cx}:Passes CX0 X E0:=fun _ _ _ _ _ _ _ h=>h.elim
structure Fun (K:yZN)(x qual:Str)(st:Stmt)(f:Addr)(fd:FuncData):Prop where
 ex:∃(oc:Value) (od:Option Addr) (kV doc pm:Value) (an:Option Addr) (zx ct:Value) (osl:Array (Option Value)),
  fd=Y7 x qual (xC st) (xB st) (xA st) .none kV doc pm an zx ct/\K.lookup f=some ⟨oc,od,.func fd,osl⟩/\PySem.W.codeIn K zx qual=true
 kp:PySem.W.keepIn K (.ref f)=true
section
variable {P:Program}{w:World}{K:yZN}{mg:Str->Option Value}{base:Heap}
theorem Fun.ok {x qual:Str}{st:Stmt}{f:Addr}{fd:FuncData}{N ps:List Str}{k:Nat}{sp:Sp}(F:Fun K x qual st f fd)(S:xM N ps (xA st))(len:∀vs H Q E,sp vs H Q E->vs.length=ps.length)
  (hbody:∀(zx:Value) (A:Around) (outer:List Env) (s:Shared) (H:Hp) (vs:List V) (Q:VK) (E:XK),Room k (A.deeper (envOfC qual (xA st) s.heap.objs.size f zx))->sp vs H Q E->
   ∃t,PSs (cxOf CX0 P w K mg base N qual (xA st) f zx A outer s H E).nox (xB st) t/\t { nx:=fun _ H'=>Q .non H',rt:=Q } (start N vs) H):FnOk P w K mg base CX0 (k+1) f fd ps sp:=by
 obtain⟨oc,od,kV,doc,pm,an,zx,ct,osl,rfl,lk,hcd⟩:=F.ex
 refine xFv lk hcd S len fun A outer s H vs Q E hr hsp=>?_
 obtain⟨t,h,q⟩:=hbody zx A outer s H vs Q E hr hsp
 exact⟨t,h.nox,q⟩
theorem Fun.binds {x qual:Str}{st:Stmt}{f:Addr}{fd:FuncData}{ps:List Str}(F:Fun K x qual st f fd)
  (h:∀(kV doc pm:Value) (an:Option Addr) (zx ct:Value) (us:List Value),us.length=ps.length->bindArgs (Y7 x qual (xC st) (xB st) (xA st) .none kV doc pm an zx ct) ⟨us,[]⟩=pure (ps.zip us)):Binds K fd ps []:=by
 obtain⟨oc,od,kV,doc,pm,an,zx,ct,osl,rfl,lk,hcd⟩:=F.ex
 exact .all (h kV doc pm an zx ct)
theorem xYb {x qual:Str}{st:Stmt}{f:Addr}{oc:Value}{od an:Option Addr}{osl:Array (Option Value)}{kV doc pm zx ct:Value}(l:K.lookup f=some ⟨oc,od,.func (Y7 x qual (xC st) (xB st) (xA st) .none kV doc pm an zx ct),osl⟩)
  (c:PySem.W.codeIn K zx qual=true) (k:PySem.W.keepIn K (.ref f)=true):Fun K x qual st f (Y7 x qual (xC st) (xB st) (xA st) .none kV doc pm an zx ct):=⟨⟨oc,od,kV,doc,pm,an,zx,ct,osl,rfl,l,c⟩,k⟩
end
theorem xDx {A:Around}{k:Nat}(hr:Room k A):A.units+1<cLine:=yZG (Nat.add_le_add_left (by decide:1<=64) _) hr.units
section
variable {X:Cx}
theorem pv (i:Nat){x:Str}{pos:Pos}(hN:X.N[i]? = some x:=by rfl)(hv:Vis X.env.scope x:=by first | exact Or.inl rfl | exact Or.inr (Or.inl rfl) | exact Or.inr (Or.inr rfl))(hd:(x == ("__debug__" : Str))=false:=by decide)
  (hcd:(x == ("__classdict__" : Str))=false:=by decide):PE X (.Name x pos) (tVar i):=xBi hN hv hd hcd
end
theorem iteF {A B:Prop}(h:B):if false=true then A else B:=by
 rw[if_neg yZJ]
 exact h
theorem iteT {A B:Prop}(h:A):if true=true then A else B:=by
 rw[if_pos rfl]
 exact h
theorem ite2 {c A B:Prop}[Decidable c](h1:c->A)(h2:¬c->B):if c then A else B:=by
 by_cases h:c
 .rw[if_pos h]
  exact h1 h
 .rw[if_neg h]
  exact h2 h
def Same (H H':Hp):Prop:=∀b o,H b=some o->H' b=some o
theorem Same.refl (H:Hp):Same H H:=fun _ _ h=>h
theorem Same.trans {H H1 H2:Hp}(a:Same H H1)(b:Same H1 H2):Same H H2:=fun c o h=>b c o (a c o h)
theorem Same.free {H H':Hp}(e:Same H H'){l:Addr}(h:H' l=Option.none):H l=Option.none:=by
 cases q:H l with
 | none=>rfl
 | some o=>
  rw[e l o q] at h
  cases h
theorem Same.seq {K:yZN}{H H':Hp}{a:Addr}{xs:List V}(e:Same H H')(h:SqL K H a xs):SqL K H' a xs:=by
 rcases h with(h | ⟨o,h⟩) | h
 .exact .inl (.inl (e _ _ h))
 .exact .inl (.inr ⟨o,e _ _ h⟩)
 .exact .inr h
end L2
namespace L2
open PySem PySem.Spec PyProof.Rows
section
variable {κ:Type}[DecidableEq κ]
theorem qRg:∀{l:List κ} {k:κ},l.Nodup->¬k∈l->(l++[k]).Nodup
 | [],k,_,_=>by simp
 | a::r,k,h,hk=>by
  obtain⟨h1,h2⟩:=List.nodup_cons.mp h
  show(a::(r++[k])).Nodup
  refine List.nodup_cons.mpr ⟨fun m=>?_,qRg h2 fun m=>hk (yYK.mpr (Or.inr m))⟩
  rcases yYR.mp m with q | q
  .exact h1 q
  .exact hk (yYK.mpr (Or.inl (yYL.mp q).symm))
end
end L2
namespace L2
open PySem PySem.Spec PyProof.Rows
theorem qWz {scope:Scope}{env:Env}(h:∀p∈scope.names,p.2=.free->∃c,env.cells.lookup p.1=some c):
  ∃cl,closureFor scope env=pure cl/\(∀x c,cl.lookup x=some c->env.cells.lookup x=some c)/\(∀p∈scope.names,p.2=.free->∃c,cl.lookup p.1=some c):=by
 have key:∀(names:List (Str×NameKind)) (acc:List (Str×Addr)),(∀p∈names,p.2=.free->∃c,env.cells.lookup p.1=some c)->(∀x c,acc.lookup x=some c->env.cells.lookup x=some c)->
   ∃cl,(forIn names acc (fun(x:Str×NameKind) (r:List (Str×Addr))=>(if (x.2 == NameKind.free)=true then (do let a <- cellOf env x.1;pure (ForInStep.yield ((x.1,a)::r))) else pure (ForInStep.yield r):Sem (ForInStep (List (Str×Addr))))):Sem (List (Str×Addr)))=pure cl/\
    (∀x c,cl.lookup x=some c->env.cells.lookup x=some c)/\(∀x c,acc.lookup x=some c->∃c,cl.lookup x=some c)/\(∀p∈names,p.2=.free->∃c,cl.lookup p.1=some c):=by
  intro names
  induction names with
  | nil=>intro acc _ ha;exact⟨acc,rfl,ha,fun x c e=>⟨c,e⟩,fun p hp=>by cases hp⟩
  | cons p r ih=>
   intro acc hn ha
   obtain⟨n,k⟩:=p
   by_cases hk:k=.free
   .subst hk
    obtain⟨c,hc⟩:=hn (n,.free) yYG rfl
    have ha':∀x d,((n,c)::acc).lookup x=some d->env.cells.lookup x=some d:=fun x d e=>by
     rw[List.lookup_cons] at e
     cases hx:x == n with
     | true=>rw[hx] at e;cases e;rw[eq_of_beq hx];exact hc
     | false=>rw[hx] at e;exact ha x d e
    obtain⟨cl,e,h1,h2,h3⟩:=ih ((n,c)::acc) (fun p hp=>hn p (yYH _ hp)) ha'
    have hcell:cellOf env n=pure c:=by unfold cellOf;rw[hc]
    refine⟨cl,?_,h1,fun x d ex=>?_,fun p hp hf=>?_⟩
    .rw[List.forIn_cons]
     show(if (NameKind.free == NameKind.free)=true then (do let a <- cellOf env n;pure (ForInStep.yield ((n,a)::acc))) else _) >>= _=_
     rw[if_pos (show(NameKind.free == NameKind.free)=true from rfl),hcell]
     exact e
    .cases hx:x == n with
     | true=>exact h2 x c (by rw[List.lookup_cons,hx])
     | false=>exact h2 x d (by rw[List.lookup_cons,hx];exact ex)
    .rcases yYK.mp hp with rfl | hp
     .exact h2 n c (by rw[List.lookup_cons,beq_self_eq_true])
     .exact h3 p hp hf
   .obtain⟨cl,e,h1,h2,h3⟩:=ih acc (fun p hp=>hn p (yYH _ hp)) ha
    refine⟨cl,?_,h1,h2,fun p hp hf=>?_⟩
    .rw[List.forIn_cons]
     show(if (k == NameKind.free)=true then _ else _) >>= _=_
     rw[if_neg (by simpa using hk)]
     exact e
    .rcases yYK.mp hp with rfl | hp
     .exact absurd hf hk
     .exact h3 p hp hf
 obtain⟨cl,e,h1,_,h3⟩:=key scope.names [] h (fun x c e=>by cases e)
 refine⟨cl,?_,h1,h3⟩
 show(forIn scope.names [] _ >>= fun r=>pure r)=pure cl
 rw[bind_pure]
 exact e
theorem wK {α:Type}(x:Str)(k:α)(l:List (Str×α)):List.lookup x ((x,k)::l)=some k:=by rw[List.lookup_cons,beq_self_eq_true]
theorem vQ {α:Type}{x n:Str}(k:α)(l:List (Str×α))(h:(x == n)=false):List.lookup x ((n,k)::l)=List.lookup x l:=by rw[List.lookup_cons,h]
theorem wP {env:Env}{x:Str}:∀(names:List (Str×NameKind)),
  (names.map fun(n,k)=>if (k == NameKind.free && env.scope.kind == .function && env.kindOf n == some .cell) then (n,NameKind.cell) else (n,k)).lookup x=
   (names.lookup x).map fun k=>if (k == NameKind.free && env.scope.kind == .function && env.kindOf x == some .cell) then NameKind.cell else k
 | []=>rfl
 | (n,k)::r=>by
  have ih:=@wP env x r
  show List.lookup x ((if (k == NameKind.free && env.scope.kind == .function && env.kindOf n == some .cell)=true then (n,NameKind.cell) else (n,k))::_)=_
  cases hx:x == n with
  | true=>
   have e:x=n:=eq_of_beq hx
   subst e
   rw[wK]
   by_cases hc:(k == NameKind.free && env.scope.kind == .function && env.kindOf x == some .cell)=true
   .rw[if_pos hc,wK]
    show _=some (if (k == NameKind.free && env.scope.kind == .function && env.kindOf x == some .cell)=true then NameKind.cell else k)
    rw[if_pos hc]
   .rw[if_neg hc,wK]
    show _=some (if (k == NameKind.free && env.scope.kind == .function && env.kindOf x == some .cell)=true then NameKind.cell else k)
    rw[if_neg hc]
  | false=>
   rw[vQ _ _ hx]
   by_cases hc:(k == NameKind.free && env.scope.kind == .function && env.kindOf n == some .cell)=true
   .rw[if_pos hc,vQ _ _ hx];exact ih
   .rw[if_neg hc,vQ _ _ hx];exact ih
def cxC (X:Cx)(scope:Scope)(cl:List (Str×Addr))(N:List Str)(fp:List Addr)(s:Shared)(H:Hp):Cx where
 prog:=X.prog
 w:=X.w
 K:=X.K
 mg:=X.mg
 base:=X.base
 A:=X.A
 N:=N
 s₀:=s
 H₀:=H
 env:=compEnvC scope cl s.heap.objs.size X.env
 outer:=X.stack
 stack:=X.stack
 ex:=fp
 fn:=fun _=>false
 calm:=X.calm
 pn:=[]
 xe:=fun _ _=>False
def PTs (X:Cx)(ifs:List Expr)(t:TT):Prop:=
 ∀(zy:List (Addr×Obj)) (s:Shared) (σ:St) (H:Hp) (Q:Bool->Hp->Prop),Inv X zy σ H s->t σ H Q->
  wpAny (model X.prog X.w) X.A (forIn ifs true fun c r=>if r=true then do let ok <- isTrue c X.env (eval c X.env);pure (ForInStep.yield ok) else pure (ForInStep.yield r)) (TP X zy σ Q) X.xe s
def tYes:TT:=fun _ H Q=>Q true H
theorem zF {X:Cx}:PTs X [] tYes:=fun _ _ _ H _ I h=>wpAny_tests_nil ⟨H,I,h⟩
theorem qXm {X:Cx}{c:Expr}{t:TT}(h:PT X c t):PTs X [c] t:=fun zy s σ H Q I q=>wpAny_tests_one (h zy s σ H Q I q)
def frees (js:List Nat)(σ:St):St:=js.map fun j=>σ.getD j none
abbrev stC (k:Nat)(js:List Nat)(σ:St):St:=Yg k none++frees js σ
def rdC (k:Nat)(js:List Nat)(g:TG)(tt:TT)(te:TE)(J:It)(σ:St)(H1:Hp)(Q:VK):Prop:=∀D,H1 D=none->
 ∃W:Nat->Nat->List V->Hp->Prop,(∃m,W 0 m [] (upd H1 D (.lst [])))/\∀i m ys H2,W i m ys H2->H2 D=some (.lst ys)/\
  ((J.stop i H2/\Q (.ref D) H2)\/(J.go i H2/\∀x H3,J.yld i H2 x H3->g x (stC k js σ) H3 fun σ4 H4=>(∃ow:St,ow.length=k/\σ4=ow++frees js σ)/\
   tt σ4 H4 fun b H5=>if b=true then te σ4 H5 fun y H6=>H6 D=some (.lst ys)/\ys.length<Yc/\∃m',m'<m/\W (i+1) m' (ys++[y]) (upd H6 D (.lst (ys++[y])))
    else ∃m',m'<m/\W (i+1) m' ys H5))
def tComp (k:Nat)(js:List Nat)(wi:TI)(g:TG)(tt:TT)(te:TE):TE:=fun σ H Q=>wi σ H fun J H1=>rdC k js g tt te J σ H1 Q
structure CompOk (sc:Scope)(N0:List Str)(scope:Scope)(N:List Str)(k:Nat)(js:List Nat):Prop where
 kind:scope.kind=.function
 cell:∀y∈scope.names,y.2≠.cell
 names:∀y∈scope.names,y.2=.local->scope.names.lookup y.1=some .local
 free:∀p∈scope.names,p.2=.free->sc.names.lookup p.1=some .cell\/sc.names.lookup p.1=some .free
 fn:∀x∈N.drop k,scope.names.lookup x=some .free
 at':js.map (fun j=>N0[j]?)=(N.drop k).map some
 le:k<=N.length
 nd:N.Nodup
theorem vI {names:List (Str×NameKind)}{x:Str}{k:NameKind}(h:names.lookup x=some k):(x,k)∈names:=PySem.mem_of_lookup h
section
variable {X:Cx}{elt tg iter:Expr}{ifs:List Expr}{scope:Scope}{cpos:Pos}{N:List Str}{k:Nat}{js:List Nat}{cl:List (Str×Addr)}{g:TG}{tt:TT}{te:TE}
theorem qSi {zy:List (Addr×Obj)}{σ:St}{H:Hp}{s:Shared}{fp:List Addr}{h₁:Heap}{t':Nat}{m:Str->Option Value}(C:CompOk X.env.scope X.N scope N k js)
  (hcl1:∀x c,cl.lookup x=some c->X.env.cells.lookup x=some c) (hcl2:∀p∈scope.names,p.2=.free->∃c,cl.lookup p.1=some c)
  (I:Inv X zy σ H s) (f2:∀b∈fp,FpOk X zy H b) (flt:∀b∈fp,b<s.heap.objs.size) (hns:h₁.Ns s.heap.objs.size m) (keep:∀b o,s.heap.get? b=some o->h₁.get? b=some o):
  Inv (cxC X scope cl N fp s H) [] (stC k js σ) H { s with heap:=h₁,toks:=t' }:=by
 have relk:∀x,(cxC X scope cl N fp s H).env.kindOf x=(scope.names.lookup x).map fun k=>if (k == NameKind.free && X.env.scope.kind == .function && X.env.kindOf x == some .cell) then NameKind.cell else k:=fun x=>wP scope.names
 have wasfree:∀x,((cxC X scope cl N fp s H).env.kindOf x=some .cell\/(cxC X scope cl N fp s H).env.kindOf x=some .free)->scope.names.lookup x=some .free:=fun x hx=>by
  rw[relk x] at hx
  cases e:scope.names.lookup x with
  | none=>rw[e] at hx;rcases hx with hx | hx <;> cases hx
  | some kd=>
   rw[e] at hx
   by_cases hk:kd=.free
   .rw[hk]
   .have hk':(kd == NameKind.free)=false:=by simpa using hk
    rw[yZM,hk',Bool.false_and,Bool.false_and,if_neg yZJ] at hx
    rcases hx with hx | hx
    .exact absurd (Option.some.inj hx) (C.cell _ (vI e))
    .exact absurd (Option.some.inj hx) hk
 have clt:∀x c,cl.lookup x=some c->c<s.heap.objs.size:=fun x c e=>by
  obtain⟨v,z⟩:=I.cell x c (hcl1 x c e)
  exact z.lt
 have ok:(cxC X scope cl N fp s H).Ok:=
  {mod:=I.ok.mod
   kind:=by show(relabel scope X.env).kind=_;exact C.kind
   glob:=I.ok.glob
   blt:=I.ok.blt
   above:=yZB _
   inj:=fun x y c e1 e2=>I.ok.inj x y c (hcl1 x c e1) (hcl1 y c e2)
   has:=fun x hx=>hcl2 (x,.free) (vI (wasfree x hx)) rfl
   cab:=fun x c z=>by cases z
   hd:=I.ok.hd
   frames:=I.ok.frames
   stk:=.inl rfl
   exf:=fun b hb=>⟨yZD (flt b hb),fun x c e=>(f2 b hb).2.2.2.2.1 x c (hcl1 x c e)⟩
   bs:=fun b o e=>I.bs b o e
   bsz:=yZH I.ok.bsz I.sz
   noex:=fun b o e hb=>by
    rcases(f2 b hb).2.2.2.1 with z | z
    .exact I.ok.noex b o e z
    .exact absurd (yZC (yYY (I.ok.bs b o e).1) z) (Nat.lt_irrefl _)
   exfs:=fun b hb z=>by
    rcases yYK.mp (I.stkSub b z) with q | q
    .exact(f2 b hb).2.1 q
    .exact(f2 b hb).2.2.1 q
   funs:=I.stack
   frf:=I.stkFree }
 have hlen:(stC k js σ).length=N.length:=by
  have q:=congrArg List.length C.at'
  rw[yYC,yYC,Yp] at q
  have:=C.le
  show(Yg k none++frees js σ).length=N.length
  rw[yYI,Yk,frees,yYC]
  omega
 refine⟨ok,rfl,I.bare,Un.kept keep,⟨m,hns,fun i x v e1 e2 e3=>?_⟩,fun x c e=>?_,I.hok.fresh (yZB _),fun x c e=>I.freeC x c (hcl1 x c e),fun p hp=>absurd (show p∈([]:List (Addr×Obj)) from hp) (by simp),I.hok.kept keep,hlen⟩
 .have e1:N[i]? = some x:=e1
  have hik:k<=i:=by
   by_cases hik:k<=i
   .exact hik
   .have e2':(Yg k (none:Option V)++frees js σ)[i]? = some (some v):=e2
    rw[Ys (by rw[Yk];omega),List.getElem?_replicate] at e2'
    split at e2' <;> cases e2'
  obtain⟨d,rfl⟩:∃d,i=k+d:=⟨i - k,by omega⟩
  have e2':(Yg k (none:Option V)++frees js σ)[k+d]? = some (some v):=e2
  rw[Yj (by rw[Yk];omega),Yk,Nat.add_sub_cancel_left,frees,yYO] at e2'
  have ed:(N.drop k)[d]? = some x:=by rw[List.getElem?_drop];exact e1
  cases ej:js[d]? with
  | none=>rw[ej] at e2';cases e2'
  | some j=>
   rw[ej] at e2'
   have ev:σ.getD j none=some v:=Option.some.inj e2'
   have ej2:X.N[j]? = some x:=by
    have q:=congrArg (fun l=>l[d]?) C.at'
    simp only[yYO,ej,ed,yZM] at q
    exact Option.some.inj q
   have eσ:σ[j]? = some (some v):=by
    rw[Yi] at ev
    cases z:σ[j]? with
    | none=>rw[z] at ev;cases ev
    | some w=>rw[z] at ev;exact congrArg some ev
   have hfx:scope.names.lookup x=some .free:=C.fn x (yYE ed)
   have hX:X.env.scope.names.lookup x=some .cell\/X.env.scope.names.lookup x=some .free:=C.free (x,.free) (vI hfx) rfl
   obtain⟨mX,_,lX⟩:=I.loc
   obtain⟨u,ru,lu⟩:=lX j x v ej2 eσ (hX.elim (fun z=>.inr (.inl z)) fun z=>.inr (.inr z))
   refine⟨u,ru,.inr ⟨?_,?_⟩⟩
   .rw[relk x,hfx]
    show some (if _ then _ else _)=_\/some (if _ then _ else _)=_
    split
    .exact .inl rfl
    .exact .inr rfl
   .rcases lu with⟨z,_⟩ | ⟨_,c,ec,ic⟩
    .have z:X.env.scope.names.lookup x=some .local:=z
     rcases hX with q | q <;> rw[q] at z <;> cases z
    .obtain⟨c',ec'⟩:=hcl2 (x,.free) (vI hfx) rfl
     have:c'=c:=Option.some.inj ((hcl1 x c' ec').symm.trans ec)
     subst this
     obtain⟨o,ho,hd⟩:=ic
     exact⟨c',ec',o,keep _ _ ho,hd⟩
 .obtain⟨v,o,ho,hd⟩:=I.cell x c (hcl1 x c e)
  exact⟨v,o,keep _ _ ho,hd⟩
theorem qIb {zy:List (Addr×Obj)}{σ:St}{H2:Hp}{s2:Shared}{E:Value->Shared->Prop}{it:Addr}{fp:List Addr}{tn:Nat->Heap->Prop}{J:It}{Q:VK}{RR:Value->Addr->Result->Shared->Prop}
  (hc:X.calm=true) (C:CompOk X.env.scope X.N scope N k js) (hcl1:∀x c,cl.lookup x=some c->X.env.cells.lookup x=some c) (hcl2:∀p∈scope.names,p.2=.free->∃c,cl.lookup p.1=some c)
  (hg:∀fp s H,PG (cxC X scope cl N fp s H) tg g) (ht:∀fp s H,PTs (cxC X scope cl N fp s H) ifs tt) (he:∀fp s H,PE (cxC X scope cl N fp s H) elt te)
  (I:Inv X zy σ H2 s2) (T:Turn X.prog X.w X.K tg J fp it tn) (st:tn 0 s2.heap) (f2:∀b∈fp,FpOk X zy H2 b) (rd:rdC k js g tt te J σ H2 Q)
  (fin:∀D L H' s',Inv X zy σ H' s'->FpOk X zy H' L->(∃m,s'.heap.Ns L m)->Q (.ref D) H'->RR (.ref D) L (.ok .next) s'):
  wpAny (model X.prog X.w) X.A (newList []) (fun acc s₃=>wpAny (model X.prog X.w) X.A (newFunctionEnv scope X.env.globals cl [] X.env.qual none .none (some X.env)) (fun cenv s₄=>
   codeAny (model X.prog X.w) X.A (.compStart (.ListComp elt [⟨tg,iter,ifs,0⟩] scope cpos) 0 (.ref it) acc { cenv with scope:=relabel scope X.env }) (RR acc cenv.locals) s₄) E s₃) E s2:=by
 refine wpAny_newObj_type (wpAny_newFunctionEnv C.cell (by intro y hy;simp at hy) (fun h₁ hns₁ hsb₁=>?_) C.kind)
 dsimp only at hns₁ hsb₁ ⊢
 have hD:H2 s2.heap.objs.size=none:=I.hok.fresh (yZB _)
 have Id:Inv X zy σ (upd H2 s2.heap.objs.size (.lst [])) { s2 with heap:=s2.heap.push { cls:=.type "list",dict:=none,data:=.seq ([]:List Value).toArray } }:=
  I.laid (t':=s2.toks) (fun b u e=>yYX _ e) (yZB _) ⟨yZE _,[],0,.nil,yYZ _ rfl⟩
 have kD:∀b o,s2.heap.get? b=some o->(s2.heap.push { cls:=.type "list",dict:=none,data:=.seq ([]:List Value).toArray }).get? b=some o:=fun b o e=>yYX _ e
 generalize hHd:s2.heap.push { cls:=.type "list",dict:=none,data:=.seq ([]:List Value).toArray }=Hd at hns₁ hsb₁ Id kD ⊢
 have szd:Hd.objs.size=s2.heap.objs.size+1:=by rw[<- hHd,yZA]
 have keep:∀b o,Hd.get? b=some o->h₁.get? b=some o:=fun b o e=>hsb₁.extBut b o (yZD (yYY e)) (yYX _ e)
 have flt2:∀b∈fp,b<s2.heap.objs.size:=fun b hb=>by
  obtain⟨o,e,_⟩:=T.obj _ _ st b hb
  exact yYY e
 have fd:∀b∈fp,FpOk X zy (upd H2 s2.heap.objs.size (.lst [])) b:=fun b hb=>
  ⟨by rw[qA (yZD (flt2 b hb))];exact(f2 b hb).1,(f2 b hb).2⟩
 obtain⟨W,⟨m0,w0⟩,turn⟩:=rd _ hD
 generalize hY:cxC X scope cl N fp { s2 with heap:=Hd } (upd H2 s2.heap.objs.size (.lst []))=Y
 have hg:=hg fp { s2 with heap:=Hd } (upd H2 s2.heap.objs.size (.lst []))
 have ht:=ht fp { s2 with heap:=Hd } (upd H2 s2.heap.objs.size (.lst []))
 have he:=he fp { s2 with heap:=Hd } (upd H2 s2.heap.objs.size (.lst []))
 have loop:∀s₃:Shared,s₃={ s2 with heap:=h₁,toks:=s2.toks+([]:List (Str×Value)).length }->
   codeAny (model X.prog X.w) X.A (.compLoop (.ListComp elt [⟨tg,iter,ifs,0⟩] scope cpos) 0 (.ref it) (.ref s2.heap.objs.size) (compEnvC scope cl Hd.objs.size X.env))
    (RR (.ref s2.heap.objs.size) Hd.objs.size) s₃:=by
  rintro s₃ rfl
  have IY:Inv Y [] (stC k js σ) (upd H2 s2.heap.objs.size (.lst [])) { s2 with heap:=h₁,toks:=s2.toks+([]:List (Str×Value)).length }:=by
   rw[<- hY]
   exact qSi (t':=s2.toks+([]:List (Str×Value)).length) C hcl1 hcl2 Id fd (fun b hb=>yZC (flt2 b hb) (by show s2.heap.objs.size<=Hd.objs.size;omega)) hns₁ keep
  rw[hY] at hg ht he
  have yprog:Y.prog=X.prog:=by rw[<- hY];rfl
  have yw:Y.w=X.w:=by rw[<- hY];rfl
  have yK:Y.K=X.K:=by rw[<- hY];rfl
  have yA:Y.A=X.A:=by rw[<- hY];rfl
  have yc:Y.calm=true:=by rw[<- hY];exact hc
  have yenv:Y.env=compEnvC scope cl Hd.objs.size X.env:=by rw[<- hY];rfl
  have yxe:Y.xe=fun _ _=>False:=by rw[<- hY];rfl
  have ybase:∀{pn σ' H' s'},Inv Y pn σ' H' s'->Un (frs X.stack) fp (upd H2 s2.heap.objs.size (.lst [])) H' Hd s'.heap/\s'.os=s2.os:=fun{pn σ' H' s'} J=>by
   have u:=J.base
   have o:=J.os
   rw[<- hY] at u o
   exact⟨u,o⟩
  have statY:∀{H':Hp},(∀b∈fp,H' b=none)->∀b∈fp,FpOk Y [] H' b:=fun{H'} hn b hb=>by
   rw[<- hY]
   refine⟨hn b hb,yZD (yZC (flt2 b hb) (by show s2.heap.objs.size<=Hd.objs.size;omega)),?_,.inl hb,fun x c e=>(f2 b hb).2.2.2.2.1 x c (hcl1 x c e),fun p hp=>absurd (show p∈([]:List (Addr×Obj)) from hp) (by simp)⟩
   intro z
   rcases yYK.mp (I.stkSub b z) with q | q
   .exact(f2 b hb).2.1 q
   .exact(f2 b hb).2.2.1 q
  have st₁:tn 0 h₁:=T.keep _ _ _ st fun b hb o e=>keep b o (kD b o e)
  refine codeAny_loop rfl (fun n s'=>∃i ys H',Inv Y [] (stC k js σ) H' s'/\tn i s'.heap/\(∀b∈fp,H' b=none)/\W i n ys H') ?_ m0 ⟨0,[],_,IY,st₁,fun b hb=>(fd b hb).1,w0⟩
  rintro n s3 ⟨i,ys,H3,I3,st3,fr3,w3⟩
  show wpAny _ X.A ((compTurn (.ListComp elt [⟨tg,iter,ifs,0⟩] scope cpos) 0 (.ref it) (.ref s2.heap.objs.size) (compEnvC scope cl Hd.objs.size X.env)).onRaise (fun x=>do noteFrame x (compEnvC scope cl Hd.objs.size X.env);theTreesLotGoes x)) _ _ s3
  refine wpAny_noted ?_
  rw[compTurn_list]
  obtain⟨hDs,tr⟩:=turn i n ys H3 w3
  have hPE:∀{α:Type} {t:Sem α} {R R':α->Shared->Prop} {E':Value->Shared->Prop} {s:Shared},wpAny (model Y.prog Y.w) Y.A t R Y.xe s->(∀a s,R a s->R' a s)->wpAny (model X.prog X.w) X.A t R' E' s:=fun{α t R R' E' s} h hQ=>by
   rw[yprog,yw,yA,yxe] at h
   exact wpAny_mono h hQ fun _ _ z=>z.elim
  rcases tr with⟨stop,qn⟩ | ⟨go,step⟩
  .refine yYV (wpAny_standAt (yYV ?_))
   have dn:=T.done Y yprog yw yK yc i [] s3 (stC k js σ) H3 (fun _ _=>False) I3 (statY fr3) st3 stop
   rw[yA] at dn
   refine wpAny_mono dn (fun r s4 ⟨hr,I4⟩=>?_) fun _ _ z=>z.elim
   subst hr
   obtain⟨u4,o4⟩:=ybase I4
   refine yYW (fin _ _ H3 s4 ?_ ?_ ?_ qn)
   .refine I.call' (ch:=fp) o4 ((Un.laid (fun b o e=>kD b o e) (yZB _) hD).trans u4) (by have:=I4.hok;rw[yprog,yw] at this;exact this) I4.bare fun b hb=>?_
    obtain⟨_,q1,q2,q3,q4,q5⟩:=f2 b hb
    exact⟨q3,q1,q4,q5⟩
   .refine I.fpOk (by show s2.heap.objs.size<=Hd.objs.size;omega) ?_
    have:=I4.free
    rw[yenv] at this
    exact this
   .obtain⟨m,hn,_⟩:=I4.loc
    rw[yenv] at hn
    exact⟨m,hn⟩
  .refine yYV (wpAny_standAt (yYV ?_))
   have itm:=T.item Y yprog yw yK yc i [] s3 (stC k js σ) H3 (fun _ _=>False) I3 (statY fr3) st3 go
   rw[yA] at itm
   refine wpAny_mono itm (fun r s4 ⟨u,hr,h4⟩=>?_) fun _ _ z=>z.elim
   subst hr
   refine yYV (wpAny_mono h4 (fun _ s5 ⟨x,H5,I5,r5,y5,st5,fr5⟩=>?_) fun _ _ z=>z.elim)
   have I5':=I5.pinned (statY fr5) (T.obj _ _ st5)
   have as:=hg _ s5 (stC k js σ) H5 x u _ I5' r5 (step x H5 y5)
   rw[yenv] at as
   refine yYV (hPE as fun _ s6 ⟨σ6,H6,I6,⟨ow,eow,e6⟩,q6⟩=>?_)
   have again:∀{H7:Hp} {s7:Shared} {zs:List V},Inv Y ([]++pinsAt fp s5.heap) σ6 H7 s7->(∃m',m'<n/\W (i+1) m' zs H7)->
     ∃m,m<n/\∃i ys H',Inv Y [] (stC k js σ) H' s7/\tn i s7.heap/\(∀b∈fp,H' b=none)/\W i m ys H':=fun{H7 s7 zs} I7 ⟨m',hm,w7⟩=>by
    have J7:Inv Y ([]++pinsAt fp s5.heap) (stC k js σ) H7 s7:=by
     refine I7.weak ?_ fun j v e=>?_
     .rw[e6]
      show(Yg k none++frees js σ).length=_
      rw[yYI,yYI,Yk,eow]
     .have e:(Yg k (none:Option V)++frees js σ)[j]? = some (some v):=e
      rw[e6]
      by_cases hj:j<k
      .rw[Ys (by rw[Yk];exact hj),List.getElem?_replicate] at e
       split at e <;> cases e
      .rw[Yj (by rw[Yk];omega),Yk] at e
       rw[Yj (by omega),eow]
       exact e
    refine⟨m',hm,i+1,zs,H7,J7.unpinned,T.keep _ _ _ st5 fun b hb o e=>(I7.pin (b,o) (yYN _ (yYN _ (wH hb e)))).1,fun b hb=>?_,w7⟩
    obtain⟨o,e,d⟩:=T.obj _ _ st5 b hb
    exact(I7.pin (b,o) (yYN _ (yYN _ (wH hb e)))).2.1
   have tst:=ht _ s6 σ6 H6 _ I6 q6
   rw[yenv] at tst
   refine yYV (hPE tst fun b s7 ⟨H7,I7,q7⟩=>?_)
   cases b with
   | false=>exact yYW ⟨rfl,again I7 q7⟩
   | true=>
    have ev:=he _ s7 σ6 H7 _ I7 q7
    rw[yenv] at ev
    refine yYV (yYV (hPE ev fun v s8 ⟨y,H8,I8,r8,q8,z8,w8⟩=>?_))
    refine yYV (hPE (xO (X:=Y) _ s8 σ6 H8 (.ref s2.heap.objs.size) [y] (.ref s2.heap.objs.size) [v] (fun _ H9=>H9=upd H8 s2.heap.objs.size (.lst (ys++[y]))) I8 rfl (.cons r8 .nil) ⟨_,ys,y,rfl,rfl,q8,z8,rfl⟩) fun _ s9 ⟨_,H9,I9,_,e9⟩=>?_)
    subst e9
    exact yYW (yYW ⟨rfl,again I9 w8⟩)
 exact codeAny_compStart_list (loop _ rfl) (T.self _ 0 _ _ _ (T.keep _ _ _ st fun b hb o e=>keep b o (kD b o e)) (loop _ rfl))
theorem xYa {zy:List (Addr×Obj)}{σ:St}{H:Hp}{s:Shared}(I:Inv X zy σ H s)(C:CompOk X.env.scope X.N scope N k js):∀p∈scope.names,p.2=.free->∃c,X.env.cells.lookup p.1=some c:=
 fun p hp hf=>I.ok.has p.1 (C.free p hp hf)
theorem zI {wi:TI}{sc:Scope}{N0:List Str}(hc:X.calm=true)(C:CompOk sc N0 scope N k js)(hi:PI X tg iter wi)
  (hg:∀cl fp s H,PG (cxC X scope cl N fp s H) tg g) (ht:∀cl fp s H,PTs (cxC X scope cl N fp s H) ifs tt) (he:∀cl fp s H,PE (cxC X scope cl N fp s H) elt te)
  (hs:∀x,foldedSetIterable iter X.env x=pure x:=by intro _;rfl) (hsc:X.env.scope=sc:=by rfl) (hN0:X.N=N0:=by rfl):PE X (.ListComp elt [⟨tg,iter,ifs,0⟩] scope cpos) (tComp k js wi g tt te):=by
 subst hsc hN0
 intro zy s σ H Q I h
 obtain⟨cl,e,h1,h2⟩:=qWz (xYa I C)
 rw[eval_ListComp]
 refine wpAny_comprehension_free (use:=none) rfl hs e C.kind C.names (thn (hi zy s σ H _ I h) fun v s1 q=>thn q fun itv s2 q2=>?_)
 obtain⟨it,fp,tn,J,H2,rfl,I2,T,st,f2,rd⟩:=q2
 refine qIb (RR:=fun acc L=>compPost (model X.prog X.w) X.A X.xe none (EP X zy σ Q) acc L) hc C h1 h2 (hg cl) (ht cl) (he cl) I2 T st f2 rd ?_
 intro D L H' s' I' ⟨f0,f1,_,f3,f4,f5⟩ ⟨m,hn⟩ q
 refine⟨m,hn,fun h' sb=>⟨.ref D,H',?_,rfl,q⟩⟩
 exact I'.turned (t':=s'.toks) (fun b o hb e=>(sb.2 b hb).trans e) f0 f1 f3 f4 f5
theorem yD {wi:TI}{i:Nat}{x:Str}{pos pos':Pos}{sc:Scope}{N0:List Str}(hN:X.N.Nodup)(hi':X.N[i]? = some x)(hx:Loc X.env.scope x)(hc:X.calm=true)(C:CompOk sc N0 scope N k js)(hi:PI X tg iter wi)
  (hg:∀cl fp s H,PG (cxC X scope cl N fp s H) tg g) (ht:∀cl fp s H,PTs (cxC X scope cl N fp s H) ifs tt) (he:∀cl fp s H,PE (cxC X scope cl N fp s H) elt te)
  (hsw:swapsWith (.ListComp elt [⟨tg,iter,ifs,0⟩] scope cpos) (some (.Name x pos')) pos.line X.env=pure true:=by rfl)
  (hs:∀x,foldedSetIterable iter X.env x=pure x:=by intro _;rfl) (hsc:X.env.scope=sc:=by rfl) (hN0:X.N=N0:=by rfl) (hf:X.fn x=true\/X.env.scope.names.lookup x=some .local:=by first | exact .inl rfl | exact .inr rfl | assumption):
  PS X (.Assign [.Name x pos'] (.ListComp elt [⟨tg,iter,ifs,0⟩] scope cpos) pos) (tAsg (tComp k js wi g tt te) (gName i)):=by
 subst hsc hN0
 intro zy s σ H D I h
 obtain⟨cl,e,h1,h2⟩:=qWz (xYa I C)
 rw[exec_Assign_Name_used _ _ _ _ hsw]
 refine yYV (wpAny_standAt (yYV ?_))
 show wpAny _ X.A (do let _ <- comprehension (.ListComp elt [⟨tg,iter,ifs,0⟩] scope cpos) scope X.env _ (newList []) false (eval iter X.env) (some (assign (.Name x pos') X.env))) _ _ s
 refine yYV (wpAny_mono (wpAny_comprehension_free (use:=some (assign (.Name x pos') X.env)) (Q:=fun _ s'=>SP X zy D .next s') rfl hs e C.kind C.names
  (thn (hi zy s σ H _ I h) fun v s1 q=>thn q fun itv s2 q2=>?_)) (fun _ s' hq=>yYW (yYW hq)) fun _ _ z=>z)
 obtain⟨it,fp,tn,J,H2,rfl,I2,T,st,f2,rd⟩:=q2
 refine qIb (RR:=fun acc L=>compPost (model X.prog X.w) X.A X.xe (some (assign (.Name x pos') X.env)) (fun _ s'=>SP X zy D .next s') acc L) hc C h1 h2 (hg cl) (ht cl) (he cl) I2 T st f2 rd ?_
 intro A' L H' s' I' ⟨f0,f1,f2',f3,f4,f5⟩ ⟨m,hn⟩ q
 show wpAny _ X.A (assign (.Name x pos') X.env (.ref A')) _ _ s'
 refine wpAny_assign_Name (qBf (v:=V.ref A') I' hN hi' hx rfl (fun s'' I'' ⟨a,sb,ha⟩=>?_) hf)
 have hLa:L≠a:=by
  rcases ha with rfl | ha
  .exact f1
  .exact fun z=>f4 x a ha z.symm
 refine⟨m,hn.sameBut sb hLa,fun h' sb'=>⟨σ.set i (some (.ref A')),H',?_,q⟩⟩
 exact I''.turned (t':=s''.toks) (fun b o hb e=>(sb'.2 b hb).trans e) f0 f1 f3 f4 f5
end
abbrev turnC (k:Nat)(js:List Nat)(g:TG)(tt:TT)(te:TE)(σ:St)(D:Addr)(x:V)(ys:List V)(H:Hp)(N:List V->Hp->Prop):Prop:=
 g x (stC k js σ) H fun σ4 H4=>(∃ow:St,ow.length=k/\σ4=ow++frees js σ)/\
  tt σ4 H4 fun b H5=>if b=true then te σ4 H5 fun y H6=>H6 D=some (.lst ys)/\ys.length<Yc/\N (ys++[y]) (upd H6 D (.lst (ys++[y]))) else N ys H5
section
variable {K:yZN}{a:Addr}{xs:List V}{k:Nat}{js:List Nat}{g:TG}{tt:TT}{te:TE}{σ:St}{H1:Hp}{Q:VK}
theorem zV (Pv:Addr->Nat->List V->Hp->Prop)(h0:∀D,H1 D=none->Pv D 0 [] (upd H1 D (.lst [])))
  (hl:∀D i ys H,i<=xs.length->Pv D i ys H->SqL K H a xs)
  (hs:∀D i x ys H (N:List V->Hp->Prop),H1 D=none->H D=some (.lst ys)->xs[i]? = some x->Pv D i ys H->(∀zs H',H' D=some (.lst zs)->Pv D (i+1) zs H'->N zs H')->turnC k js g tt te σ D x ys H N)
  (hd:∀D ys H,H1 D=none->H D=some (.lst ys)->Pv D xs.length ys H->Q (.ref D) H):rdC k js g tt te (Itl K a) σ H1 Q:=by
 intro D hD
 refine⟨fun i m ys H=>m=xs.length - i/\i<=xs.length/\H D=some (.lst ys)/\Pv D i ys H,⟨xs.length,by simp,yZE _,qW,h0 D hD⟩,?_⟩
 rintro i m ys H ⟨rfl,hi,hDy,p⟩
 refine⟨hDy,?_⟩
 have q:=hl D i ys H hi p
 by_cases hlt:i<xs.length
 .refine .inr ⟨⟨xs,xs[i],q,by simp[hlt]⟩,fun x H' y=>?_⟩
  obtain⟨e,y⟩:=y
  subst e
  exact hs D i x ys _ (fun zs H'=>∃m',m'<xs.length - i/\m'=xs.length - (i+1)/\i+1<=xs.length/\H' D=some (.lst zs)/\Pv D (i+1) zs H') hD hDy (y xs q) p fun zs H' e p'=>⟨xs.length - (i+1),by omega,rfl,hlt,e,p'⟩
 .have e:i=xs.length:=by omega
  subst e
  exact .inl ⟨⟨xs,q,yZB _⟩,hd D ys H hD hDy p⟩
theorem qIw (Pv:Addr->Nat->List V->Hp->Prop)(h0:∀D,H1 D=none->Pv D 0 [] (upd H1 D (.lst [])))
  (hl:∀D i ys H,i<=xs.length->Pv D i ys H->SqT K H a xs)
  (hs:∀D i x ys H (N:List V->Hp->Prop),H1 D=none->H D=some (.lst ys)->xs[i]? = some x->Pv D i ys H->(∀zs H',H' D=some (.lst zs)->Pv D (i+1) zs H'->N zs H')->turnC k js g tt te σ D x ys H N)
  (hd:∀D ys H,H1 D=none->H D=some (.lst ys)->Pv D xs.length ys H->Q (.ref D) H):rdC k js g tt te (Itt K a) σ H1 Q:=by
 intro D hD
 refine⟨fun i m ys H=>m=xs.length - i/\i<=xs.length/\H D=some (.lst ys)/\Pv D i ys H,⟨xs.length,by simp,yZE _,qW,h0 D hD⟩,?_⟩
 rintro i m ys H ⟨rfl,hi,hDy,p⟩
 refine⟨hDy,?_⟩
 have q:=hl D i ys H hi p
 by_cases hlt:i<xs.length
 .refine .inr ⟨⟨xs,xs[i],q,by simp[hlt]⟩,fun x H' y=>?_⟩
  obtain⟨e,y⟩:=y
  subst e
  exact hs D i x ys _ (fun zs H'=>∃m',m'<xs.length - i/\m'=xs.length - (i+1)/\i+1<=xs.length/\H' D=some (.lst zs)/\Pv D (i+1) zs H') hD hDy (y xs q) p fun zs H' e p'=>⟨xs.length - (i+1),by omega,rfl,hlt,e,p'⟩
 .have e:i=xs.length:=by omega
  subst e
  exact .inl ⟨⟨xs,q,yZB _⟩,hd D ys H hD hDy p⟩
theorem qWx {lo:Int}{n:Nat}(Pv:Addr->Nat->List V->Hp->Prop)(h0:∀D,H1 D=none->Pv D 0 [] (upd H1 D (.lst [])))
  (hs:∀D i ys H (N:List V->Hp->Prop),H1 D=none->H D=some (.lst ys)->i<n->Pv D i ys H->(∀zs H',H' D=some (.lst zs)->Pv D (i+1) zs H'->N zs H')->turnC k js g tt te σ D (.int (lo+i)) ys H N)
  (hd:∀D ys H,H1 D=none->H D=some (.lst ys)->Pv D n ys H->Q (.ref D) H):rdC k js g tt te (Itr lo n) σ H1 Q:=by
 intro D hD
 refine⟨fun i m ys H=>m=n - i/\i<=n/\H D=some (.lst ys)/\Pv D i ys H,⟨n,by simp,yZE _,qW,h0 D hD⟩,?_⟩
 rintro i m ys H ⟨rfl,hi,hDy,p⟩
 refine⟨hDy,?_⟩
 by_cases hlt:i<n
 .refine .inr ⟨hlt,fun x H' y=>?_⟩
  obtain⟨e,y⟩:=y
  subst e y
  exact hs D i ys _ (fun zs H'=>∃m',m'<n - i/\m'=n - (i+1)/\i+1<=n/\H' D=some (.lst zs)/\Pv D (i+1) zs H') hD hDy hlt p fun zs H' e p'=>⟨n - (i+1),by omega,rfl,hlt,e,p'⟩
 .have e:i=n:=by omega
  subst e
  exact .inl ⟨yZB _,hd D ys H hD hDy p⟩
end
def qEf (e:Expr):Scope:=match e with
 | .ListComp _ _ s _=>s
 | _=>{ kind:=.function,names:=[],isGenerator:=false,isCoroutine:=false }
def argOf (e:Expr)(i:Nat):Expr:=match e with
 | .Call _ as _ _=>as.getD i (.Constant .none 0 ⟨0,0,0,0⟩)
 | _=>.Constant .none 0 ⟨0,0,0,0⟩
def stAt (l:List Stmt)(i:Nat):Stmt:=l.getD i (.Pass ⟨0,0,0,0⟩)
def asgVal (s:Stmt):Expr:=match s with
 | .Assign _ v _=>v
 | .Return (some v) _=>v
 | _=>.Constant .none 0 ⟨0,0,0,0⟩
end L2
namespace L2
open PySem PySem.Spec PyProof.Rows
theorem log2_lt {n k:Nat}(h:n<2 ^ (k+1)):n.log2<=k:=by
 by_cases h0:n=0
 .subst h0;simp
 .exact Nat.lt_succ_iff.mp ((Nat.log2_lt h0).mpr h)
theorem qUe {a:Int}(h:a.natAbs<2 ^ 1000):Builtin.Int.intBits a<=2 ^ 20:=by
 unfold Builtin.Int.intBits
 split
 .exact yZE _
 .have:=log2_lt (n:=a.natAbs) (k:=999) h
  have e:(2:Nat) ^ 20=1048576:=by decide
  omega
theorem mulOk {a b:Int}(ha:a.natAbs<2 ^ 1000)(hb:b.natAbs<2 ^ 1000):IntMulOk a b:=IntMulOk.of_bits (qUe ha) (qUe hb)
section
variable {X:Cx}{a b:Expr}{ta tb:TE}{pos:Pos}
theorem yE:OpR X (binaryOp .Mult) (rI (fun i j=>i.natAbs<2 ^ 1000/\j.natAbs<2 ^ 1000) fun i j=>.int (i * j)):=opI fun _ _ _ _ _ _ _ hc q=>mul_int q (mulOk hc.1 hc.2)
theorem vH:OpR X (binaryOp .FloorDiv) (rI (fun _ j=>0<j/\j.natAbs<2 ^ 1000) fun i j=>.int (i / j)):=opI fun i j _ _ _ _ _ hc q=>by
 have h0:j≠0:=by have:=hc.1;omega
 have e:i.fdiv j=i / j:=Int.fdiv_eq_ediv_of_nonneg _ (by have:=hc.1;omega)
 refine floordiv_int h0 (by rw[e];exact q) (.inl (PyProof.noPylong_of_log2 ?_))
 have:=log2_lt (n:=j.natAbs) (k:=999) hc.2
 omega
theorem qPi:OpR X (binaryOp .Mult) (fun x y H Q=>∃z n,x=.str z/\y=.int n/\-1000<=n/\n<=1000/\z.length<=1000/\Q (.str (Txt.mul z n)) H):=by
 intro zy s σ H x y v u Q I rx ry h
 obtain⟨z,n,rfl,rfl,h0,h1,h2,q⟩:=h
 obtain⟨t,rfl⟩:=rx
 obtain⟨t',rfl⟩:=ry
 refine SB.mul ⟨?_,fun a b=>?_,fun a b=>?_⟩ fun t'' k=>⟨.str (Txt.mul z n),H,I.tok _,⟨_,rfl⟩,q⟩
 .rw[decide_eq_false (by omega),decide_eq_false (by omega)];rfl
 .intro c
  have:(2 ^ 63 - 1) / n>=(2 ^ 63 - 1) / 1000:=by
   apply Int.le_ediv_of_mul_le (by omega)
   have:(2 ^ 63 - 1:Int) / 1000 * n<=(2 ^ 63 - 1) / 1000 * 1000:=Int.mul_le_mul_of_nonneg_left h1 (by decide)
   exact Int.le_trans this (by decide)
  have e:((2:Int) ^ 63 - 1) / 1000=9223372036854775:=by decide
  omega
 .show decide (z.length * n.toNat>Yc)=false
  refine decide_eq_false ?_
  have:z.length * n.toNat<=1000 * 1000:=Nat.mul_le_mul h2 (by omega)
  have e:Yc=16777216:=by decide
  omega
theorem qDj (x:Array Nat):∀(k:Nat) (acc:Array Nat),((Yg k x).foldl (·++·) acc).size=acc.size+k * x.size
 | 0,acc=>by simp
 | k+1,acc=>by
  rw[Yv,List.foldl_cons,qDj x k,Array.size_append,Nat.succ_mul]
  omega
theorem qRi (x:Str)(n:Int):(Txt.mul x n).length<=x.length * n.toNat:=by
 unfold Txt.mul
 split
 .exact yZE _
 .split
  .rename_i h1 h2
   have:1<=n.toNat:=by omega
   exact Nat.le_mul_of_pos_right _ (by omega)
  .show((Yg n.toNat x.cps).foldl (·++·) #[]).size<=_
   rw[qDj,Nat.mul_comm]
   exact Nat.le_of_eq (by simp[Str.length])
inductive DEq (K:yZN)(H:Hp):Nat->V->V->Prop
 | int {n} (i:Int):DEq K H n (.int i) (.int i)
 | str {n} (x:Str):DEq K H n (.str x) (.str x)
 | bl {n} (b:Bool):DEq K H n (.bl b) (.bl b)
 | non {n}:DEq K H n .non .non
 | same {n} (a:Addr):DEq K H n (.ref a) (.ref a)
 | lst {n} {a b:Addr} {xs ys:List V}:SqL K H a xs->SqL K H b ys->xs.length=ys.length->(∀(j:Nat) x y,xs[j]? = some x->ys[j]? = some y->DEq K H n x y)->DEq K H (n+1) (.ref a) (.ref b)
 | tup {n} {a b:Addr} {xs ys:List V}:SqT K H a xs->SqT K H b ys->xs.length=ys.length->(∀(j:Nat) x y,xs[j]? = some x->ys[j]? = some y->DEq K H n x y)->DEq K H (n+1) (.ref a) (.ref b)
theorem qJi (n:Nat):(List.range n).all (fun _=>true)=true:=List.all_eq_true.mpr fun _ _=>rfl
theorem Inv.deq {zy:List (Addr×Obj)}{σ:St}{H:Hp}{s:Shared}(I:Inv X zy σ H s):∀{n:Nat} {x y:V},DEq X.K H n x y->∀{A:Around} {u v:Value},RelV x u->RelV y v->A.units+n<cLine->SeqAt.EqAt A s u v true:=by
 intro n x y d
 induction d with
 | int i=>intro A u v r q _;obtain⟨t,rfl⟩:=r;obtain⟨t',rfl⟩:=q;have:=SeqAt.EqAt.int_int (A:=A) (s:=s) i t i t';rwa [beq_self_eq_true] at this
 | str i=>intro A u v r q _;obtain⟨t,rfl⟩:=r;obtain⟨t',rfl⟩:=q;have:=SeqAt.EqAt.str_str (A:=A) (s:=s) i t i t';rwa [beq_self_eq_true] at this
 | bl i=>intro A u v r q _;cases r;cases q;exact SeqAt.EqAt.same _
 | non=>intro A u v r q _;cases r;cases q;exact SeqAt.EqAt.same _
 | same a=>intro A u v r q _;cases r;cases q;exact SeqAt.EqAt.same _
 | @lst n a b xs ys ha hb hl _ ih=>
  intro A u v r q hu
  cases r;cases q
  obtain⟨its,r1,p1,_⟩:=I.list ha
  obtain⟨its2,r2,p2,_⟩:=I.list hb
  by_cases hab:a=b
  .subst hab;exact SeqAt.EqAt.same _
  .refine SeqAt.EqAt.of_refs hab ?_
   have sz:its.toArray.size=its2.toArray.size:=by rw[yYD,yYD,<- r1.length,<- r2.length,hl]
   have:=SeqAt.RcAt.lists (A:=A) (s:=s) (e:=fun _=>true) p1.isList p2.isList sz (by omega) fun j h1 h2=>?_
   .rwa [qJi] at this
   .have h1':j<xs.length:=by rw[r1.length];simpa using h1
    have h2':j<ys.length:=by rw[<- hl];exact h1'
    obtain⟨u1,e1,q1⟩:=r1.get (yYA h1')
    obtain⟨u2,e2,q2⟩:=r2.get (yYA h2')
    have g1:its.toArray[j]=u1:=by
     have:its[j]? = some its.toArray[j]:=by simp
     exact Option.some.inj (this.symm.trans e1)
    have g2:its2.toArray[j]=u2:=by
     have:its2[j]? = some its2.toArray[j]:=by simp
     exact Option.some.inj (this.symm.trans e2)
    rw[g1,g2]
    exact ih j _ _ (yYA h1') (yYA h2') q1 q2 (by show A.units+1+n<cLine;omega)
 | @tup n a b xs ys ha hb hl _ ih=>
  intro A u v r q hu
  cases r;cases q
  obtain⟨its,r1,p1,_⟩:=I.tuple ha
  obtain⟨its2,r2,p2,_⟩:=I.tuple hb
  by_cases hab:a=b
  .subst hab;exact SeqAt.EqAt.same _
  .refine SeqAt.EqAt.of_refs hab ?_
   have sz:its.toArray.size=its2.toArray.size:=by rw[yYD,yYD,<- r1.length,<- r2.length,hl]
   have:=SeqAt.RcAt.tuples (A:=A) (s:=s) (e:=fun _=>true) (show s.heap.IsTuple a its.toArray from p1) (show s.heap.IsTuple b its2.toArray from p2) (by omega) fun j h1 h2=>?_
   .rw[qJi,sz,beq_self_eq_true] at this
    exact this
   .have h1':j<xs.length:=by rw[r1.length];simpa using h1
    have h2':j<ys.length:=by rw[<- hl];exact h1'
    obtain⟨u1,e1,q1⟩:=r1.get (yYA h1')
    obtain⟨u2,e2,q2⟩:=r2.get (yYA h2')
    have g1:its.toArray[j]=u1:=by
     have:its[j]? = some its.toArray[j]:=by simp
     exact Option.some.inj (this.symm.trans e1)
    have g2:its2.toArray[j]=u2:=by
     have:its2[j]? = some its2.toArray[j]:=by simp
     exact Option.some.inj (this.symm.trans e2)
    rw[g1,g2]
    exact ih j _ _ (yYA h1') (yYA h2') q1 q2 (by show A.units+1+n<cLine;omega)
def rEqL (K:yZN)(k:Bool):R2:=fun x y H Q=>∃n a b xs ys,n<=60/\x=.ref a/\y=.ref b/\SqL K H a xs/\SqL K H b ys/\xs.length=ys.length/\(∀(j:Nat) x y,xs[j]? = some x->ys[j]? = some y->DEq K H n x y)/\Q (.bl k) H
theorem qCn {zy:List (Addr×Obj)}{σ:St}{H:Hp}{s:Shared}(I:Inv X zy σ H s){n:Nat}{xs ys:List V}{its its2:List Value}(r1:Vals xs its)(r2:Vals ys its2)(hl:xs.length=ys.length)
  (hd:∀(j:Nat) x y,xs[j]? = some x->ys[j]? = some y->DEq X.K H n x y) {A:Around} (hu:A.units+n<cLine):∀j (h1:j<its.toArray.size) (h2:j<its2.toArray.size),SeqAt.EqAt A s its.toArray[j] its2.toArray[j] true:=by
 intro j h1 h2
 have h1':j<xs.length:=by rw[r1.length];simpa using h1
 have h2':j<ys.length:=by rw[<- hl];exact h1'
 obtain⟨u1,e1,q1⟩:=r1.get (yYA h1')
 obtain⟨u2,e2,q2⟩:=r2.get (yYA h2')
 have g1:its.toArray[j]=u1:=by
  have:its[j]? = some its.toArray[j]:=by simp
  exact Option.some.inj (this.symm.trans e1)
 have g2:its2.toArray[j]=u2:=by
  have:its2[j]? = some its2.toArray[j]:=by simp
  exact Option.some.inj (this.symm.trans e2)
 rw[g1,g2]
 exact I.deq (hd j _ _ (yYA h1') (yYA h2')) q1 q2 hu
theorem xYz (hu:X.A.units+64<cLine):OpR X (compareOp .Eq) (rEqL X.K true):=by
 intro zy s σ H x y v u Q I rx ry h
 obtain⟨n,a,b,xs,ys,hn,rfl,rfl,ha,hb,hl,hd,q⟩:=h
 cases rx;cases ry
 obtain⟨its,r1,p1,_⟩:=I.list ha
 obtain⟨its2,r2,p2,_⟩:=I.list hb
 have sz:its.toArray.size=its2.toArray.size:=by rw[yYD,yYD,<- r1.length,<- r2.length,hl]
 refine SeqAt.RcAt.lists (e:=fun _=>true) p1.isList p2.isList sz (by omega) (qCn I r1 r2 hl hd (by show X.A.units+1+n<cLine;omega)) _ _ _ _ ?_
 rw[qJi]
 exact⟨.bl true,H,I,rfl,q⟩
theorem xCw (hu:X.A.units+64<cLine):OpR X (compareOp .NotEq) (rEqL X.K false):=by
 intro zy s σ H x y v u Q I rx ry h
 obtain⟨n,a,b,xs,ys,hn,rfl,rfl,ha,hb,hl,hd,q⟩:=h
 cases rx;cases ry
 obtain⟨its,r1,p1,_⟩:=I.list ha
 obtain⟨its2,r2,p2,_⟩:=I.list hb
 have sz:its.toArray.size=its2.toArray.size:=by rw[yYD,yYD,<- r1.length,<- r2.length,hl]
 refine SeqAt.RcNeAt.lists (e:=fun _=>true) p1.isList p2.isList sz (by omega) (qCn I r1 r2 hl hd (by show X.A.units+1+n<cLine;omega)) _ _ _ _ ?_
 rw[qJi]
 exact⟨.bl false,H,I,rfl,q⟩
theorem xCa (hu:X.A.units+64<cLine):OpR X (compareOp .NotEq) (fun x y H Q=>∃a b xs,x=.ref a/\y=.ref b/\SqL X.K H a xs/\SqL X.K H b []/\Q (.bl (!xs.isEmpty)) H):=by
 intro zy s σ H x y v u Q I rx ry h
 obtain⟨a,b,xs,rfl,rfl,ha,hb,q⟩:=h
 cases xs with
 | nil=>exact xCw hu zy s σ H _ _ v u Q I rx ry ⟨0,a,b,[],[],by omega,rfl,rfl,ha,hb,rfl,fun j x y e=>by simp at e,q⟩
 | cons z zs=>
  cases rx;cases ry
  obtain⟨its,r1,p1,_⟩:=I.list ha
  obtain⟨its2,r2,p2,_⟩:=I.list hb
  have l1:=r1.length
  have l2:=r2.length
  refine SeqAt.RcNeAt.lists_lengths p1.isList p2.isList ?_ (by omega) _ _ _ _ ⟨.bl true,H,I,rfl,q⟩
  simp only[yYS,yYT] at l1 l2
  rw[bne_iff_ne,yYD,yYD]
  omega
theorem qFm:CallR X (.builtin "isinstance") (fun xs H Q=>∃x T t b,xs=[x,.ty T]/\TyOf X.K H x t/\PySem.W.kitOne X.K t (.type T)=some b/\Q (.bl b) H):=by
 intro zy s σ H xs us Q I r h
 obtain⟨x,T,t,b,rfl,ty,e,q⟩:=h
 obtain⟨u,v,rfl,ru,rv⟩:=vals2 r
 cases rv
 exact qSg I ru ty e fun tk=>⟨.bl b,H,I.tok _,rfl,q⟩
theorem qCq {x:Str}{T:String}{pos:Pos}(hg:Gl X x)(hm:X.mg x=none)(hv:bootBuiltins x=some (.type T))(hn:x ≠ "__name__" := by decide)(hd:(x == ("__debug__" : Str))=false:=by decide):PE X (.Name x pos) (tC (.ty T)):=
 xVj hg hm hv rfl hn hd
end
def But (d:Addr)(H H':Hp):Prop:=∀b o,b≠d->H b=some o->H' b=some o
theorem But.refl {d:Addr}(H:Hp):But d H H:=fun _ _ _ h=>h
theorem But.trans {d:Addr}{H H1 H2:Hp}(a:But d H H1)(b:But d H1 H2):But d H H2:=fun c o n h=>b c o n (a c o n h)
theorem Same.but {d:Addr}{H H':Hp}(s:Same H H'):But d H H':=fun b o _ h=>s b o h
theorem But.upd {d:Addr}{H:Hp}{o:HO}:But d H (upd H d o):=fun b u n h=>by rw[qA n];exact h
theorem qV {H:Hp}{p:Addr}(h:H p=none)(o:HO):Same H (upd H p o):=fun b u q=>by rw[qA (qB q h)];exact q
theorem qBx {α:Type}(x:α)(xs:List α):atI (x::xs) 0=some x:=jM (xs:=x::xs) (j:=0) rfl
theorem jO:bootBuiltins "len" = some (.builtin "len"):=by wtm_at"d"
theorem xDm:bootBuiltins "min" = some (.builtin "min"):=by wtm_at"d"
theorem zS:bootBuiltins "isinstance" = some (.builtin "isinstance"):=by wtm_at"d"
theorem qZj:bootBuiltins "list" = some (.type "list"):=by wtm_at"d"
theorem qBq:bootBuiltins "tuple" = some (.type "tuple"):=by wtm_at"d"
theorem qDm:bootBuiltins "int" = some (.type "int"):=by wtm_at"d"
theorem qFo:bootBuiltins "bool" = some (.type "bool"):=by wtm_at"d"
theorem qUd:bootBuiltins "dict" = some (.type "dict"):=by wtm_at"d"
end L2
namespace L2
open PySem PySem.Spec PyProof.Rows
theorem paired_app {α β:Type}{F:α->β->Prop}:∀{a c:List α} {b d:List β},Paired F a b->Paired F c d->Paired F (a++c) (b++d)
 | _,_,_,_,.nil,q=>q
 | _,_,_,_,.cons f p,q=>.cons f (paired_app p q)
theorem xK {α β:Type}{F:α->β->Prop}:∀{a:List α} {b:List β} {i:Nat} {x:α} {y:β},Paired F a b->a[i]? = some x->b[i]? = some y->F x y
 | _,_,_,_,_,.nil,e,_=>by simp at e
 | _,_,0,_,_,.cons f _,e1,e2=>by simp at e1 e2;subst e1 e2;exact f
 | _,_,i+1,_,_,.cons _ p,e1,e2=>xK (i:=i) p (by simpa using e1) (by simpa using e2)
end L2
namespace PySem
namespace FD
theorem list_no_keys:typeLookup (.type "list") "keys" = pure none:=by rw[typeLookup_type,builtinLookup_eq_fast];kernel_rfl
theorem zip_no_keys:typeLookup (.type "zip") "keys" = pure none:=by rw[typeLookup_type,builtinLookup_eq_fast];kernel_rfl
theorem zip_no_getattr:typeLookup (.type "zip") "__getattr__" = pure none:=by rw[typeLookup_type,builtinLookup_eq_fast];kernel_rfl
theorem entry_zip_ga:entryFor table "zip.__getattribute__" = some Builtin.«object.__getattribute__»:=
 entryFor_alias (id' := "object.__getattribute__") (by kernel_rfl) (by wtm_at"d") (by wtm_at"d") (by kernel_rfl)
theorem keys_len:("keys" : Str).length+100<=Yc:=by wtm_at"d"
theorem keys_name:(["__module__","__name__","__qualname__","__doc__","__annotations__"]:List Str).contains "keys" = false:=by wtm_at"d"
end FD
theorem qFb (z:Addr)(vs:Array Value)(u:Tok):
  Meets (Builtin.«object.__getattribute__» ⟨[.ref z,.str "keys" u],[]⟩) (fun A R s=>s.heap.get? z=some { cls:=.type "zip",dict:=none,data:=.fields vs,slots:=#[] }/\raisesAttr (.ref z) "keys" A R s):=
 Meets.of_wp fun prog w A R s hs=>by
  obtain⟨hp,g,d,tk,os⟩:=s
  obtain⟨hx,hs⟩:=hs
  have hT:(⟨hp,g,d,tk,os⟩:Shared).TypeIs (.ref z) "zip" := ⟨_,hx,rfl⟩
  have f1:=FD.zip_no_keys
  unfold Builtin.«object.__getattribute__»
  repeat (any_goals (first | assumption | wp_step))
  try (simp only[FD.keys_name,yZI,if_false];repeat (any_goals (first | assumption | wp_step)))
  exact wpAny_raiseAttrError hs.1 hs.2 (attrMsg_fits (by wtm_at"d") FD.keys_len)
section
variable {prog:Program}{w:World}{A:Around}{E:Value->Shared->Prop}{s:Shared}
theorem qAa {z:Addr}{vs:Array Value}{Q:Option Value->Shared->Prop}(hx:s.heap.get? z=some { cls:=.type "zip",dict:=none,data:=.fields vs,slots:=#[] })(hA:A.handled=none)
  (h:∀h' tk,(∀b o,s.heap.get? b=some o->h'.get? b=some o)->Q none { s with heap:=h',toks:=tk }):wpAny (model prog w) A (getAttr? (.ref z) "keys") Q E s:=by
 obtain⟨hp,g,d,tk,os⟩:=s
 have hT:∀tk',(⟨hp,g,d,tk',os⟩:Shared).TypeIs (.ref z) "zip" := fun _=>⟨_,hx,rfl⟩
 have f1:=sub_AttributeError
 have f3:=F.slot_zip_getattribute.lookup
 have f4:=F.slot_zip_getattribute.bind (.ref z)
 have f5:=FD.zip_no_getattr
 unfold getAttr? getAttrBy? getAttrBy
 repeat (any_goals (first | assumption | exact hT _ | ((with_reducible show wpAny _ _ (call (Value.builtin "zip.__getattribute__") _ _) _ _ _);refine call_meets F.slot_zip_getattribute (hT _) FD.entry_zip_ga (F.args_zip_getattribute_2 _ _) (qFb z vs _) ⟨hx,hA,fun h' tk' e hx'=>?_⟩) | wp_step))
 obtain⟨t',u',he⟩:=hx'.there
 show wpAny _ _ (getattributeRaised _ _ _ _ _ _ _) _ _ _
 unfold getattributeRaised
 repeat (any_goals (first | assumption | wp_step))
 exact h _ _ hx'.keeps
theorem qVj {a:Addr}{xs:Array Value}{k:Nat}{Q:Option Value->Shared->Prop}(hx:s.heap.get? a=some { cls:=.type "list",data:=.seq xs k })(hA:A.handled=none)
  (h:∀h' tk,(∀b o,s.heap.get? b=some o->h'.get? b=some o)->Q none { s with heap:=h',toks:=tk }):wpAny (model prog w) A (getAttr? (.ref a) "keys") Q E s:=by
 obtain⟨hp,g,d,tk,os⟩:=s
 have hT:∀tk',(⟨hp,g,d,tk',os⟩:Shared).TypeIs (.ref a) "list" := fun _=>⟨_,hx,rfl⟩
 have f1:=sub_AttributeError
 have f3:=F.slot_list_getattribute.lookup
 have f4:=F.slot_list_getattribute.bind (.ref a)
 have f5:=am_list_getattr_none
 unfold getAttr? getAttrBy? getAttrBy
 repeat (any_goals (first | assumption | exact hT _ | ((with_reducible show wpAny _ _ (call (Value.builtin "list.__getattribute__") _ _) _ _ _);refine call_meets F.slot_list_getattribute (hT _) am_entry_list_getattribute (F.args_list_getattribute_2 _ _) (meets_getattribute_miss_list a xs k #[] _ _ FD.list_no_keys FD.keys_name FD.keys_len) ⟨hx,hA,fun h' tk' e hx'=>?_⟩) | wp_step))
 obtain⟨t',u',he⟩:=hx'.there
 show wpAny _ _ (getattributeRaised _ _ _ _ _ _ _) _ _ _
 unfold getattributeRaised
 repeat (any_goals (first | assumption | wp_step))
 exact h _ _ hx'.keeps
theorem qZb {it t:Addr}{i:Nat}{items:Array Value}{x:Value}{Q:Value->Shared->Prop}(hit:s.heap.IsTupleIter it t i)(ht:s.heap.IsTuple t items)(hx:items[i]? = some x)
  (hQ:∀h',h'.IsTupleIter it t (i+1)->Heap.SameBut it s.heap h'->Q x { s with heap:=h' }):wpAny (model prog w) A (Builtin.SmallTypes.nextOf (.ref it)) Q E s:=by
 obtain⟨o,ho,hc,hd⟩:=id hit
 obtain⟨ol,hol,_,nl,hdl⟩:=ht
 unfold Builtin.SmallTypes.nextOf
 refine yYV (wpAny_callSpecial?_slot (name:=Yb "__next__") hit.typeIs F.slot_tuple_iterator_next (wpAny_call_entry F.slot_tuple_iterator_next hit.typeIs F.entry_tuple_iterator_next ?_ (F.args_tuple_iterator_next_1 _)))
 refine yYV (m:=field (.ref it) 0) (wpAny_field ho hd (x:=.ref t) rfl ?_)
 show wpAny _ _ (if (Value.ref t == Value.none)=true then _ else _) _ _ s;rw[if_neg (show¬((Value.ref t == Value.none)=true) from yZJ)]
 refine yYV (m:=field (.ref it) 1) (wpAny_field ho hd (x:=.int i 0) rfl ?_)
 refine yYV (m:=seqItems? (.ref t)) (wpAny_seqItems hol hdl ?_)
 simp only[Int.toNat_natCast,hx]
 refine yYV (wpAny_setField ho hd (by simp) (yYW ⟨x,rfl,yYW (hQ _ ?_ (Heap.SameBut.update ..))⟩))
 exact⟨_,Heap.get?_update_self _ ho (Obj.isFreed_of_fields (Obj.data_mapFields hd _)),(Obj.cls_mapFields ..).trans hc,by rw[Obj.data_mapFields hd];simp[rawInt]⟩
abbrev ZipAt (h:Heap)(z TI TO:Addr)(f0 f1:Value):Prop:=h.get? z=some { cls:=.type "zip",dict:=none,data:=.fields #[f0,f1,.bool false,.ref TI,.ref TO],slots:=#[] }
abbrev zH1 (h:Heap)(l:Addr):Heap:=h.push { cls:=.type "list_iterator",data:=.fields #[.ref l,.int 0 0] }
abbrev zH2 (h:Heap)(l t:Addr):Heap:=(zH1 h l).push { cls:=.type "tuple_iterator",data:=.fields #[.ref t,.int 0 0] }
abbrev zH3 (h:Heap)(l t:Addr):Heap:=(zH2 h l t).push { cls:=.type "tuple",data:=.seq #[.ref h.objs.size,.ref (zH1 h l).objs.size] }
abbrev zH4 (h:Heap)(l t:Addr):Heap:=(zH3 h l t).push { cls:=.type "tuple",data:=.seq #[.none,.none] }
abbrev zH5 (h:Heap)(l t:Addr):Heap:=(zH4 h l t).push { cls:=.type "zip",data:=.fields #[.none,.bool false,.bool false,.ref (zH2 h l t).objs.size,.ref (zH3 h l t).objs.size] }
theorem qCg (l t:Addr)(xs ys:Array Value):
  Meets (Builtin.«zip.__new__» ⟨[.type "zip",.ref l,.ref t],[]⟩) (fun _ R s=>s.heap.IsList l xs/\s.heap.IsTuple t ys/\R (.ok (.ret (.ref (zH4 s.heap l t).objs.size))) { s with heap:=zH5 s.heap l t }):=
 .of_wp fun prog w A R s h=>by
  obtain⟨hp,g,d,tk,os⟩:=s;obtain⟨hl,ht,h⟩:=h
  have hsub:=sub_zip
  have hL1:Heap.IsList (Shared.heap ⟨hp,g,d,tk,os⟩) l xs:=hl
  have hL2:Heap.IsTuple (Shared.heap ⟨hp.push { cls:=.type "list_iterator",data:=.fields #[.ref l,.int 0 0] },g,d,tk,os⟩) t ys:=by
   obtain⟨o,ho,r⟩:=ht
   exact⟨o,yYX _ ho,r⟩
  wp_walk using wpAny_pyIter_list hL1,wpAny_pyIter_tuple hL2
  exact⟨_,rfl,h⟩
structure ZipSt (h:Heap)(z TI TO i1 i2 l t:Addr)(k:Nat):Prop where
 zip:ZipAt h z TI TO .none (.bool false)\/∃(T:Addr) (f:Bool),ZipAt h z TI TO (rawInt T) (.bool f)/\(∃o,h.get? T=some o)/\T≠z/\T≠TO/\T≠i1/\T≠i2
 its:IsPair h TI (.ref i1) (.ref i2)
 own:∃a b,IsPair h TO a b
 one:h.IsListIter i1 l k
 two:h.IsTupleIter i2 t k
structure ZApart (z TI TO i1 i2:Addr):Prop where
 TIz:TI≠z
 TOz:TO≠z
 i1z:i1≠z
 i2z:i2≠z
 TITO:TI≠TO
 TIi1:TI≠i1
 TIi2:TI≠i2
 TOi1:TO≠i1
 TOi2:TO≠i2
 i12:i1≠i2
theorem qFl {l t:Addr}{xs ys:Array Value}{Q:Value->Shared->Prop}(hl:s.heap.IsList l xs)(ht:s.heap.IsTuple t ys)
  (h:∀h' z TI TO i1 i2,ZApart z TI TO i1 i2->ZipSt h' z TI TO i1 i2 l t 0->s.heap.objs.size<=z->s.heap.objs.size<=TI->s.heap.objs.size<=TO->s.heap.objs.size<=i1->s.heap.objs.size<=i2->
   (∀c o,s.heap.get? c=some o->h'.get? c=some o)->Q (.ref z) { s with heap:=h' }):
  wpAny (model prog w) A (call (.type "zip") [.ref l,.ref t]) Q E s:=by
 refine callType_new F.called_zip (by decide) (F.typeCall_zip_2 _ _) (F.newCall_zip_2 _ _) (fun obj=>F.args_object_init_3 obj _ _) F.entry_zip_new (qCg l t xs ys) ⟨hl,ht,?_⟩
 have z1:(zH1 s.heap l).objs.size=s.heap.objs.size+1:=yZA ..
 have z2:(zH2 s.heap l t).objs.size=s.heap.objs.size+2:=by rw[yZA,z1]
 have z3:(zH3 s.heap l t).objs.size=s.heap.objs.size+3:=by rw[yZA,z2]
 have z4:(zH4 s.heap l t).objs.size=s.heap.objs.size+4:=by rw[yZA,z3]
 have g5:(zH5 s.heap l t).get? (zH4 s.heap l t).objs.size=some _:=yYZ _ rfl
 have g4:(zH5 s.heap l t).get? (zH3 s.heap l t).objs.size=some _:=yYX _ (yYZ _ rfl)
 have g3:(zH5 s.heap l t).get? (zH2 s.heap l t).objs.size=some _:=yYX _ (yYX _ (yYZ _ rfl))
 have g2:(zH5 s.heap l t).get? (zH1 s.heap l).objs.size=some _:=yYX _ (yYX _ (yYX _ (yYZ _ rfl)))
 have g1:(zH5 s.heap l t).get? s.heap.objs.size=some _:=yYX _ (yYX _ (yYX _ (yYX _ (yYZ _ rfl))))
 refine⟨⟨_,g5,rfl⟩,h _ _ (zH2 s.heap l t).objs.size (zH3 s.heap l t).objs.size s.heap.objs.size (zH1 s.heap l).objs.size ?_ ⟨.inl g5,g3,⟨_,_,g4⟩,⟨_,g1,rfl,rfl⟩,⟨_,g2,rfl,rfl⟩⟩ (by omega) (by omega) (by omega) (yZB _) (by omega) ?_⟩
 .constructor <;> (intro e;have e':@Eq Nat _ _:=e;omega)
 .exact fun c o e=>yYX _ (yYX _ (yYX _ (yYX _ (yYX _ e))))
end
end PySem
namespace PySem
section
variable {prog:Program}{w:World}{A:Around}{E:Value->Shared->Prop}{s:Shared}
theorem qWv {z TI TO i1 i2 l t:Addr}{k:Nat}{xs ys:Array Value}{x y:Value}{Q:Value->Shared->Prop}(D:ZApart z TI TO i1 i2)(S:ZipSt s.heap z TI TO i1 i2 l t k)
  (hl:s.heap.IsList l xs) (ht:s.heap.IsTuple t ys) (nl:l≠z/\l≠TO/\l≠i1/\l≠i2) (nt:t≠z/\t≠TO/\t≠i1/\t≠i2) (hx:xs[k]? = some x) (hy:ys[k]? = some y)
  (hQ:∀h' T,ZipSt h' z TI TO i1 i2 l t (k+1)->IsPair h' T x y->(∀c o,c≠z->c≠TO->c≠i1->c≠i2->s.heap.get? c=some o->h'.get? c=some o)->Q (.ref T) { s with heap:=h' }):
  wpAny (model prog w) A (Builtin.«zip.__next__» ⟨[.ref z],[]⟩) (fun fin s'=>∃v,fin=.done (.ret v)/\Q v s') E s:=by
 obtain⟨hz,hTI,⟨a,b,hTO⟩,h1,h2⟩:=S
 rcases hz with hz | ⟨T,f,hz,⟨oT,hT⟩,n1,n2,n3,n4⟩
 .refine yYV (m:=field (.ref z) 2) (wpAny_field hz rfl (x:=.bool false) rfl ?_)
  refine yYV (m:=field (.ref z) 3) (wpAny_field hz rfl (x:=.ref TI) rfl ?_)
  refine yYV (wpAny_seqItems hTI rfl ?_)
  refine yYV (m:=Builtin.SmallTypes.ownedTupleIsFree (.ref z)) ?_
  unfold Builtin.SmallTypes.ownedTupleIsFree
  refine yYV (wpAny_field hz rfl (x:=.none) rfl (yYW ?_))
  simp only[if_true]
  refine yYV (wpAny_rule (yYV (wpAny_field hz rfl (x:=.ref TO) rfl (yYV (wpAny_setField_rec hz (by simp) fun h₁ hz₁ hs₁=>?_)))))
  replace hz₁:ZipAt h₁ z TI TO .ellipsis (.bool false):=hz₁
  refine yYV ?_
  simp only[List.zipIdx_cons,List.zipIdx_nil,List.forIn_cons,List.forIn_nil]
  refine yYV (yYV (wpAny_onRaise ?_))
  refine yYV (m:=Builtin.SmallTypes.nextOf (.ref i1)) (wpAny_nextOf_list_item (h1.extBut hs₁.extBut D.i1z) (hl.extBut hs₁.extBut nl.1) hx fun h₂ h1₂ hs₂=>yYW ?_)
  have hTO₂:IsPair h₂ TO a b:=hs₂.extBut _ _ D.TOi1 (hs₁.extBut _ _ D.TOz hTO)
  refine yYV (wpAny_seqItems hTO₂ rfl (yYV (wpAny_updateSeq_pair hTO₂ fun h₃ hTO₃ hs₃=>?_)))
  replace hTO₃:IsPair h₃ TO x b:=hTO₃
  refine yYV (wpAny_letGo (yYW ?_))
  refine yYV (yYV (wpAny_onRaise ?_))
  have ht₃:h₃.IsTuple t ys:=by
   obtain⟨o,ho,r⟩:=ht
   exact⟨o,hs₃.extBut _ _ nt.2.1 (hs₂.extBut _ _ nt.2.2.1 (hs₁.extBut _ _ nt.1 ho)),r⟩
  have h2₃:h₃.IsTupleIter i2 t k:=h2.at fun o e=>hs₃.extBut _ _ (Ne.symm D.TOi2) (hs₂.extBut _ _ (Ne.symm D.i12) (hs₁.extBut _ _ D.i2z e))
  refine yYV (m:=Builtin.SmallTypes.nextOf (.ref i2)) (qZb h2₃ ht₃ hy fun h₄ h2₄ hs₄=>yYW ?_)
  have hTO₄:IsPair h₄ TO x b:=hs₄.extBut _ _ D.TOi2 hTO₃
  refine yYV (wpAny_seqItems hTO₄ rfl (yYV (wpAny_updateSeq_pair hTO₄ fun h₅ hTO₅ hs₅=>?_)))
  replace hTO₅:IsPair h₅ TO x y:=hTO₅
  refine yYV (wpAny_letGo (yYW (yYW (yYV (wpAny_seqItems hTO₅ rfl (yYV (wpAny_newTuple ?_)))))))
  have hz₅:ZipAt h₅ z TI TO .ellipsis (.bool false):=hs₅.extBut _ _ D.TOz.symm (hs₄.extBut _ _ D.i2z.symm (hs₃.extBut _ _ D.TOz.symm (hs₂.extBut _ _ D.i1z.symm hz₁)))
  have hk₅:∀c o,c≠z->c≠TO->c≠i1->c≠i2->s.heap.get? c=some o->h₅.get? c=some o:=fun c o c1 c2 c3 c4 e=>hs₅.extBut _ _ c2 (hs₄.extBut _ _ c4 (hs₃.extBut _ _ c2 (hs₂.extBut _ _ c3 (hs₁.extBut _ _ c1 e))))
  have h1₅:h₅.IsListIter i1 l (k+1):=h1₂.at fun o e=>hs₅.extBut _ _ (Ne.symm D.TOi1) (hs₄.extBut _ _ D.i12 (hs₃.extBut _ _ (Ne.symm D.TOi1) e))
  have h2₅:h₅.IsTupleIter i2 t (k+1):=h2₄.at fun o e=>hs₅.extBut _ _ (Ne.symm D.TOi2) e
  refine yYV (m:=Builtin.SmallTypes.ownedTupleHandOut (.ref z) (.ref h₅.objs.size)) ?_
  unfold Builtin.SmallTypes.ownedTupleHandOut
  have hz₆:ZipAt (h₅.push { cls:=.type "tuple",data:=.seq #[x,y] }) z TI TO .ellipsis (.bool false):=yYX _ hz₅
  refine yYV (wpAny_setField_rec hz₆ (by simp) fun h₇ hz₇ hs₇=>?_)
  replace hz₇:ZipAt h₇ z TI TO (rawInt h₅.objs.size) (.bool false):=hz₇
  refine wpAny_setField_rec hz₇ (by simp) fun h₈ hz₈ hs₈=>?_
  replace hz₈:ZipAt h₈ z TI TO (rawInt h₅.objs.size) (.bool false):=hz₈
  have up:∀c o,c≠z->h₅.get? c=some o->h₈.get? c=some o:=fun c o c1 e=>hs₈.extBut _ _ c1 (hs₇.extBut _ _ c1 (yYX _ e))
  have hzlt:z<h₅.objs.size:=yYY hz₅
  have hT₈:IsPair h₈ h₅.objs.size x y:=hs₈.extBut _ _ (yZF hzlt) (hs₇.extBut _ _ (yZF hzlt) (yYZ _ rfl))
  have lt1:i1<h₅.objs.size:=by obtain⟨_,e,_⟩:=h1₅;exact yYY e
  have lt2:i2<h₅.objs.size:=by obtain⟨_,e,_⟩:=h2₅;exact yYY e
  refine yYW ⟨_,rfl,hQ h₈ _ ⟨.inr ⟨_,_,hz₈,⟨_,hT₈⟩,yZF hzlt,yZF (yYY hTO₅),yZF lt1,yZF lt2⟩,up _ _ D.TIz (hk₅ _ _ D.TIz D.TITO D.TIi1 D.TIi2 hTI),⟨_,_,up _ _ D.TOz hTO₅⟩,h1₅.at fun o e=>up _ o D.i1z e,h2₅.at fun o e=>up _ o D.i2z e⟩ hT₈ fun c o c1 c2 c3 c4 e=>up c o c1 (hk₅ c o c1 c2 c3 c4 e)⟩
 .refine yYV (m:=field (.ref z) 2) (wpAny_field hz rfl (x:=.bool false) rfl ?_)
  refine yYV (m:=field (.ref z) 3) (wpAny_field hz rfl (x:=.ref TI) rfl ?_)
  refine yYV (wpAny_seqItems hTI rfl ?_)
  refine yYV (m:=Builtin.SmallTypes.ownedTupleIsFree (.ref z)) ?_
  have step:∀{α:Type} (N:Bool->Sem α) (QQ:α->Shared->Prop),(∀h₁,ZipAt h₁ z TI TO (rawInt T) (.bool true)->Heap.SameBut z s.heap h₁->wpAny (model prog w) A (N false) QQ E { s with heap:=h₁ })->
    wpAny (model prog w) A (Builtin.SmallTypes.ownedTupleIsFree (.ref z)) (fun b s'=>wpAny (model prog w) A (N b) QQ E s') E s:=fun N QQ hN=>by
   unfold Builtin.SmallTypes.ownedTupleIsFree
   refine yYV (wpAny_field hz rfl (x:=rawInt T) rfl ?_)
   show wpAny _ _ (loadIfAlive ((T:Int).toNat) >>= _) _ _ _
   rw[Int.toNat_natCast]
   refine yYV (W.kdx_alive hT ?_)
   simp only[Option.isNone_some,yZI,if_false]
   refine yYV (wpAny_field hz rfl (x:=.bool f) rfl ?_)
   cases f with
   | true=>rw[if_neg (show¬((Value.bool true != Value.bool true)=true) from yZJ)];exact yYW (hN _ hz (.refl ..))
   | false=>rw[if_pos (show(Value.bool false != Value.bool true)=true from rfl)];exact yYV (wpAny_setField_rec hz (by simp) fun h₁ hz₁ hs₁=>yYW (hN h₁ hz₁ hs₁))
  refine step _ _ fun h₁ hz₁ hs₁=>?_
  simp only[yZI,if_false]
  refine yYV ?_
  rw[<- Array.forIn_toList]
  simp only[List.forIn_cons,List.forIn_nil]
  refine yYV (yYV (wpAny_holding ?_))
  refine yYV (m:=Builtin.SmallTypes.nextOf (.ref i1)) (wpAny_nextOf_list_item (h1.extBut hs₁.extBut D.i1z) (hl.extBut hs₁.extBut nl.1) hx fun h₂ h1₂ hs₂=>yYW (yYW ?_))
  refine yYV (yYV (wpAny_holding ?_))
  have ht₂:h₂.IsTuple t ys:=by
   obtain⟨o,ho,r⟩:=ht
   exact⟨o,hs₂.extBut _ _ nt.2.2.1 (hs₁.extBut _ _ nt.1 ho),r⟩
  have h2₂:h₂.IsTupleIter i2 t k:=h2.at fun o e=>hs₂.extBut _ _ (Ne.symm D.i12) (hs₁.extBut _ _ D.i2z e)
  refine yYV (m:=Builtin.SmallTypes.nextOf (.ref i2)) (qZb h2₂ ht₂ hy fun h₃ h2₃ hs₃=>yYW (yYW (yYW ?_)))
  refine yYV (wpAny_newTuple ?_ (show 2<=Yc by decide))
  have k₃:∀c o,c≠z->c≠i1->c≠i2->s.heap.get? c=some o->h₃.get? c=some o:=fun c o c1 c2 c3 e=>hs₃.extBut _ _ c3 (hs₂.extBut _ _ c2 (hs₁.extBut _ _ c1 e))
  have hz₃:ZipAt h₃ z TI TO (rawInt T) (.bool true):=hs₃.extBut _ _ (Ne.symm D.i2z) (hs₂.extBut _ _ (Ne.symm D.i1z) hz₁)
  refine yYW ⟨_,rfl,hQ _ _ ⟨.inr ⟨T,true,yYX _ hz₃,⟨_,yYX _ (k₃ _ _ n1 n3 n4 hT)⟩,n1,n2,n3,n4⟩,yYX _ (k₃ _ _ D.TIz D.TIi1 D.TIi2 hTI),⟨_,_,yYX _ (k₃ _ _ D.TOz D.TOi1 D.TOi2 hTO)⟩,h1₂.at fun o e=>yYX _ (hs₃.extBut _ _ D.i12 e),h2₃.at fun o e=>yYX _ e⟩ (yYZ _ rfl) fun c o c1 _ c3 c4 e=>yYX _ (k₃ c o c1 c3 c4 e)⟩
theorem qWk {z TI TO i1 i2 l t:Addr}{k:Nat}{xs:Array Value}{Q:Fin->Shared->Prop}(hh:A.handled=none)(D:ZApart z TI TO i1 i2)(S:ZipSt s.heap z TI TO i1 i2 l t k)
  (hl:s.heap.IsList l xs) (nl:l≠z/\l≠TO/\l≠i1/\l≠i2) (hx:xs[k]? = none)
  (hE:∀h' e,(∀c o,c≠z->c≠TO->c≠i1->c≠i2->s.heap.get? c=some o->h'.get? c=some o)->(∃o,h'.get? e=some o/\o.cls=.type "StopIteration")->E (.ref e) { s with heap:=h' }):
  wpAny (model prog w) A (Builtin.«zip.__next__» ⟨[.ref z],[]⟩) Q E s:=by
 obtain⟨hz,hTI,⟨a,b,hTO⟩,h1,h2⟩:=S
 rcases hz with hz | ⟨T,f,hz,⟨oT,hT⟩,n1,n2,n3,n4⟩
 .refine yYV (m:=field (.ref z) 2) (wpAny_field hz rfl (x:=.bool false) rfl ?_)
  refine yYV (m:=field (.ref z) 3) (wpAny_field hz rfl (x:=.ref TI) rfl ?_)
  refine yYV (wpAny_seqItems hTI rfl ?_)
  refine yYV (m:=Builtin.SmallTypes.ownedTupleIsFree (.ref z)) ?_
  unfold Builtin.SmallTypes.ownedTupleIsFree
  refine yYV (wpAny_field hz rfl (x:=.none) rfl (yYW ?_))
  simp only[if_true]
  refine yYV (wpAny_rule (yYV (wpAny_field hz rfl (x:=.ref TO) rfl (yYV (wpAny_setField_rec hz (by simp) fun h₁ hz₁ hs₁=>?_)))))
  replace hz₁:ZipAt h₁ z TI TO .ellipsis (.bool false):=hz₁
  refine yYV ?_
  simp only[List.zipIdx_cons,List.zipIdx_nil,List.forIn_cons,List.forIn_nil]
  refine yYV (yYV (wpAny_onRaise ?_))
  refine yYV (m:=Builtin.SmallTypes.nextOf (.ref i1)) (wpAny_nextOf_list_end hh (h1.extBut hs₁.extBut D.i1z) (hl.extBut hs₁.extBut nl.1) hx fun h₂ e hs₂ he=>?_)
  obtain⟨oe,hoe,hce⟩:=he
  have hz₂:ZipAt h₂ z TI TO .ellipsis (.bool false):=hs₂ _ _ D.i1z.symm hz₁
  have hez:e≠z:=fun x=>by subst x;rw[hz₂] at hoe;cases hoe;simp at hce
  exact wpAny_setField_rec hz₂ (by simp) fun h₃ _ hs₃=>hE h₃ e (fun c o c1 _ c3 _ x=>hs₃.extBut _ _ c1 (hs₂ _ _ c3 (hs₁.extBut _ _ c1 x))) ⟨oe,hs₃.extBut _ _ hez hoe,hce⟩
 .refine yYV (m:=field (.ref z) 2) (wpAny_field hz rfl (x:=.bool false) rfl ?_)
  refine yYV (m:=field (.ref z) 3) (wpAny_field hz rfl (x:=.ref TI) rfl ?_)
  refine yYV (wpAny_seqItems hTI rfl ?_)
  refine yYV (m:=Builtin.SmallTypes.ownedTupleIsFree (.ref z)) ?_
  have step:∀{α:Type} (N:Bool->Sem α) (QQ:α->Shared->Prop),(∀h₁,ZipAt h₁ z TI TO (rawInt T) (.bool true)->Heap.SameBut z s.heap h₁->wpAny (model prog w) A (N false) QQ E { s with heap:=h₁ })->
    wpAny (model prog w) A (Builtin.SmallTypes.ownedTupleIsFree (.ref z)) (fun b s'=>wpAny (model prog w) A (N b) QQ E s') E s:=fun N QQ hN=>by
   unfold Builtin.SmallTypes.ownedTupleIsFree
   refine yYV (wpAny_field hz rfl (x:=rawInt T) rfl ?_)
   show wpAny _ _ (loadIfAlive ((T:Int).toNat) >>= _) _ _ _
   rw[Int.toNat_natCast]
   refine yYV (W.kdx_alive hT ?_)
   simp only[Option.isNone_some,yZI,if_false]
   refine yYV (wpAny_field hz rfl (x:=.bool f) rfl ?_)
   cases f with
   | true=>rw[if_neg (show¬((Value.bool true != Value.bool true)=true) from yZJ)];exact yYW (hN _ hz (.refl ..))
   | false=>rw[if_pos (show(Value.bool false != Value.bool true)=true from rfl)];exact yYV (wpAny_setField_rec hz (by simp) fun h₁ hz₁ hs₁=>yYW (hN h₁ hz₁ hs₁))
  refine step _ _ fun h₁ hz₁ hs₁=>?_
  simp only[yZI,if_false]
  refine yYV ?_
  rw[<- Array.forIn_toList]
  simp only[List.forIn_cons,List.forIn_nil]
  refine yYV (yYV (wpAny_holding ?_))
  refine yYV (m:=Builtin.SmallTypes.nextOf (.ref i1)) (wpAny_nextOf_list_end hh (h1.extBut hs₁.extBut D.i1z) (hl.extBut hs₁.extBut nl.1) hx fun h₂ e hs₂ he=>hE h₂ e (fun c o c1 _ c3 _ x=>hs₂ _ _ c3 (hs₁.extBut _ _ c1 x)) he)
theorem qMa {z TI TO i1 i2 l t:Addr}{k:Nat}{xs ys:Array Value}{x y:Value}{Q:Option Value->Shared->Prop}(D:ZApart z TI TO i1 i2)(S:ZipSt s.heap z TI TO i1 i2 l t k)
  (hl:s.heap.IsList l xs) (ht:s.heap.IsTuple t ys) (nl:l≠z/\l≠TO/\l≠i1/\l≠i2) (nt:t≠z/\t≠TO/\t≠i1/\t≠i2) (hx:xs[k]? = some x) (hy:ys[k]? = some y)
  (hQ:∀h' T,ZipSt h' z TI TO i1 i2 l t (k+1)->IsPair h' T x y->(∀c o,c≠z->c≠TO->c≠i1->c≠i2->s.heap.get? c=some o->h'.get? c=some o)->Q (some (.ref T)) { s with heap:=h' }):
  wpAny (model prog w) A (pyNext (.ref z)) Q E s:=by
 have hT:s.TypeIs (.ref z) "zip" := by
  rcases S.zip with h | ⟨_,_,h,_⟩ <;> exact⟨_,h,rfl⟩
 unfold pyNext
 exact yYV (wpAny_attempt (wpAny_callSpecial?_slot (name:=Yb "__next__") hT F.slot_zip_next (wpAny_call_entry F.slot_zip_next hT F.entry_zip_next
   (qWv D S hl ht nl nt hx hy fun h' T a1 a2 a3=>yYW (hQ h' T a1 a2 a3)) (F.args_zip_next_1 _))))
theorem qYe {z TI TO i1 i2 l t:Addr}{k:Nat}{xs:Array Value}{Q:Option Value->Shared->Prop}(hh:A.handled=none)(D:ZApart z TI TO i1 i2)(S:ZipSt s.heap z TI TO i1 i2 l t k)
  (hl:s.heap.IsList l xs) (nl:l≠z/\l≠TO/\l≠i1/\l≠i2) (hx:xs[k]? = none)
  (hQ:∀h',(∀c o,c≠z->c≠TO->c≠i1->c≠i2->s.heap.get? c=some o->h'.get? c=some o)->Q none { s with heap:=h' }):wpAny (model prog w) A (pyNext (.ref z)) Q E s:=by
 have hT:s.TypeIs (.ref z) "zip" := by
  rcases S.zip with h | ⟨_,_,h,_⟩ <;> exact⟨_,h,rfl⟩
 unfold pyNext
 refine yYV (wpAny_attempt (wpAny_callSpecial?_slot (name:=Yb "__next__") hT F.slot_zip_next (wpAny_call_entry F.slot_zip_next hT F.entry_zip_next (qWk hh D S hl nl hx fun h' e hk he=>?_) (F.args_zip_next_1 _))))
 obtain⟨o,ho,hc⟩:=he
 exact yYV (wpAny_isInstance (T := "StopIteration") (b:=true) ⟨o,ho,hc⟩ isSubtype_stop (yYW (hQ _ hk)))
theorem qMb {z TI TO i1 i2 l t:Addr}{k:Nat}{Q:Value->Shared->Prop}(S:ZipSt s.heap z TI TO i1 i2 l t k)(h:Q (.ref z) s):wpAny (model prog w) A (pyIter (.ref z)) Q E s:=by
 have hT:s.TypeIs (.ref z) "zip" := by
  rcases S.zip with h | ⟨_,_,h,_⟩ <;> exact⟨_,h,rfl⟩
 exact wpAny_pyIter_slot hT F.slot_zip_iter (wpAny_call_entry F.slot_zip_iter hT F.entry_zip_iter (yYW ⟨_,rfl,"zip",_,hT,F.slot_zip_next.lookup,h⟩) (F.args_zip_iter_1 _))
end
end PySem
namespace PySem
namespace FD
theorem entry_upd_loop:entryFor table "dict.update.loop" = some Builtin.«dict.update.loop»:=entryFor_of_tree (by kernel_rfl)
theorem plain_upd_loop:plainId "dict.update.loop" = true:=by wtm_at"d"
end FD
structure PairIt (prog:Program)(w:World)(A:Around)(d it:Addr)(fp:List Addr)(kvs:List (Value×Value))(St:Nat->Heap->Prop):Prop where
 frame:∀i h h',St i h->Heap.SameBut d h h'->(∃o,h'.get? d=some o)->St i h'
 item:∀(i:Nat) (s:Shared) (Q:Option Value->Shared->Prop) (E:Value->Shared->Prop) (k v:Value),kvs[i]? = some (k,v)->St i s.heap->
  (∀T h' tk n,St (i+1) h'->(∃o,h'.get? T=some o/\o.cls=.type "tuple" /\ o.data=.seq #[k,v] n)->(∀b o,b∉fp->s.heap.get? b=some o->h'.get? b=some o)->Q (some (.ref T)) { s with heap:=h',toks:=tk })->wpAny (model prog w) A (pyNext (.ref it)) Q E s
 done:∀(s:Shared) (Q:Option Value->Shared->Prop) (E:Value->Shared->Prop),St kvs.length s.heap->
  (∀h' tk,(∀b o,b∉fp->s.heap.get? b=some o->h'.get? b=some o)->Q none { s with heap:=h',toks:=tk })->wpAny (model prog w) A (pyNext (.ref it)) Q E s
section
variable {prog:Program}{w:World}{K:Type}[DecidableEq K]{knd:KeyKind prog w K}{A:Around}
abbrev Keyed (knd:KeyKind prog w K):List (K×Value)->List (Value×Value)->Prop:=Paired fun p q=>knd.is p.1 q.1=true/\p.2=q.2
theorem qSa {ks:List (K×Value)}{kvs:List (Value×Value)}(h:Keyed knd ks kvs):∀{i:Nat} {p:K×Value},ks[i]? = some p->∃q,kvs[i]? = some q/\knd.is p.1 q.1=true/\p.2=q.2:=by
 induction h with
 | nil=>intro i p e;simp at e
 | cons f _ ih=>
  intro i p e
  cases i with
  | zero=>simp at e;subst e;exact⟨_,rfl,f⟩
  | succ i=>exact ih (i:=i) (by simpa using e)
theorem qGb {d it:Addr}{fp:List Addr}{kvs:List (Value×Value)}{ks:List (K×Value)}{St:Nat->Heap->Prop}(P:PairIt prog w A.in1 d it fp kvs St)(hk:Keyed knd ks kvs)(hd:d∉fp)(hz:ks.length<=1000){R:Result->Shared->Prop}{s₀:Shared}
  (hR:∀h' tk,(∀b o,b∉fp->b≠d->s₀.heap.get? b=some o->h'.get? b=some o)->h'.DictOf knd d (merged [] ks)->R (.ok (.ret .none)) { s₀ with heap:=h',toks:=tk }):
  ∀(m i:Nat) (h:Heap) (tk:Nat),ks.length - i=m->i<=ks.length->St i h->h.DictOf knd d (merged [] (ks.take i))->(∀b o,b∉fp->b≠d->s₀.heap.get? b=some o->h.get? b=some o)->
   codeAny (model prog w) A (.builtin "dict.update.loop" ⟨[.ref d,.ref it,rawInt i,.none],[]⟩) R { s₀ with heap:=h,toks:=tk }:=by
 intro m
 induction m with
 | zero=>
  intro i h tk hm hi st hD keep
  have e:i=ks.length:=by omega
  subst e
  refine codeAny_builtin FD.entry_upd_loop ?_
  rw[Around.under_plainId FD.plain_upd_loop _]
  rw[hk.length] at st
  refine yYV (m:=pyNext (.ref it)) (P.done { s₀ with heap:=h,toks:=tk } _ _ st fun h' tk' kp=>?_)
  rw[yYJ] at hD
  refine yYV (m:=Builtin.Dict.addKeywords d []) (yYW (yYW ?_))
  refine hR h' tk' (fun b o b1 b2 e=>kp b o b1 (keep b o b1 b2 e)) ?_
  obtain⟨o,es,ep,ho,r⟩:=hD
  exact⟨o,es,ep,kp _ _ hd ho,r⟩
 | succ m ih=>
  intro i h tk hm hi st hD keep
  have hlt:i<ks.length:=by omega
  obtain⟨p,ep⟩:∃p,ks[i]? = some p:=⟨_,yYA hlt⟩
  obtain⟨⟨kv,vv⟩,eq,hkey,hval⟩:=qSa hk ep
  have hval:p.2=vv:=hval
  refine codeAny_builtin FD.entry_upd_loop ?_
  rw[Around.under_plainId FD.plain_upd_loop _]
  refine yYV (m:=pyNext (.ref it)) (P.item i { s₀ with heap:=h,toks:=tk } _ _ kv vv eq st fun T h' tk' n st' hT kp=>?_)
  obtain⟨oT,hT,hTc,hTd⟩:=hT
  have hTy:Shared.TypeIs { s₀ with heap:=h',toks:=tk' } (.ref T) "tuple" := ⟨_,hT,hTc⟩
  have hD':h'.DictOf knd d (merged [] (ks.take i)):=by
   obtain⟨o,es,ep,ho,r⟩:=hD
   exact⟨o,es,ep,kp _ _ hd ho,r⟩
  refine yYV (wpAny_holding ?_)
  refine yYV (wpAny_tryCatch ?_)
  unfold Builtin.Dict.pairItems
  refine yYV (wpAny_typeOf hTy ?_)
  rw[if_pos (by decide)]
  refine yYV (wpAny_seqItems hT hTd (yYW ?_))
  refine wpAny_holding (wpAny_dictSet_pairs hkey hD' (fun h'' hD'' sb=>?_) ?_)
  .refine yYW ⟨plainId_quiet FD.plain_upd_loop _,?_⟩
   have e1:merged [] (ks.take (i+1))=stored (merged [] (ks.take i)) p.1 p.2:=merged_take_succ [] ks i p ep
   rw[<- hval] at hD''
   have:=ih (i+1) h'' (tk'+1) (by omega) hlt (P.frame _ _ _ st' sb (by obtain⟨o,_,_,ho,_⟩:=hD'';exact⟨o,ho⟩)) (by rw[e1];exact hD'') fun b o b1 b2 e=>(sb.2 b b2).trans (kp b o b1 (keep b o b1 b2 e))
   exact this
  .have:=merged_length_le ([]:List (K×Value)) (ks.take i)
   rw[yYF,yYT] at this
   have e:Yc=16777216:=by decide
   omega
theorem qXw {E:Value->Shared->Prop}{s:Shared}{a:Addr}{T:String}{Q:Value->Shared->Prop}(hT:s.TypeIs (.ref a) T)(hne:(Value.type T != Value.type "dict")=true)
  (h:∀E':Value->Shared->Prop,wpAny (model prog w) A.in1.in1 (getAttr? (.ref a) "keys") (fun r s2=>r=none/\wpAny (model prog w) A.in1.in1 (pyIter (.ref a)) (fun it s3=>codeAny (model prog w) A.in1 (.builtin "dict.update.loop" ⟨[.ref s.heap.objs.size,it,rawInt 0,.none],[]⟩)
   (wants (fun r s₂=>r=.none/\Q (.ref s.heap.objs.size) s₂) E) s3) E' s2) E' { s with heap:=s.heap.push { cls:=.type "dict",data:=.dict #[] } }):
  wpAny (model prog w) A (call (.type "dict") [.ref a]) Q E s:=by
 refine callType_codes (Q₁:=fun obj s₁=>obj=.ref s.heap.objs.size/\s₁={ s with heap:=s.heap.push { cls:=.type "dict",data:=.dict #[] } }) F.kt_called_dict (F.kt_typeCall_dict_1 _) F.entry_dict_init (kt_code_dict_new _ ⟨rfl,rfl⟩) ?_
 rintro obj s₁ ⟨rfl,rfl⟩
 have gd:(s.heap.push { cls:=.type "dict",data:=.dict #[] }).get? s.heap.objs.size=some { cls:=.type "dict",data:=.dict #[] }:=yYZ _ rfl
 have hnew:Shared.TypeIs { s with heap:=s.heap.push { cls:=.type "dict",data:=.dict #[] } } (.ref s.heap.objs.size) "dict" := ⟨_,gd,rfl⟩
 have hT':Shared.TypeIs { s with heap:=s.heap.push { cls:=.type "dict",data:=.dict #[] } } (.ref a) T:=by
  obtain⟨o,ho,hc⟩:=hT
  exact⟨o,yYX _ ho,hc⟩
 refine⟨hnew,F.args_dict_init_2 _ _,?_⟩
 unfold Builtin.«dict.__init__»
 refine yYV ?_
 unfold Builtin.Dict.selfAndRest
 refine yYV (wpAny_notOrdered_dict hnew ?_)
 show wpAny _ _ (pure (s.heap.objs.size,[Value.ref a])) _ _ _
 refine yYW ?_
 show wpAny _ _ (Builtin.Dict.updateFrom "dict.__init__" s.heap.objs.size (.ref a) [] .none) _ _ _
 unfold Builtin.Dict.updateFrom
 refine yYV (wpAny_typeOf hT' ?_)
 rw[if_pos hne]
 refine yYV (wpAny_mono (h _) (fun r s2 hr=>?_) fun _ _ x=>x)
 obtain⟨rfl,hr⟩:=hr
 simp only[Option.isNone_none,if_true]
 refine yYV (wpAny_rule (yYV (wpAny_mono hr (fun it s3 hc=>?_) fun _ _ x=>x)))
 exact yYW ⟨plainId_quiet FD.plain_upd_loop _,hc⟩
end
section
variable {prog:Program}{w:World}{K:Type}[DecidableEq K]{knd:KeyKind prog w K}{A:Around}{E:Value->Shared->Prop}{s:Shared}
theorem qKz (h:Heap):(h.push { cls:=.type "dict",data:=.dict #[] }).DictOf knd h.objs.size []:=Heap.DictOf.new h
theorem qAo {l t:Addr}{xs ys:Array Value}{ks:List (K×Value)}{Q:Value->Shared->Prop}(hh:A.handled=none)(hl:s.heap.IsList l xs)(ht:s.heap.IsTuple t ys)(hsz:xs.size=ys.size)(hk:Keyed knd ks (xs.toList.zip ys.toList))(hz:ks.length<=1000)
  (hQ:∀p h' tk,s.heap.objs.size<=p->(∀b o,s.heap.get? b=some o->h'.get? b=some o)->h'.DictOf knd p (merged [] ks)->Q (.ref p) { s with heap:=h',toks:=tk }):
  wpAny (model prog w) A (call (.type "zip") [.ref l,.ref t]) (fun z s1=>wpAny (model prog w) A (call (.type "dict") [z]) Q E s1) E s:=by
 refine qFl hl ht fun h1 z TI TO i1 i2 D S z1 z2 z3 z4 z5 keep1=>?_
 have hT:Shared.TypeIs { s with heap:=h1 } (.ref z) "zip" := by
  rcases S.zip with h | ⟨_,_,h,_⟩ <;> exact⟨_,h,rfl⟩
 have llt:l<s.heap.objs.size:=by obtain⟨o,e,_⟩:=hl;exact yYY e
 have tlt:t<s.heap.objs.size:=by obtain⟨o,e,_⟩:=ht;exact yYY e
 have zlt:∀x,x=z\/x=TI\/x=TO\/x=i1\/x=i2->x<h1.objs.size:=fun x hx=>by
  rcases hx with rfl | rfl | rfl | rfl | rfl
  .rcases S.zip with h | ⟨_,_,h,_⟩ <;> exact yYY h
  .exact yYY S.its
  .obtain⟨_,_,h⟩:=S.own;exact yYY h
  .obtain⟨_,h,_⟩:=S.one;exact yYY h
  .obtain⟨_,h,_⟩:=S.two;exact yYY h
 refine qXw hT (by decide) fun E'=>?_
 have S2:ZipSt (h1.push { cls:=.type "dict",data:=.dict #[] }) z TI TO i1 i2 l t 0:=by
  refine⟨?_,yYX _ S.its,?_,S.one.at fun o e=>yYX _ e,S.two.at fun o e=>yYX _ e⟩
  .rcases S.zip with h | ⟨T,f,h,⟨o,e⟩,r⟩
   .exact .inl (yYX _ h)
   .exact .inr ⟨T,f,yYX _ h,⟨o,yYX _ e⟩,r⟩
  .obtain⟨a,b,e⟩:=S.own
   exact⟨a,b,yYX _ e⟩
 have dz:∀x,x=z\/x=TI\/x=TO\/x=i1\/x=i2->h1.objs.size≠x:=fun x hx=>yZF (zlt x hx)
 have old:s.heap.objs.size<=h1.objs.size:=Nat.le_of_lt (yZG z1 (zlt z (.inl rfl)))
 obtain⟨vs,hzip⟩:∃vs,(h1.push { cls:=.type "dict",data:=.dict #[] }).get? z=some { cls:=.type "zip",dict:=none,data:=.fields vs,slots:=#[] }:=by
  rcases S2.zip with h | ⟨_,_,h,_⟩ <;> exact⟨_,h⟩
 refine qAa hzip hh fun h2 tk2 kp2=>⟨rfl,?_⟩
 have S3:ZipSt h2 z TI TO i1 i2 l t 0:=by
  refine⟨?_,kp2 _ _ S2.its,?_,S2.one.at fun o e=>kp2 _ _ e,S2.two.at fun o e=>kp2 _ _ e⟩
  .rcases S2.zip with h | ⟨T,f,h,⟨o,e⟩,r⟩
   .exact .inl (kp2 _ _ h)
   .exact .inr ⟨T,f,kp2 _ _ h,⟨o,kp2 _ _ e⟩,r⟩
  .obtain⟨a,b,e⟩:=S2.own
   exact⟨a,b,kp2 _ _ e⟩
 refine qMb S3 ?_
 have hlen:(xs.toList.zip ys.toList).length=xs.size:=by rw[List.length_zip];simp[hsz]
 have ndl:l≠z/\l≠TO/\l≠i1/\l≠i2:=⟨yZD (yZC llt z1),yZD (yZC llt z3),yZD (yZC llt z4),yZD (yZC llt z5)⟩
 have ndt:t≠z/\t≠TO/\t≠i1/\t≠i2:=⟨yZD (yZC tlt z1),yZD (yZC tlt z3),yZD (yZC tlt z4),yZD (yZC tlt z5)⟩
 have nl5:l≠h1.objs.size:=yZD (yZC llt old)
 have nt5:t≠h1.objs.size:=yZD (yZC tlt old)
 have P:PairIt prog w A.in1.in1 h1.objs.size z [z,TO,i1,i2] (xs.toList.zip ys.toList) (fun i h=>ZipSt h z TI TO i1 i2 l t i/\h.IsList l xs/\h.IsTuple t ys):=
  {frame:=fun i h h' ⟨S,hl,ht⟩ sb ⟨od,hod⟩=>by
    have k:∀b o,b≠h1.objs.size->h.get? b=some o->h'.get? b=some o:=fun b o hb e=>(sb.2 b hb).trans e
    refine⟨⟨?_,k _ _ (dz TI (.inr (.inl rfl))).symm S.its,?_,S.one.at fun o e=>k _ _ (dz i1 (by simp)).symm e,S.two.at fun o e=>k _ _ (dz i2 (by simp)).symm e⟩,?_,?_⟩
    .rcases S.zip with h | ⟨T,f,h,⟨o,e⟩,r⟩
     .exact .inl (k _ _ (dz z (.inl rfl)).symm h)
     .refine .inr ⟨T,f,k _ _ (dz z (.inl rfl)).symm h,?_,r⟩
      by_cases hTd:T=h1.objs.size
      .exact⟨od,by rw[hTd];exact hod⟩
      .exact⟨o,k _ _ hTd e⟩
    .obtain⟨a,b,e⟩:=S.own
     exact⟨a,b,k _ _ (dz TO (by simp)).symm e⟩
    .obtain⟨o,ho,r⟩:=hl;exact⟨o,k _ _ nl5 ho,r⟩
    .obtain⟨o,ho,r⟩:=ht;exact⟨o,k _ _ nt5 ho,r⟩
   item:=fun i s Q E k v e ⟨S,hl,ht⟩ hQ=>by
    obtain⟨e1,e2⟩:=List.getElem?_zip_eq_some.mp e
    refine qMa D S hl ht ndl ndt (x:=k) (y:=v) (by simpa using e1) (by simpa using e2) fun h' T S' hT kp=>?_
    refine hQ T h' s.toks 0 ⟨S',?_,?_⟩ ⟨_,hT,rfl,rfl⟩ fun b o hb e=>kp b o (fun z=>hb (by simp[z])) (fun z=>hb (by simp[z])) (fun z=>hb (by simp[z])) (fun z=>hb (by simp[z])) e
    .obtain⟨o,ho,r⟩:=hl;exact⟨o,kp _ _ ndl.1 ndl.2.1 ndl.2.2.1 ndl.2.2.2 ho,r⟩
    .obtain⟨o,ho,r⟩:=ht;exact⟨o,kp _ _ ndt.1 ndt.2.1 ndt.2.2.1 ndt.2.2.2 ho,r⟩
   done:=fun s Q E ⟨S,hl,ht⟩ hQ=>by
    refine qYe (A:=A.in1.in1) hh D S hl ndl (by rw[hlen];simp) fun h' kp=>?_
    exact hQ h' s.toks fun b o hb e=>kp b o (fun z=>hb (by simp[z])) (fun z=>hb (by simp[z])) (fun z=>hb (by simp[z])) (fun z=>hb (by simp[z])) e }
 have kl:∀b o,s.heap.get? b=some o->h2.get? b=some o:=fun b o e=>kp2 _ _ (yYX _ (keep1 _ _ e))
 have hd0:h2.DictOf knd h1.objs.size (merged [] (ks.take 0)):=by
  obtain⟨o,es,ep,ho,r⟩:=qKz (knd:=knd) h1
  exact⟨o,es,ep,kp2 _ _ ho,r⟩
 refine qGb (A:=A.in1) (s₀:={ s with heap:=h2,toks:=tk2 }) P hk (by simp[dz z,dz TO,dz i1,dz i2]) hz (fun h' tk kp hD=>⟨rfl,?fin⟩) ks.length 0 h2 tk2 (by simp) (yZE _) ⟨S3,?sl,?st⟩ hd0 (fun _ _ _ _ e=>e)
 case fin=>
  refine hQ _ h' tk old (fun b o e=>kp b o ?_ ?_ (kl b o e)) hD
  .have bl:=yYY e
   intro hb
   simp only[yYK,Yq,or_false] at hb
   rcases hb with rfl | rfl | rfl | rfl
   .exact absurd (yZC bl z1) (Nat.lt_irrefl _)
   .exact absurd (yZC bl z3) (Nat.lt_irrefl _)
   .exact absurd (yZC bl z4) (Nat.lt_irrefl _)
   .exact absurd (yZC bl z5) (Nat.lt_irrefl _)
  .exact yZD (yZC (yYY e) old)
 case sl=>obtain⟨o,ho,r⟩:=hl;exact⟨o,kl _ _ ho,r⟩
 case st=>obtain⟨o,ho,r⟩:=ht;exact⟨o,kl _ _ ho,r⟩
theorem qVk {l:Addr}{xs:Array Value}{n:Nat}{kvs:List (Value×Value)}{ks:List (K×Value)}{Q:Value->Shared->Prop}(hh:A.handled=none)(hl:s.heap.get? l=some { cls:=.type "list",data:=.seq xs n })
  (hp:∀(i:Nat) p,kvs[i]? = some p->∃T o m,xs[i]? = some (.ref T)/\s.heap.get? T=some o/\o.cls=.type "tuple" /\ o.data=.seq #[p.1,p.2] m) (hlen:kvs.length=xs.size) (hk:Keyed knd ks kvs) (hz:ks.length<=1000)
  (hQ:∀p h' tk,s.heap.objs.size<=p->(∀b o,s.heap.get? b=some o->h'.get? b=some o)->h'.DictOf knd p (merged [] ks)->Q (.ref p) { s with heap:=h',toks:=tk }):
  wpAny (model prog w) A (call (.type "dict") [.ref l]) Q E s:=by
 refine qXw (T := "list") ⟨_,hl,rfl⟩ (by decide) fun E'=>?_
 have kd:∀b o,s.heap.get? b=some o->(s.heap.push { cls:=.type "dict",data:=.dict #[] }).get? b=some o:=fun b o e=>yYX _ e
 refine qVj (kd _ _ hl) hh fun h2 tk2 kp2=>⟨rfl,?_⟩
 have kl:∀b o,s.heap.get? b=some o->h2.get? b=some o:=fun b o e=>kp2 _ _ (kd _ _ e)
 have L2:h2.IsList l xs:=⟨_,kl _ _ hl,rfl,n,rfl⟩
 refine wpAny_pyIter_list (s:={ s with heap:=h2,toks:=tk2 }) L2 ?_
 have k3:∀b o,h2.get? b=some o->(h2.push { cls:=.type "list_iterator",data:=.fields #[.ref l,.int 0 0] }).get? b=some o:=fun b o e=>yYX _ e
 have dlt:s.heap.objs.size<h2.objs.size:=yYY (kp2 _ _ (yYZ _ rfl))
 have P:PairIt prog w A.in1.in1 s.heap.objs.size h2.objs.size [h2.objs.size] kvs (fun i h=>h.IsListIter h2.objs.size l i/\∀b o,s.heap.get? b=some o->h.get? b=some o):=
  {frame:=fun i h h' ⟨S,kp⟩ sb _=>⟨S.at fun o e=>(sb.2 _ (yZF dlt)).trans e,fun b o e=>(sb.2 b (yZD (yYY e))).trans (kp b o e)⟩
   item:=fun i s' Q E k v e ⟨S,kp⟩ hQ=>by
    obtain⟨T,o,m,ex,ho,hc,hd⟩:=hp i (k,v) e
    refine wpAny_pyNext_list_item S ⟨_,kp _ _ hl,rfl,n,rfl⟩ ex fun h' S' sb=>?_
    have nb:∀b o,s.heap.get? b=some o->b≠h2.objs.size:=fun b o e=>yZD (Nat.lt_trans (yYY e) dlt)
    exact hQ T h' s'.toks m ⟨S',fun b o e=>(sb.2 b (nb b o e)).trans (kp b o e)⟩ ⟨o,(sb.2 T (nb T o ho)).trans (kp _ _ ho),hc,hd⟩ fun b o hb e=>(sb.2 b (fun z=>hb (by simp[z]))).trans e
   done:=fun s' Q E ⟨S,kp⟩ hQ=>by
    refine wpAny_pyNext_list_end (A:=A.in1.in1) hh S ⟨_,kp _ _ hl,rfl,n,rfl⟩ (by rw[hlen];simp) fun h' eb=>?_
    exact hQ h' s'.toks fun b o hb e=>eb b o (fun z=>hb (by simp[z])) e }
 have hd0:(h2.push { cls:=.type "list_iterator",data:=.fields #[.ref l,.int 0 0] }).DictOf knd s.heap.objs.size (merged [] (ks.take 0)):=by
  obtain⟨o,es,ep,ho,r⟩:=qKz (knd:=knd) s.heap
  exact⟨o,es,ep,k3 _ _ (kp2 _ _ ho),r⟩
 refine qGb (A:=A.in1) (s₀:={ s with heap:=h2.push { cls:=.type "list_iterator",data:=.fields #[.ref l,.int 0 0] },toks:=tk2 }) P hk (by simp;exact yZD dlt) hz (fun h' tk kp hD=>⟨rfl,?_⟩) ks.length 0 _ tk2 (by simp) (yZE _) ⟨⟨_,yYZ _ rfl,rfl,rfl⟩,fun b o e=>k3 _ _ (kl _ _ e)⟩ hd0 (fun _ _ _ _ e=>e)
 refine hQ _ h' tk (yZB _) (fun b o e=>kp b o ?_ (yZD (yYY e)) (k3 _ _ (kl b o e))) hD
 simp only[yYL]
 exact yZD (Nat.lt_trans (yYY e) dlt)
end
end PySem
namespace L2
open PySem PySem.Spec PyProof.Rows
theorem xDh:bootBuiltins "zip" = some (.type "zip"):=by wtm_at"d"
def zipK (ns:List Str)(xs:List V):List (Key×V):=(ns.zip xs).map fun p=>(Sum.inr p.1,p.2)
def pairK (kvs:List (Str×V)):List (Key×V):=kvs.map fun p=>(Sum.inr p.1,p.2)
theorem qBk {P:Program}{w:World}:∀{ns:List Str} {xs:List V} {us vs:List Value},Vals (ns.map V.str) us->Vals xs vs->ns.length=xs.length->∃ks:List (Key×Value),Keyed (zO P w) ks (us.zip vs)/\KV (zipK ns xs) ks/\ks.length=ns.length
 | [],[],_,_,.nil,.nil,_=>⟨[],.nil,.nil,rfl⟩
 | n::ns,x::xs,_,_,.cons r1 t1,.cons (b:=v) r2 t2,hl=>by
  obtain⟨ks,h1,h2,h3⟩:=qBk (P:=P) (w:=w) t1 t2 (by simpa using hl)
  obtain⟨t,rfl⟩:=r1
  exact⟨(Sum.inr n,v)::ks,.cons ⟨jW P w n t,rfl⟩ h1,.cons ⟨rfl,r2⟩ h2,by simp[h3]⟩
 | [],_::_,_,_,_,_,hl=>by simp at hl
 | _::_,[],_,_,_,_,hl=>by simp at hl
section
variable {X:Cx}{zy:List (Addr×Obj)}{σ:St}{H:Hp}{s:Shared}
theorem Inv.newDict {Q:VK}{p:Addr}{h':Heap}{tk:Nat}{kvs:List (Key×V)}{ks:List (Key×Value)}(I:Inv X zy σ H s)(hp:s.heap.objs.size<=p)(keep:∀b o,s.heap.get? b=some o->h'.get? b=some o)
  (rel:KV kvs ks) (hk:ks.length<=1000) (hD:h'.DictOf (zO X.prog X.w) p (merged [] ks)) (q:Q (.ref p) (upd H p (.dK (mergeK [] kvs)))):EP X zy σ Q (.ref p) { s with heap:=h',toks:=tk }:=by
 refine⟨.ref p,upd H p (.dK (mergeK [] kvs)),I.laid (o:=.dK (mergeK [] kvs)) keep hp ⟨?_,?_,merged [] ks,KV.merge rel .nil,hD⟩,rfl,q⟩
 .have l1:=qQm kvs []
  have l2:=rel.length
  have e:Yc=16777216:=by decide
  rw[yYT] at l1
  omega
 .have:=I.big
  have ne:p≠sysModules:=yZF (yZC this hp)
  exact beq_eq_false_iff_ne.mpr ne
def xQc (K:yZN)(ta:TA):TE:=fun σ H Q=>ta σ H fun vs H1=>∃l t ns xs,vs=[.ref l,.ref t]/\SqL K H1 l (ns.map V.str)/\SqT K H1 t xs/\ns.length=xs.length/\ns.length<=1000/\
 ∀p,H1 p=none->Q (.ref p) (upd H1 p (.dK (mergeK [] (zipK ns xs))))
theorem qEn {a b:Expr}{ta:TA}{p p2 pos pos2:Pos}(hc:X.calm=true)(hg:Gl X "dict")(hm:X.mg "dict" = none)(hg2:Gl X "zip")(hm2:X.mg "zip" = none)(ha:PA X [a,b] ta)
  (he:starEach [.Call (.Name "zip" p2) [a,b] [] pos2] X.env=[(false,eval (.Call (.Name "zip" p2) [a,b] [] pos2) X.env)]:=by rfl)
  (he2:starEach [a,b] X.env=[(false,eval a X.env),(false,eval b X.env)]:=by rfl) (he3:starEach [b] X.env=[(false,eval b X.env)]:=by rfl):
  PE X (.Call (.Name "dict" p) [.Call (.Name "zip" p2) [a,b] [] pos2] [] pos) (xQc X.K ta):=by
 intro zy s σ H Q I h
 refine Call_ (qKv I hg hm qUd (PyProof.Rows.callWith_type1 ?_ he rfl))
 rw[he]
 refine Calls.spliced_cons (Call_ (qKv I hg2 hm2 xDh (PyProof.Rows.callWith_type1 (thn (ha pos2 zy s σ H _ I h) fun us s1 ⟨vs,H1,I1,r1,q1⟩=>?_) (by rw[he2,he3]) (by rw[he3];rfl))))
 obtain⟨l,t,ns,xs,rfl,hl,ht,hlen,h1000,q⟩:=q1
 obtain⟨u,v,rfl,ru,rv⟩:=vals2 r1
 cases ru;cases rv
 obtain⟨its,r2,p2',_⟩:=I1.list hl
 obtain⟨its2,r3,p3,_⟩:=I1.tuple ht
 obtain⟨ks,k1,k2,k3⟩:=qBk (P:=X.prog) (w:=X.w) r2 r3 hlen
 have e1:=r2.length
 have e2:=r3.length
 rw[yYC] at e1
 refine thn (qAo (knd:=zO X.prog X.w) (ks:=ks) (I1.ok.hd hc) p2'.isList (show s1.heap.IsTuple t its2.toArray from p3) (by simp only[yYD];omega) (by simpa using k1) (by omega) fun p' h' tk hp keep hD=>?_) fun z s2 hz=>Calls.spliced_nil hz
 exact I1.newDict hp keep k2 (by omega) hD (q p' (I1.hok.fresh hp))
def PairIn (H:Hp)(kv:Str×V)(u:V):Prop:=∃a,u=.ref a/\H a=some (.tup [.str kv.1,kv.2])
theorem qEo (I:Inv X zy σ H s):∀{kvs:List (Str×V)} {us:List V} {its:List Value},Paired (PairIn H) kvs us->Vals us its->∃(vv:List (Value×Value)) (ks:List (Key×Value)),
  (∀(i:Nat) p,vv[i]? = some p->∃T o m,its[i]? = some (.ref T)/\s.heap.get? T=some o/\o.cls=.type "tuple" /\ o.data=.seq #[p.1,p.2] m)/\vv.length=its.length/\Keyed (zO X.prog X.w) ks vv/\KV (pairK kvs) ks/\ks.length=kvs.length:=by
 intro kvs us its hp
 induction hp generalizing its with
 | nil=>
  intro hv
  cases hv
  exact⟨[],[],fun i p e=>by simp at e,rfl,.nil,.nil,rfl⟩
 | @cons kv _ _ _ f t ih=>
  intro hv
  cases hv with
  | cons r t2=>
  obtain⟨n,x⟩:=kv
  obtain⟨vv,ks,h1,h2,h3,h4,h5⟩:=ih t2
  obtain⟨a,rfl,ha⟩:=f
  cases r
  obtain⟨z,its,rv,o,ho,hc,m,hd,_⟩:=I.hok a _ ha
  obtain⟨u,v,rfl,ru,rv'⟩:=vals2 rv
  obtain⟨tk,rfl⟩:=ru
  refine⟨(.str n tk,v)::vv,(Sum.inr n,v)::ks,fun i p e=>?_,by simp[h2],.cons ⟨jW _ _ n tk,rfl⟩ h3,.cons ⟨rfl,rv'⟩ h4,by simp[h5]⟩
  cases i with
  | zero=>
   simp at e
   subst e
   exact⟨a,o,m,rfl,ho,hc,hd⟩
  | succ i=>exact h1 i p (by simpa using e)
theorem qDh (hc:X.calm=true):CallR X (.type "dict") (fun vs H Q=>∃l us kvs,vs=[.ref l]/\H l=some (.lst us)/\Paired (PairIn H) kvs us/\kvs.length<=1000/\∀p,H p=none->Q (.ref p) (upd H p (.dK (mergeK [] (pairK kvs))))):=by
 intro zy s σ H vs us Q I r h
 obtain⟨l,xs,kvs,rfl,hl,hp,h1000,q⟩:=h
 obtain⟨u,rfl,ru⟩:=vals1 r
 cases ru
 obtain⟨z,its,n,rv,hlen,e⟩:=I.lstM hl
 obtain⟨vv,ks,k1,k2,k3,k4,k5⟩:=qEo I hp rv
 refine qVk (knd:=zO X.prog X.w) (ks:=ks) (kvs:=vv) (I.ok.hd hc) e (fun i p ep=>?_) (by simp[k2]) k3 (by omega) fun p h' tk hp' keep hD=>I.newDict hp' keep k4 (by omega) hD (q p (I.hok.fresh hp'))
 obtain⟨T,o,m,a1,a2⟩:=k1 i p ep
 exact⟨T,o,m,by simpa using a1,a2⟩
end
end L2
namespace FP
open PySem L2
theorem xE {X:Cx}{a b:Expr}{ta tb:TE}{pos:Pos}{r:R2}(hr:IxR X r)(ha:PE X a ta)(hb:PE X b tb)(hs:qUi b:=by exact fun _ _=>rfl):PE X (.Subscript a b pos) (tOp r ta tb):=xEo hr ha hb hs
theorem xF {X:Cx}{pos:Pos}{i:Nat}{x:Str}{e:Expr}{te:TE}{pos':Pos}(hN:X.N.Nodup)(hi:X.N[i]? = some x)(he:PE X e te)(hx:Loc X.env.scope x:=by first | exact Or.inl rfl | exact Or.inr rfl)(hs:swapsWith e (some (.Name x pos')) pos.line X.env=pure false:=by rfl)(hf:X.fn x=true\/X.env.scope.names.lookup x=some .local:=by first | exact .inl rfl | exact .inr rfl | assumption):PS X (.Assign [.Name x pos'] e pos) (tAsg te (gName i)):=qM hN hi hx he hs hf
inductive Th where
 | num (n:Int) | box (x:Str) | nul (k:Str) | un (k:Str) (a:Th) | bin (k:Str) (a b:Th)
namespace Th
def Op (k:Str):Prop:=k ≠ "box" /\ k ≠ "number"
def Ok:Th->Prop
 | num _=>True
 | box _=>True
 | nul k=>Op k
 | un k a=>Op k/\a.Ok
 | bin k a b=>Op k/\a.Ok/\b.Ok
def dep:Th->Nat
 | num _=>1
 | box _=>1
 | nul _=>1
 | un _ a=>a.dep+1
 | bin _ a b=>max a.dep b.dep+1
def cnt:Th->Nat
 | num _=>1
 | box _=>1
 | nul _=>1
 | un _ a=>a.cnt+1
 | bin _ a b=>a.cnt+b.cnt+1
def names:Th->List Str
 | num _=>[]
 | box x=>[x]
 | nul _=>[]
 | un _ a=>a.names
 | bin _ a b=>a.names++b.names
theorem cnt_pos:∀t:Th,1<=t.cnt
 | num _=>yZB _
 | box _=>yZB _
 | nul _=>yZB _
 | un _ a=>by show 1<=a.cnt+1;omega
 | bin _ a b=>by show 1<=a.cnt+b.cnt+1;omega
theorem names_le:∀t:Th,t.names.length<=t.cnt
 | num _=>yZE _
 | box _=>yZB _
 | nul _=>yZE _
 | un _ a=>by have:=names_le a;show a.names.length<=a.cnt+1;omega
 | bin _ a b=>by
  have:=names_le a
  have:=names_le b
  show(a.names++b.names).length<=a.cnt+b.cnt+1
  rw[yYI];omega
theorem cnt_le:∀t:Th,t.cnt+1<=2 ^ t.dep
 | num _=>by show 1+1<=2 ^ 1;decide
 | box _=>by show 1+1<=2 ^ 1;decide
 | nul _=>by show 1+1<=2 ^ 1;decide
 | un _ a=>by
  have:=cnt_le a
  have:=cnt_pos a
  show a.cnt+1+1<=2 ^ (a.dep+1)
  rw[Nat.pow_succ];omega
 | bin _ a b=>by
  have ha:=cnt_le a
  have hb:=cnt_le b
  show a.cnt+b.cnt+1+1<=2 ^ (max a.dep b.dep+1)
  have h1:2 ^ a.dep<=2 ^ (max a.dep b.dep):=Y9 (by decide) (Nat.le_max_left _ _)
  have h2:2 ^ b.dep<=2 ^ (max a.dep b.dep):=Y9 (by decide) (Nat.le_max_right _ _)
  rw[Nat.pow_succ];omega
theorem cnt_small {t:Th}(h:t.dep<=12):t.cnt<=4096:=by
 have h1:=cnt_le t
 have h2:2 ^ t.dep<=2 ^ 12:=Y9 (by decide) h
 have e:2 ^ 12=4096:=by decide
 omega
theorem dep_pos:∀t:Th,1<=t.dep
 | num _=>yZB _
 | box _=>yZB _
 | nul _=>yZB _
 | un _ a=>by show 1<=a.dep+1;omega
 | bin _ a b=>by show 1<=max a.dep b.dep+1;omega
def At (H:Hp):Th->V->Prop
 | num n,v=>∃a,v=.ref a/\H a=some (.tup [.str "number",.int n])
 | box x,v=>∃a,v=.ref a/\H a=some (.tup [.str "box",.str x])
 | nul k,v=>∃a,v=.ref a/\H a=some (.tup [.str k])
 | un k t,v=>∃a u,v=.ref a/\H a=some (.tup [.str k,u])/\t.At H u
 | bin k t r,v=>∃a u w,v=.ref a/\H a=some (.tup [.str k,u,w])/\t.At H u/\r.At H w
def _root_.FP.Tups (H H':Hp):Prop:=∀b xs,H b=some (.tup xs)->H' b=some (.tup xs)
theorem At.mono {H H':Hp}(h:Tups H H'):∀{t:Th} {v:V},t.At H v->t.At H' v
 | num _,_,⟨a,e,q⟩=>⟨a,e,h _ _ q⟩
 | box _,_,⟨a,e,q⟩=>⟨a,e,h _ _ q⟩
 | nul _,_,⟨a,e,q⟩=>⟨a,e,h _ _ q⟩
 | un _ t,_,⟨a,u,e,q,r⟩=>⟨a,u,e,h _ _ q,At.mono h r⟩
 | bin _ t r,_,⟨a,u,w,e,q,r1,r2⟩=>⟨a,u,w,e,h _ _ q,At.mono h r1,At.mono h r2⟩
end Th
theorem qC {H H':Hp}(s:Same H H'):Tups H H':=fun b xs h=>s b _ h
theorem kG {d:Addr}{H H':Hp}{xs:List V}(s:But d H H')(h:H d=some (.lst xs)):Tups H H':=fun b ys q=>s b _ (wO q h (by intro z;cases z)) q
theorem Tups.trans {H H1 H2:Hp}(a:Tups H H1)(b:Tups H1 H2):Tups H H2:=fun c xs h=>b c xs (a c xs h)
inductive View (H:Hp)(t:Th)(v:V):Prop
 | box (a:Addr) (x:Str):t=.box x->v=.ref a->H a=some (.tup [.str "box",.str x])->View H t v
 | num (a:Addr) (n:Int):t=.num n->v=.ref a->H a=some (.tup [.str "number",.int n])->View H t v
 | op (a:Addr) (k:Str) (us:List V) (ts:List Th):v=.ref a->H a=some (.tup (.str k::us))->Th.Op k->us.length=ts.length->us.length<=2->
   (∀(i:Nat) u r,us[i]? = some u->ts[i]? = some r->r.At H u/\r.Ok/\r.dep+1<=t.dep)->t.names=ts.flatMap Th.names->(ts.map Th.cnt).sum+1=t.cnt->View H t v
theorem view {H:Hp}:∀{t:Th} {v:V},t.At H v->t.Ok->View H t v
 | .num n,_,⟨a,e,q⟩,_=>.num a n rfl e q
 | .box x,_,⟨a,e,q⟩,_=>.box a x rfl e q
 | .nul k,_,⟨a,e,q⟩,ok=>.op a k [] [] e q ok rfl (by decide) (fun i u r h=>by simp at h) rfl rfl
 | .un k t,_,⟨a,u,e,q,r⟩,ok=>by
  refine .op a k [u] [t] e q ok.1 rfl (by show 1<=2;decide) (fun i u' r' h1 h2=>?_) (by simp[Th.names]) (by simp[Th.cnt])
  match i,h1,h2 with
  | 0,h1,h2=>
   cases h1;cases h2
   exact⟨r,ok.2,yZB _⟩
  | i+1,h1,_=>simp at h1
 | .bin k t s,_,⟨a,u,w,e,q,r1,r2⟩,ok=>by
  refine .op a k [u,w] [t,s] e q ok.1 rfl (by show 2<=2;decide) (fun i u' r' h1 h2=>?_) (by simp[Th.names]) (by simp[Th.cnt])
  match i,h1,h2 with
  | 0,h1,h2=>
   cases h1;cases h2
   exact⟨r1,ok.2.1,by show t.dep+1<=max t.dep s.dep+1;omega⟩
  | 1,h1,h2=>
   cases h1;cases h2
   exact⟨r2,ok.2.2,by show s.dep+1<=max t.dep s.dep+1;omega⟩
  | i+2,h1,_=>simp at h1
theorem qBe {ts:List Th}{i:Nat}{t:Th}(h:ts[i]? = some t):(ts.take (i+1)).flatMap Th.names=(ts.take i).flatMap Th.names++t.names:=by
 rw[yYM,h,List.flatMap_append]
 simp
theorem xQb {ts:List Th}(i:Nat):((ts.take i).flatMap Th.names).length<=(ts.flatMap Th.names).length:=by
 have e:ts.flatMap Th.names=(ts.take i).flatMap Th.names++(ts.drop i).flatMap Th.names:=by rw[<- List.flatMap_append,List.take_append_drop]
 rw[e,yYI];omega
theorem cut1 (k:V)(us:List V):cutV (k::us) (some 1) none=us:=by
 unfold cutV
 have e1:HT.sIx (k::us).length 0 (some (1:Int))=1:=by
  have:=HT.sIx_nat (k::us).length 0 1
  rw[yYS] at this ⊢
  have e:min 1 (us.length+1)=1:=by omega
  rw[e] at this
  exact this
 rw[e1,HT.sIx_none,List.drop_one,List.tail_cons,yYS,Nat.add_sub_cancel,yYJ]
theorem notwhole (k:V)(us:List V):¬(HT.sIx (k::us).length 0 (some 1)=0/\HT.sIx (k::us).length (k::us).length none=(k::us).length):=by
 intro z
 have:=HT.sIx_nat (k::us).length 0 1
 rw[yYS] at this
 have e:min 1 (us.length+1)=1:=by omega
 rw[e] at this
 have z1:=z.1
 rw[yYS] at z1
 exact absurd (this.symm.trans z1) (by decide)
theorem small {n:Nat}(h:n<=10000):n<Yc:=yZG h (by decide)
theorem smallE {n:Nat}(h:n<=10000):n<=Yc:=Nat.le_of_lt (small h)
theorem xVo:("number" : Str) ≠ "box" := by wtm_at"d"
theorem xV {a b:Str}(h:a≠b):decide (V.str a=V.str b)=false:=decide_eq_false (by intro z;cases z;exact h rfl)
theorem jD (a:Str):decide (V.str a=V.str a)=true:=decide_eq_true rfl
abbrev strsV (ws:List Str):List V:=ws.map V.str
theorem xW (ws:List Str):(strsV ws).length=ws.length:=yYC _
theorem xR (a b:List Str):strsV (a++b)=strsV a++strsV b:=yYU
theorem qIn (a:List Str)(x:Str):strsV (a++[x])=strsV a++[.str x]:=yYU
abbrev intsV (ns:List Int):List V:=ns.map V.int
theorem qVn (a:List Int)(x:Int):intsV (a++[x])=intsV a++[.int x]:=yYU
theorem kA (ws:List Int):(intsV ws).length=ws.length:=yYC _
end FP
namespace L2
open PySem PySem.Spec PyProof.Rows
section
variable {X:Cx}{K:yZN}
theorem qT (hK:X.K=K:=by rfl):IxR X (rIxL K):=by subst hK;exact qSe
theorem qS (hK:X.K=K:=by rfl):IxR X (rIxT K):=by subst hK;exact qSd
theorem zT (hK:X.K=K:=by rfl):SlR X (rSlL K):=by subst hK;exact xKi
theorem qEe (hK:X.K=K:=by rfl):SlR X (rSlT K):=by subst hK;exact xJo
def rLen (K:yZN):List V->Hp->VK->Prop:=fun xs H Q=>∃p ys,xs=[.ref p]/\(SqL K H p ys\/SqT K H p ys)/\Q (.int ys.length) H
theorem jX (hK:X.K=K:=by rfl):CallR X (.builtin "len") (rLen K):=by subst hK;exact qZl
def xKn (K:yZN):List V->Hp->VK->Prop:=fun xs H Q=>∃p ys,xs=[.ref p]/\(SqL K H p ys\/SqT K H p ys)/\∀l,H l=none->Q (.ref l) (upd H l (.lst ys))
theorem qZz (hK:X.K=K:=by rfl):CallR X (.type "list") (xKn K):=by subst hK;exact qDe
def rTupOf (K:yZN):List V->Hp->VK->Prop:=fun xs H Q=>∃p ys,xs=[.ref p]/\SqL K H p ys/\∀l,H l=none->Q (.ref l) (upd H l (.tup ys))
theorem qKl (hK:X.K=K:=by rfl):CallR X (.type "tuple") (rTupOf K):=by
 subst hK
 intro zy s σ H xs us Q I r h
 obtain⟨p,ys,e,hs,q⟩:=h
 exact qAm zy s σ H xs us Q I r ⟨p,ys,e,.inl ⟨hs,q⟩⟩
def rIsIn (K:yZN):List V->Hp->VK->Prop:=fun xs H Q=>∃x T t b,xs=[x,.ty T]/\TyOf K H x t/\PySem.W.kitOne K t (.type T)=some b/\Q (.bl b) H
theorem jY (hK:X.K=K:=by rfl):CallR X (.builtin "isinstance") (rIsIn K):=by subst hK;exact qFm
theorem qHf (hK:X.K=K:=by rfl):OpR X (compareOp .In) (rIn K false):=by subst hK;exact qPl
theorem qCk (hK:X.K=K:=by rfl):OpR X (compareOp .NotIn) (rIn K true):=by subst hK;exact qCj
theorem xVe (hu:X.A.units+64<cLine)(hK:X.K=K:=by rfl):OpR X (compareOp .Eq) (rEqL K true):=by subst hK;exact xYz hu
def rNeE (K:yZN):R2:=fun x y H Q=>∃a b xs,x=.ref a/\y=.ref b/\SqL K H a xs/\SqL K H b []/\Q (.bl (!xs.isEmpty)) H
theorem xVb (hu:X.A.units+64<cLine)(hK:X.K=K:=by rfl):OpR X (compareOp .NotEq) (rNeE K):=by subst hK;exact xCa hu
def rEqE (K:yZN):R2:=fun x y H Q=>∃a b xs,x=.ref a/\y=.ref b/\SqL K H a xs/\SqL K H b []/\Q (.bl xs.isEmpty) H
theorem qPo (hu:X.A.units+64<cLine)(hK:X.K=K:=by rfl):OpR X (compareOp .Eq) (rEqE K):=by
 subst hK
 intro zy s σ H x y v u Q I rx ry h
 obtain⟨a,b,xs,rfl,rfl,ha,hb,q⟩:=h
 cases xs with
 | nil=>exact xYz hu zy s σ H _ _ v u Q I rx ry ⟨0,a,b,[],[],by omega,rfl,rfl,ha,hb,rfl,fun j x y e=>by simp at e,q⟩
 | cons z zs=>
  cases rx;cases ry
  obtain⟨its,r1,p1,_⟩:=I.list ha
  obtain⟨its2,r2,p2,_⟩:=I.list hb
  have l1:=r1.length
  have l2:=r2.length
  refine SeqAt.RcAt.lists_lengths p1.isList p2.isList ?_ (by omega) _ _ _ _ ⟨.bl false,H,I,rfl,q⟩
  simp only[yYS,yYT] at l1 l2
  rw[bne_iff_ne,yYD,yYD]
  omega
variable {tg l o e:Expr}{es:List Expr}{tl to:TE}{t:TA}{name:Str}{pos apos cpos:Pos}{T id:String}{r:V->List V->Hp->VK->Prop}
theorem qU (hl:PE X l tl)(hK:X.K=K:=by rfl):PI X tg l (iList K tl):=by subst hK;exact qPe hl
theorem qYh (hl:PE X l tl)(hK:X.K=K:=by rfl):PI X tg l (iTup K tl):=by subst hK;exact xBg hl
theorem jF {es:List Expr}{k:Nat}{t:TGs}{n:Nat}(hc:X.calm=true)(h:PGs X es t)
  (hn:(assignEach es X.env).length=n:=by rfl) (hst:(assignEach es X.env).findIdx? (·.1)=none:=by rfl) (hK:X.K=K:=by rfl):PG X (.Tuple es k pos) (gTup K n t):=by subst hK;exact xYx hc h hn hst
theorem qAq (pa:PlainAttrs T)(slot:Slot T name id)(hty:typeOf (.builtin id)=pure (.type "method_descriptor"))(hm:MtR X id r)(ho:PE X o to)
  (hbase:attributeBase o name X.env (eval o X.env)=eval o X.env:=by rfl) (hline:(apos.endLine == cpos.line)=true:=by rfl) (hK:X.K=K:=by rfl):PE X (.Call (.Attribute o name apos) [] [] cpos) (tBM0 K T r to):=by
 subst hK;exact xCq pa slot hty hm ho hbase hline
theorem zX (pa:PlainAttrs T)(slot:Slot T name id)(hty:typeOf (.builtin id)=pure (.type "method_descriptor"))(hm:MtR X id r)(ho:PE X o to)(ha:PA X (e::es) t)
  (hbase:attributeBase o name X.env (eval o X.env)=eval o X.env:=by rfl)
  (hfew:((backTo cpos (starEach (e::es) X.env)).all (fun x=>!x.1) && (backToKw cpos (keywordEach [] X.env)).all (fun x=>x.1.isSome)
   && decide ((e::es).length+([]:List Keyword).length+(if ([]:List Keyword).isEmpty then 0 else 1)<30))=true:=by rfl)
  (hline:(apos.endLine == cpos.line)=true:=by rfl) (hs:starEach (e::es) X.env=(false,eval e X.env)::starEach es X.env:=by rfl) (hplain:(backTo cpos (starEach es X.env)).any (·.1)=false:=by rfl) (hK:X.K=K:=by rfl):
  PE X (.Call (.Attribute o name apos) (e::es) [] cpos) (tBM K T r to t):=by
 subst hK;exact xFx pa slot hty hm ho ha hbase hfew hline hs hplain
end
structure Dn (P:Program)(w:World)(K:yZN)(mg:Str->Option Value)(base:Heap)(x:Str)(k:Nat)(ps:List Str)(sp:Sp):Prop where
 ex:∃f fd,FnOk P w K mg base CX0 k f fd ps sp/\mg x=some (.ref f)/\PySem.W.keepIn K (.ref f)=true/\Binds K fd ps []
section
variable {X:Cx}{P:Program}{w:World}{K:yZN}{mg:Str->Option Value}{base:Heap}{j k:Nat}{ps:List Str}{sp:Sp}{x:Str}{p pos:Pos}{e:Expr}{es:List Expr}{t:TA}
theorem qD (D:Dn P w K mg base x j ps sp)(hr:Room k X.A)(ha:PA X (e::es) t)(hjk:j<=k:=by first | decide | omega)(hg:Gl X x:=by rfl)
  (h1:X.prog=P:=by rfl) (h2:X.w=w:=by rfl) (h3:X.K=K:=by rfl) (h4:X.mg=mg:=by rfl) (h5:X.base=base:=by rfl)
  (hdb:(x == ("__debug__" : Str))=false:=by decide) (he:starEach (e::es) X.env=(false,eval e X.env)::starEach es X.env:=by rfl) (hpl:(backTo pos (starEach es X.env)).any (·.1)=false:=by rfl):
  PE X (.Call (.Name x p) (e::es) [] pos) (tCall sp [] E0 t):=by
 subst h1 h2 h3 h4 h5
 obtain⟨f,fd,F,a,b,c⟩:=D.ex
 exact zU (F.mono hjk) hr hg a b c .nil pass0 ha hdb he hpl
end
def kidsE:Expr->List Expr
 | .BoolOp _ vs _=>vs
 | .BinOp l _ r _=>[l,r]
 | .UnaryOp _ a _=>[a]
 | .IfExp a b c _=>[a,b,c]
 | .ListComp e gs _ _=>e::gs.flatMap fun g=>g.iter::g.ifs
 | .Compare l _ cs _=>l::cs
 | .Call f as _ _=>f::as
 | .Attribute v _ _=>[v]
 | .Subscript a b _=>[a,b]
 | .List es _=>es
 | .Tuple es _ _=>es
 | .Slice a b c _=>a.toList++b.toList++c.toList
 | _=>[]
def downE (e:Expr):List Nat->Expr
 | []=>e
 | i::p=>downE ((kidsE e).getD i (.Constant .none 0 ⟨0,0,0,0⟩)) p
def exprS:Stmt->Expr
 | .Assign _ v _=>v
 | .Return (some v) _=>v
 | .Expr v _=>v
 | .If t _ _ _=>t
 | .While t _ _ _=>t
 | .For _ it _ _ _=>it
 | _=>.Constant .none 0 ⟨0,0,0,0⟩
def blockS:Stmt->List Stmt
 | .If _ a b _=>a++b
 | .For _ _ b _ _=>b
 | .While _ b _ _=>b
 | _=>[]
def stmtAt (body:List Stmt):List Nat->Stmt
 | []=>.Pass ⟨0,0,0,0⟩
 | [i]=>body.getD i (.Pass ⟨0,0,0,0⟩)
 | i::j::p=>stmtAt (blockS (body.getD i (.Pass ⟨0,0,0,0⟩))) (j::p)
abbrev scAt (body:List Stmt)(p q:List Nat):Scope:=qEf (downE (exprS (stmtAt body p)) q)
def tCut (t u:TS):TS:=fun D σ H=>∃Pv:St->Hp->Prop,t { D with nx:=Pv } σ H/\∀σ' H',Pv σ' H'->u D σ' H'
theorem qK {X:Cx}{st:Stmt}{rest:List Stmt}{t u:TS}(h1:PS X st t)(h2:PSs X rest u):PSs X (st::rest) (tCut t u):=by
 intro zy s σ H D I h
 obtain⟨Pv,q1,q2⟩:=h
 refine wpAny_execs_cons (thn (h1 zy s σ H { D with nx:=Pv } I q1) fun f s1 q=>?_)
 cases f with
 | next=>
  obtain⟨σ',H',I',q⟩:=q
  exact h2 zy s1 σ' H' D I' (q2 σ' H' q)
 | ret v=>exact q
 | brk=>exact q
 | cont=>exact q
section
variable {σ:St}{H:Hp}{Q:VK}{R:Bool->Hp->Prop}{S:St->Hp->Prop}{L:List V->Hp->Prop}{O:Option Int->Hp->Prop}{D:Ends}{ta tb tc:TE}{t u:TT}{a b:TS}{x y v:V}{i j:Int}{c:Bool}{K:yZN}
theorem w_var {k:Nat}(h:σ[k]? = some (some v))(q:Q v H):tVar k σ H Q:=⟨v,h,q⟩
theorem w_c (q:Q v H):tC v σ H Q:=q
theorem w_op {r:R2}(q:ta σ H fun x H1=>tb σ H1 fun y H2=>r x y H2 Q):tOp r ta tb σ H Q:=q
theorem w_un {r:V->Hp->VK->Prop}(q:ta σ H fun x H1=>r x H1 Q):tUn r ta σ H Q:=q
theorem w_I0 {g:Int->Int->V}(q:Q (g i j) H):rI0 g (.int i) (.int j) H Q:=⟨i,j,rfl,rfl,q⟩
theorem w_I {C:Int->Int->Prop}{g:Int->Int->V}(h:C i j)(q:Q (g i j) H):rI C g (.int i) (.int j) H Q:=⟨i,j,rfl,rfl,h,q⟩
theorem w_U {g:Int->V}(q:Q (g i) H):rU g (.int i) H Q:=⟨i,rfl,q⟩
theorem w_eq (h:scal x y=true)(q:Q (.bl (decide (x=y))) H):rEq x y H Q:=⟨h,q⟩
theorem w_ne (h:scal x y=true)(q:Q (.bl (!decide (x=y))) H):rNe x y H Q:=⟨h,q⟩
theorem xEe {p:Addr}{xs:List V}(h:SqL K H p xs)(e:atI xs i=some v)(q:Q v H):rIxL K (.ref p) (.int i) H Q:=⟨p,xs,i,v,rfl,rfl,h,e,q⟩
theorem xEd {p:Addr}{xs:List V}(h:SqT K H p xs)(e:atI xs i=some v)(q:Q v H):rIxT K (.ref p) (.int i) H Q:=⟨p,xs,i,v,rfl,rfl,h,e,q⟩
theorem xAf (q:ta σ H fun x H'=>∃k,x=.bl k/\R k H'):tTest ta σ H R:=q
theorem w_B (q:ta σ H fun x H'=>∃k,x=.bl k/\R k H'):tB ta σ H R:=q
theorem w_bl {F:Bool->Prop}(q:F c):∃k,V.bl c=.bl k/\F k:=⟨c,rfl,q⟩
theorem w_not (q:t σ H fun c H1=>R (!c) H1):tNot t σ H R:=q
theorem w_or (q:t σ H fun c H1=>if c=true then R true H1 else u σ H1 R):tOr t u σ H R:=q
theorem xBw (q:ta σ H fun x H1=>∃c,x=.bl c/\if c=true then tb σ H1 Q else Q (.bl false) H1):tAndV ta tb σ H Q:=q
theorem xEa (q:ta σ H fun x H1=>∃c,x=.bl c/\if c=true then Q (.bl true) H1 else tb σ H1 Q):tOrV ta tb σ H Q:=q
theorem xAi (q:ta σ H fun x H1=>∃c,x=.bl c/\Q (.bl (!c)) H1):tNotV ta σ H Q:=q
theorem w_if (q:t σ H fun c H1=>if c=true then ta σ H1 Q else tb σ H1 Q):tIf t ta tb σ H Q:=q
theorem xAl (q:D.nx σ H):tNext D σ H:=q
theorem xEv (q:a { D with nx:=b D } σ H):tSeq a b D σ H:=q
theorem xBj (q:ta σ H fun _ H1=>D.nx σ H1):tDrop ta D σ H:=q
theorem xEw (q:ta σ H D.rt):tRet ta D σ H:=q
theorem xEf (q:t σ H fun c H1=>if c=true then a D σ H1 else b D σ H1):tIfS t a b D σ H:=q
theorem xEn {g:TG}(q:ta σ H fun x H1=>g x σ H1 D.nx):tAsg ta g D σ H:=q
theorem xAm {k:Nat}(q:S (σ.set k (some v)) H):gName k v σ H S:=q
theorem xBx (q:S σ H):gNil [] σ H S:=⟨rfl,q⟩
theorem xKc {g:TG}{gs:TGs}{vs:List V}(q:g v σ H fun σ' H'=>gs vs σ' H' S):gCons g gs (v::vs) σ H S:=⟨v,vs,rfl,q⟩
theorem xBq {n:Nat}{gs:TGs}{p:Addr}{xs:List V}(h:SqT K H p xs)(e:xs.length=n)(q:gs xs σ H S):gTup K n gs (.ref p) σ H S:=⟨p,xs,rfl,h,e,q⟩
theorem xEb (q:L [] H):tNil σ H L:=q
theorem xBk {ts:TA}(q:ta σ H fun x H1=>ts σ H1 fun xs H2=>L (x::xs) H2):tCons ta ts σ H L:=q
theorem xEk {ts:TA}(q:ts σ H fun xs H1=>xs.length<=Yc/\∀p,H1 p=none->Q (.ref p) (upd H1 p (.tup xs))):tTup ts σ H Q:=q
theorem xEc {ts:TA}(q:ts σ H fun xs H1=>xs.length<=Yc/\∀p,H1 p=none->Q (.ref p) (upd H1 p (.lst xs))):tLst ts σ H Q:=q
theorem xBv {sp:Sp}{dvs:List V}{E:XK}{ts:TA}(q:ts σ H fun vs H1=>sp (vs++dvs) H1 Q E):tCall sp dvs E ts σ H Q:=q
theorem w_cb {r:List V->Hp->VK->Prop}{ts:TA}(q:ts σ H fun vs H1=>r vs H1 Q):tCB r ts σ H Q:=q
theorem xEm {T:String}{r:V->List V->Hp->VK->Prop}(q:ta σ H fun x H1=>tyV K T x H1/\r x [] H1 Q):tBM0 K T r ta σ H Q:=q
theorem w_bm {T:String}{r:V->List V->Hp->VK->Prop}{ts:TA}(q:ta σ H fun x H1=>tyV K T x H1/\ts σ H1 fun xs H2=>r x xs H2 Q):tBM K T r ta ts σ H Q:=q
theorem kP {p:Addr}{xs:List V}{A:Prop}(h:SqL K H p xs)(q:A):tyV K "list" (.ref p) H/\A:=⟨.inl ⟨rfl,xs,h⟩,q⟩
theorem xQk (q:O none H):qOv σ H O:=q
theorem xAh (q:ta σ H fun x H1=>∃i,x=.int i/\O (some i) H1):tPart ta σ H O:=q
theorem xEl {F:Int->Prop}(q:F i):∃k,V.int i=.int k/\F k:=⟨i,rfl,q⟩
theorem w_sl {r:V->Option Int->Option Int->Hp->VK->Prop}{tl th:TO}(q:ta σ H fun x H1=>tl σ H1 fun l H2=>th σ H2 fun u H3=>r x l u H3 Q):tSl r ta tl th σ H Q:=q
theorem w_len {p:Addr}{xs:List V}(h:SqL K H p xs\/SqT K H p xs)(q:Q (.int xs.length) H):rLen K [.ref p] H Q:=⟨p,xs,rfl,h,q⟩
theorem jG {p:Addr}{xs:List V}(h:H p=some (.lst xs))(e:xs.length<Yc)(q:Q .non (upd H p (.lst (xs++[y])))):qEl (.ref p) [y] H Q:=⟨p,xs,y,rfl,rfl,h,e,q⟩
theorem xKb {W:It->Hp->Prop}(q:ta σ H fun x H1=>∃a,x=.ref a/\(∃xs,SqL K H1 a xs)/\W (Itl K a) H1):iList K ta σ H W:=q
theorem xAn {W:It->Hp->Prop}(q:ta σ H fun x H1=>∃a,x=.ref a/\(∃xs,SqT K H1 a xs)/\W (Itt K a) H1):iTup K ta σ H W:=q
theorem xAg {W:It->Hp->Prop}{ts:TA}(q:ts σ H fun vs H1=>∃j:Int,vs=[.int j]/\-(2 ^ 62)<=j/\j<2 ^ 62/\W (Itr 0 j.toNat) H1):iRng1 ts σ H W:=q
theorem qNl {p:Addr}{xs:List V}{F:Addr->Prop}(h:SqL K H p xs)(q:F p):∃a,V.ref p=.ref a/\(∃xs,SqL K H a xs)/\F a:=⟨p,rfl,⟨xs,h⟩,q⟩
theorem xEi {p:Addr}{xs:List V}{F:Addr->Prop}(h:SqT K H p xs)(q:F p):∃a,V.ref p=.ref a/\(∃xs,SqT K H a xs)/\F a:=⟨p,rfl,⟨xs,h⟩,q⟩
theorem yB {A B:Prop}(h:c=true)(q:A):if c=true then A else B:=by rw[if_pos h];exact q
theorem zQ {A B:Prop}(h:c=false)(q:B):if c=true then A else B:=by rw[h];exact iteF q
def forK (g:TG)(tb:TS)(D:Ends)(σ:St):It->Hp->Prop:=fun J H1=>∃W:Nat->Nat->St->Hp->Prop,(∃m,W 0 m σ H1)/\∀i m σ H,W i m σ H->
 (J.stop i H/\D.nx σ H)\/(J.go i H/\∃N:St->Hp->Prop,(∀σ' H',N σ' H'->∃m',m'<m/\W (i+1) m' σ' H')/\∀x H',J.yld i H x H'->g x σ H' fun σ2 H2=>tb { D with nx:=N,ct:=N,bk:=D.nx } σ2 H2)
theorem xEh {wi:TI}{g:TG}(q:wi σ H (forK g a D σ)):tFor wi g a D σ H:=q
theorem qNm {k:Nat}{js:List Nat}{wi:TI}{g:TG}(q:wi σ H fun J H1=>rdC k js g t ta J σ H1 Q):tComp k js wi g t ta σ H Q:=q
theorem iteNT {A B:Prop}(q:B):if (!true)=true then A else B:=iteF q
theorem iteNF {A B:Prop}(q:A):if (!false)=true then A else B:=iteT q
theorem qCl {T:String}:PySem.W.kitOne K (.type T) (.type T)=some true:=by simp[PySem.W.kitOne]
end
def eqAll (xs ys:List V):Bool:=xs.length == ys.length && (List.range xs.length).all fun j=>eqV (xs.getD j .non) (ys.getD j .non)
def rEqF (K:yZN)(neg:Bool):R2:=fun x y H Q=>∃a b xs ys,x=.ref a/\y=.ref b/\SqL K H a xs/\SqL K H b ys/\xs.all flatV=true/\ys.all flatV=true/\xs.length=ys.length/\Q (.bl (if neg then !eqAll xs ys else eqAll xs ys)) H
section
variable {X:Cx}{K:yZN}
theorem qPn (hu:X.A.units+64<cLine)(hK:X.K=K:=by rfl):OpR X (compareOp .Eq) (rEqF K false):=by
 subst hK
 intro zy s σ H x y v u Q I rx ry h
 obtain⟨a,b,xs,ys,rfl,rfl,ha,hb,fx,fy,hl,q⟩:=h
 cases rx;cases ry
 obtain⟨its,r1,p1,_⟩:=I.list ha
 obtain⟨its2,r2,p2,_⟩:=I.list hb
 have l1:=r1.length
 have l2:=r2.length
 have sz:its.toArray.size=its2.toArray.size:=by rw[yYD,yYD,<- l1,<- l2,hl]
 refine SeqAt.RcAt.lists (e:=fun j=>eqV (xs.getD j .non) (ys.getD j .non)) p1.isList p2.isList sz (by omega) (fun j h1 h2=>?_) _ _ _ _ ?_
 .have h1':j<xs.length:=by rw[l1];simpa using h1
  have h2':j<ys.length:=by rw[<- hl];exact h1'
  obtain⟨u1,e1,q1⟩:=r1.get (yYA h1')
  obtain⟨u2,e2,q2⟩:=r2.get (yYA h2')
  have g1:its.toArray[j]=u1:=by
   have:its[j]? = some its.toArray[j]:=by simp
   exact Option.some.inj (this.symm.trans e1)
  have g2:its2.toArray[j]=u2:=by
   have:its2[j]? = some its2.toArray[j]:=by simp
   exact Option.some.inj (this.symm.trans e2)
  have d1:xs.getD j .non=xs[j]:=by rw[Yi,yYA h1'];rfl
  have d2:ys.getD j .non=ys[j]:=by rw[Yi,yYA h2'];rfl
  rw[g1,g2]
  show SeqAt.EqAt _ _ _ _ (eqV (xs.getD j .non) (ys.getD j .non))
  rw[d1,d2]
  exact xYh q1 q2 (List.all_eq_true.mp fx _ (List.getElem_mem h1')) (List.all_eq_true.mp fy _ (List.getElem_mem h2'))
 .have e:eqAll xs ys=(List.range its.toArray.size).all fun j=>eqV (xs.getD j .non) (ys.getD j .non):=by
   unfold eqAll
   rw[hl,beq_self_eq_true,Bool.true_and,yYD,<- l1,hl]
  rw[<- e]
  exact⟨.bl _,H,I,rfl,q⟩
end
structure Fd (K:yZN)(mg:Str->Option Value)(x:Str)(st:Stmt)(ps:List Str):Prop where
 ex:∃f fd,Fun K x x st f fd/\mg x=some (.ref f)/\PySem.W.keepIn K (.ref f)=true/\Binds K fd ps []
section
variable {P:Program}{w:World}{K:yZN}{mg:Str->Option Value}{base:Heap}{x:Str}{st:Stmt}{k:Nat}{N ps:List Str}{sp:Sp}
theorem Fd.ok (F:Fd K mg x st ps)(S:xM N ps (xA st))(len:∀vs H Q E,sp vs H Q E->vs.length=ps.length)
  (hbody:∀(f:Addr) (zx:Value) (A:Around) (outer:List Env) (s:Shared) (H:Hp) (vs:List V) (Q:VK) (E:XK),Room k (A.deeper (envOfC x (xA st) s.heap.objs.size f zx))->sp vs H Q E->
   ∃t,PSs (cxOf CX0 P w K mg base N x (xA st) f zx A outer s H E).nox (xB st) t/\t { nx:=fun _ H'=>Q .non H',rt:=Q } (start N vs) H):Dn P w K mg base x (k+1) ps sp:=
 let ⟨f,fd,F,a,b,c⟩:=F.ex
 ⟨f,fd,F.ok S len (hbody f),a,b,c⟩
theorem Fd.never (F:Fd K mg x st ps)(no:∀vs H Q E,¬sp vs H Q E):Dn P w K mg base x k ps sp:=
 let ⟨f,fd,F,a,b,c⟩:=F.ex
 ⟨f,fd,⟨fun vs H Q E h=>absurd h (no vs H Q E),fun A outer s H args us vs Q E _ _ _ _ h=>absurd h (no vs H Q E)⟩,a,b,c⟩
end
end L2
namespace PySem
section
variable {prog:Program}{w:World}{κ:Type}[DecidableEq κ]{knd:KeyKind prog w κ}
theorem qHq {h:Heap}{a:Addr}{S S':κ->Bool}{n n':Nat}(x:h.SetOf knd a S n)(e:∀k,S k=S' k)(en:n=n'):h.SetOf knd a S' n':=by
 obtain rfl:S=S':=funext e
 subst en
 exact x
def metBy (key:Nat->κ)(i:Nat)(x:κ):Bool:=(List.range i).any fun j=>decide (key j=x)
theorem qMl (key:Nat->κ)(i:Nat)(x:κ):metBy key (i+1) x=(metBy key i x || decide (x=key i)):=by
 unfold metBy
 rw[Yx,List.any_append]
 congr 1
 simp only[List.any_cons,List.any_nil,Bool.or_false]
 exact decide_eq_decide.mpr ⟨Eq.symm,Eq.symm⟩
theorem qRl {key:Nat->κ}{n i:Nat}(hd:∀a b,a<n->b<n->key a=key b->a=b)(hi:i<n):metBy key i (key i)=false:=by
 unfold metBy
 refine Bool.eq_false_iff.mpr fun z=>?_
 obtain⟨j,hj,e⟩:=List.any_eq_true.mp z
 have hj':=List.mem_range.mp hj
 have:=hd j i (by omega) hi (of_decide_eq_true e)
 omega
variable {A:Around}{R:Result->Shared->Prop}{I:Addr}{fp wr:List Addr}{G:Array GenState->Array GenState->Prop}{n:Nat}{P:Nat->Value->Prop}{St:Nat->Shared->Prop}
theorem xQn (W:WalksS prog w A.in1 I fp wr G n P St)(T:Addr)(hT:T∉fp)(key:Nat->κ)(hkey:∀i v,P i v->knd.is (key i) v=true/\v.scannable=true)(hd:∀a b,a<n->b<n->key a=key b->a=b)(hb:n+1<scanBound):
  ∀(k i:Nat) (s:Shared),n - i=k->i<=n->St i s->s.heap.SetOf knd T (metBy key i) i->(∀s',Moved (T::wr) G s s'->s'.heap.SetOf knd T (metBy key n) n->R (.ok (.ret .none)) s')->
   codeAny (model prog w) A (.builtin "set.update.loop" ⟨[.ref T,.ref I],[]⟩) R s:=by
 have hTw:T∉wr:=fun z=>hT (W.sub _ z)
 have up:∀b∈wr,b∈T::wr:=fun b z=>yYH _ z
 have carry:∀{s s':Shared} {S:κ->Bool} {m:Nat},Moved wr G s s'->s.heap.SetOf knd T S m->s'.heap.SetOf knd T S m:=fun mv ⟨o,es,ep,t,e,r⟩=>⟨o,es,ep,t,mv.heap T _ hTw e,r⟩
 intro k
 induction k with
 | zero=>
  intro i s hk hi st hS hR
  obtain rfl:i=n:=by omega
  refine codeAny_builtin PyProof.Rows.F.entry_set_update_loop ?_
  rw[Around.under_plainId PyProof.Rows.F.plain_set_update_loop _]
  refine yYV (m:=pyNext (.ref I)) (W.done s _ _ st fun s' mv=>?_)
  exact yYW (hR s' (mv.mono up) (carry mv hS))
 | succ k ih=>
  intro i s hk hi st hS hR
  have lt:i<n:=by omega
  refine codeAny_builtin PyProof.Rows.F.entry_set_update_loop ?_
  rw[Around.under_plainId PyProof.Rows.F.plain_set_update_loop _]
  refine yYV (m:=pyNext (.ref I)) (W.item i s _ _ lt st fun v s' hP st' mv=>?_)
  obtain⟨hv,sc⟩:=hkey i v hP
  have hS1:=carry mv hS
  refine yYV (m:=holding [v] (setAdd T v)) (wpAny_holding ?_)
  unfold setAdd
  refine wpAny_holding (yYV (knd.pyHash (k:=key i) hv ?_))
  refine wpAny_setAddHashed_of (knd:=knd) (s:={ s' with toks:=s'.toks+1 }) hv sc hS1 (by omega) fun h' sb hS2=>?_
  have hS3:h'.SetOf knd T (metBy key (i+1)) (i+1):=by
   refine qHq hS2 (fun x=>(qMl key i x).symm) ?_
   rw[qRl hd lt]
   rfl
  refine yYW ⟨plainId_quiet PyProof.Rows.F.plain_set_update_loop _,ih (i+1) _ (by omega) lt (W.frame _ s' _ _ st' (Nat.le_succ _) fun b hb' o e=>?_) hS3 fun s'' mv2 hS4=>?_⟩
  .rw[sb.2 b (fun z=>hT (z▸hb'))];exact e
  .refine hR s'' (Moved.trans W.gtrans ((mv.mono up).then_heap (Nat.le_succ _) fun b o hb' e=>?_) mv2) hS4
   rw[sb.2 b (fun z=>hb' (z▸yYG))];exact e
end
section
variable {prog:Program}{w:World}{κ:Type}[DecidableEq κ]{knd:KeyKind prog w κ}{A:Around}{E:Value->Shared->Prop}{s:Shared}
abbrev setObj (led:Bool):Obj:={ cls:=.type "set",dict:=none,data:=.set #[] 0 (.fresh 0 0 led) }
theorem qAn {l:Addr}{items:Array Value}{key:Nat->κ}{Q:Value->Shared->Prop}(hh:A.handled=none)(hl:s.heap.IsList l items)(hkey:∀(i:Nat) v,items[i]? = some v->knd.is (key i) v=true/\v.scannable=true)
  (hd:∀a b,a<items.size->b<items.size->key a=key b->a=b) (hb:items.size+1<scanBound)
  (fin:∀(h':Heap) (tk:Nat),h'.SetOf knd s.heap.objs.size (metBy key items.size) items.size->(∀b o,s.heap.get? b=some o->h'.get? b=some o)->Q (.ref s.heap.objs.size) { s with heap:=h',toks:=tk }):
  wpAny (model prog w) A (call (.type "set") [.ref l]) Q E s:=by
 obtain⟨c0,tl0,m0⟩:=F.called_set.mro
 have m1:=F.called_set.made
 have m2:=F.called_set.sub
 refine wpAny_call (codeAny_of_tree ?_)
 show wpAny _ _ (callAny (.type "set") _) _ _ _
 refine yYW ⟨Code.quiet_builtin _ (by wtm_at"d"),codeAny_builtin F.entry_type_call ?_⟩
 rw[Around.under_plain (weight_type_call_type "set" [.ref l] []) rfl]
 have m3:=F.called_set.notType
 have m4:=F.called_set.canCreate
 have m5:=F.typeCall_set_1 (.ref l)
 repeat (any_goals (first | assumption | wp_step))
 refine codeAny_mono (code_set_new_1 (.ref l) (E:=E) (Q₁:=fun obj s₁=>∃led:Bool,obj=.ref s.heap.objs.size/\s₁={ s with heap:=s.heap.push (setObj led) }) fun led=>⟨led,rfl,rfl⟩) fun r s₁ hr=>?_
 cases r with
 | error e=>exact hr
 | ok fl=>
 cases fl with
 | ret obj=>
  obtain⟨led,rfl,rfl⟩:=hr
  have at0:(s.heap.push (setObj led)).get? s.heap.objs.size=some (setObj led):=yYZ _ rfl
  have ty0:Shared.TypeIs { s with heap:=s.heap.push (setObj led) } (.ref s.heap.objs.size) "set" := ⟨_,at0,rfl⟩
  have m6:=F.called_set.init.lookup
  have m7:=F.called_set.init.bind (.ref s.heap.objs.size)
  repeat (any_goals (first | assumption | wp_step))
  refine codeAny_mono (codeAny_call_builtin (R:=wants (fun r s₂=>r=.none/\∃h' tk,s₂={ s with heap:=h',toks:=tk }/\h'.SetOf knd s.heap.objs.size (metBy key items.size) items.size/\(∀b o,s.heap.get? b=some o->h'.get? b=some o)) E)
   F.called_set.init.plain F.entry_set_init (check_set_init_1 ty0 ?_)) fun r₂ s₂ hr₂=>?_
  .obtain⟨⟨oc,od,oda,osl⟩,g,kc,nl,kd⟩:=hl
   simp only at kc kd
   subst kc kd
   have g1:(s.heap.push (setObj led)).get? l=some { cls:=.type "list",dict:=od,data:=.seq items nl,slots:=osl }:=yYX _ g
   have n1:=F.sub_list_set
   have n2:=F.sub_list_frozenset
   have n3:(Value.type "list" == Value.type "dict")=false:=by decide
   have l1:(s.heap.push (setObj led)).IsList l items:=⟨_,g1,rfl,nl,rfl⟩
   unfold Builtin.«set.__init__» noKeywords Builtin.Frozenset.updateFrom
   generalize hPI:pyIter=PI
   wp_walk
   subst hPI
   refine wpAny_pyIter_list l1 (yYV (wpAny_runValue ?_))
   have lt:l<s.heap.objs.size:=yYY g
   have sz:(s.heap.push (setObj led)).objs.size=s.heap.objs.size+1:=yZA _ _
   have ne1:l≠(s.heap.push (setObj led)).objs.size:=by rw[sz];exact yZD (Nat.lt_succ_of_lt lt)
   have out:s.heap.objs.size∉[(s.heap.push (setObj led)).objs.size,l]:=by
    rw[sz]
    intro z
    simp only[yYK,Yq,or_false] at z
    rcases z with z | z
    .exact absurd z (yZD (Nat.lt_succ_self _))
    .exact absurd z (yZF lt)
   refine xQn ((Walks.list (by simp[hh]) _ l ne1 items).toS) s.heap.objs.size out key hkey hd hb (items.size - 0) 0 _ (by omega) (yZE _) ⟨⟨_,yYZ _ rfl,rfl,rfl⟩,(l1.push _)⟩ ?start ?done
   case start=>
    refine qHq ((PyProof.Rows.setObjOf_fresh (knd:=knd) led).setOf (yYX _ at0) (by unfold scanBound;omega)) (fun _=>rfl) rfl
   case done=>
    intro s' mv hS'
    obtain⟨h',g',d',tk',os'⟩:=s'
    obtain rfl:g'=s.gens:=mv.gens
    obtain rfl:d'=s.drawn:=mv.drawn
    obtain rfl:os'=s.os:=mv.os
    refine yYW ?_
    refine yYW ⟨rfl,h',tk',rfl,hS',fun b o e=>?_⟩
    have lb:=yYY e
    refine mv.heap b o (fun z=>?_) (yYX _ (yYX _ e))
    simp only[yYK,Yq,or_false] at z
    rcases z with z | z
    .exact absurd z (yZD lb)
    .exact absurd z (by rw[sz];exact yZD (Nat.lt_succ_of_lt lb))
  .cases r₂ with
   | error e=>exact hr₂
   | ok fl₂=>
   cases fl₂ with
   | ret r=>
    obtain⟨rfl,h',tk,rfl,hS',keep⟩:=hr₂
    repeat (any_goals (first | assumption | wp_step))
    exact fin _ _ hS' keep
   | _=>exact hr₂.elim
 | _=>exact hr.elim
end
end PySem
namespace L2
open PySem PySem.Spec PyProof.Rows
def rCatN (K:yZN):R2:=fun x y H Q=>∃a b xs ys,x=.ref a/\y=.ref b/\SqT K H a xs/\SqT K H b ys/\ys≠[]/\xs.length+ys.length<=Yc/\
 (xs=[]->Q (.ref b) H)/\(xs≠[]->∀p,H p=none->Q (.ref p) (upd H p (.tup (xs++ys))))
section
variable {X:Cx}{K:yZN}
theorem qAz (hK:X.K=K:=by rfl):OpR X (binaryOp .Add) (rCatN K):=by
 subst hK
 intro zy s σ H x y v u Q I rx ry h
 obtain⟨a,b,xs,ys,rfl,rfl,ha,hb,hy,hz,q0,q1⟩:=h
 by_cases hx:xs=[]
 .subst hx
  cases rx;cases ry
  obtain⟨i1,r1,⟨⟨c1,d1,t1,l1⟩,g1,k1,n1,e1⟩,_⟩:=I.tuple ha
  obtain⟨i2,r2,⟨⟨c2,d2,t2,l2⟩,g2,k2,n2,e2⟩,_⟩:=I.tuple hb
  cases r1
  simp only at k1 e1 k2 e2
  subst k1 e1 k2 e2
  exact concat_meets ⟨_,g1,rfl⟩ ⟨_,g2,rfl⟩ noFill_tuple_add seq_tuple_add PySem.F.slot_tuple_add PySem.F.entry_tuple_add (PySem.F.args_tuple_add_2 _ _) (tuple_addW0 a b _ _ n1 n2 d1 d2 l1 l2 (by simp)) ⟨g1,g2,⟨.ref b,H,I,rfl,q0 rfl⟩⟩
 .exact xVf zy s σ H _ _ v u Q I rx ry ⟨a,b,xs,ys,rfl,rfl,ha,hb,hx,hz,fun z=>absurd z hy,fun _=>q1 hx⟩
end
def SetN (P:Program)(w:World)(a:Addr)(n:Nat):HO:=.ext fun h=>∃S,h.SetOf (zO P w) a S n
def rSetOf (P:Program)(w:World)(K:yZN):List V->Hp->VK->Prop:=fun xs H Q=>∃(l:Addr) (ws:List Str),xs=[.ref l]/\SqL K H l (ws.map V.str)/\ws.Nodup/\ws.length<=1000/\∀p,H p=none->Q (.ref p) (upd H p (SetN P w p ws.length))
def rLenS (P:Program)(w:World):List V->Hp->VK->Prop:=fun xs H Q=>∃p n,xs=[.ref p]/\H p=some (SetN P w p n)/\n<=1000/\Q (.int n) H
theorem xDl:bootBuiltins "set" = some (.type "set"):=by wtm_at"d"
theorem qId:bootBuiltins "all" = some (.builtin "all"):=by wtm_at"d"
theorem qUc:bootBuiltins "sorted" = some (.builtin "sorted"):=by wtm_at"d"
section
variable {X:Cx}{P:Program}{w:World}{K:yZN}
theorem qUw (hc:X.calm=true)(hP:X.prog=P:=by rfl)(hw:X.w=w:=by rfl)(hK:X.K=K:=by rfl):CallR X (.type "set") (rSetOf P w K):=by
 subst hK hP hw
 intro zy s σ H xs us Q I r h
 obtain⟨l,ws,rfl,hl,nd,hz,q⟩:=h
 obtain⟨u,rfl,ru⟩:=vals1 r
 cases ru
 obtain⟨its,r1,p1,_⟩:=I.list hl
 have len:=r1.length
 rw[yYC] at len
 have l1:its.toArray.size=ws.length:=by simp[len]
 have sc:scanBound=4096:=rfl
 refine qAn (knd:=zO X.prog X.w) (key:=fun i=>Sum.inr (ws.getD i "")) (I.ok.hd hc) p1.isList (fun i v e=>?_) (fun a b ha hb e=>?_) (by omega) fun h' tk hS keep=>?_
 .have hi:i<ws.length:=by
   have:=(Array.getElem?_eq_some_iff.mp e).1
   omega
  have e0:(ws.map V.str)[i]? = some (.str ws[i]):=by rw[yYO,yYA hi];rfl
  obtain⟨u,e1,q1⟩:=r1.get e0
  have:its.toArray[i]? = some u:=by simpa using e1
  rw[this] at e
  cases e
  obtain⟨t,rfl⟩:=q1
  have d:ws.getD i "" = ws[i]:=by rw[Yi,yYA hi];rfl
  rw[d]
  exact⟨jW _ _ _ t,rfl⟩
 .have ha:a<ws.length:=by omega
  have hb:b<ws.length:=by omega
  have e':=Sum.inr.inj e
  rw[Yi,Yi,yYA ha,yYA hb] at e'
  exact(List.getElem_inj nd).mp e'
 .rw[l1] at hS
  refine⟨.ref s.heap.objs.size,_,I.laid (t':=tk) (o:=SetN X.prog X.w s.heap.objs.size ws.length) keep (yZB _) ⟨⟨_,hS⟩,?_,?_⟩,rfl,q _ (I.hok.fresh (yZB _))⟩
  .obtain⟨o,_,_,_,e,_⟩:=hS
   exact⟨o,e⟩
  .rintro h1 h2 ⟨S,o,es,ep,t,e,r⟩ k
   exact⟨S,o,es,ep,t,k o e,r⟩
theorem qUb (hP:X.prog=P:=by rfl)(hw:X.w=w:=by rfl):CallR X (.builtin "len") (rLenS P w):=by
 subst hP hw
 intro zy s σ H xs us Q I r h
 obtain⟨p,n,rfl,hp,hn,q⟩:=h
 obtain⟨u,rfl,ru⟩:=vals1 r
 cases ru
 obtain⟨⟨S,o,es,ep,t,e,ex,ed,_,_,_,ef,en⟩,_⟩:=I.hok p _ hp
 subst en
 exact call_len_set e ex ed ef (by omega) ⟨.int _,H,I.tok _,⟨_,rfl⟩,q⟩
end
structure Gi (mg:Str->Option Value)(x:Str)(i:Int):Prop where
 ex:∃t,mg x=some (.int i t)
structure Gs (K:yZN)(mg:Str->Option Value)(x:Str)(ws:List Str):Prop where
 ex:∃p,mg x=some (.ref p)/\∀H,SqT K H p (ws.map V.str)
section
variable {X:Cx}{mg:Str->Option Value}{K:yZN}{x:Str}{i:Int}{ws:List Str}{pos:Pos}
theorem qXn (g:Gi mg x i)(hg:Gl X x:=by rfl)(hm:X.mg=mg:=by rfl)(hd:(x == ("__debug__" : Str))=false:=by decide):PE X (.Name x pos) (tC (.int i)):=by
 subst hm
 obtain⟨t,e⟩:=g.ex
 exact vG hg e ⟨t,rfl⟩ hd
def tGs (K:yZN)(ws:List Str):TE:=fun _ H Q=>∀p,SqT K H p (ws.map V.str)->Q (.ref p) H
theorem qPf (g:Gs K mg x ws)(hg:Gl X x:=by rfl)(hm:X.mg=mg:=by rfl)(hd:(x == ("__debug__" : Str))=false:=by decide):PE X (.Name x pos) (tGs K ws):=by
 subst hm
 obtain⟨p,e,sq⟩:=g.ex
 intro zy s σ H Q I h
 exact vG (v:=.ref p) hg e rfl hd zy s σ H Q I (h p (sq H))
end
end L2
namespace L2
open PySem PySem.Spec PyProof.Rows
def rAll (K:yZN):List V->Hp->VK->Prop:=fun xs H Q=>∃(l:Addr) (bs:List Bool),xs=[.ref l]/\SqL K H l (bs.map V.bl)/\Q (.bl (bs.all id)) H
theorem qUh (bs:List Bool):(List.range bs.length).all (fun i=>bs.getD i true)=bs.all id:=by
 have e:bs=(List.range bs.length).map fun i=>bs.getD i true:=by
  refine List.ext_getElem (by simp) fun i h1 h2=>?_
  rw[List.getElem_map,List.getElem_range,Yi,yYA h1]
  rfl
 have:=congrArg (fun l:List Bool=>l.all id) e
 simp only[List.all_map] at this
 exact this.symm
section
variable {X:Cx}{K:yZN}
theorem qXa (hc:X.calm=true)(hK:X.K=K:=by rfl):CallR X (.builtin "all") (rAll K):=by
 subst hK
 intro zy s σ H xs us Q I r h
 obtain⟨l,bs,rfl,hl,q⟩:=h
 obtain⟨u,rfl,ru⟩:=vals1 r
 cases ru
 obtain⟨its,r1,p1,_⟩:=I.list hl
 have len:=r1.length
 rw[yYC] at len
 have sz:its.toArray.size=bs.length:=by simp[len]
 refine call_all_walk (wpAny_pyIter_list p1.isList ?_)
 have ol:l<s.heap.objs.size:=by
  obtain⟨o,n,e,_⟩:=p1
  exact yYY e
 refine⟨_,_,_,_,_,_,fun i=>bs.getD i true,rfl,Walks.list (by show X.A.handled=none;exact I.ok.hd hc) s.heap.objs.size l (yZD ol) its.toArray,⟨⟨_,yYZ _ rfl,rfl,rfl⟩,?_⟩,fun i v s' Q' E' hv hq=>?_,fun h' tk keep=>?_⟩
 .obtain⟨o,n,e,c,d,k⟩:=p1
  exact⟨o,yYX _ e,c,n,k⟩
 .have hv:its.toArray[i]? = some v:=hv
  have hi:i<bs.length:=by
   have:=(Array.getElem?_eq_some_iff.mp hv).1
   omega
  have e0:(bs.map V.bl)[i]? = some (.bl bs[i]):=by rw[yYO,yYA hi];rfl
  obtain⟨u,e1,q1⟩:=r1.get e0
  have:its.toArray[i]? = some u:=by simpa using e1
  rw[this] at hv
  cases hv
  cases q1
  have d:bs.getD i true=bs[i]:=by rw[Yi,yYA hi];rfl
  have hq':Q' bs[i] s':=by rw[<- d];exact hq
  exact wpAny_truthy_bool hq'
 .rw[sz,qUh]
  refine⟨.bl _,H,I.kept fun b o e=>?_,rfl,q⟩
  refine keep b o (fun z=>?_) (yYX _ e)
  have z:b=s.heap.objs.size:=by simpa using z
  exact absurd (yYY e) (by rw[z];exact Nat.lt_irrefl _)
end
section
variable {α:Type}
theorem qRm {x:Str}:∀{l:List (Str×α)},x∉l.map (·.1)->l.lookup x=none
 | [],_=>rfl
 | (n,v)::l,h=>by
  have h1:x≠n:=fun z=>h (z▸yYG)
  rw[vQ _ _ (by simpa using h1)]
  exact qRm fun z=>h (yYH _ z)
theorem qRn {x:Str}{v:α}:∀{l:List (Str×α)} {i:Nat},(l.map (·.1)).Nodup->l[i]? = some (x,v)->l.lookup x=some v
 | (n,u)::l,0,_,e=>by
  cases e
  exact wK _ _ _
 | (n,u)::l,i+1,nd,e=>by
  have e:l[i]? = some (x,v):=e
  have nd':=List.nodup_cons.mp nd
  have h1:x≠n:=fun z=>nd'.1 (z▸yYP.mpr ⟨_,yYE e,rfl⟩)
  rw[vQ _ _ (by simpa using h1)]
  exact qRn nd'.2 e
end
theorem qCe {x:Str}:∀(kvs:List (Str×V)) (acc:List (Key×V)),(kvs.map (·.1)).Nodup->valV (mergeK acc (pairK kvs)) (Sum.inr x)=(match kvs.lookup x with | some v=>some v | none=>valV acc (Sum.inr x))
 | [],acc,_=>rfl
 | (n,v)::kvs,acc,nd=>by
  have nd':=List.nodup_cons.mp nd
  show valV (mergeK (putK acc (Sum.inr n) v) (pairK kvs)) (Sum.inr x)=_
  rw[qCe kvs _ nd'.2]
  by_cases e:x=n
  .subst e
   rw[qRm nd'.1,wK]
   show valV (putK acc (Sum.inr x) v) (Sum.inr x)=some v
   rw[qJx,if_pos rfl]
  .rw[vQ v kvs (by simpa using e)]
   cases kvs.lookup x with
   | some u=>rfl
   | none=>
    show valV (putK acc (Sum.inr n) v) (Sum.inr x)=valV acc (Sum.inr x)
    rw[qJx,if_neg (fun z=>e (Sum.inr.inj z))]
end L2
namespace L2
open PySem PySem.Spec PyProof.Rows
theorem xDn:bootBuiltins "abs" = some (.builtin "abs"):=by wtm_at"d"
theorem Vals.pick {xs:List V}{us:List Value}(r:Vals xs us):∀idx:List Nat,Vals (idx.filterMap (xs[·]?)) (idx.filterMap (us[·]?))
 | []=>.nil
 | i::idx=>by
  have ih:=Vals.pick r idx
  rw[Yu,Yu]
  cases e:xs[i]? with
  | none=>
   have:us[i]? = none:=List.getElem?_eq_none (by rw[<- r.length];exact List.getElem?_eq_none_iff.mp e)
   rw[this];exact ih
  | some x=>
   obtain⟨u,eu,ru⟩:=r.get e
   rw[eu];exact .cons ru ih
open FP
end L2
namespace L2
open PySem PySem.Spec PyProof.Rows
section
variable {X:Cx}{pos:Pos}{e:Expr}{te:TE}
def tFmt (te:TE):TE:=fun σ H Q=>te σ H fun v H1=>∃y,v=.str y/\y.length<=Yc/\Q (.str y) H1
theorem qHc (he:PE X e te):PE X (.FormattedValue e (-1) none pos) (tFmt te):=by
 intro zy s σ H Q I h
 refine wpAny_FormattedValue_plain (thn (he zy s σ H _ I h) fun u s1 ⟨v,H1,I1,r,y,ev,hy,q⟩=>?_)
 subst ev
 obtain⟨t,rfl⟩:=r
 exact wpAny_formatField_str ⟨.str y,H1,I1,⟨t,rfl⟩,q⟩ ⟨.str y,H1,I1.tok _,⟨_,rfl⟩,q⟩ hy
def tJoin:List TE->Str->TE
 | [],acc=>fun _ H Q=>acc.length<=Yc/\Q (.str acc) H
 | t::ts,acc=>fun σ H Q=>t σ H fun v H1=>∃y,v=.str y/\(acc++y).length<=Yc/\tJoin ts (acc++y) σ H1 Q
theorem xZw {es:List Expr}{ts:List TE}(h:Paired (PE X) es ts):∀{acc:Str} {zy:List (Addr×Obj)} {s:Shared} {σ:St} {H:Hp} {Q:VK},Inv X zy σ H s->tJoin ts acc σ H Q->
  Joins (model X.prog X.w) X.A X.xe (evalEach es X.env) acc (fun out s1=>out.length<=Yc/\EP X zy σ Q (.str out s1.toks) { s1 with toks:=s1.toks+1 }) s:=by
 induction h with
 | nil=>exact fun{acc _ _ _ _ _} I q=>⟨q.1,.str acc,_,I.tok _,⟨_,rfl⟩,q.2⟩
 | cons h1 _ ih=>
  intro acc zy s σ H Q I q
  refine thn (h1 zy s σ H _ I q) fun u s1 ⟨v,H1,I1,r,y,ev,hy,q1⟩=>?_
  subst ev
  obtain⟨t,rfl⟩:=r
  exact⟨y,t,rfl,hy,ih I1 q1⟩
theorem qQg {v1 v2:Expr}{vs:List Expr}{ts:List TE}(h:Paired (PE X) (v1::v2::vs) ts):PE X (.JoinedStr (v1::v2::vs) pos) (tJoin ts Str.empty):=by
 intro zy s σ H Q I q
 exact wpAny_JoinedStr (xZw h I q)
end
end L2
namespace L2
open PySem PySem.Spec PySem.W PyProof.Rows
section
variable {X:Cx}{pos:Pos}{e:Expr}{te:TE}
def tFmtN (te:TE):TE:=fun σ H Q=>te σ H fun v H1=>∃n:Int,v=.int n/\n.natAbs.log2<1920/\Q (.str (Yb (toString n))) H1
end
end L2
namespace L2
open PySem PySem.Spec PyProof.Rows
theorem qOw (l:List (Str×Tok)):Vals ((l.map (·.1)).map V.str) (strValues l):=by
 induction l with
 | nil=>exact .nil
 | cons p r ih=>exact .cons ⟨p.2,rfl⟩ ih
theorem qNn {ws:List Str}:∀{its:List Value},Vals (ws.map V.str) its->∃l:List (Str×Tok),its=strValues l/\l.map (·.1)=ws:=by
 induction ws with
 | nil=>intro its h;cases h;exact⟨[],rfl,rfl⟩
 | cons x ws ih=>
  intro its h
  cases h with
  | cons r t=>
   obtain⟨tk,rfl⟩:=r
   obtain⟨l,rfl,e⟩:=ih t
   exact⟨(x,tk)::l,rfl,by rw[Ym,e]⟩
section
variable {X:Cx}
def rJoin:V->List V->Hp->VK->Prop:=fun x vs H Q=>∃(sep:Str) (l:Addr) (ws:List Str),x=.str sep/\vs=[.ref l]/\H l=some (.lst (ws.map V.str))/\(ws.map (·.length)).sum+ws.length * sep.length<=1000000/\Q (.str (Txt.join sep ws)) H
theorem qAv:MtM X "str.join" rJoin:=by
 intro zy s σ H x vs v us Q I rx rv h
 obtain⟨sep,l,ws,rfl,rfl,hl,hz,q⟩:=h
 obtain⟨t,rfl⟩:=rx
 obtain⟨u,rfl,ru⟩:=rv.one
 cases ru
 obtain⟨z,its,n,r,hlen,e⟩:=I.lstM hl
 obtain⟨ps,rfl,rfl⟩:=qNn r
 have sz:Yc=16777216:=sizeLine_eq
 have ok:Builtin.Str.tooLong ((ps.map (·.1)).toArray.foldl (fun a p=>a+p.length+sep.length) 0)=false:=by
  unfold Builtin.Str.tooLong
  rw[StrLaws.joinTotal]
  exact decide_eq_false (by omega)
 exact call_meets F.slot_str_join (typeIs_str _ _ _) F.entry_str_join (F.args_str_join_2 _ _) (meets_str_join_list sep t l ps ok) ⟨⟨_,e,rfl,_,rfl⟩,post_join ps ⟨joinFit_length ok,fun t' k=>⟨.str _,H,I.tok _,⟨_,rfl⟩,q⟩⟩⟩
def rSplit:V->List V->Hp->VK->Prop:=fun x vs H Q=>∃z y:Str,x=.str z/\vs=[.str y]/\1<=y.length/\z.length<=1000000/\∀l,H l=none->Q (.ref l) (upd H l (.lst ((Txt.split z y).map V.str)))
theorem yS:MtM X "str.split" rSplit:=by
 intro zy s σ H x vs v us Q I rx rv h
 obtain⟨z,y,rfl,rfl,hy,hz,q⟩:=h
 obtain⟨t,rfl⟩:=rx
 obtain⟨u,rfl,ru⟩:=rv.one
 obtain⟨u,rfl⟩:=ru
 have sz:Yc=16777216:=sizeLine_eq
 have hw:=split_weight z y hy
 have hy0:(y.length == 0)=false:=by rw[beq_eq_false_iff_ne];omega
 have fin:∀(ps:List (Str×Tok)) (tk:Nat),ps.map (·.1)=Txt.split z y->EP X zy σ Q (.ref s.heap.objs.size) { s with toks:=tk,heap:=s.heap.push { cls:=.type "list",data:=.seq (strValues ps).toArray } }:=fun ps tk e=>by
  refine⟨.ref s.heap.objs.size,_,I.lnew (t':=tk) (qOw ps) ?_,rfl,?_⟩
  .rw[yYC,e];omega
  .rw[e];exact q _ I.fresh
 cases h1:(decide (z.length<y.length) || decide (Builtin.Str.strKind z<Builtin.Str.strKind y))
 .cases hf:(Builtin.Str.occurrences z y 0 z.length (z.length+1)).isEmpty
  .have es:Txt.split z y=Builtin.Str.partsBetween z (Builtin.Str.occurrences z y 0 z.length (z.length+1)) y.length:=(if_neg (ne_true_of_eq_false h1)).trans (if_neg (ne_true_of_eq_false hf))
   refine call_meets F.slot_str_split (typeIs_str _ _ _) F.entry_str_split (F.args_str_split_2 _ _) (meets_str_split_sep z y t u h1 hy0 hf (by omega) (by rw[<- es];omega)) ?_
   rw[strsFrom_eq]
   exact fin (numbered s.toks _) _ ((numbered_texts _ _).trans es.symm)
  .exact call_meets F.slot_str_split (typeIs_str _ _ _) F.entry_str_split (F.args_str_split_2 _ _) (meets_str_split_not_found z y t u h1 hy0 hf) (fin [(z,t)] s.toks ((if_neg (ne_true_of_eq_false h1)).trans (if_pos hf)).symm)
 .exact call_meets F.slot_str_split (typeIs_str _ _ _) F.entry_str_split (F.args_str_split_2 _ _) (meets_str_split_cannot_occur z y t u h1) (fin [(z,t)] s.toks (if_pos h1).symm)
def qPw:V->List V->Hp->VK->Prop:=fun x vs H Q=>∃z y:Str,x=.str z/\vs=[.str y]/\Q (.bl (Txt.startswith z y)) H
theorem qAk:MtM X "str.startswith" qPw:=by
 intro zy s σ H x vs v us Q I rx rv h
 obtain⟨z,y,rfl,rfl,q⟩:=h
 obtain⟨t,rfl⟩:=rx
 obtain⟨u,rfl,ru⟩:=rv.one
 obtain⟨u,rfl⟩:=ru
 exact SC.startswith ⟨.bl _,H,I,rfl,q⟩
def rSlS:V->Option Int->Option Int->Hp->VK->Prop:=fun x lo hi H Q=>∃z:Str,x=.str z/\z.length<=1000000/\Q (.str (Txt.slice z lo hi)) H
theorem qHd {v:Value}{o:Option Int}(h:IsPart v o):∃p:Option (Int×Tok),v=partValue p/\p.map (·.1)=o:=by
 cases h with
 | none=>exact⟨none,rfl,rfl⟩
 | int i t=>exact⟨some (i,t),rfl,rfl⟩
theorem qPx:SlR X rSlS:=by
 intro zy s σ H x v vl vu lo hi sl Q I rx hs pl pu h
 obtain⟨z,rfl,hz,q⟩:=h
 obtain⟨t,rfl⟩:=rx
 obtain⟨l,rfl,rfl⟩:=qHd pl
 obtain⟨u,rfl,rfl⟩:=qHd pu
 have sz:Yc=16777216:=sizeLine_eq
 refine⟨"str",_,F.slot_str_getitem.lookup,typeIs_str _ _ _,wpAny_getItem_str_slice (l:=l) (u:=u) (st:=none) hs rfl ?_⟩
 exact post_val_or_str ⟨yZH (Txt.slice_le z _ _) (by omega),fun t' k=>⟨.str _,H,I.tok _,⟨_,rfl⟩,q⟩⟩
def rIntT:List V->Hp->VK->Prop:=fun xs H Q=>∃(z:Str) (n:Int),xs=[.str z]/\PySem.intText? z=some n/\z.length<=640/\Q (.int n) H
theorem qDf:CallR X (.type "int") rIntT:=by
 intro zy s σ H xs us Q I r h
 obtain⟨z,n,rfl,hn,hl,q⟩:=h
 obtain⟨u,rfl,t,rfl⟩:=vals1 r
 exact PySem.W.KIN.call_text hn hl ⟨.int n,H,I.tok _,⟨_,rfl⟩,q⟩
def txV:V->Str
 | .int i=>Yb (toString i)
 | .str z=>z
 | _=>Str.empty
def rStrA:List V->Hp->VK->Prop:=fun xs H Q=>∃x,xs=[x]/\((∃i,x=.int i/\i.natAbs.log2<1920)\/∃z,x=.str z)/\Q (.str (txV x)) H
theorem qUv:CallR X (.type "str") rStrA:=by
 intro zy s σ H xs us Q I r h
 obtain⟨x,rfl,(⟨i,rfl,hi⟩ | ⟨z,rfl⟩),q⟩:=h
 .exact qDd zy s σ H _ us Q I r ⟨i,rfl,hi,q⟩
 .obtain⟨u,rfl,t,rfl⟩:=vals1 r
  exact P.str_of_str ⟨.str z,H,I,⟨_,rfl⟩,q⟩
theorem xDi:bootBuiltins "str" = some (.type "str"):=by wtm_at"d"
end
structure Gt (mg:Str->Option Value)(x z:Str):Prop where
 ex:∃t,mg x=some (.str z t)
theorem xBm {X:Cx}{mg:Str->Option Value}{x z:Str}{pos:Pos}(g:Gt mg x z)(hg:Gl X x:=by rfl)(hm:X.mg=mg:=by rfl)(hd:(x == ("__debug__" : Str))=false:=by decide):PE X (.Name x pos) (tC (.str z)):=by
 subst hm
 obtain⟨t,e⟩:=g.ex
 exact vG hg e ⟨t,rfl⟩ hd
def rEqS (K:yZN):R2:=fun x y H Q=>∃(a b:Addr) (ws vs:List Str),x=.ref a/\y=.ref b/\SqL K H a (ws.map V.str)/\SqL K H b (vs.map V.str)/\Q (.bl (decide (ws=vs))) H
theorem qNk {ws vs:List Str}(h:ws.length=vs.length):eqAll (ws.map V.str) (vs.map V.str)=decide (ws=vs):=by
 unfold eqAll
 rw[yYC,yYC,h,beq_self_eq_true,Bool.true_and]
 rw[Zc,List.all_eq_true,decide_eq_true_eq]
 constructor
 .intro z
  refine List.ext_getElem h fun i h1 h2=>?_
  have:=z i (List.mem_range.mpr h2)
  rw[Yi,Yi,yYO,yYO,yYA h1,yYA h2] at this
  exact eq_of_beq this
 .rintro rfl i hi
  rw[Yi,yYO,yYA (List.mem_range.mp hi)]
  exact beq_self_eq_true _
theorem flat_strs (ws:List Str):(ws.map V.str).all flatV=true:=by
 rw[List.all_map]
 exact List.all_eq_true.mpr fun _ _=>rfl
theorem qFj {X:Cx}{K:yZN}(hu:X.A.units+64<cLine)(hK:X.K=K:=by rfl):OpR X (compareOp .Eq) (rEqS K):=by
 subst hK
 intro zy s σ H x y v u Q I rx ry h
 obtain⟨a,b,ws,vs,rfl,rfl,ha,hb,q⟩:=h
 by_cases hl:ws.length=vs.length
 .exact qPn hu rfl zy s σ H _ _ v u Q I rx ry ⟨a,b,_,_,rfl,rfl,ha,hb,flat_strs _,flat_strs _,by rw[yYC,yYC,hl],by rw[qNk hl];exact q⟩
 .cases rx;cases ry
  obtain⟨its,r1,p1,_⟩:=I.list ha
  obtain⟨its2,r2,p2,_⟩:=I.list hb
  have l1:=r1.length
  have l2:=r2.length
  rw[yYC] at l1 l2
  rw[decide_eq_false fun z=>hl (by rw[z])] at q
  refine SeqAt.RcAt.lists_lengths p1.isList p2.isList ?_ (by omega) _ _ _ _ ⟨.bl false,H,I,rfl,q⟩
  rw[bne_iff_ne,yYD,yYD]
  omega
end L2
namespace L2
open PySem PySem.Spec PyProof.Rows
def Its (z:Str):It:=⟨fun i _=>i<z.cps.size,fun i H x H'=>H'=H/\∃c,z.cps[i]? = some c/\x=.str ⟨#[c]⟩,fun i _=>z.cps.size<=i⟩
theorem xQv {P:Program}{w:World}{K:yZN}{tg:Expr}(it:Addr)(z:Str)(t:Tok)(T:String)(hT:T = "str_ascii_iterator" \/ T = "str_iterator"):Turn P w K tg (Its z) [it] it (fun i h=>h.IsStrIter it T z t i) where
 mem:=by simp
 obj:=fun i h st b hb=>by
  have e:b=it:=by simpa using hb
  subst e
  obtain⟨o,e,c,d⟩:=st
  exact⟨o,e,fun v z=>by rw[d] at z;cases z⟩
 keep:=fun i h h' st k=>let ⟨o,ho,r⟩:=st;⟨o,k it (by simp) o ho,r⟩
 item:=by
  intro X hP hw hK hc i zy s σ H E I hf st hg
  subst hP hw hK
  obtain⟨f0,f1,f2,f3,f4,f5⟩:=hf it (by simp)
  have ec:z.cps[i]? = some z.cps[i]:=Array.getElem?_eq_getElem hg
  have fin:∀h',h'.IsStrIter it T z t (i+1)->Heap.SameBut it s.heap h'->∃u,some (Value.str ⟨#[z.cps[i]]⟩ s.toks)=some u/\
    wpAny (model X.prog X.w) X.A (letOwnedTupleGo tg (.ref it) u) (fun _ s2=>∃x H',Inv X zy σ H' s2/\RelV x u/\(Its z).yld i H x H'/\s2.heap.IsStrIter it T z t (i+1)/\∀b∈[it],H' b=none) E { s with heap:=h',toks:=s.toks+1 }:=fun h' st' sb=>by
   have I1:Inv X zy σ H { s with heap:=h',toks:=s.toks+1 }:=I.turned (fun b o hb e=>(sb.2 b hb).trans e) f0 f1 f3 f4 f5
   obtain⟨o,e,c,d⟩:=id st'
   refine⟨_,rfl,qSn (s:={ s with heap:=h',toks:=s.toks+1 }) (n:=T) e c d ?_ ⟨.str ⟨#[z.cps[i]]⟩,H,I1,⟨_,rfl⟩,⟨rfl,_,ec,rfl⟩,st',fun b hb=>(hf b hb).1⟩⟩
   rcases hT with e | e <;> subst e <;> decide
  rcases hT with e | e
  .subst e
   exact wpAny_pyNext_ascii_item st ec fin
  .subst e
   exact wpAny_pyNext_wide_item st ec fin
 done:=by
  intro X hP hw hK hc i zy s σ H E I hf st hg
  subst hP hw hK
  obtain⟨f0,f1,f2,f3,f4,f5⟩:=hf it (by simp)
  have ec:z.cps[i]? = none:=Array.getElem?_eq_none hg
  have fin:∀h',Heap.ExtBut it s.heap h'->(none:Option Value)=none/\Inv X zy σ H { s with heap:=h' }:=fun h' eb=>⟨rfl,I.turned (t':=s.toks) (fun b o hb e=>eb b o hb e) f0 f1 f3 f4 f5⟩
  rcases hT with e | e
  .subst e
   exact wpAny_pyNext_ascii_end (I.ok.hd hc) st ec fin
  .subst e
   exact wpAny_pyNext_wide_end (I.ok.hd hc) st ec fin
 self:=fun _ _ _ _ _ st h=>by
  rcases hT with e | e
  .subst e;exact wpAny_pyIter_striter_ascii st h
  .subst e;exact wpAny_pyIter_striter_wide st h
def iStr (tl:TE):TI:=fun σ H R=>tl σ H fun x H1=>∃z,x=.str z/\R (Its z) H1
section
variable {X:Cx}{tg:Expr}
theorem xYq {l:Expr}{tl:TE}(hl:PE X l tl):PI X tg l (iStr tl):=by
 intro zy s σ H R I h
 refine thn (hl zy s σ H _ I h) fun v s1 ⟨x,H1,I1,r1,q1⟩=>?_
 obtain⟨z,e,q⟩:=q1
 subst e
 obtain⟨t,rfl⟩:=r1
 refine wpAny_pyIter_strU ?_
 refine⟨s1.heap.objs.size,[s1.heap.objs.size],_,_,H1,rfl,I1.kept (t':=s1.toks) fun b o e=>yYX _ e,xQv _ z t (strIterType z) ?_,⟨_,yYZ _ rfl,rfl,rfl⟩,fun b hb=>?_,q⟩
 .unfold strIterType
  split
  .exact .inl rfl
  .exact .inr rfl
 .have e:b=s1.heap.objs.size:=by simpa using hb
  subst e
  exact I1.fpOk (yZB _) (I1.hok.fresh (yZB _))
end
section
variable {k:Nat}{js:List Nat}{g:TG}{tt:TT}{te:TE}{σ:St}{H1:Hp}{Q:VK}
theorem qIa {z:Str}(Pv:Addr->Nat->List V->Hp->Prop)(h0:∀D,H1 D=none->Pv D 0 [] (upd H1 D (.lst [])))
  (hs:∀D i c ys H (N:List V->Hp->Prop),H1 D=none->H D=some (.lst ys)->z.cps[i]? = some c->Pv D i ys H->(∀zs H',H' D=some (.lst zs)->Pv D (i+1) zs H'->N zs H')->turnC k js g tt te σ D (.str ⟨#[c]⟩) ys H N)
  (hd:∀D ys H,H1 D=none->H D=some (.lst ys)->Pv D z.cps.size ys H->Q (.ref D) H):rdC k js g tt te (Its z) σ H1 Q:=by
 intro D hD
 refine⟨fun i m ys H=>m=z.cps.size - i/\i<=z.cps.size/\H D=some (.lst ys)/\Pv D i ys H,⟨z.cps.size,by simp,yZE _,qW,h0 D hD⟩,?_⟩
 rintro i m ys H ⟨rfl,hi,hDy,p⟩
 refine⟨hDy,?_⟩
 by_cases hlt:i<z.cps.size
 .refine .inr ⟨hlt,fun x H' y=>?_⟩
  obtain⟨e,c,ec,y⟩:=y
  subst e y
  exact hs D i c ys _ (fun zs H'=>∃m',m'<z.cps.size - i/\m'=z.cps.size - (i+1)/\i+1<=z.cps.size/\H' D=some (.lst zs)/\Pv D (i+1) zs H') hD hDy ec p fun zs H' e p'=>⟨z.cps.size - (i+1),by omega,rfl,hlt,e,p'⟩
 .have e:i=z.cps.size:=by omega
  subst e
  exact .inl ⟨yZB _,hd D ys H hD hDy p⟩
theorem xAo {W:It->Hp->Prop}{ta:TE}{σ:St}{H:Hp}(q:ta σ H fun x H1=>∃z,x=.str z/\W (Its z) H1):iStr ta σ H W:=q
end
end L2
namespace HT
open PySem PySem.Spec PyProof.Rows
section
variable {prog:Program}{w:World}{A:Around}{E:Value->Shared->Prop}{s:Shared}
theorem getItem_tuple_all {t sl:Addr}{items:Array Value}{vl vu:Value}{lo hi:Option Int}{Q:Value->Shared->Prop}(ht:IsTup s.heap t items)(hs:s.heap.IsSliceOf sl vl vu .none)(pl:IsPart vl lo)(pu:IsPart vu hi)
  (hw:sIx items.size 0 lo=0/\sIx items.size items.size hi=items.size) (h:Q (.ref t) s):wpAny (model prog w) A (getItem (.ref t) (.ref sl)) Q E s:=by
 obtain⟨os,hos,hcs,hds⟩:=id hs
 have hTs:s.TypeIs (.ref sl) "slice" := ⟨os,hos,hcs⟩
 unfold getItem
 try with_reducible refine wpAny_holding ?_
 first | refine yYV (yYW ?_) | skip
 refine yYV (wpAny_sequenceKey ht.typeIs (by decide) ?_)
 refine yYV (wpAny_callSpecial?_slot (name:=Yb "__getitem__") ht.typeIs PyProof.Rows.slot_tuple_getitem
  (wpAny_call_entry PyProof.Rows.slot_tuple_getitem ht.typeIs entry_tuple_getitem ?_ (args_tuple_getitem _ _)))
 show wpAny _ _ (Builtin.Tuple.tupleItemsOf (.ref t) >>= _) _ _ s
 refine yYV (tupleItemsOf_ ht ?_)
 refine yYV (wpAny_typeOf hTs ?_)
 rw[if_pos (by decide)]
 refine yYV (vN hs pl pu ?_)
 have hyes:(((sIx items.size 0 lo:Nat):Int) == 0 && (1:Int) == 1 && (sIx items.size items.size hi - sIx items.size 0 lo) == items.size)=true:=by
  rw[hw.1,hw.2]
  simp
 show wpAny _ _ (if (((sIx items.size 0 lo:Nat):Int) == 0 && (1:Int) == 1 && (sIx items.size items.size hi - sIx items.size 0 lo) == items.size)=true then _ else _) _ _ s
 rw[if_pos hyes]
 unfold Builtin.Tuple.tupleIsExact
 refine yYV (yYV (wpAny_typeOf ht.typeIs (yYW ?_)))
 rw[if_pos (by decide)]
 first
  | exact yYV (wpAny_rule (yYW ⟨_,rfl,yYW h⟩))
  | exact yYV (wpAny_rule (yYW ⟨_,rfl,h⟩))
end
end HT
namespace L2
open PySem PySem.Spec PyProof.Rows
def rSlTA (K:yZN):V->Option Int->Option Int->Hp->VK->Prop:=fun x lo hi H Q=>∃a xs,x=.ref a/\SqT K H a xs/\
 ((HT.sIx xs.length 0 lo=0/\HT.sIx xs.length xs.length hi=xs.length/\Q (.ref a) H)\/(¬(HT.sIx xs.length 0 lo=0/\HT.sIx xs.length xs.length hi=xs.length)/\∀p,H p=none->Q (.ref p) (upd H p (.tup (cutV xs lo hi)))))
theorem xQg {X:Cx}{K:yZN}(hK:X.K=K:=by rfl):SlR X (rSlTA K):=by
 subst hK
 intro zy s σ H x v vl vu lo hi sl Q I rx hs pl pu h
 obtain⟨a,xs,rfl,hx,(⟨h1,h2,q⟩ | ⟨hw,q⟩)⟩:=h
 .cases rx
  obtain⟨its,r,ht,hz⟩:=I.tuple hx
  have hlen:its.toArray.size=xs.length:=by rw[yYD];exact r.length.symm
  exact⟨"tuple",_,PyProof.Rows.slot_tuple_getitem.lookup,ht.typeIs,HT.getItem_tuple_all ht hs pl pu (by rw[hlen];exact⟨h1,h2⟩) ⟨.ref a,H,I,rfl,q⟩⟩
 .exact xJo zy s σ H _ v vl vu lo hi sl Q I rx hs pl pu ⟨a,xs,rfl,hx,hw,q⟩
end L2
namespace L2
open PySem PySem.Spec PyProof.Rows
theorem yP {a b:Str}(h:a.cps.toList=b.cps.toList):a=b:=by
 cases a;cases b
 exact congrArg Str.mk (Array.toList_inj.mp h)
theorem zY (a b:Str):(a++b).cps.toList=a.cps.toList++b.cps.toList:=by
 show(a.cps++b.cps).toList=_
 rw[Array.toList_append]
theorem zR (a:Str):a.length=a.cps.toList.length:=by show a.cps.size=_;rw[yZK]
theorem xAb {c:Nat}{p w x y:List Nat}(hp:c∉p)(hw:c∉w)(h:p++c::x=w++c::y):p=w/\x=y:=by
 induction p generalizing w with
 | nil=>
  cases w with
  | nil=>exact⟨rfl,by injection h⟩
  | cons b w=>injection h with h1 _;exact absurd (h1▸yYG) hw
 | cons a p ih=>
  cases w with
  | nil=>injection h with h1 _;exact absurd (h1▸yYG) hp
  | cons b w=>
   injection h with h1 h2
   obtain⟨e1,e2⟩:=ih (fun z=>hp (yYH _ z)) (fun z=>hw (yYH _ z)) h2
   exact⟨by rw[h1,e1],e2⟩
theorem jC (c:Nat)(a b:Str)(l:List Str):(Str.join ⟨#[c]⟩ (a::b::l)).cps.toList=a.cps.toList++c::(Str.join ⟨#[c]⟩ (b::l)).cps.toList:=by
 show(a++⟨#[c]⟩++Str.join ⟨#[c]⟩ (b::l)).cps.toList=_
 rw[zY,zY,yYQ]
 rfl
theorem qIx (c:Nat):∀{ps ws:List Str},ps≠[]->ws≠[]->(∀p∈ps,c∉p.cps.toList)->(∀p∈ws,c∉p.cps.toList)->Str.join ⟨#[c]⟩ ps=Str.join ⟨#[c]⟩ ws->ps=ws:=by
 intro ps
 induction ps with
 | nil=>intro ws h;exact absurd rfl h
 | cons p ps ih=>
  intro ws _ hws fp fw e
  cases ws with
  | nil=>exact absurd rfl hws
  | cons w ws=>
   have f1:=fp p yYG
   have f2:=fw w yYG
   cases ps with
   | nil=>
    cases ws with
    | nil=>exact congrArg (fun x=>[x]) (show p=w from e)
    | cons w2 ws=>
     have e':=congrArg (fun x:Str=>x.cps.toList) e
     simp only[jC] at e'
     exact absurd ((show p.cps.toList=_ from e')▸yYN _ yYG) f1
   | cons p2 ps=>
    cases ws with
    | nil=>
     have e':=congrArg (fun x:Str=>x.cps.toList) e
     simp only[jC] at e'
     exact absurd ((show w.cps.toList=_ from e'.symm)▸yYN _ yYG) f2
    | cons w2 ws=>
     have e':=congrArg (fun x:Str=>x.cps.toList) e
     simp only[jC] at e'
     obtain⟨a1,a2⟩:=xAb f1 f2 e'
     rw[yP a1,ih (Ye _ _) (Ye _ _) (fun q hq=>fp q (yYH _ hq)) (fun q hq=>fw q (yYH _ hq)) (yP a2)]
theorem qGd (x y:Str):Txt.split x y≠[]:=by
 unfold Txt.split
 split
 .exact Ye _ _
 .split
  .exact Ye _ _
  .rw[StrLaws.partsBetween_eq]
   obtain⟨p,r,e⟩:=StrLaws.partsFrom_ne x y.length 0 (Builtin.Str.occurrences x y 0 x.length (x.length+1))
   rw[e]
   exact Ye _ _
theorem tjoin (sep:Str)(ws:List Str):Txt.join sep ws=Str.join sep ws:=StrLaws.glued_eq_join sep ws
theorem qXe {c:Nat}{ws:List Str}(h:ws≠[])(f:∀w∈ws,c∉w.cps.toList):Txt.split (Txt.join ⟨#[c]⟩ ws) ⟨#[c]⟩=ws:=
 qIx c (qGd _ _) h (StrLaws.split_free _ c) f (by rw[StrLaws.join_split,tjoin])
theorem qJc {c d:Nat}:∀{ws:List Str},d∈(Txt.join ⟨#[c]⟩ ws).cps.toList->d=c\/∃w∈ws,d∈w.cps.toList:=by
 intro ws
 rw[tjoin]
 induction ws with
 | nil=>intro h;exact absurd (show d∈([]:List Nat) from h) Yq
 | cons a l ih=>
  intro h
  cases l with
  | nil=>exact .inr ⟨a,yYG,h⟩
  | cons b l=>
   rw[jC] at h
   rcases yYR.mp h with h | h
   .exact .inr ⟨a,yYG,h⟩
   .rcases yYK.mp h with h | h
    .exact .inl h
    .rcases ih h with h | ⟨w,hw,h⟩
     .exact .inl h
     .exact .inr ⟨w,yYH _ hw,h⟩
theorem qJd (sep:Str)(ws:List Str):(Txt.join sep ws).length<=(ws.map (·.length)).sum+ws.length * sep.length:=by rw[tjoin];exact StrLaws.join_length_le sep ws
theorem xJn {ws:List Str}{m:Nat}(h:∀w∈ws,w.length<=m):(ws.map (·.length)).sum<=ws.length * m:=by
 induction ws with
 | nil=>exact yZE _
 | cons a l ih=>
  have h1:=h a yYG
  have h2:=ih fun w hw=>h w (yYH _ hw)
  rw[Ym,List.sum_cons,yYS,Nat.succ_mul]
  omega
def dec (n:Nat):Str:=⟨((Nat.toDigits 10 n).map Char.toNat).toArray⟩
theorem qJe (n:Nat):Yb (toString (n:Int))=dec n:=text_ofNat n
def numS (i:Int):Str:=if i<0 then ⟨#[45]⟩++dec i.natAbs else dec i.natAbs
theorem qCb (a b:String):Yb (a++b)=Yb a++Yb b:=by
 apply yP
 rw[zY,Str.ofString_eq_toList,Str.ofString_eq_toList,Str.ofString_eq_toList]
 simp
theorem xXm (i:Int):Yb (toString i)=numS i:=by
 unfold numS
 split
 .rename_i h
  rw[toString_neg h,qCb]
  have e:(0 - i)=((i.natAbs:Nat):Int):=by omega
  rw[e,qJe]
  rfl
 .have e:i=((i.natAbs:Nat):Int):=by omega
  conv=>lhs;rw[e]
  rw[qJe]
def decOk (n:Nat):Bool:=let d:=dec n
 d.cps.toList.all (fun c=>48<=c && c<=57) && (1<=d.length && d.length<=3) && (d.cps.toList == [48] || d.cps.toList.head? != some 48) && decide (PySem.intText? (⟨#[48]⟩++d)=some (n:Int))
theorem xDd:∀n:Fin 200,decOk n.val=true:=by wtm_at"d"
structure Figs (n:Nat):Prop where
 fig:∀c∈(dec n).cps.toList,48<=c/\c<=57
 lo:1<=(dec n).length
 hi:(dec n).length<=3
 zero:(dec n).cps.toList=[48]\/(dec n).cps.toList.head? ≠ some 48
 reads:PySem.intText? (⟨#[48]⟩++dec n)=some (n:Int)
theorem figs {n:Nat}(h:n<200):Figs n:=by
 have z:=xDd ⟨n,h⟩
 unfold decOk at z
 simp only[Bool.and_eq_true,Bool.or_eq_true,List.all_eq_true,decide_eq_true_eq,beq_iff_eq,bne_iff_ne] at z
 obtain⟨⟨⟨a,b,c⟩,d⟩,e⟩:=z
 exact⟨fun x hx=>a x hx,b,c,d,e⟩
theorem qWc {x:Str}{c i:Nat}:Builtin.Str.subAt x ⟨#[c]⟩ i=decide (x.cps.toList[i]? = some c):=by
 rw[StrLaws.subAt_eq]
 show((x.cps.toList.drop i).take 1 == [c])=_
 rw[Zc,beq_iff_eq,decide_eq_true_eq,<- List.head?_drop]
 cases x.cps.toList.drop i with
 | nil=>simp
 | cons a r=>simp
theorem qHh {x:Str}{c:Nat}(h:c∈x.cps.toList):(Builtin.Str.occurrences x ⟨#[c]⟩ 0 x.length 1).isEmpty=false:=by
 obtain⟨i,e⟩:=List.mem_iff_getElem?.mp h
 have hi:=(yYB.mp e).1
 rcases StrLaws.occ_head x ⟨#[c]⟩ 1 (yZB _) with⟨_,no⟩ | ⟨j,r,e2,_⟩
 .refine absurd ⟨?_,?_⟩ (no i)
  .rw[zR x];exact hi
  .rw[qWc];exact decide_eq_true e
 .rw[e2];rfl
theorem xCd {x:Str}{c:Nat}(h:c∉x.cps.toList):(Builtin.Str.occurrences x ⟨#[c]⟩ 0 x.length 1).isEmpty=true:=by
 rcases StrLaws.occ_head x ⟨#[c]⟩ 1 (yZB _) with⟨e,_⟩ | ⟨j,r,_,a,_⟩
 .rw[e];rfl
 .have:=a.2
  rw[qWc] at this
  exact absurd (yYE (of_decide_eq_true this)) h
theorem qEc {z:Str}{c:Nat}:Txt.startswith z ⟨#[c]⟩=decide (z.cps.toList.head? = some c):=by
 unfold Txt.startswith
 rw[qWc,Zc,Bool.and_eq_true,decide_eq_true_eq,decide_eq_true_eq,decide_eq_true_eq,<- List.head?_eq_getElem?]
 constructor
 .exact fun h=>h.2
 .intro h
  refine⟨?_,h⟩
  show 0+1<=z.length
  rw[zR]
  cases e:z.cps.toList with
  | nil=>rw[e] at h;cases h
  | cons a r=>simp
theorem qMe (x:Array Nat)(a:Nat):∀m,a+m<=x.size->((List.range m).map (a+·)).filterMap (x[·]?)=(x.toList.drop a).take m:=by
 intro m
 induction m with
 | zero=>intro _;simp
 | succ m ih=>
  intro h
  rw[Yx,yYU,List.filterMap_append,ih (by omega),yYM]
  congr 1
  have hl:a+m<x.size:=by omega
  simp[hl]
theorem qXi {z:Str}{l u:Option Int}{a b:Nat}(h:Builtin.Str.strSliceIndices l u 1 z.length=(List.range (b - a)).map (a+·))(hab:a<=b)(hb:b<=z.length):(Txt.slice z l u).cps.toList=(z.cps.toList.drop a).take (b - a):=by
 have lz:=zR z
 unfold Txt.slice
 split
 .rename_i c
  rw[h,yYC,List.length_range] at c
  have c:b - a=z.length:=by simpa using c
  have:a=0:=by omega
  subst this
  rw[List.drop_zero,c,lz,yYJ]
 .rw[h]
  show(List.filterMap _ _).toArray.toList=_
  rw[List.toList_toArray]
  exact qMe z.cps a (b - a) (by have:z.cps.size=z.length:=rfl;omega)
theorem qMq {z:Str}{i:Nat}(h:i<=z.length):(Txt.slice z (some (i:Int)) none).cps.toList=z.cps.toList.drop i:=by
 have lz:=zR z
 rw[qXi (a:=i) (b:=z.length) ?_ h (yZB _),lz,<- Yp,yYJ]
 unfold Builtin.Str.strSliceIndices sliceRange
 have e1:¬((i:Int)<0):=by omega
 simp only[show(1:Int)>0 by decide,if_true,if_neg e1,Int.one_mul]
 have e2:max 0 (min (i:Int) (z.length:Int))=(i:Int):=by omega
 rw[e2]
 have e3:(if (i:Int)<(z.length:Int) then ((z.length:Int) - i+1 - 1) / 1 else 0).toNat=z.length - i:=by split <;> omega
 rw[e3]
 exact List.map_congr_left fun k _=>by omega
theorem qGo {z:Str}{i:Nat}(h:i<=z.length):(Txt.slice z none (some (i:Int))).cps.toList=z.cps.toList.take i:=by
 have lz:=zR z
 rw[qXi (a:=0) (b:=i) ?_ (yZE _) h,List.drop_zero,Nat.sub_zero]
 unfold Builtin.Str.strSliceIndices sliceRange
 have e1:¬((i:Int)<0):=by omega
 simp only[show(1:Int)>0 by decide,if_true,if_neg e1,Int.one_mul]
 have e2:max 0 (min (i:Int) (z.length:Int))=(i:Int):=by omega
 rw[e2]
 have e3:(if (0:Int)<(i:Int) then ((i:Int) - 0+1 - 1) / 1 else 0).toNat=i - 0:=by split <;> omega
 rw[e3]
 exact List.map_congr_left fun k _=>by omega
theorem qGk {c:TT}{tb:TS}{D:Ends}{σ:St}{H:Hp}(h:∀R:Bool->Hp->Prop,R false H->c σ H R)(q:D.nx σ H):tWhile c tb D σ H:=
 ⟨fun _ σ' H'=>σ'=σ/\H'=H,⟨0,rfl,rfl⟩,fun m σ' H' e=>by
  obtain⟨rfl,rfl⟩:=e
  exact h _ (iteF q)⟩
theorem Same.set {H H1:Hp}{r:Addr}{o:HO}(S:Same H H1)(n:H r=none):Same H (upd H1 r o):=fun b u e=>by rw[qA (qB e n)];exact S _ _ e
theorem xEj {K:yZN}{H:Hp}{x:Str}{A:Prop}(q:A):tyV K "str" (.str x) H/\A:=⟨rfl,q⟩
theorem xKw {σ:St}{H:Hp}{R:Bool->Hp->Prop}(q:R true H):tYes σ H R:=q
theorem xQj {z y:Str}{H:Hp}{Q:VK}(q:Q (.bl (Txt.startswith z y)) H):qPw (.str z) [.str y] H Q:=⟨z,y,rfl,rfl,q⟩
theorem xYm:Yb "-" = ⟨#[45]⟩:=by wtm_at"d"
theorem qDi:Yb "0" = ⟨#[48]⟩:=by wtm_at"d"
theorem yG:Yb " " = ⟨#[32]⟩:=by wtm_at"d"
theorem xDg:Yb "\n" = ⟨#[10]⟩:=by wtm_at"d"
theorem qDl:Yb "" = ⟨#[]⟩:=by wtm_at"d"
theorem xDf:(Yb "0123456789").cps.toList=[48,49,50,51,52,53,54,55,56,57]:=by wtm_at"d"
theorem qRf {x:Str}(h:1<=x.length):¬(V.str x=V.str (Yb "")):=fun z=>by
 injection z with z
 rw[z] at h
 exact absurd h (by wtm_at"d")
theorem qHl (x:Str):Yb "" ++ x=x:=by
 apply yP
 rw[zY,qDl]
 rfl
theorem all_rep (n:Nat):(Yg n true).all id=true:=List.all_eq_true.mpr fun b hb=>(List.mem_replicate.mp hb).2
theorem xBe (n:Nat):Yg n (V.bl true)=(Yg n true).map V.bl:=by rw[List.map_replicate]
theorem xXk {α:Type}(n:Nat)(a:α):Yg n a++[a]=Yg (n+1) a:=by rw[List.replicate_succ']
theorem xAj {K:yZN}{σ:St}{H:Hp}{Q:VK}{z L:Str}(hz:∀c∈z.cps.toList,c∈L.cps.toList)(len:z.length<=10000)(q:∀(D:Addr) (H2:Hp),Same H H2->H2 D=some (.lst ((Yg z.length true).map V.bl))->Q (.ref D) H2):
  rdC 1 [] (gName 0) tYes (tOp (fun x y H Q=>∃i j,x=.str i/\y=.str j/\Q (.bl (!(Builtin.Str.occurrences j i 0 j.length 1).isEmpty)) H) (tVar 0) (tC (.str L))) (Its z) σ H Q:=by
 refine qIa (fun D i ys H'=>ys=Yg i (V.bl true)/\i<=z.length/\Same H H') (fun D hD=>⟨rfl,yZE _,qV hD _⟩) (fun D i c ys H' N hD hDy ec hP hN=>?_) (fun D ys H2 hD hDy hP=>?_)
 .obtain⟨rfl,hi,hk⟩:=hP
  have hm:c∈z.cps.toList:=by
   have:z.cps.toList[i]? = some c:=by rw[yZL];exact ec
   exact yYE this
  have hi2:i<z.length:=by
   obtain⟨h,_⟩:=Array.getElem?_eq_some_iff.mp ec
   exact h
  refine⟨⟨[some (.str ⟨#[c]⟩)],rfl,rfl⟩,xKw (iteT ⟨_,rfl,⟨#[c]⟩,L,rfl,rfl,?_⟩)⟩
  rw[qHh (hz c hm)]
  refine⟨hDy,?_,?_⟩
  .rw[Yk,show Yc=16777216 from sizeLine_eq];omega
  .show N (Yg i (V.bl true)++[V.bl true]) (upd H' D (.lst (Yg i (V.bl true)++[V.bl true])))
   rw[xXk]
   exact hN _ _ qW ⟨rfl,hi2,Same.set hk hD⟩
 .obtain⟨rfl,hi,hk⟩:=hP
  rw[xBe] at hDy
  exact q D H2 hk hDy
end L2
namespace L2
open PySem PySem.Spec PyProof.Rows
theorem xWv (L:Str)(c:Nat):(!(Builtin.Str.occurrences L ⟨#[c]⟩ 0 L.length 1).isEmpty)=decide (c∈L.cps.toList):=by
 by_cases h:c∈L.cps.toList
 .rw[qHh h,decide_eq_true h];rfl
 .rw[xCd h,decide_eq_false h];rfl
theorem xKq {xs L:List Nat}:(xs.map fun c=>decide (c∈L)).all id=true↔∀c∈xs,c∈L:=by
 rw[List.all_map,List.all_eq_true]
 exact⟨fun h c hc=>of_decide_eq_true (h c hc),fun h c hc=>decide_eq_true (h c hc)⟩
theorem xJd {K:yZN}{σ:St}{H:Hp}{Q:VK}{z L:Str}(len:z.length<=10000)(q:∀(D:Addr) (H2:Hp),Same H H2->H2 D=some (.lst ((z.cps.toList.map fun c=>decide (c∈L.cps.toList)).map V.bl))->Q (.ref D) H2):
  rdC 1 [] (gName 0) tYes (tOp (fun x y H Q=>∃i j,x=.str i/\y=.str j/\Q (.bl (!(Builtin.Str.occurrences j i 0 j.length 1).isEmpty)) H) (tVar 0) (tC (.str L))) (Its z) σ H Q:=by
 have lz:=zR z
 refine qIa (fun D i ys H'=>ys=((z.cps.toList.take i).map fun c=>decide (c∈L.cps.toList)).map V.bl/\i<=z.length/\Same H H') (fun D hD=>⟨rfl,yZE _,qV hD _⟩) (fun D i c ys H' N hD hDy ec hP hN=>?_) (fun D ys H2 hD hDy hP=>?_)
 .obtain⟨rfl,hi,hk⟩:=hP
  have ec':z.cps.toList[i]? = some c:=by rw[yZL];exact ec
  have hi2:i<z.length:=by rw[lz];exact(yYB.mp ec').1
  refine⟨⟨[some (.str ⟨#[c]⟩)],rfl,rfl⟩,xKw (iteT ⟨_,rfl,⟨#[c]⟩,L,rfl,rfl,?_⟩)⟩
  rw[xWv]
  refine⟨hDy,?_,hN _ _ qW ⟨?_,hi2,Same.set hk hD⟩⟩
  .rw[yYC,yYC,yYF,show Yc=16777216 from sizeLine_eq];omega
  .rw[yYM,ec',yYU,yYU];rfl
 .obtain⟨rfl,hi,hk⟩:=hP
  have:z.cps.size=z.cps.toList.length:=(yZK).symm
  rw[this,yYJ] at hDy
  exact q D H2 hk hDy
def spl (c:Nat):List Nat->List (List Nat)
 | []=>[[]]
 | a::r=>if a=c then []::spl c r else match spl c r with
  | []=>[[a]]
  | p::q=>(a::p)::q
def mkS (l:List Nat):Str:=⟨l.toArray⟩
theorem wY (l:List Nat):(mkS l).cps.toList=l:=by unfold mkS;rw[List.toList_toArray]
theorem qGe (c:Nat)(l:List Nat):spl c l≠[]:=by
 cases l with
 | nil=>exact Ye _ _
 | cons a r=>
  unfold spl
  split
  .exact Ye _ _
  .split <;> exact Ye _ _
theorem xQf (c:Nat):∀(l:List Nat),∀p∈spl c l,c∉p:=by
 intro l
 induction l with
 | nil=>intro p hp;rw[yYL.mp hp];exact Yq
 | cons a r ih=>
  intro p hp
  unfold spl at hp
  split at hp
  .rcases yYK.mp hp with e | h
   .rw[e];exact Yq
   .exact ih p h
  .rename_i hne
   split at hp
   .rename_i e;exact absurd e (qGe _ _)
   .rename_i q qs e
    rcases yYK.mp hp with e2 | h
    .rw[e2]
     intro z
     rcases yYK.mp z with z | z
     .exact hne z.symm
     .exact ih q (by rw[e];exact yYG) z
    .exact ih p (by rw[e];exact yYH _ h)
theorem xQe (c:Nat):∀(l:List Nat),(Str.join ⟨#[c]⟩ ((spl c l).map mkS)).cps.toList=l:=by
 intro l
 induction l with
 | nil=>exact wY []
 | cons a r ih=>
  unfold spl
  split
  .rename_i e
   cases h:spl c r with
   | nil=>exact absurd h (qGe _ _)
   | cons p q=>
    rw[h] at ih
    rw[Ym,Ym,jC,<- Ym,ih,wY,e]
    rfl
  .cases h:spl c r with
   | nil=>exact absurd h (qGe _ _)
   | cons p q=>
    rw[h] at ih
    show(Str.join ⟨#[c]⟩ (mkS (a::p)::q.map mkS)).cps.toList=_
    cases q with
    | nil=>
     have ih:(mkS p).cps.toList=r:=ih
     show(mkS (a::p)).cps.toList=_
     rw[wY] at ih ⊢
     rw[ih]
    | cons p2 q=>
     have ih:(Str.join ⟨#[c]⟩ (mkS p::mkS p2::q.map mkS)).cps.toList=r:=ih
     show(Str.join ⟨#[c]⟩ (mkS (a::p)::mkS p2::q.map mkS)).cps.toList=_
     rw[jC,wY] at ih ⊢
     rw[<- ih]
     rfl
theorem qOa (x:Str)(c:Nat):Txt.split x ⟨#[c]⟩=(spl c x.cps.toList).map mkS:=by
 refine qIx c (qGd _ _) (fun z=>qGe c _ (List.map_eq_nil_iff.mp z)) (StrLaws.split_free x c) (fun p hp=>?_) ?_
 .obtain⟨l,hl,e⟩:=yYP.mp hp
  rw[<- e,wY]
  exact xQf c _ l hl
 .rw[StrLaws.join_split]
  exact(yP (xQe c _)).symm
end L2
namespace L2
open PySem PySem.Spec PyProof.Rows
section
variable {X:Cx}{K:yZN}
theorem qVv {zy:List (Addr×Obj)}{σ:St}{H:Hp}{s:Shared}{k z:Str}{us:List V}{its its2:List Value}(r1:Vals (.str k::us) its)(r2:Vals [.str z] its2)(A:Around):
  ∀j (h1:j<its.toArray.size) (h2:j<its2.toArray.size),SeqAt.EqAt A s its.toArray[j] its2.toArray[j] (k == z):=by
 intro j h1 h2
 cases r1 with
 | cons a t=>
  cases r2 with
  | cons b t2=>
   cases t2
   obtain⟨ta,rfl⟩:=a
   obtain⟨tb,rfl⟩:=b
   have j0:j=0:=by simpa using h2
   subst j0
   exact SeqAt.EqAt.str_str k ta z tb
theorem qGx {k z:Str}{us:List V}{its its2:List Value}(r1:Vals (.str k::us) its)(r2:Vals [.str z] its2):
  ((List.range (min its.toArray.size its2.toArray.size)).all (fun _=>k == z) && its.toArray.size == its2.toArray.size)=(decide (k=z) && us.isEmpty):=by
 have l1:=r1.length
 have l2:=r2.length
 rw[yYD,yYD,<- l1,<- l2]
 have e:min (V.str k::us).length [V.str z].length=1:=by rw[yYS,List.length_singleton];omega
 rw[e]
 have e2:((List.range 1).all fun _=>k == z)=decide (k=z):=by
  show((k == z) && true)=_
  rw[Bool.and_true]
  by_cases h:k=z
  .rw[decide_eq_true h,h];exact beq_self_eq_true z
  .rw[decide_eq_false h];exact beq_false_of_ne h
 rw[e2]
 congr 1
 cases us with
 | nil=>rfl
 | cons a b=>rfl
def rEqW (K:yZN):R2:=fun x y H Q=>∃a b k us z,x=.ref a/\y=.ref b/\SqT K H a (.str k::us)/\SqT K H b [.str z]/\Q (.bl (decide (k=z) && us.isEmpty)) H
theorem qPm (hu:X.A.units+64<cLine)(hK:X.K=K:=by rfl):OpR X (compareOp .Eq) (rEqW K):=by
 subst hK
 intro zy s σ H x y v u Q I rx ry h
 obtain⟨a,b,k,us,z,rfl,rfl,ha,hb,q⟩:=h
 cases rx;cases ry
 obtain⟨its,r1,p1,_⟩:=I.tuple ha
 obtain⟨its2,r2,p2,_⟩:=I.tuple hb
 refine SeqAt.RcAt.tuples (e:=fun _=>k == z) (show s.heap.IsTuple a its.toArray from p1) (show s.heap.IsTuple b its2.toArray from p2) (by omega) (qVv (zy:=zy) (σ:=σ) (H:=H) r1 r2 _) _ _ _ _ ?_
 rw[qGx r1 r2]
 exact⟨.bl _,H,I,rfl,q⟩
def rNeW (K:yZN):R2:=fun x y H Q=>∃a b k us z,x=.ref a/\y=.ref b/\SqT K H a (.str k::us)/\SqT K H b [.str z]/\Q (.bl (!(decide (k=z) && us.isEmpty))) H
theorem xVa (hu:X.A.units+64<cLine)(hK:X.K=K:=by rfl):OpR X (compareOp .NotEq) (rNeW K):=by
 subst hK
 intro zy s σ H x y v u Q I rx ry h
 obtain⟨a,b,k,us,z,rfl,rfl,ha,hb,q⟩:=h
 cases rx;cases ry
 obtain⟨its,r1,p1,_⟩:=I.tuple ha
 obtain⟨its2,r2,p2,_⟩:=I.tuple hb
 refine SeqAt.RcNeAt.tuples (e:=fun _=>k == z) p1 p2 (by omega) (qVv (zy:=zy) (σ:=σ) (H:=H) r1 r2 _) _ _ _ _ ?_
 rw[qGx r1 r2]
 exact⟨.bl _,H,I,rfl,q⟩
end
section
variable {X:Cx}{pos:Pos}{e:Expr}{te:TE}
theorem qEm (he:PE X e te):PE X (.FormattedValue e (-1) none pos) (tFmtN te):=by
 intro zy s σ H Q I h
 refine wpAny_FormattedValue_plain (thn (he zy s σ H _ I h) fun u s1 ⟨v,H1,I1,r,n,ev,hn,q⟩=>?_)
 subst ev
 obtain⟨t,rfl⟩:=r
 exact wpAny_formatField_int hn ⟨.str _,H1,(I1.tok _).tok _,⟨_,rfl⟩,q⟩
end
structure Fe where
 k:Str
 t:Tok
 a:Addr
 c:Str
 b:Addr
 ws:List Str
def Fe.entry (w:World)(e:Fe):DictEntry:=⟨PyData.keyHash w.params e.k,.str e.k e.t,.ref e.a⟩
structure Gf (w:World)(K:yZN)(mg:Str->Option Value)(x:Str)(fs:List (Str×List Str)):Prop where
 ex:∃(p:Addr) (o:Obj) (es:List Fe) (ep:Nat),mg x=some (.ref p)/\K.lookup p=some o/\o.ExactDict/\o.data=.dict (es.map (Fe.entry w)).toArray ep/\
  es.map (fun e=>(e.k,e.ws))=fs/\(fs.map (·.1)).Nodup/\∀e∈es,(∀H,SqT K H e.a [.str e.c,.ref e.b])/\∀H,SqT K H e.b (e.ws.map V.str)
def tForm (K:yZN)(fs:List (Str×List Str))(ty:TE):TE:=fun σ H Q=>ty σ H fun y H1=>∃k ws,y=.str k/\(k,ws)∈fs/\∀(a b:Addr) (c:Str),SqT K H1 a [.str c,.ref b]->(∀H,SqT K H b (ws.map V.str))->Q (.ref a) H1
section
variable {X:Cx}{P:Program}{w:World}{K:yZN}{mg:Str->Option Value}{x:Str}{fs:List (Str×List Str)}{i:Expr}{pos pos':Pos}{ty:TE}
theorem qAh (P:Program)(w:World):∀es:List Fe,PySem.Pairs (zO P w) (es.map (Fe.entry w)) (es.map fun e=>(Sum.inr e.k,Value.ref e.a))
 | []=>.nil
 | e::es=>.cons (jW P w e.k e.t) rfl (qAh P w es)
theorem xDz {es:List Fe}(nd:(es.map (·.k)).Nodup){e:Fe}(he:e∈es):PySem.valueAt (es.map fun e=>((Sum.inr e.k:Key),Value.ref e.a)) (.inr e.k)=some (.ref e.a):=by
 induction es with
 | nil=>cases he
 | cons f es ih=>
  rw[Ym] at nd
  have nd':=List.nodup_cons.mp nd
  unfold PySem.valueAt
  rw[Ym,List.find?_cons]
  rcases yYK.mp he with rfl | he
  .rw[decide_eq_true rfl];rfl
  .have ne:¬((Sum.inr f.k:Key)=Sum.inr e.k):=fun z=>nd'.1 (by
    have:f.k=e.k:=Sum.inr.inj z
    rw[this];exact yYP.mpr ⟨e,he,rfl⟩)
   rw[decide_eq_false ne]
   exact ih nd'.2 he
theorem xVz (g:Gf w K mg x fs)(hi:PE X i ty)(hs:NoSl i)(hw:X.w=w:=by rfl)(hK:X.K=K:=by rfl)(hg:Gl X x:=by rfl)(hm:X.mg=mg:=by rfl)(hd:(x == ("__debug__" : Str))=false:=by decide):
  PE X (.Subscript (.Name x pos') i pos) (tForm K fs ty):=by
 subst hw;subst hK;subst hm
 obtain⟨p,o,es,ep,e,lk,ed,od,efs,nd,tb⟩:=g.ex
 intro zy s σ H Q I h
 have dict:∀{s':Shared} {H':Hp},Inv X zy σ H' s'->s'.heap.DictOf (zO X.prog X.w) p (es.map fun e=>(Sum.inr e.k,Value.ref e.a)):=fun{s' H'} I'=>by
  refine⟨o,_,ep,I'.kIn p o lk,ed,od,fun en hen=>?_,?_,?_⟩
  .obtain⟨f,hf,rfl⟩:=yYP.mp (List.mem_toArray.mp hen)
   exact⟨.inr f.k,jW _ _ _ _,rfl⟩
  .exact qAh X.prog X.w es
  .rw[Yo]
   rw[<- efs,Yo] at nd
   have e2:(Prod.fst∘fun e:Fe=>((Sum.inr e.k:Key),Value.ref e.a))=(Sum.inr∘fun e:Fe=>e.k):=rfl
   rw[e2,<- Yo]
   exact List.pairwise_map.mpr (List.Pairwise.imp (fun h z=>h (Sum.inr.inj z)) nd)
 refine qWd PySem.F.slot_dict_getitem.lookup hs (thn (vG (v:=.ref p) hg e rfl hd zy s σ H (fun v H1=>v=.ref p/\ty σ H1 _) I ⟨rfl,h⟩) fun u s1 ⟨v,H1,I1,rx,ev,q1⟩=>?_)
 subst ev
 obtain rfl:u=Value.ref p:=rx
 refine thn (hi zy s1 σ H1 _ I1 q1) fun iv s2 ⟨y,H2,I2,ry,k,ws,ey,hmem,q2⟩=>?_
 subst ey
 have dd:=dict I2
 rw[<- efs] at hmem
 obtain⟨f,hf,ef⟩:=yYP.mp hmem
 obtain⟨rfl,rfl⟩:=Prod.mk.inj ef
 have nd2:(es.map (·.k)).Nodup:=by rw[<- efs,Yo] at nd;exact nd
 refine⟨dd.typeIs,wpAny_getItem_of (qMo (k:=.inr f.k) ry) dd.mapOf (xDz nd2 hf) ⟨.ref f.a,H2,I2.tok _,rfl,q2 _ _ _ ((tb f hf).1 H2) (tb f hf).2⟩⟩
end
end L2
namespace TM
open PySem PyProof.Rows PySem.W
end TM
namespace L2
open PySem PySem.Spec PyProof.Rows
section
variable {X:Cx}{zy:List (Addr×Obj)}{σ:St}{H H':Hp}{s:Shared}
theorem Inv.laidD {a:Addr}{o:HO}{s':Shared}(I:Inv X zy σ H s)(k:∀b u,s.heap.get? b=some u->s'.heap.get? b=some u)(hp:s.heap.objs.size<=a)(new:ObjOk X.prog X.w (upd H a o) s'.heap a o)(hg:s'.gens=s.gens)(hos:s'.os=s.os):
  Inv X zy σ (upd H a o) s':=by
 obtain⟨h',g',d',t',o'⟩:=s'
 have e1:g'=s.gens:=hg
 have e2:o'=s.os:=hos
 subst e1 e2
 have u:Un X.fs [] H (upd H a o) s.heap h':=Un.laid k hp (I.hok.fresh hp)
 obtain⟨m,⟨ol,es,ep,ho,r⟩,_⟩:=id I.loc
 obtain⟨sl,hL⟩:=u.any ho I.free (by simp)
 exact I.step (g':=s.gens) (d':=d') (ch:=[]) (fun _ z=>nomatch z) (fun b o _ hb _ e n=>u.keep b o e n hb (by simp)) (fun b o _ hb _ e n=>u.slot b o e n hb (by simp)) (fun b o _ e n=>u.free b o e n (by simp)) (fun b o _ e=>u.there b o e (by simp)) u.tups u.frzs u.tbls (fun m' hm=>by
  obtain⟨o',es',ep',ho',r'⟩:=hm
  rw[ho] at ho';cases ho'
  exact⟨_,es',ep',hL,r'⟩) (I.hok.laid k hp new) I.bare
end
end L2
namespace DT
open PySem PyProof.Rows
structure At (h:Heap)(d:Addr)(o:Obj)(es:Array DictEntry)(ep:Nat):Prop where
 at':h.get? d=some o
 ex:o.ExactDict
 data:o.data=.dict es ep
end DT
namespace L2
open PySem PySem.Spec PyProof.Rows
section
variable {X:Cx}{zy:List (Addr×Obj)}{σ:St}{H:Hp}{s:Shared}
def ItemsV (v d:Addr):HO:=.ext fun h=>h.IsItemsView v d
end
end L2
namespace DT
open PySem PyProof.Rows
section
variable {prog:Program}{w:World}{A:Around}{E:Value->Shared->Prop}{s:Shared}{d I:Addr}{o:Obj}{es:Array DictEntry}{ep:Nat}
theorem owns:Builtin.Dict_items.ownsTuple "dict_itemiterator" = true:=by decide
theorem items (hd:(d == sysModules)=false)(D:At s.heap d o es ep){P:PySem.Fin->Shared->Prop}(h:P (.done (.ret (.ref s.heap.objs.size))) { s with heap:=s.heap.push { cls:=.type "dict_items",data:=.fields #[.ref d] } }):
  wpAny (model prog w) A (Builtin.«dict.items» ⟨[.ref d],[]⟩) P E s:=by
 unfold Builtin.«dict.items» Builtin.Dict.noArgs Builtin.Dict.showsAll
 refine yYV (yYV (wpAny_notOrdered_dict ⟨o,D.at',D.ex.1⟩ (yYW ?_)))
 show wpAny _ _ ((if (d == sysModules)=true then _ else _) >>= _) _ _ s
 rw[hd]
 exact yYV (yYW (yYV (wpAny_newObj_type (yYW h))))
theorem iterI {v:Addr}{Q:Value->Shared->Prop}(hv:s.heap.IsItemsView v d)(D:At s.heap d o es ep)
  (h:∀h',IsItemIter h' s.heap.objs.size d 0 es.size ep .none .none->(∀b o,s.heap.get? b=some o->h'.get? b=some o)->Q (.ref s.heap.objs.size) { s with heap:=h' }):wpAny (model prog w) A (pyIter (.ref v)) Q E s:=by
 obtain⟨ov,e1,e2,e3⟩:=id hv
 refine wpAny_pyIter_slot hv.typeIs F.slot_dict_items_iter (wpAny_call_entry F.slot_dict_items_iter hv.typeIs F.entry_dict_items_iter ?_ (F.args_dict_items_iter_1 _))
 unfold Builtin.«dict_items.__iter__» Builtin.Dict_items.dictOf Builtin.Dict_items.newIterator
 refine yYV (yYW (yYV (yYV (wpAny_field e1 e3 (x:=.ref d) rfl (yYW (yYV (yYV (wpAny_dictEntries D.at' D.data (yYV (wpAny_dictEpoch D.at' D.data ?_))))))))))
 simp only[owns,if_true]
 refine wpAny_newObj_type (yYW ⟨_,rfl,"dict_itemiterator",_,⟨_,yYZ _ rfl,rfl⟩,F.slot_dict_itemiterator_next.lookup,?_⟩) (by simp[sizeOk,Builtin.Dict_items.ownedTupleFields,sizeLine_eq])
 exact h _ (yYZ _ rfl) fun b o e=>yYX _ e
theorem nextI {i:Nat}{x y:Value}(hit:IsItemIter s.heap I d i es.size ep x y)(D:At s.heap d o es ep)(hi:i<es.size){Q:Option Value->Shared->Prop}
  (h:∀h',IsItemIterOut h' I d (i+1) es.size ep es[i].key es[i].val s.heap.objs.size->h'.get? s.heap.objs.size=some { cls:=.type "tuple",data:=.seq #[es[i].key,es[i].val] }->
   (∀b o,b≠I->s.heap.get? b=some o->h'.get? b=some o)->Q (some (.ref s.heap.objs.size)) { s with heap:=h' }):wpAny (model prog w) A (pyNext (.ref I)) Q E s:=by
 have T:s.TypeIs (.ref I) "dict_itemiterator" := ⟨_,hit,rfl⟩
 have lI:I<s.heap.objs.size:=yYY hit
 unfold pyNext
 refine yYV (wpAny_attempt (wpAny_callSpecial?_slot (name:=Yb "__next__") T F.slot_dict_itemiterator_next (wpAny_call_entry F.slot_dict_itemiterator_next T F.entry_dict_itemiterator_next ?_ (F.args_dict_itemiterator_next_1 _))))
 refine yYV (yYW (yYV (yYV (yYV ?_))))
 refine wpAny_typeNameOfWhole_itemiter T (yYW (yYV (wpAny_fieldsOf hit rfl ?_)))
 simp only[owns,if_true]
 show wpAny _ _ (if (Value.ref d == Value.none)=true then _ else _) _ _ s
 refine wpAny_ite_split (fun z=>absurd z yZJ) fun _=>?_
 refine yYV (yYW (yYV (wpAny_dictEntries D.at' D.data ?_)))
 refine wpAny_ite_split (fun z=>absurd z (by simp)) fun _=>?_
 refine yYV (yYW (yYV (wpAny_dictEpoch D.at' D.data ?_)))
 refine wpAny_ite_split (fun z=>absurd z (by simp)) fun _=>?_
 refine yYW ?_
 simp only[show¬((i:Int)<0) from by omega,if_false,Int.toNat_natCast,Array.getElem?_eq_getElem hi]
 refine yYV (yYV (wpAny_typeNameOfWhole_itemiter T (yYW (yYV (wpAny_isOneOf_itemiter T ?_)))))
 show wpAny _ _ (setField (.ref I) 3 (rawInt ((i:Int)+1)) >>= _) _ _ s
 refine yYV (wpAny_setField_rec hit (by simp) fun h1 g1 b1=>?_)
 have g1:IsItemIter h1 I d (i+1) es.size ep x y:=by
  have e:((i+1:Nat):Int)=(i:Int)+1:=by omega
  unfold IsItemIter
  rw[e]
  exact g1
 have z1:h1.objs.size=s.heap.objs.size:=b1.1
 refine yYV (wpAny_holding (yYV (wpAny_isOneOf_itemiter (s:={ s with heap:=h1 }) ⟨_,g1,rfl⟩ (yYV (wpAny_isOneOf_itemiter (s:={ s with heap:=h1 }) ⟨_,g1,rfl⟩ ?_)))))
 show wpAny _ _ (newTuple [es[i].key,es[i].val] >>= _) _ _ { s with heap:=h1 }
 refine yYV (wpAny_newTuple ?_)
 have g2:IsItemIter (h1.push { cls:=.type "tuple",data:=.seq #[es[i].key,es[i].val] }) I d (i+1) es.size ep x y:=yYX _ g1
 have t2:(h1.push { cls:=.type "tuple",data:=.seq #[es[i].key,es[i].val] }).get? s.heap.objs.size=some { cls:=.type "tuple",data:=.seq #[es[i].key,es[i].val] }:=by
  rw[<- z1];exact yYZ _ rfl
 have k2:∀b o,b≠I->s.heap.get? b=some o->(h1.push { cls:=.type "tuple",data:=.seq #[es[i].key,es[i].val] }).get? b=some o:=fun b o hb e=>yYX _ (b1.extBut b o hb e)
 show wpAny _ _ (Builtin.Dict_items.ownedTupleIsFree (.ref I) >>= _) _ _ { s with heap:=h1.push { cls:=.type "tuple",data:=.seq #[es[i].key,es[i].val] } }
 rw[z1]
 generalize h1.push { cls:=.type "tuple",data:=.seq #[es[i].key,es[i].val] }=h2 at g2 t2 k2
 unfold Builtin.Dict_items.ownedTupleIsFree
 refine yYV (yYV (wpAny_field g2 rfl (x:=.none) rfl (yYW ?_)))
 simp only[if_true]
 refine yYV (wpAny_field g2 rfl (x:=x) rfl (yYV (wpAny_field g2 rfl (x:=y) rfl (yYV (wpAny_setField_rec g2 (by simp) fun h3 g3 b3=>?_)))))
 have g3:IsItemIter h3 I d (i+1) es.size ep es[i].key y:=g3
 refine yYV (wpAny_setField_rec g3 (by simp) fun h4 g4 b4=>?_)
 have g4:IsItemIter h4 I d (i+1) es.size ep es[i].key es[i].val:=g4
 refine yYV (wpAny_setField_rec g4 (by simp) fun h5 g5 b5=>?_)
 have g5:IsItemIterOut h5 I d (i+1) es.size ep es[i].key es[i].val s.heap.objs.size:=g5
 refine yYV (wpAny_setField_rec g5 (by simp) fun h6 g6 b6=>?_)
 have k6:∀b o,b≠I->h2.get? b=some o->h6.get? b=some o:=fun b o hb e=>b6.extBut b o hb (b5.extBut b o hb (b4.extBut b o hb (b3.extBut b o hb e)))
 exact yYV (wpAny_letGo (yYW (yYW ⟨_,rfl,yYW (h h6 g6 (k6 _ _ (yZF lI) t2) fun b o hb e=>k6 b o hb (k2 b o hb e))⟩)))
theorem xVn {β:Type}{R:β->Shared->Prop}{Q:Option Value->Shared->Prop}(hh:A.handled=none)(h:∀h',(∀b o,s.heap.get? b=some o->h'.get? b=some o)->Q none { s with heap:=h' }):
  wpAny (model prog w) A.in1 (newExc (.type "StopIteration") [] >>= fun e=>(raiseNew e:Sem β)) R (fun e s'=>wpAny (model prog w) A (isInstance e (.type "StopIteration") >>= fun b=>if b=true then pure none else throw e) Q E s') s:=by
 simp only[newExc,newTuple,raiseNew]
 refine yYV (yYV (wpAny_newObj_type (yYV (m:=firstArgMember _ _) (wpAny_of_eq (a:=Value.none) (by first | rfl | (simp only[firstArgMember];rfl)) (wpAny_newObj_type (yYV (wpAny_handled ?_)) (by size_fits)))) (by size_fits)))
 rw[show A.in1.handled=none from hh]
 refine yYV (yYW (wpAny_throw ?_))
 exact yYV (wpAny_isInstance (T := "StopIteration") (b:=true) ⟨_,yYZ _ rfl,rfl⟩ isSubtype_stop (yYW (h _ fun b o e=>yYX _ (yYX _ e))))
theorem stopI {i:Nat}{x y:Value}(hh:A.handled=none)(hit:IsItemIter s.heap I d i es.size ep x y)(D:At s.heap d o es ep)(hge:es.size<=i){Q:Option Value->Shared->Prop}
  (h:∀h',Heap.ExtBut I s.heap h'->Q none { s with heap:=h' }):wpAny (model prog w) A (pyNext (.ref I)) Q E s:=by
 have T:s.TypeIs (.ref I) "dict_itemiterator" := ⟨_,hit,rfl⟩
 unfold pyNext
 refine yYV (wpAny_attempt (wpAny_callSpecial?_slot (name:=Yb "__next__") T F.slot_dict_itemiterator_next (wpAny_call_entry F.slot_dict_itemiterator_next T F.entry_dict_itemiterator_next ?_ (F.args_dict_itemiterator_next_1 _))))
 refine yYV (yYW (yYV (yYV (yYV ?_))))
 refine wpAny_typeNameOfWhole_itemiter T (yYW (yYV (wpAny_fieldsOf hit rfl ?_)))
 simp only[owns,if_true]
 show wpAny _ _ (if (Value.ref d == Value.none)=true then _ else _) _ _ s
 refine wpAny_ite_split (fun z=>absurd z yZJ) fun _=>?_
 refine yYV (yYW (yYV (wpAny_dictEntries D.at' D.data ?_)))
 refine wpAny_ite_split (fun z=>absurd z (by simp)) fun _=>?_
 refine yYV (yYW (yYV (wpAny_dictEpoch D.at' D.data ?_)))
 refine wpAny_ite_split (fun z=>absurd z (by simp)) fun _=>?_
 refine yYW ?_
 simp only[show¬((i:Int)<0) from by omega,if_false,Int.toNat_natCast,Array.getElem?_eq_none hge]
 refine yYV (yYV (wpAny_typeNameOfWhole_itemiter T (yYW ?_)))
 show wpAny _ _ (setField (.ref I) 2 .none >>= _) _ _ s
 refine yYV (wpAny_setField hit rfl (by simp) ?_)
 exact xVn hh fun h' k=>h h' fun b o hb e=>k b o ((Heap.SameBut.update ..).extBut b o hb e)
end
end DT
namespace L2
open PySem PySem.Spec PyProof.Rows
theorem xZe:entryFor table "dict_itemiterator.__iter__" = some Builtin.«dict_keyiterator.__iter__»:=entryFor_alias (id' := "dict_keyiterator.__iter__") (by kernel_rfl) rfl (by wtm_at"d") (by kernel_rfl)
end L2
namespace L2
open PySem PySem.Spec PyProof.Rows
structure Gg (w:World)(K:yZN)(mg:Str->Option Value)(x:Str)(fs:List (Str×Str×List Str)):Prop where
 ex:∃(p:Addr) (o:Obj) (es:List Fe) (ep:Nat),mg x=some (.ref p)/\K.lookup p=some o/\o.ExactDict/\o.data=.dict (es.map (Fe.entry w)).toArray ep/\
  es.map (fun e=>(e.k,e.c,e.ws))=fs/\(fs.map (·.1)).Nodup/\(p == sysModules)=false/\∀e∈es,(∀H,SqT K H e.a [.str e.c,.ref e.b])/\∀H,SqT K H e.b (e.ws.map V.str)
theorem Gg.gf {w:World}{K:yZN}{mg:Str->Option Value}{x:Str}{fs:List (Str×Str×List Str)}(g:Gg w K mg x fs):Gf w K mg x (fs.map fun e=>(e.1,e.2.2)):=by
 obtain⟨p,o,es,ep,e,lk,ed,od,efs,nd,_,tb⟩:=g.ex
 refine⟨p,o,es,ep,e,lk,ed,od,?_,?_,tb⟩
 .rw[<- efs,Yo];rfl
 .rw[Yo];exact nd
def tForm2 (K:yZN)(fs:List (Str×Str×List Str))(ty:TE):TE:=fun σ H Q=>ty σ H fun y H1=>∃k c ws,y=.str k/\(k,c,ws)∈fs/\∀a b:Addr,SqT K H1 a [.str c,.ref b]->(∀H,SqT K H b (ws.map V.str))->Q (.ref a) H1
section
variable {X:Cx}{w:World}{K:yZN}{mg:Str->Option Value}{x:Str}{fs:List (Str×Str×List Str)}{i:Expr}{pos pos':Pos}{ty:TE}
theorem qHb (g:Gg w K mg x fs)(hi:PE X i ty)(hs:NoSl i)(hw:X.w=w:=by rfl)(hK:X.K=K:=by rfl)(hg:Gl X x:=by rfl)(hm:X.mg=mg:=by rfl)(hd:(x == ("__debug__" : Str))=false:=by decide):
  PE X (.Subscript (.Name x pos') i pos) (tForm2 K fs ty):=by
 subst hw;subst hK;subst hm
 obtain⟨p,o,es,ep,e,lk,ed,od,efs,nd,_,tb⟩:=g.ex
 intro zy s σ H Q I h
 have dict:∀{s':Shared} {H':Hp},Inv X zy σ H' s'->s'.heap.DictOf (zO X.prog X.w) p (es.map fun e=>(Sum.inr e.k,Value.ref e.a)):=fun{s' H'} I'=>by
  refine⟨o,_,ep,I'.kIn p o lk,ed,od,fun en hen=>?_,?_,?_⟩
  .obtain⟨f,hf,rfl⟩:=yYP.mp (List.mem_toArray.mp hen)
   exact⟨.inr f.k,jW _ _ _ _,rfl⟩
  .exact qAh X.prog X.w es
  .rw[Yo]
   rw[<- efs,Yo] at nd
   have e2:(Prod.fst∘fun e:Fe=>((Sum.inr e.k:Key),Value.ref e.a))=(Sum.inr∘fun e:Fe=>e.k):=rfl
   rw[e2,<- Yo]
   exact List.pairwise_map.mpr (List.Pairwise.imp (fun h z=>h (Sum.inr.inj z)) nd)
 refine qWd PySem.F.slot_dict_getitem.lookup hs (thn (vG (v:=.ref p) hg e rfl hd zy s σ H (fun v H1=>v=.ref p/\ty σ H1 _) I ⟨rfl,h⟩) fun u s1 ⟨v,H1,I1,rx,ev,q1⟩=>?_)
 subst ev
 obtain rfl:u=Value.ref p:=rx
 refine thn (hi zy s1 σ H1 _ I1 q1) fun iv s2 ⟨y,H2,I2,ry,k,c,ws,ey,hmem,q2⟩=>?_
 subst ey
 have dd:=dict I2
 rw[<- efs] at hmem
 obtain⟨f,hf,ef⟩:=yYP.mp hmem
 cases ef
 have nd2:(es.map (·.k)).Nodup:=by rw[<- efs,Yo] at nd;exact nd
 refine⟨dd.typeIs,wpAny_getItem_of (qMo (k:=.inr f.k) ry) dd.mapOf (xDz nd2 hf) ⟨.ref f.a,H2,I2.tok _,rfl,q2 _ _ ((tb f hf).1 H2) (tb f hf).2⟩⟩
end
def Itf (es:List Fe):It:=⟨fun i _=>i<es.length,fun i H x H'=>∃T e,x=.ref T/\H T=none/\H'=upd H T (.tup [.str e.k,.ref e.a])/\es[i]? = some e,fun i _=>es.length<=i⟩
theorem qEa {P:Program}{w:World}{K:yZN}{el:List Expr}{kk:Nat}{tp:Pos}(it p:Addr)(o:Obj)(es:List Fe)(ep:Nat)(lk:K.lookup p=some o)(ed:o.ExactDict)(od:o.data=.dict (es.map (Fe.entry w)).toArray ep):
  Turn P w K (.Tuple el kk tp) (Itf es) [it] it (fun i h=>∃x y,IsItemIter h it p i es.length ep x y) where
 mem:=by simp
 obj:=fun i h st b hb=>by
  have e:b=it:=by simpa using hb
  subst e
  obtain⟨x,y,e⟩:=st
  exact⟨_,e,fun v z=>by cases z⟩
 keep:=fun i h h' ⟨x,y,st⟩ k=>⟨x,y,k it (by simp) _ st⟩
 item:=by
  intro X hP hw hK hc i zy s σ H E I hf st hg
  subst hP hw hK
  obtain⟨x,y,st⟩:=st
  obtain⟨f0,f1,f2,f3,f4,f5⟩:=hf it (by simp)
  have hg:i<es.length:=hg
  obtain⟨e,ee⟩:∃e,es[i]? = some e:=⟨_,yYA hg⟩
  have sz:(es.map (Fe.entry X.w)).toArray.size=es.length:=by simp
  have D:DT.At s.heap p o (es.map (Fe.entry X.w)).toArray ep:=⟨I.kIn p o lk,ed,od⟩
  have hi2:i<(es.map (Fe.entry X.w)).toArray.size:=by rw[sz];exact hg
  have ek:(es.map (Fe.entry X.w)).toArray[i]=Fe.entry X.w e:=by
   have h1:(es.map (Fe.entry X.w))[i]? = some (Fe.entry X.w e):=by rw[yYO,ee];rfl
   obtain⟨_,h2⟩:=yYB.mp h1
   rw[List.getElem_toArray];exact h2
  have lit:it<s.heap.objs.size:=yYY st
  rw[<- sz] at st
  refine DT.nextI st D hi2 fun h' st' t' kp=>?_
  rw[ek] at st' t'
  refine⟨_,rfl,wpAny_letOwnedTupleGo_items (s:={ s with heap:=h' }) st' fun h2 st2 sb=>?_⟩
  rw[sz] at st2
  have keep:∀c o,c≠it->s.heap.get? c=some o->h2.get? c=some o:=fun c o hcx q=>sb.extBut _ _ hcx (kp c o hcx q)
  have hT:=sb.extBut _ _ (yZF lit) t'
  have fresh:H s.heap.objs.size=none:=I.hok.fresh (yZB _)
  have nfp:∀b o,H b=some o->b≠it:=fun b o q z=>by rw[z,f0] at q;cases q
  have I1:Inv X zy σ (upd H s.heap.objs.size (.tup [.str e.k,.ref e.a])) { s with heap:=h2 }:=by
   refine I.step (h':=h2) (H':=upd H s.heap.objs.size (.tup [.str e.k,.ref e.a])) (g':=s.gens) (d':=s.drawn) (t':=s.toks) (ch:=[it]) (fun b hb=>?_) (fun b o _ _ hc' q _=>keep b o (by simpa using hc') q) (fun b o _ _ hc' q _=>⟨o.slots,keep b o (by simpa using hc') q⟩) (fun b o hc' q n=>?_)
    (fun b o hc' q=>⟨o,keep b o (by simpa using hc') q⟩) (fun b zs q=>?_) (fun b o q' q=>?_) (fun b ps q=>⟨#[],?_⟩) (fun m hm=>?_) (fun b ob q=>?_) I.bare
   .have e:b=it:=by simpa using hb
    subst e
    exact⟨f3,f1,f4,f5⟩
   .rw[qA (yZD (yYY q))];exact n
   .rw[qA (qB q fresh)];exact q
   .rw[qA (qB q fresh)];exact q
   .rw[qA (qB q fresh),q];simp
   .obtain⟨o,es',ep,ho,r⟩:=hm
    exact⟨o,es',ep,keep _ o (Ne.symm f1) ho,r⟩
   .by_cases hb:b=s.heap.objs.size
    .subst hb
     rw[qW] at q
     cases q
     exact⟨by show 2<=Yc;decide,[.str e.k e.t,.ref e.a],.cons ⟨_,rfl⟩ (.cons rfl .nil),⟨_,hT,rfl,0,rfl,rfl⟩⟩
    .rw[qA hb] at q
     refine(I.hok b ob q).stay (fun c o hc' q'=>keep c o ?_ q') (fun c q'=>by rw[qA (qB q' fresh)];exact q') fun c zs q'=>by rw[qA (qB q' fresh)];exact q'
     rcases hc' with rfl | hc'
     .exact nfp _ _ q
     .exact nfp _ _ hc'
  refine⟨.ref s.heap.objs.size,_,I1,rfl,⟨_,e,rfl,fresh,rfl,ee⟩,⟨_,_,st2⟩,fun b hb=>?_⟩
  have e:b=it:=by simpa using hb
  subst e
  rw[qA (yZD lit)];exact f0
 done:=by
  intro X hP hw hK hc i zy s σ H E I hf st hg
  subst hP hw hK
  obtain⟨x,y,st⟩:=st
  obtain⟨f0,f1,f2,f3,f4,f5⟩:=hf it (by simp)
  have sz:(es.map (Fe.entry X.w)).toArray.size=es.length:=by simp
  have hg:es.length<=i:=hg
  rw[<- sz] at st
  exact DT.stopI (I.ok.hd hc) st ⟨I.kIn p o lk,ed,od⟩ (by omega) fun h' eb=>⟨rfl,I.turned (t':=s.toks) (fun b o hb e=>eb b o hb e) f0 f1 f3 f4 f5⟩
 self:=fun _ _ _ _ _ st h=>by
  obtain⟨x,y,st⟩:=st
  exact wpAny_pyIter_slot ⟨_,st,rfl⟩ F.slot_dict_itemiterator_iter (wpAny_call_entry F.slot_dict_itemiterator_iter ⟨_,st,rfl⟩ xZe (yYW ⟨_,rfl,"dict_itemiterator",_,⟨_,st,rfl⟩,F.slot_dict_itemiterator_next.lookup,h⟩) (F.args_dict_itemiterator_iter_1 _))
def iForms (K:yZN)(fs:List (Str×Str×List Str)):TI:=fun _ H R=>∀(es:List Fe) (v:Addr) (o:HO),H v=none->es.map (fun e=>(e.k,e.c,e.ws))=fs->(∀e∈es,(∀H,SqT K H e.a [.str e.c,.ref e.b])/\∀H,SqT K H e.b (e.ws.map V.str))->R (Itf es) (upd H v o)
section
variable {X:Cx}{w:World}{K:yZN}{mg:Str->Option Value}{x:Str}{fs:List (Str×Str×List Str)}{el:List Expr}{kk:Nat}{tp npos apos cpos:Pos}
theorem xXa (g:Gg w K mg x fs)(hw:X.w=w:=by rfl)(hK:X.K=K:=by rfl)(hg:Gl X x:=by rfl)(hm:X.mg=mg:=by rfl)(hd:(x == ("__debug__" : Str))=false:=by decide)
  (hbase:attributeBase (.Name x npos) "items" X.env (eval (.Name x npos) X.env)=eval (.Name x npos) X.env:=by rfl) (hline:(apos.endLine == cpos.line)=true:=by rfl):
  PI X (.Tuple el kk tp) (.Call (.Attribute (.Name x npos) "items" apos) [] [] cpos) (iForms K fs):=by
 subst hw;subst hK;subst hm
 obtain⟨p,o,es,ep,e,lk,ed,od,efs,nd,sys,tb⟩:=g.ex
 intro zy s σ H R I h
 refine wpAny_Call_method0_late hbase hline (thn (vG (v:=.ref p) hg e rfl hd zy s σ H (fun v H1=>v=.ref p/\H1=H) I ⟨rfl,rfl⟩) fun u s1 ⟨v,H1,I1,rx,ev,eH⟩=>?_)
 subst ev eH
 obtain rfl:u=Value.ref p:=rx
 have D:DT.At s1.heap p o (es.map (Fe.entry X.w)).toArray ep:=⟨I1.kIn p o lk,ed,od⟩
 have ty:s1.TypeIs (.ref p) "dict" := ⟨o,D.at',ed.1⟩
 refine⟨"dict","dict.items",PySem.F.plainAttrs_dict,PySem.F.slot_dict_items,PySem.F.type_dict_items,ty,fun a ea=>?_,Calls.callWith_builtin rfl (PySem.evalArgs_none (wpAny_call_entry PySem.F.slot_dict_items ty PySem.F.entry_dict_items (DT.items sys D ⟨_,rfl,?_⟩) (PySem.F.args_dict_items_1 _)))⟩
 .cases ea
  exact⟨o,D.at',ed.2.1⟩
 have hv:(s1.heap.push { cls:=.type "dict_items",data:=.fields #[.ref p] }).IsItemsView s1.heap.objs.size p:=⟨_,yYZ _ rfl,rfl,rfl⟩
 have I2:=I1.laid (t':=s1.toks) (o:=ItemsV s1.heap.objs.size p) (fun b u e=>yYX _ e) (yZB _) ⟨hv,⟨_,yYZ _ rfl⟩,by
  rintro h1 h2 ⟨o,e,r⟩ k
  exact⟨o,k o e,r⟩⟩
 have q:=h es s1.heap.objs.size (ItemsV s1.heap.objs.size p) (I1.hok.fresh (yZB _)) efs tb
 have hz:s1.heap.objs.size<(s1.heap.push { cls:=.type "dict_items",data:=.fields #[.ref p] }).objs.size:=by rw[yZA];exact Nat.lt_succ_self _
 generalize s1.heap.push { cls:=.type "dict_items",data:=.fields #[.ref p] }=h3 at hv I2 hz ⊢
 have D2:DT.At h3 p o (es.map (Fe.entry X.w)).toArray ep:=⟨I2.kIn p o lk,ed,od⟩
 refine DT.iterI (s:={ s1 with heap:=h3 }) hv D2 fun h' hi kp=>?_
 have sz:(es.map (Fe.entry X.w)).toArray.size=es.length:=by simp
 rw[sz] at hi
 refine⟨h3.objs.size,[h3.objs.size],_,_,_,rfl,I2.kept (t':=s1.toks) kp,qEa _ p o es ep lk ed od,⟨_,_,hi⟩,fun b hb=>?_,q⟩
 have e:b=h3.objs.size:=by simpa using hb
 subst e
 exact I2.fpOk (yZB _) (I2.hok.fresh (yZB _))
end
end L2
namespace L2
open PySem PySem.Spec PyProof.Rows
structure Sn where
 k:Str
 t:Tok
 n:Int
 u:Tok
def Sn.entry (w:World)(e:Sn):DictEntry:=⟨PyData.keyHash w.params e.k,.str e.k e.t,.int e.n e.u⟩
structure Gn (w:World)(K:yZN)(mg:Str->Option Value)(x:Str)(fs:List (Str×Int)):Prop where
 ex:∃(p:Addr) (o:Obj) (es:List Sn) (ep:Nat),mg x=some (.ref p)/\K.lookup p=some o/\o.ExactDict/\o.data=.dict (es.map (Sn.entry w)).toArray ep/\es.map (fun e=>(e.k,e.n))=fs/\(fs.map (·.1)).Nodup/\(p == sysModules)=false
section
variable {X:Cx}{P:Program}{w:World}{K:yZN}{mg:Str->Option Value}{x:Str}{fs:List (Str×Int)}{i:Expr}{pos pos':Pos}{ty:TE}
theorem qGn (P:Program)(w:World):∀es:List Sn,PySem.Pairs (zO P w) (es.map (Sn.entry w)) (es.map fun e=>(Sum.inr e.k,Value.int e.n e.u))
 | []=>.nil
 | e::es=>.cons (jW P w e.k e.t) rfl (qGn P w es)
theorem xBa {es:List Sn}(nd:(es.map (·.k)).Nodup){e:Sn}(he:e∈es):PySem.valueAt (es.map fun e=>((Sum.inr e.k:Key),Value.int e.n e.u)) (.inr e.k)=some (.int e.n e.u):=by
 induction es with
 | nil=>cases he
 | cons f es ih=>
  rw[Ym] at nd
  have nd':=List.nodup_cons.mp nd
  unfold PySem.valueAt
  rw[Ym,List.find?_cons]
  rcases yYK.mp he with rfl | he
  .rw[decide_eq_true rfl];rfl
  .have ne:¬((Sum.inr f.k:Key)=Sum.inr e.k):=fun z=>nd'.1 (by
    have:f.k=e.k:=Sum.inr.inj z
    rw[this];exact yYP.mpr ⟨e,he,rfl⟩)
   rw[decide_eq_false ne]
   exact ih nd'.2 he
theorem qOn {o:Obj}{es:List Sn}{ep:Nat}{p:Addr}(lk:X.K.lookup p=some o)(ed:o.ExactDict)(od:o.data=.dict (es.map (Sn.entry X.w)).toArray ep)(nd:(es.map (·.k)).Nodup){zy:List (Addr×Obj)}{σ:St}{H:Hp}{s:Shared}(I:Inv X zy σ H s):
  s.heap.DictOf (zO X.prog X.w) p (es.map fun e=>(Sum.inr e.k,Value.int e.n e.u)):=by
 refine⟨o,_,ep,I.kIn p o lk,ed,od,fun en hen=>?_,?_,?_⟩
 .obtain⟨f,hf,rfl⟩:=yYP.mp (List.mem_toArray.mp hen)
  exact⟨.inr f.k,jW _ _ _ _,rfl⟩
 .exact qGn X.prog X.w es
 .rw[Yo]
  have e2:(Prod.fst∘fun e:Sn=>((Sum.inr e.k:Key),Value.int e.n e.u))=(Sum.inr∘fun e:Sn=>e.k):=rfl
  rw[e2,<- Yo]
  exact List.pairwise_map.mpr (List.Pairwise.imp (fun h z=>h (Sum.inr.inj z)) nd)
def tGn (fs:List (Str×Int))(ty:TE):TE:=fun σ H Q=>ty σ H fun y H1=>∃k n,y=.str k/\(k,n)∈fs/\Q (.int n) H1
theorem xFq (g:Gn w K mg x fs)(hi:PE X i ty)(hs:NoSl i)(hw:X.w=w:=by rfl)(hK:X.K=K:=by rfl)(hg:Gl X x:=by rfl)(hm:X.mg=mg:=by rfl)(hd:(x == ("__debug__" : Str))=false:=by decide):
  PE X (.Subscript (.Name x pos') i pos) (tGn fs ty):=by
 subst hw;subst hK;subst hm
 obtain⟨p,o,es,ep,e,lk,ed,od,efs,nd,_⟩:=g.ex
 intro zy s σ H Q I h
 have nd2:(es.map (·.k)).Nodup:=by rw[<- efs,Yo] at nd;exact nd
 refine qWd PySem.F.slot_dict_getitem.lookup hs (thn (vG (v:=.ref p) hg e rfl hd zy s σ H (fun v H1=>v=.ref p/\ty σ H1 _) I ⟨rfl,h⟩) fun u s1 ⟨v,H1,I1,rx,ev,q1⟩=>?_)
 subst ev
 obtain rfl:u=Value.ref p:=rx
 refine thn (hi zy s1 σ H1 _ I1 q1) fun iv s2 ⟨y,H2,I2,ry,k,n,ey,hmem,q2⟩=>?_
 subst ey
 have dd:=qOn lk ed od nd2 I2
 rw[<- efs] at hmem
 obtain⟨f,hf,ef⟩:=yYP.mp hmem
 cases ef
 exact⟨dd.typeIs,wpAny_getItem_of (qMo (k:=.inr f.k) ry) dd.mapOf (xBa nd2 hf) ⟨.int f.n,H2,I2.tok _,⟨_,rfl⟩,q2⟩⟩
def tGin (fs:List (Str×Int))(ty:TE):TE:=fun σ H Q=>ty σ H fun y H1=>∃k n,y=.str k/\(k,n)∈fs/\Q (.bl true) H1
theorem xCx (g:Gn w K mg x fs)(hi:PE X i ty)(hw:X.w=w:=by rfl)(hK:X.K=K:=by rfl)(hg:Gl X x:=by rfl)(hm:X.mg=mg:=by rfl)(hd:(x == ("__debug__" : Str))=false:=by decide):
  PC X .In i (.Name x pos') (tGin fs ty):=by
 subst hw;subst hK;subst hm
 obtain⟨p,o,es,ep,e,lk,ed,od,efs,nd,sys⟩:=g.ex
 intro zy s σ H Q I h
 have nd2:(es.map (·.k)).Nodup:=by rw[<- efs,Yo] at nd;exact nd
 refine thn (hi zy s σ H _ I h) fun iv s1 ⟨y,H1,I1,ry,q1⟩=>thn (vG (v:=.ref p) hg e rfl hd zy s1 σ H1 (fun v H2=>v=.ref p/\H2=H1) I1 ⟨rfl,rfl⟩) fun u s2 ⟨v,H2,I2,rx,ev,eH⟩=>?_
 subst ev eH
 obtain rfl:u=Value.ref p:=rx
 obtain⟨k,n,ey,hmem,q2⟩:=q1
 subst ey
 have dd:=qOn lk ed od nd2 I2
 rw[<- efs] at hmem
 obtain⟨f,hf,ef⟩:=yYP.mp hmem
 cases ef
 refine wpAny_in_of (qMo (k:=.inr f.k) ry) sys dd.mapOf ?_
 rw[xBa nd2 hf]
 exact⟨.bl true,_,I2.tok _,rfl,q2⟩
end
end L2
namespace L2
open PySem PySem.Spec PyProof.Rows
def rEqTS (K:yZN):R2:=fun x y H Q=>∃(a b:Addr) (ws vs:List Str),x=.ref a/\y=.ref b/\SqT K H a (ws.map V.str)/\SqT K H b (vs.map V.str)/\Q (.bl (decide (ws=vs))) H
theorem qIm {s:Shared}{ws vs:List Str}{its its2:List Value}(r1:Vals (ws.map V.str) its)(r2:Vals (vs.map V.str) its2)(A:Around):
  ∀j (h1:j<its.toArray.size) (h2:j<its2.toArray.size),SeqAt.EqAt A s its.toArray[j] its2.toArray[j] (ws.getD j "" == vs.getD j ""):=by
 intro j h1 h2
 have l1:=r1.length
 have l2:=r2.length
 rw[yYC] at l1 l2
 rw[yYD] at h1 h2
 have g1:ws[j]? = some (ws.getD j ""):=by rw[Yi,yYA (by omega)];rfl
 have g2:vs[j]? = some (vs.getD j ""):=by rw[Yi,yYA (by omega)];rfl
 obtain⟨u,eu,t,ru⟩:=r1.get (i:=j) (by rw[yYO,g1];rfl)
 obtain⟨v,ev,t2,rv⟩:=r2.get (i:=j) (by rw[yYO,g2];rfl)
 have e1:its.toArray[j]'(by rw[yYD];exact h1)=u:=by rw[List.getElem_toArray];exact(yYB.mp eu).2
 have e2:its2.toArray[j]'(by rw[yYD];exact h2)=v:=by rw[List.getElem_toArray];exact(yYB.mp ev).2
 rw[e1,e2,ru,rv]
 exact SeqAt.EqAt.str_str _ t _ t2
theorem xQd {ws vs:List Str}:((List.range (min ws.length vs.length)).all (fun j=>ws.getD j "" == vs.getD j "") && ws.length == vs.length)=decide (ws=vs):=by
 rw[Zc,decide_eq_true_iff,Bool.and_eq_true,List.all_eq_true,beq_iff_eq]
 constructor
 .rintro⟨h,hl⟩
  refine List.ext_getElem hl fun i h1 h2=>?_
  have:=eq_of_beq (h i (List.mem_range.mpr (by omega)))
  rw[Yi,Yi,yYA h1,yYA h2] at this
  exact this
 .rintro rfl
  exact⟨fun i _=>beq_self_eq_true _,rfl⟩
theorem xXd {X:Cx}{K:yZN}(hu:X.A.units+64<cLine)(hK:X.K=K:=by rfl):OpR X (compareOp .Eq) (rEqTS K):=by
 subst hK
 intro zy s σ H x y v u Q I rx ry h
 obtain⟨a,b,ws,vs,rfl,rfl,ha,hb,q⟩:=h
 cases rx;cases ry
 obtain⟨its,r1,p1,_⟩:=I.tuple ha
 obtain⟨its2,r2,p2,_⟩:=I.tuple hb
 refine SeqAt.RcAt.tuples (e:=fun j=>ws.getD j "" == vs.getD j "") (show s.heap.IsTuple a its.toArray from p1) (show s.heap.IsTuple b its2.toArray from p2) (by omega) (qIm r1 r2 _) _ _ _ _ ?_
 have l1:=r1.length
 have l2:=r2.length
 rw[yYC] at l1 l2
 rw[yYD,yYD,<- l1,<- l2,xQd]
 exact⟨.bl _,H,I,rfl,q⟩
def rCount (K:yZN):V->List V->Hp->VK->Prop:=fun x vs H Q=>∃(l:Addr) (ns:List Int) (y:Int),x=.ref l/\vs=[.int y]/\SqL K H l (ns.map V.int)/\Q (.int ((ns.countP (· == y):Nat):Int)) H
theorem qNd {A:Around}{s:Shared}{y:Int}{t:Tok}:∀{ns:List Int} {its:List Value},Vals (ns.map V.int) its->∃e:Value->Bool,(∀z∈its,SeqAt.EqAt A s z (.int y t) (e z))/\its.countP e=ns.countP (· == y):=by
 intro ns its r
 refine⟨fun z=>match z with | .int i _=>i == y | _=>false,?_,?_⟩
 .intro z hz
  obtain⟨i,hi⟩:=List.mem_iff_getElem?.mp hz
  have l:=r.length
  rw[yYC] at l
  have hi':i<ns.length:=by have:=(yYB.mp hi).1;omega
  obtain⟨u,eu,tk,ru⟩:=r.get (i:=i) (by rw[yYO,yYA hi'];rfl)
  rw[hi] at eu
  cases eu
  subst ru
  exact SeqAt.EqAt.int_int _ _ _ _
 .induction ns generalizing its with
  | nil=>cases r;rfl
  | cons n ns ih=>
   cases r with
   | cons a b=>
    obtain⟨tk,rfl⟩:=a
    rw[List.countP_cons,List.countP_cons,ih b]
theorem xZz {X:Cx}{K:yZN}(hK:X.K=K:=by rfl):MtM X "list.count" (rCount K):=by
 subst hK
 intro zy s σ H x vs v us Q I rx rv h
 obtain⟨l,ns,y,rfl,rfl,hl,q⟩:=h
 cases rx
 obtain⟨u,rfl,t,rfl⟩:=vals1 rv
 obtain⟨its,r,pl,_⟩:=I.list hl
 obtain⟨e,he,hc⟩:=qNd (A:=X.A.in1) (s:=s) (y:=y) (t:=t) r
 obtain⟨⟨cls,dd,data,sl⟩,ho,hcl,n,hd⟩:=id pl.isList
 have hcl:cls=.type "list" := hcl
 have hd:data=.seq its.toArray n:=hd
 subst hcl hd
 refine call_meets PySem.F.slot_list_count ⟨_,ho,rfl⟩ PySem.F.entry_list_count (PySem.F.args_list_count_2 _ _) (SeqAt.list_countAt l its.toArray n dd sl (.int y t) e) ⟨ho,fun z hz=>he z (by simpa using hz),?_⟩
 rw[show its.toArray.toList=its by simp,hc]
 exact⟨.int _,H,I.tok _,⟨_,rfl⟩,q⟩
def rSortL (K:yZN):List V->Hp->VK->Prop:=fun xs H Q=>∃(l:Addr) (ns:List Int),xs=[.ref l]/\SqL K H l (ns.map V.int)/\ns.length<64/\
 ∀(p:Addr) (ms:List Int),H p=none->ms.Perm ns->ms.Pairwise (·<=·)->Q (.ref p) (upd H p (.lst (ms.map V.int)))
theorem qNf {X:Cx}{K:yZN}(hK:X.K=K:=by rfl):CallR X (.builtin "sorted") (rSortL K):=by
 subst hK
 intro zy s σ H xs us Q I r h
 obtain⟨l,ns,rfl,hl,hn,q⟩:=h
 obtain⟨u,rfl,ru⟩:=vals1 r
 cases ru
 obtain⟨its,rv,pl,_⟩:=I.list hl
 have ln:=rv.length
 rw[yYC] at ln
 have hz:its.length<=Yc:=by rw[sizeLine_eq];omega
 refine Calls.call_function_entry kind_sorted plain_sorted entry_sorted (args_sorted1 _) ?_
 unfold Builtin.«sorted»
 refine yYV (m:=checkCount "sorted" 1 1 _) (yYW ?_)
 refine yYV (collect_list pl.isList ?_ hz)
 refine yYV (wpAny_newList ?_ hz)
 have hsz:((s.heap.push (seqObj "list" #[] 0)).update s.heap.objs.size (Obj.mapSeq (·++its.toArray))).objs.size=s.heap.objs.size+1:=by
  rw[Heap.size_update,yZA]
 have old:∀b o,s.heap.get? b=some o->((s.heap.push (seqObj "list" #[] 0)).update s.heap.objs.size (Obj.mapSeq (·++its.toArray))).get? b=some o:=fun b o q=>by
  have hlt:b<s.heap.objs.size:=yYY q
  rw[Heap.get?_update_ne _ _ _ _ (yZD hlt),Heap.get?_push_ne _ _ _ (yZD hlt)]
  exact q
 show wpAny _ _ _ _ _ { s with heap:=((s.heap.push (seqObj "list" #[] 0)).update s.heap.objs.size (Obj.mapSeq (·++its.toArray))).push (seqObj "list" its.toArray 0) }
 generalize (s.heap.push (seqObj "list" #[] 0)).update s.heap.objs.size (Obj.mapSeq (·++its.toArray))=h1 at hsz old ⊢
 have hoL:(h1.push (seqObj "list" its.toArray 0)).get? h1.objs.size=some (seqObj "list" its.toArray 0):=yYZ _ rfl
 refine yYV (wpAny_holding (wpAny_call_entry slot_list_sort ⟨_,hoL,rfl⟩ entry_list_sort (list_sort_tree (s:={ s with heap:=h1.push (seqObj "list" its.toArray 0) }) hoL (qNq rv) (by omega) fun out ms a1 a2 a3=>⟨_,rfl,?_⟩) (args_list_sort _)))
 obtain⟨e,he⟩:=sortedHeap_at (out:=out) hoL
 have vv:Vals (ms.map V.int) out.toList:=by
  clear he a2 a3
  generalize out.toList=vs at a1 ⊢
  induction a1 with
  | nil=>exact .nil
  | cons n t _ ih=>exact .cons ⟨t,rfl⟩ ih
 have fr:s.heap.objs.size<=h1.objs.size:=by rw[hsz];exact Nat.le_succ _
 refine yYW ⟨_,rfl,.ref h1.objs.size,_,I.laidD (o:=.lst (ms.map V.int)) (fun b o q=>?_) fr (show ObjOk X.prog X.w _ _ _ (.lst (ms.map V.int)) from⟨?_,out.toList,e,vv,by rw[Array.toArray_toList];exact he⟩) rfl rfl,rfl,q _ ms (I.hok.fresh fr) a2 a3⟩
 .have q1:=old b o q
  have lb:=yYY q1
  show(sortedHeap _ _ _ _).get? b=some o
  rw[sortedHeap_old (yZD lb) (by rw[yZA];exact Nat.lt_succ_of_lt lb)]
  exact yYX _ q1
 .rw[yYC,a2.length_eq,sizeLine_eq];omega
theorem qAi (xs:List V){n:Nat}(h:0<n):cutV xs (some (-(n:Int))) none=xs.drop (xs.length - n):=by
 unfold cutV
 rw[HT.sIx_none]
 have e:HT.sIx xs.length 0 (some (-(n:Int)))=xs.length - n:=by
  show(if (-(n:Int))<0 then (-(n:Int)+(xs.length:Int)).toNat else _)=_
  rw[if_pos (by omega)]
  omega
 rw[e,Yl (by rw[Yp];omega)]
end L2
namespace L2
open PySem PySem.Spec PyProof.Rows
def OwnT (K:yZN)(x:Str)(ws:List Str):Prop:=
 ∃(y:Addr) (o:Obj) (its:List Value) (n:Nat),YX K Yd x=some (some (.ref y))/\K.lookup y=some o/\o.cls=.type "tuple" /\ o.dict=none/\o.data=.seq its.toArray n/\Vals (ws.map V.str) its/\ws.length<=Yc
def TrkT (K:yZN)(H:Hp)(x:Str)(ws:List Str):Prop:=∀y,YX K Yd x=some (some (.ref y))->H y=some (.tup (ws.map V.str))
theorem qSk {P:Program}{w:World}{K:yZN}{mg mb:Str->Option Value}{CX:CXT}{k:Nat}{fa a:Addr}{fd:FuncData}{x z:Str}{ws:List Str}{sp:Sp}{s₁:Shared}{vs:List Value}{ns:List Int}
  (KX:K.In s₁.heap) (hns:s₁.heap.Ns Yd mg) (hb:s₁.heap.Ns builtinsNs mb) (hbb:∀x:Str,x ≠ "__name__" -> mb x=bootBuiltins x) (hlim:s₁.heap.NoLimit) (hg:s₁.gens=#[])
  (ha:s₁.heap.get? a=some { cls:=.type "list",data:=.seq vs.toArray }) (hi:IntsAre vs ns) (hl:ns.length<=Yc) (hr:Room k callerA) (hT:OwnT K z ws)
  (F:∀base:Heap,K.In base->base.Ns Yd mg->FnOk P w K mg base CX k fa fd [x] sp) (hbind:∀(s:Shared) (u:Value),BindsTo s fd ⟨[u],[]⟩ [(x,u)])
  (hsp:∀H:Hp,TrkT K H z ws->SqL K H a (ns.map V.int)->sp [.ref a] H (fun v _=>v=.bl true) fun _ _ _=>False)
  (hCX:∀H e s',CX [] H s₁ (fun _ _ _=>False) e s'->False):
  codeAny (model P w) callerA (.call (.ref fa) ⟨[.ref a],[]⟩) (fun r s'=>r=.ok (.ret (.bool true))/\OldK s₁.heap s'.heap/\s'.os=s₁.os/\AllBare s'.gens) s₁:=by
 have rv:=qBa hi
 have lenV:=hi.length
 obtain⟨y,oy,its,n,gy,ly,cy,dy,ey,vy,wy⟩:=hT
 have hy:=KX y oy ly
 have tx:TupX s₁.heap y its.toArray:=⟨oy,hy,cy,n,ey,dy⟩
 have nay:a≠y:=fun q=>by
  subst q
  rw[ha] at hy;cases hy
  simp at cy
 have core:∀G:Hp,Only G->SqL K (upd G y (.tup (ws.map V.str))) a (ns.map V.int)->HOk P w (upd G y (.tup (ws.map V.str))) s₁.heap->(∀b,G b≠none->b=a)->(G a≠none->K.lookup a=none)->
   codeAny (model P w) callerA (.call (.ref fa) ⟨[.ref a],[]⟩) (fun r s'=>r=.ok (.ret (.bool true))/\OldK s₁.heap s'.heap/\s'.os=s₁.os/\AllBare s'.gens) s₁:=by
  intro G hO hS hok hA hK
  have base_of:∀{b:Addr} {o:Obj},s₁.heap.get? b=some o->G b=none->(hidT s₁.heap G).get? b=some o:=fun e n=>xZb e n
  have noA:∀{b:Addr} {o:Obj} {es:Array DictEntry} {ep:Nat},s₁.heap.get? b=some o->o.data=.dict es ep->G b=none:=fun{b o es ep} e d=>by
   cases q:G b with
   | none=>rfl
   | some u=>
    have e':b=a:=hA b (by rw[q];simp)
    subst e'
    rw[ha] at e;cases e
    have d':Data.seq vs.toArray _=Data.dict es ep:=d
    cases d'
  have nsK:∀{b:Addr} {m:Str->Option Value},s₁.heap.Ns b m->(hidT s₁.heap G).Ns b m:=fun{b m} ⟨o,es,ep,e,d,r⟩=>⟨o,es,ep,base_of e (noA e d),d,r⟩
  have hKb:K.In (hidT s₁.heap G):=fun b o e=>base_of (KX b o e) (by
   cases q:G b with
   | none=>rfl
   | some u=>
    have e':b=a:=hA b (by rw[q];simp)
    subst e'
    rw[hK (by rw[q];simp)] at e;cases e)
  have hM:Mod K mg (hidT s₁.heap G):=⟨hKb,nsK hns,⟨mb,nsK hb,hbb⟩,let ⟨mc,h1,h2⟩:=hlim;⟨mc,nsK h1,h2⟩⟩
  have e0:Env0 P w K mg (hidT s₁.heap G) callerA [] s₁ (upd G y (.tup (ws.map V.str))):=⟨rfl,hM,fun b o e=>⟨(qRb e).1,by
    by_cases q:b=y
    .subst q;exact .inr ⟨_,qW⟩
    .rw[qA q];exact .inl (qRb e).2⟩,Nat.le_of_eq (qSm _ _),trivial,fun b hb=>absurd (show b∈([]:List Addr) from hb) (by simp),hok,.of_eq hg⟩
  refine codeAny_mono ((F _ hKb (nsK hns)).run callerA [] s₁ _ ⟨[.ref a],[]⟩ [.ref a] [.ref a] _ _ hr e0 (hbind s₁ (.ref a)) (.cons rfl .nil) (hsp _ (fun y' q=>by
   rw[gy] at q;cases q;exact qW) hS)) fun r s' h=>?_
  cases r with
  | error e=>exact(hCX _ e s' h).elim
  | ok fl=>
   cases fl with
   | next=>exact False.elim h
   | brk=>exact False.elim h
   | cont=>exact False.elim h
   | ret u=>
    obtain⟨v,H',os,bare,un,hok',r',q⟩:=h
    have q':v=.bl true:=q
    subst q'
    obtain rfl:u=Value.bool true:=r'
    refine⟨rfl,OldK.of_keep fun b o e=>?_,os,bare⟩
    by_cases qy:b=y
    .subst qy
     exact un.tupk b _ o qW e
    have ub:upd G y (.tup (ws.map V.str)) b=G b:=qA qy
    cases q:G b with
    | none=>exact un.keep b o e (ub.trans q) (by intro z;exact absurd (show b∈([]:List Addr) from z) (by simp)) (by simp)
    | some u=>
     rcases hO b with z | ⟨ob,xs,z⟩
     .rw[q] at z;cases z
     .have z1:=ub.trans z
      have z2:=un.frzs b ob _ z1
      obtain⟨e1,_⟩:=hok b _ z1
      obtain⟨e2,_⟩:=hok' b _ z2
      rw[e] at e1;cases e1
      exact e2
 have oky:∀G:Hp,ObjOk P w (upd G y (.tup (ws.map V.str))) s₁.heap y (.tup (ws.map V.str)):=fun G=>⟨by rw[yYC];exact wy,its,vy,tx⟩
 cases hk:K.lookup a with
 | some o=>
  have e:=KX a o hk
  rw[ha] at e
  cases e
  refine core (fun _=>none) (fun _=>.inl rfl) (.inr ⟨_,vs.toArray,_,hk,rfl,rfl,rfl,by rw[yYD,lenV];exact hl,by simpa using rv⟩) (fun b u z=>?_) (fun b z=>absurd rfl z) fun z=>absurd rfl z
  by_cases q:b=y
  .subst q
   rw[qW] at z;cases z
   exact oky _
  .rw[qA q] at z;cases z
 | none=>
  refine core (fun b=>if b=a then some (.frz { cls:=.type "list",data:=.seq vs.toArray } (.lst (ns.map V.int))) else none) (fun b=>?_) (.inl (.inr ⟨{ cls:=.type "list",data:=.seq vs.toArray },(qA nay).trans (if_pos rfl)⟩)) (fun b u z=>?_) (fun b z=>?_) fun _=>hk
  .by_cases hb:b=a
   .exact .inr ⟨_,_,if_pos hb⟩
   .exact .inl (if_neg hb)
  .by_cases q:b=y
   .subst q
    rw[qW] at z;cases z
    exact oky _
   rw[qA q] at z
   by_cases hb:b=a
   .have z':=(if_pos hb).symm.trans z
    cases z'
    subst hb
    exact⟨ha,by rw[yYC];exact hl,vs,_,rv,ha⟩
   .have z':=(if_neg hb).symm.trans z
    cases z'
  .by_cases hb:b=a
   .exact hb
   .exact absurd (if_neg hb) z
theorem xQz {l:PySem.W.OpenLaw}{n k:Nat}{q:Program}{loose:List Str}{XP:(Str->Option Value)->Heap->Prop}{YP:World->Heap->Prop}{d:DefRec}{K:Params->yZN}{CX:World->CXT}{sp:World->Sp}{x z:Str}{ws:List Str}
  (hn:l.most=some n) (hn2:n<=Yc) (hdf:d.params.defaults=[]) (hr:Room k callerA)
  (hY:∀(w:World) (h:Heap),YP w h->(K w.params).In h) (hT:∀w:World,OwnT (K w.params) z ws)
  (F:∀(w:World) (mg:Str->Option Value) (fa:Addr) (h:Heap),(K w.params).In h->h.Ns Yd mg->mg d.name=some (.ref fa)->
   ∃fd:FuncData,(∀(s:Shared) (u:Value),BindsTo s fd ⟨[u],[]⟩ [(x,u)])/\
    ∀base:Heap,(K w.params).In base->base.Ns Yd mg->FnOk l.prog w (K w.params) mg base (CX w) k fa fd [x] (sp w))
  (hsp:∀(w:World) (H:Hp) (a:Addr) (ns:List Int),ns.length<=n->TrkT (K w.params) H z ws->SqL (K w.params) H a (ns.map V.int)->sp w [.ref a] H (fun v _=>v=.bl true) fun _ _ _=>False)
  (hCX:∀(w:World) (H:Hp) (s:Shared) (e:Value) (s':Shared),CX w [] H s (fun _ _ _=>False) e s'->False):
  PySem.W.WalkO q loose XP YP l.row.toRowW d [] (fun f vs=>PySem.call f vs):=by
 refine Att.attach_call hn hdf fun w s₀ s₁ mg mb fa o pm cd doc a vs ns G Y ho hd hcd hmg hobj hints hlen hg=>?_
 have KX:=hY w _ Y
 obtain⟨fd,hb,hF⟩:=F w mg fa _ KX G.T.g hmg
 exact qSk KX G.T.g G.T.b G.T.builtins G.T.nolimit hg hobj hints (yZH hlen hn2) hr (hT w) hF hb (fun H hO hS=>hsp w H a ns hlen hO hS) fun H e s'=>hCX w H s₁ e s'
structure Gr (mg:Str->Option Value)(x:Str)(y:Addr):Prop where
 at':mg x=some (.ref y)
theorem xBn {X:Cx}{mg:Str->Option Value}{x:Str}{y:Addr}{pos:Pos}(g:Gr mg x y)(hg:Gl X x:=by rfl)(hm:X.mg=mg:=by rfl)(hd:(x == ("__debug__" : Str))=false:=by decide):PE X (.Name x pos) (tC (.ref y)):=by
 subst hm
 exact vG (v:=.ref y) hg g.at' rfl hd
def rNotN:R2:=fun x y H Q=>y=.non/\Q (.bl (!decide (x=.non))) H
theorem qHe {X:Cx}:OpR X (compareOp .IsNot) rNotN:=xVv
end L2
namespace L2
open PySem PySem.Spec PyProof.Rows
def Itc (lo c:Int)(n:Nat):It:=⟨fun i _=>i<n,fun i H x H'=>H'=H/\x=.int (lo+i * c),fun i _=>n<=i⟩
theorem qEw {P:Program}{w:World}{K:yZN}{tg:Expr}(it:Addr)(lo c:Int)(n:Nat):Turn P w K tg (Itc lo c n) [it] it (fun i h=>IsRangeIter h it (lo+(i:Nat) * c) ((n:Int) - (i:Nat)) c) where
 mem:=by simp
 obj:=fun i h st b hb=>by
  have e:b=it:=by simpa using hb
  subst e
  exact⟨_,st,fun v z=>by
   have z':Data.fields _=Data.cell v:=z
   cases z'⟩
 keep:=fun i h h' st k=>k it (by simp) _ st
 item:=by
  intro X hP hw hK hc i zy s σ H E I hf st hg
  subst hP hw hK
  obtain⟨f0,f1,f2,f3,f4,f5⟩:=hf it (by simp)
  have W:=Walks.range (prog:=X.prog) (w:=X.w) (I.ok.hd hc) it lo c n
  refine W.item i s _ _ hg st fun v h' tk hv st' kk=>?_
  obtain⟨t,rfl⟩:=hv
  have I1:Inv X zy σ H { s with heap:=h',toks:=tk }:=I.turned (fun b o hb e=>kk b o (by simpa using hb) e) f0 f1 f3 f4 f5
  exact⟨_,rfl,qSn (s:={ s with heap:=h',toks:=tk }) (n := "range_iterator") st' rfl rfl (by decide) ⟨.int (lo+i * c),H,I1,⟨t,rfl⟩,⟨rfl,rfl⟩,st',fun b hb=>(hf b hb).1⟩⟩
 done:=by
  intro X hP hw hK hc i zy s σ H E I hf st hg
  subst hP hw hK
  obtain⟨f0,f1,f2,f3,f4,f5⟩:=hf it (by simp)
  exact wpAny_pyNext_range_end (I.ok.hd hc) st (by have:n<=i:=hg;omega) fun h' eb=>⟨rfl,I.turned (t':=s.toks) (fun b o hb e=>eb b o hb e) f0 f1 f3 f4 f5⟩
 self:=fun _ _ _ _ _ st h=>wpAny_pyIter_rangeiter st h
def cnt3 (i j c:Int):Nat:=if i<j then ((j - i - 1) / c+1).toNat else 0
def iRng3 (ta:TA):TI:=fun σ H R=>ta σ H fun vs H1=>∃i j c:Int,vs=[.int i,.int j,.int c]/\0<c/\c<1000/\0<=i/\i<=1000000/\0<=j/\j<=1000000/\R (Itc i c (cnt3 i j c)) H1
section
variable {X:Cx}{tg:Expr}
theorem qPd {a b d:Expr}{ta:TA}{p pos:Pos}(hg:Gl X "range")(hm:X.mg "range" = none)(ha:PA X [a,b,d] ta)
  (hs:starEach [a,b,d] X.env=[(false,eval a X.env),(false,eval b X.env),(false,eval d X.env)]:=by rfl) (hs2:starEach [b,d] X.env=[(false,eval b X.env),(false,eval d X.env)]:=by rfl):
  PI X tg (.Call (.Name "range" p) [a,b,d] [] pos) (iRng3 ta):=by
 intro zy s σ H R I h
 refine Call_ (qKv I hg hm boot_range (PyProof.Rows.callWith_type1 (thn (ha pos zy s σ H _ I h) fun us s1 ⟨vs,H1,I1,r1,q1⟩=>?_) (by rw[hs,hs2]) (by rw[hs2];rfl)))
 obtain⟨i,j,c,e,c0,c1,i0,i1,j0,j1,q⟩:=q1
 subst e
 cases r1 with
 | cons r rr=>
  cases rr with
  | cons r' rr=>
   cases rr with
   | cons r'' rr=>
    cases rr
    obtain⟨t,rfl⟩:=r
    obtain⟨t',rfl⟩:=r'
    obtain⟨t'',rfl⟩:=r''
    refine PySem.call_range_3 (by omega) ?_ (.inl (PyProof.noPylong_small (by omega)))
    have e2:Builtin.Range.rangeSize i j c=(cnt3 i j c:Int):=by
     unfold Builtin.Range.rangeSize cnt3
     rw[if_pos (by omega)]
     split
     .have:0<=(j - i - 1) / c:=Int.ediv_nonneg (by omega) (by omega)
      omega
     .rfl
    have le:(cnt3 i j c:Int)<=1000000:=by
     unfold cnt3
     split
     .have:(j - i - 1) / c<=j - i - 1:=Int.ediv_le_self _ (by omega)
      have:0<=(j - i - 1) / c:=Int.ediv_nonneg (by omega) (by omega)
      omega
     .decide
    have sm:Builtin.Range.small i j c=true:=by
     unfold Builtin.Range.small
     rw[e2]
     have b0:0<=(cnt3 i j c:Int) * c:=Int.mul_nonneg (by omega) (by omega)
     have b1:(cnt3 i j c:Int) * c<=1000000 * 1000:=Int.mul_le_mul le (by omega) (by omega) (by omega)
     have b2:0<=((cnt3 i j c:Int) - 1) * c+c:=by rw[Int.sub_mul,Int.one_mul];omega
     have b3:((cnt3 i j c:Int) - 1) * c=(cnt3 i j c:Int) * c - c:=by rw[Int.sub_mul,Int.one_mul]
     simp only[Builtin.Range.rangeFitsLong,Bool.and_eq_true,Bool.or_eq_true,decide_eq_true_eq,beq_iff_eq]
     refine⟨⟨⟨⟨⟨by omega,by omega⟩,⟨by omega,by omega⟩⟩,⟨by omega,by omega⟩⟩,⟨by omega,by omega⟩⟩,?_⟩
     refine .inr ?_
     rw[if_pos c0,Bool.and_eq_true,decide_eq_true_eq,decide_eq_true_eq]
     exact⟨by omega,by omega⟩
    refine wpAny_pyIter_range (IsRange.new ..) sm ?_
    have I2:Inv X zy σ H1 { s1 with heap:=s1.heap.push { cls:=.type "range",data:=.fields #[.int i t,.int j t',.int c t''] },toks:=s1.toks }:=I1.kept fun b o e=>yYX _ e
    refine⟨_,[_],_,_,H1,rfl,I2.kept (t':=s1.toks) fun b o e=>yYX _ e,qEw _ i c (cnt3 i j c),?_,fun b hb=>?_,q⟩
    .have e1:i+((0:Nat):Int) * c=i:=by simp
     have e3:((cnt3 i j c:Nat):Int) - ((0:Nat):Int)=Builtin.Range.rangeSize i j c:=by rw[e2];simp
     show IsRangeIter _ _ (i+((0:Nat):Int) * c) (((cnt3 i j c:Nat):Int) - ((0:Nat):Int)) c
     rw[e1,e3]
     exact yYZ _ rfl
    .have e:=yYL.mp hb
     subst e
     exact I2.fpOk (yZB _) (I2.hok.fresh (yZB _))
theorem xKa {W:It->Hp->Prop}{ts:TA}{σ:St}{H:Hp}(q:ts σ H fun vs H1=>∃i j c:Int,vs=[.int i,.int j,.int c]/\0<c/\c<1000/\0<=i/\i<=1000000/\0<=j/\j<=1000000/\W (Itc i c (cnt3 i j c)) H1):iRng3 ts σ H W:=q
theorem qNz {lo c:Int}{n:Nat}{g:TG}{tb:TS}{D:Ends}{σ:St}{H:Hp}(Pv:Nat->St->Hp->Prop)(h0:Pv 0 σ H)
  (hs:∀i σ H,i<n->Pv i σ H->g (.int (lo+i * c)) σ H fun σ2 H2=>tb { D with nx:=Pv (i+1),ct:=Pv (i+1),bk:=D.nx } σ2 H2) (hd:∀σ H,Pv n σ H->D.nx σ H):forK g tb D σ (Itc lo c n) H:=by
 refine⟨fun i m σ H=>m=n - i/\i<=n/\Pv i σ H,⟨n,by simp,yZE _,h0⟩,?_⟩
 rintro i m σ H ⟨rfl,hi,p⟩
 by_cases hlt:i<n
 .refine .inr ⟨hlt,Pv (i+1),fun σ' H' p'=>⟨n - (i+1),by omega,rfl,hlt,p'⟩,fun x H' y=>?_⟩
  obtain⟨e,y⟩:=y
  subst e y
  exact hs i σ _ hlt p
 .have e:i=n:=by omega
  subst e
  exact .inl ⟨yZB _,hd σ H p⟩
end
end L2
namespace L2
open PySem PySem.Spec PyProof.Rows
inductive DCmp (K:yZN)(H:Hp):Nat->V->V->Bool->Prop
 | int {n} (i j:Int):DCmp K H n (.int i) (.int j) (i == j)
 | str {n} (x y:Str):DCmp K H n (.str x) (.str y) (x == y)
 | intStr {n} (i:Int) (y:Str):DCmp K H n (.int i) (.str y) false
 | strInt {n} (x:Str) (j:Int):DCmp K H n (.str x) (.int j) false
 | same {n} (a:Addr):DCmp K H n (.ref a) (.ref a) true
 | tupInt {n} {a:Addr} {xs:List V} (i:Int):SqT K H a xs->DCmp K H n (.ref a) (.int i) false
 | intTup {n} {a:Addr} {xs:List V} (i:Int):SqT K H a xs->DCmp K H n (.int i) (.ref a) false
 | tupStr {n} {a:Addr} {xs:List V} (y:Str):SqT K H a xs->DCmp K H n (.ref a) (.str y) false
 | strTup {n} {a:Addr} {xs:List V} (y:Str):SqT K H a xs->DCmp K H n (.str y) (.ref a) false
 | lst {n} {a b:Addr} {xs ys:List V} {e:Nat->Bool} {r:Bool}:SqL K H a xs->SqL K H b ys->xs.length=ys.length->(a=b->r=true)->(List.range xs.length).all e=r->(∀(j:Nat) x y,xs[j]? = some x->ys[j]? = some y->DCmp K H n x y (e j))->DCmp K H (n+1) (.ref a) (.ref b) r
 | lstLen {n} {a b:Addr} {xs ys:List V}:SqL K H a xs->SqL K H b ys->xs.length≠ys.length->DCmp K H (n+1) (.ref a) (.ref b) false
 | tup {n} {a b:Addr} {xs ys:List V} {e:Nat->Bool} {r:Bool}:SqT K H a xs->SqT K H b ys->(a=b->r=true)->((List.range (min xs.length ys.length)).all e && xs.length == ys.length)=r->(∀(j:Nat) x y,xs[j]? = some x->ys[j]? = some y->DCmp K H n x y (e j))->DCmp K H (n+1) (.ref a) (.ref b) r
section
variable {X:Cx}
theorem qQn {A:Around}{s:Shared}{xs ys:List V}{its its2:List Value}{e:Nat->Bool}(r1:Vals xs its)(r2:Vals ys its2)
  (ih:∀(j:Nat) x y,xs[j]? = some x->ys[j]? = some y->∀{u v:Value},RelV x u->RelV y v->SeqAt.EqAt A s u v (e j)):∀j (h1:j<its.toArray.size) (h2:j<its2.toArray.size),SeqAt.EqAt A s its.toArray[j] its2.toArray[j] (e j):=fun j h1 h2=>by
 have h1':j<xs.length:=by rw[r1.length];simpa using h1
 have h2':j<ys.length:=by rw[r2.length];simpa using h2
 obtain⟨u1,e1,q1⟩:=r1.get (yYA h1')
 obtain⟨u2,e2,q2⟩:=r2.get (yYA h2')
 have g1:its.toArray[j]=u1:=by
  have:its[j]? = some its.toArray[j]:=by simp
  exact Option.some.inj (this.symm.trans e1)
 have g2:its2.toArray[j]=u2:=by
  have:its2[j]? = some its2.toArray[j]:=by simp
  exact Option.some.inj (this.symm.trans e2)
 rw[g1,g2]
 exact ih j _ _ (yYA h1') (yYA h2') q1 q2
theorem Inv.dcmp {zy:List (Addr×Obj)}{σ:St}{H:Hp}{s:Shared}(I:Inv X zy σ H s):∀{n:Nat} {x y:V} {k:Bool},DCmp X.K H n x y k->∀{A:Around} {u v:Value},RelV x u->RelV y v->A.units+n<cLine->SeqAt.EqAt A s u v k:=by
 intro n x y k d
 induction d with
 | int i j=>intro A u v r q _;obtain⟨t,rfl⟩:=r;obtain⟨t',rfl⟩:=q;exact SeqAt.EqAt.int_int i t j t'
 | str i j=>intro A u v r q _;obtain⟨t,rfl⟩:=r;obtain⟨t',rfl⟩:=q;exact SeqAt.EqAt.str_str i t j t'
 | intStr i j=>intro A u v r q _;obtain⟨t,rfl⟩:=r;obtain⟨t',rfl⟩:=q;exact SeqAt.EqAt.int_str i t j t'
 | strInt i j=>intro A u v r q _;obtain⟨t,rfl⟩:=r;obtain⟨t',rfl⟩:=q;exact SeqAt.EqAt.str_int i t j t'
 | same a=>intro A u v r q _;cases r;cases q;exact SeqAt.EqAt.same _
 | tupInt i ha=>intro A u v r q hu;cases r;obtain⟨t',rfl⟩:=q;obtain⟨its,r1,p1,_⟩:=I.tuple ha;exact SeqAt.EqAt.tuple_int i t' (show s.heap.IsTuple _ its.toArray from p1) (by omega)
 | intTup i ha=>intro A u v r q hu;cases q;obtain⟨t',rfl⟩:=r;obtain⟨its,r1,p1,_⟩:=I.tuple ha;exact SeqAt.EqAt.int_tuple i t' (show s.heap.IsTuple _ its.toArray from p1) (by omega)
 | tupStr i ha=>intro A u v r q hu;cases r;obtain⟨t',rfl⟩:=q;obtain⟨its,r1,p1,_⟩:=I.tuple ha;exact SeqAt.EqAt.tuple_str i t' (show s.heap.IsTuple _ its.toArray from p1) (by omega)
 | strTup i ha=>intro A u v r q hu;cases q;obtain⟨t',rfl⟩:=r;obtain⟨its,r1,p1,_⟩:=I.tuple ha;exact SeqAt.EqAt.str_tuple i t' (show s.heap.IsTuple _ its.toArray from p1) (by omega)
 | @lst n a b xs ys e k ha hb hl hsame hk _ ih=>
  intro A u v r q hu
  cases r;cases q
  obtain⟨its,r1,p1,_⟩:=I.list ha
  obtain⟨its2,r2,p2,_⟩:=I.list hb
  by_cases hab:a=b
  .rw[hsame hab];subst hab;exact SeqAt.EqAt.same _
  .refine SeqAt.EqAt.of_refs hab ?_
   have sz:its.toArray.size=its2.toArray.size:=by rw[yYD,yYD,<- r1.length,<- r2.length,hl]
   have:=SeqAt.RcAt.lists (A:=A) (s:=s) (e:=e) p1.isList p2.isList sz (by omega) (qQn r1 r2 fun j x y h1 h2 {u v} q1 q2=>ih j x y h1 h2 q1 q2 (by show A.units+1+n<cLine;omega))
   rwa [yYD,<- r1.length,hk] at this
 | @lstLen n a b xs ys ha hb hl=>
  intro A u v r q hu
  cases r;cases q
  obtain⟨its,r1,p1,_⟩:=I.list ha
  obtain⟨its2,r2,p2,_⟩:=I.list hb
  have ne:(its.toArray.size != its2.toArray.size)=true:=by
   rw[yYD,yYD,<- r1.length,<- r2.length]
   simpa using hl
  by_cases hab:a=b
  .subst hab
   exact absurd (congrArg List.length (I.list_inj ha hb)) hl
  .exact SeqAt.EqAt.of_refs hab (SeqAt.RcAt.lists_lengths p1.isList p2.isList ne (by omega))
 | @tup n a b xs ys e k ha hb hsame hk _ ih=>
  intro A u v r q hu
  cases r;cases q
  obtain⟨its,r1,p1,_⟩:=I.tuple ha
  obtain⟨its2,r2,p2,_⟩:=I.tuple hb
  by_cases hab:a=b
  .rw[hsame hab];subst hab;exact SeqAt.EqAt.same _
  .refine SeqAt.EqAt.of_refs hab ?_
   have:=SeqAt.RcAt.tuples (A:=A) (s:=s) (e:=e) (show s.heap.IsTuple a its.toArray from p1) (show s.heap.IsTuple b its2.toArray from p2) (by omega) (qQn r1 r2 fun j x y h1 h2 {u v} q1 q2=>ih j x y h1 h2 q1 q2 (by show A.units+1+n<cLine;omega))
   rwa [yYD,yYD,<- r1.length,<- r2.length,hk] at this
def rEqX (K:yZN):R2:=fun x y H Q=>∃(n:Nat) (a b:Addr) (xs ys:List V) (e:Nat->Bool),n<=60/\x=.ref a/\y=.ref b/\SqT K H a xs/\SqT K H b ys/\(∀(j:Nat) x y,xs[j]? = some x->ys[j]? = some y->DCmp K H n x y (e j))/\Q (.bl ((List.range (min xs.length ys.length)).all e && xs.length == ys.length)) H
theorem xVd {K:yZN}(hu:X.A.units+64<cLine)(hK:X.K=K:=by rfl):OpR X (compareOp .Eq) (rEqX K):=by
 subst hK
 intro zy s σ H x y v u Q I rx ry h
 obtain⟨n,a,b,xs,ys,e,hn,rfl,rfl,ha,hb,hd,q⟩:=h
 cases rx;cases ry
 obtain⟨its,r1,p1,_⟩:=I.tuple ha
 obtain⟨its2,r2,p2,_⟩:=I.tuple hb
 refine SeqAt.RcAt.tuples (e:=e) (show s.heap.IsTuple a its.toArray from p1) (show s.heap.IsTuple b its2.toArray from p2) (by omega) (qQn r1 r2 fun j x y h1 h2 {u v} q1 q2=>I.dcmp (hd j x y h1 h2) q1 q2 (by show X.A.units+1+n<cLine;omega)) _ _ _ _ ?_
 rw[yYD,yYD,<- r1.length,<- r2.length]
 exact⟨.bl _,H,I,rfl,q⟩
def rNeX (K:yZN):R2:=fun x y H Q=>∃(n:Nat) (a b:Addr) (xs ys:List V) (e:Nat->Bool),n<=60/\x=.ref a/\y=.ref b/\SqT K H a xs/\SqT K H b ys/\(∀(j:Nat) x y,xs[j]? = some x->ys[j]? = some y->DCmp K H n x y (e j))/\Q (.bl (!((List.range (min xs.length ys.length)).all e && xs.length == ys.length))) H
theorem xVw {K:yZN}(hu:X.A.units+64<cLine)(hK:X.K=K:=by rfl):OpR X (compareOp .NotEq) (rNeX K):=by
 subst hK
 intro zy s σ H x y v u Q I rx ry h
 obtain⟨n,a,b,xs,ys,e,hn,rfl,rfl,ha,hb,hd,q⟩:=h
 cases rx;cases ry
 obtain⟨its,r1,p1,_⟩:=I.tuple ha
 obtain⟨its2,r2,p2,_⟩:=I.tuple hb
 refine SeqAt.RcNeAt.tuples (e:=e) (show s.heap.IsTuple a its.toArray from p1) (show s.heap.IsTuple b its2.toArray from p2) (by omega) (qQn r1 r2 fun j x y h1 h2 {u v} q1 q2=>I.dcmp (hd j x y h1 h2) q1 q2 (by show X.A.units+1+n<cLine;omega)) _ _ _ _ ?_
 rw[yYD,yYD,<- r1.length,<- r2.length]
 exact⟨.bl _,H,I,rfl,q⟩
end
end L2
namespace L2
open PySem PySem.Spec PyProof.Rows
section
variable {prog:Program}{w:World}{A:Around}{E:Value->Shared->Prop}
theorem qDk {it l:Addr}{items:Array Value}(hne:l≠it):∀(n i:Nat) (s:Shared) (Q:List Value->Shared->Prop),s.heap.IsListIter it l i->s.heap.IsList l items->i+n<=items.size->
  (∀h',h'.IsListIter it l (i+n)->Heap.SameBut it s.heap h'->Q ((items.toList.drop i).take n) { s with heap:=h' })->wpAny (model prog w) A (draw (.ref it) n) Q E s
 | 0,i,s,Q,hit,_,_,hQ=>by
  show wpAny _ _ (pure []) Q E s
  exact yYW (by simpa using hQ s.heap hit (Heap.SameBut.refl ..))
 | n+1,i,s,Q,hit,hl,hle,hQ=>by
  have lt:i<items.size:=by omega
  show wpAny _ _ (pyNext (.ref it) >>= _) Q E s
  refine yYV (wpAny_pyNext_list_item hit hl (x:=items[i]) (by simp[lt]) fun h1 hit1 s1=>?_)
  refine yYV (wpAny_holding (qDk hne n (i+1) _ _ hit1 (items:=items) (let ⟨o,ho,r⟩:=hl;⟨o,(s1.2 l hne).trans ho,r⟩) (by omega) fun h2 hit2 s2=>yYW ?_))
  have hd:items.toList.drop i=items[i]::items.toList.drop (i+1):=by simp[List.drop_eq_getElem_cons,lt]
  have:=hQ h2 (by rw[show i+(n+1)=i+1+n by omega];exact hit2) (s1.trans s2)
  rw[hd,List.take_succ_cons] at this
  exact this
theorem qEv {s:Shared}{l:Addr}{items:Array Value}{Q:List Value->Shared->Prop}(hh:A.handled=none)(hl:s.heap.IsList l items)
  (hQ:∀h',Heap.ExtBut s.heap.objs.size s.heap h'->Q items.toList { s with heap:=h' }):wpAny (model prog w) A (unpackItems (.ref l) items.size none) Q E s:=by
 have hlt:l≠s.heap.objs.size:=by obtain⟨o,ho,_⟩:=hl;exact yZD (yYY ho)
 unfold unpackItems
 refine yYV ?_
 .unfold notIterableAtAll
  refine yYV (wpAny_specialOf hl.typeIs slot_list_iter.lookup ?_)
  refine yYW ?_
  simp only[yZI,if_false]
  refine yYV (wpAny_holding (wpAny_pyIter_list hl ?_))
  refine yYV (wpAny_holding (qDk hlt items.size 0 _ _ ⟨_,yYZ _ rfl,rfl,rfl⟩ (hl.push _) (by omega) fun h1 hit1 s1=>?_))
  have all:List.take items.size (List.drop 0 items.toList)=items.toList:=by
   rw[List.drop_zero];exact Yl (by simp)
  rw[all]
  rw[if_neg (by simp)]
  have hl1:h1.IsList l items:=let ⟨o,ho,r⟩:=hl.push { cls:=.type "list_iterator",data:=.fields #[.ref l,.int 0 0] };⟨o,(s1.2 l hlt).trans ho,r⟩
  refine yYV (wpAny_holding (wpAny_pyNext_list_end hh hit1 hl1 (by simp) fun h2 e2=>?_))
  simp only[Option.isSome_none,yZI,if_false]
  exact yYW (hQ h2 fun b o hb e=>e2 b o hb (s1.extBut b o hb (yYX _ e)))
end
def gLst (K:yZN)(n:Nat)(t:TGs):TG:=fun v σ H Q=>∃a xs,v=.ref a/\SqL K H a xs/\xs.length=n/\t xs σ H Q
section
variable {X:Cx}{K:yZN}{pos:Pos}
theorem xVx {es:List Expr}{k:Nat}{t:TGs}{n:Nat}(hc:X.calm=true)(h:PGs X es t)
  (hn:(assignEach es X.env).length=n:=by rfl) (hst:(assignEach es X.env).findIdx? (·.1)=none:=by rfl) (hK:X.K=K:=by rfl):PG X (.Tuple es k pos) (gLst K n t):=by
 subst hK
 intro zy s σ H v u Q I r hw
 obtain⟨a,xs,e1,hq,hl,hw⟩:=hw
 subst e1
 cases r
 obtain⟨its,rv,ht,hz⟩:=I.list hq
 have len:=rv.length
 rw[assign_Tuple]
 refine yYV (wpAny_standAt ?_)
 unfold unpack
 rw[hst,show(assignEach es X.env).length=its.toArray.size by simp[hn,<- hl,len]]
 refine yYV (wpAny_holding (qEv (I.ok.hd hc) ht.isList fun h' hx=>?_))
 have I1:Inv X zy σ H { s with heap:=h' }:=I.kept (t':=s.toks) fun b o e=>hx b o (yZD (yYY e)) e
 exact h zy _ σ H xs _ Q I1 (by simpa using rv) hw
end
end L2
namespace L2
open PySem PySem.Spec PyProof.Rows
theorem qPc {α:Type}(ys:List α):∀n,n<=ys.length->(List.range n).filterMap (ys[·]?)=ys.take n:=by
 intro n
 induction n with
 | zero=>intro _;rfl
 | succ n ih=>
  intro h
  rw[Yx,List.filterMap_append,ih (by omega),yYM,yYA (by omega)]
  show _++[n].filterMap _=_
  rw[Yu,yYA (by omega)]
  rfl
theorem xZd {α β:Type}{f g:α->Option β}{l:List α}(h:∀k∈l,f k=g k):l.filterMap f=l.filterMap g:=by
 induction l with
 | nil=>rfl
 | cons a l ih=>rw[Yu,Yu,h a yYG,ih fun k hk=>h k (yYH _ hk)]
theorem qYg {α:Type}(ys:List α):((List.range ys.length).map fun k:Nat=>((ys.length:Int) - 1 + -1 * (k:Int)).toNat).filterMap (ys[·]?)=ys.reverse:=by
 rw[List.filterMap_map]
 have e:∀k∈List.range ys.length,((ys[·]?)∘fun k:Nat=>((ys.length:Int) - 1 + -1 * (k:Int)).toNat) k=ys.reverse[k]? := fun k hk=>by
  have:=List.mem_range.mp hk
  rw[List.getElem?_reverse this]
  show ys[((ys.length:Int) - 1 + -1 * (k:Int)).toNat]? = _
  rw[show((ys.length:Int) - 1 + -1 * (k:Int)).toNat=ys.length - 1 - k by omega]
 rw[xZd e]
 have:=qPc ys.reverse ys.length (by rw[Yh];exact yZB _)
 rw[this,<- Yh,yYJ]
theorem qMw (n:Nat):sliceRange (sliceBounds none none (some (-1)) n).1 (sliceBounds none none (some (-1)) n).2.1 (sliceBounds none none (some (-1)) n).2.2=(List.range n).map fun k:Nat=>((n:Int) - 1 + -1 * (k:Int)).toNat:=by
 show sliceRange ((n:Int) - 1) (-1) (-1)=_
 unfold sliceRange
 have e:(if (-1:Int)>0 then (if (n:Int) - 1 < -1 then (-1 - ((n:Int) - 1) + -1 - 1) / -1 else 0) else (if (n:Int) - 1 > -1 then ((n:Int) - 1 - -1 - -1 - 1) / (- -1) else 0)).toNat=n:=by
  rw[if_neg (by decide)]
  by_cases h:(n:Int) - 1 > -1
  .rw[if_pos h]
   show(((n:Int) - 1 - -1 - -1 - 1) / 1).toNat=n
   rw[Int.ediv_one];omega
  .rw[if_neg h];show(0:Int).toNat=n;omega
 show(List.range (if (-1:Int)>0 then (if (n:Int) - 1 < -1 then (-1 - ((n:Int) - 1) + -1 - 1) / -1 else 0) else (if (n:Int) - 1 > -1 then ((n:Int) - 1 - -1 - -1 - 1) / (- -1) else 0)).toNat).map _=_
 rw[e]
def tSlB (K:yZN)(te:TE)(tl th:TO)(ts:TE):TE:=fun σ H Q=>te σ H fun x H1=>tl σ H1 fun l H2=>th σ H2 fun u H3=>ts σ H3 fun c H4=>
 ∃a xs,x=.ref a/\l=none/\u=none/\c=.int (-1)/\SqL K H4 a xs/\∀p:Addr,H4 p=none->Q (.ref p) (upd H4 p (.lst xs.reverse))
section
variable {X:Cx}{K:yZN}{e st:Expr}{te ts:TE}{lo hi:Option Expr}{tl th:TO}{pos p2:Pos}
theorem qYl (he:PE X e te)(hl:PO X lo tl)(hu:PO X hi th)(hst:PE X st ts)(hK:X.K=K:=by rfl):PE X (.Subscript e (.Slice lo hi (some st) p2) pos) (tSlB K te tl th ts):=by
 subst hK
 intro zy s σ H Q I h
 refine Subscript_ (thn (he zy s σ H _ I h) fun v s1 ⟨x,H1,I1,r1,q1⟩=>?_)
 refine wpAny_Slice (thn (hl zy s1 σ H1 _ I1 q1) fun vl s2 ⟨l,H2,I2,pl,q2⟩=>thn (hu zy s2 σ H2 _ I2 q2) fun vu s3 ⟨u,H3,I3,pu,q3⟩=>?_)
 rw[evalPart_some]
 refine thn (hst zy s3 σ H3 _ I3 q3) fun vs s4 ⟨c,H4,I4,r4,q4⟩=>?_
 obtain⟨a,xs,rfl,rfl,rfl,rfl,hx,q⟩:=q4
 cases r1
 obtain⟨t,rfl⟩:=r4
 have I5:Inv X zy σ H4 { s4 with heap:=s4.heap.push { cls:=.type "slice",data:=.fields #[vl,vu,.int (-1) t] } }:=I4.kept (t':=s4.toks) fun b ob q=>yYX _ q
 obtain⟨its,r,ht,hz⟩:=I5.list hx
 have hlen:=r.length
 show wpAny (model X.prog X.w) X.A (subscriptTail e (.Slice lo hi (some st) p2) (.ref a) (.ref s4.heap.objs.size)) (EP X zy σ Q) X.xe { s4 with heap:=s4.heap.push { cls:=.type "slice",data:=.fields #[vl,vu,.int (-1) t] } }
 refine tail_any (ops:=[.ref a,.ref s4.heap.objs.size]) ht.isList.typeIs slot_list_getitem.lookup ?_ (by with_unfolding_all rfl)
 refine wpAny_getItem_list_slice ht.isList (Heap.IsSliceOf.new ..) pl pu (.int (-1) t) (fun z=>by have:=Option.some.inj z;omega) ?_ (by rw[yYD] <;> omega)
 unfold slicePick
 rw[qMw,show its.toArray.size=its.length by simp]
 rw[show((List.range its.length).map fun k:Nat=>((its.length:Int) - 1 + -1 * (k:Int)).toNat).filterMap (fun x=>its.toArray[x]?)=((List.range its.length).map fun k:Nat=>((its.length:Int) - 1 + -1 * (k:Int)).toNat).filterMap (its[·]?) by simp]
 have pk:=r.pick ((List.range its.length).map fun k:Nat=>((its.length:Int) - 1 + -1 * (k:Int)).toNat)
 have e1:=qYg xs
 rw[hlen] at e1
 rw[qYg,e1] at pk
 rw[qYg]
 refine⟨.ref _,_,I5.laid (t':=s4.toks) (o:=.lst xs.reverse) (fun b ob q=>yYX _ q) (yZB _) ?_,rfl,q _ (I5.hok.fresh (yZB _))⟩
 exact⟨by rw[Yh];omega,_,0,pk,yYZ _ rfl⟩
end
end L2
local macro_rules | `(tactic| wtm_at "zh")=>`(tactic| first | assumption | exact L2.qW | (refine L2.qV (by assumption) _ _ _ ?_;wtm_at "zh") | (refine(show L2.Same _ _ by assumption) _ _ ?_;wtm_at "zh"))
local macro_rules | `(tactic| wtm_at "zs")=>`(tactic| first | assumption | exact L2.SqT.of (by wtm_at "zh") | exact L2.SqL.of (by wtm_at "zh") | (refine L2.Same.seq (by assumption) ?_;wtm_at "zs"))
local macro_rules | `(tactic| wtm_at "zo")=>`(tactic| first | exact Or.inl rfl | exact Or.inr rfl)
local macro_rules | `(tactic| wtm_at "zat")=>`(tactic| first | rfl | assumption | exact L2.qBx _ _ | exact FP.qIe (by assumption) | exact L2.jM (by assumption))
local macro_rules | `(tactic| wtm_at"z")=>`(tactic| repeat first
 | (with_reducible first | apply L2.xEv | apply L2.xEn | apply L2.w_c | apply L2.xAm | apply L2.w_op | apply L2.w_un | apply L2.w_I0 | apply L2.w_U | apply L2.xAf | apply L2.w_B | apply L2.w_bl | apply L2.xEl | apply L2.w_not | apply L2.w_or | apply L2.xBw | apply L2.xEa | apply L2.xAi | apply L2.w_if | apply L2.xEf | apply L2.xBj | apply L2.xEw | apply L2.xAl | apply L2.xBk | apply L2.xEb | apply L2.xBv | apply L2.w_cb | apply L2.xEk | apply L2.xEc | apply L2.xEm | apply L2.w_bm | apply L2.w_sl | apply L2.xQk | apply L2.xAh | apply L2.xBx | apply L2.xKc | apply L2.xKb | apply L2.xAn | apply L2.xAg | apply L2.xEj | apply L2.xKw | apply L2.xQj | apply L2.xAo)
 | ((with_reducible show L2.tVar _ _ _ _);refine L2.w_var rfl ?_)
 | ((with_reducible show L2.rEq _ _ _ _);refine L2.w_eq rfl ?_)
 | ((with_reducible show L2.rNe _ _ _ _);refine L2.w_ne rfl ?_)
 | ((with_reducible show L2.rIxT _ _ _ _ _);refine L2.xEd (by wtm_at "zs") (by wtm_at "zat") ?_)
 | ((with_reducible show L2.rIxL _ _ _ _ _);refine L2.xEe (by wtm_at "zs") (by wtm_at "zat") ?_)
 | ((with_reducible show L2.gTup _ _ _ _ _ _ _);refine L2.xBq (by wtm_at "zs") rfl ?_)
 | ((with_reducible show L2.rLen _ _ _ _);refine L2.w_len (by first | exact .inl (by wtm_at "zs") | exact .inr (by wtm_at "zs")) ?_)
 | apply L2.yB (FP.jD _)
 | refine L2.zQ (FP.xV (by assumption)) ?_
 | refine L2.zQ (FP.xV (by wtm_at"d")) ?_
 | (with_reducible first | apply L2.iteT | apply L2.iteF | apply L2.iteNT | apply L2.iteNF))
local macro_rules | `(tactic| wtm_at "zf")=>`(tactic| wtm_at"z";(with_reducible first | apply L2.xEh | apply L2.qNm);wtm_at"z")
set_option tactic.hygienic false
namespace FP
open PySem L2
structure Bl (mg:Str->Option Value):Prop where
 len':mg "len" = none
 range':mg "range" = none
 min':mg "min" = none
 isinstance':mg "isinstance" = none
 list':mg "list" = none
 reversed':mg "reversed" = none
 tuple':mg "tuple" = none
 int':mg "int" = none
 bool':mg "bool" = none
 dict':mg "dict" = none
 zip':mg "zip" = none
structure FunE (K:yZN)(mg:Str->Option Value)(x:Str)(f:Addr)(fd:FuncData)(ps:List Str):Prop where
 mg:mg x=some (.ref f)
 kp:PySem.W.keepIn K (.ref f)=true
 bd:Binds K fd ps []
section
seal L2.PE L2.PA L2.PS L2.PSs
variable {P:Program}{w:World}{K:yZN}{mg:Str->Option Value}{base:Heap}
theorem xCg {n:Int}{B:Nat}(h0:0<=n)(h:n<(B:Int)):n.natAbs<B:=by omega
theorem big (n:Int)(h0:0<=n)(h:n<10 ^ 200):n.natAbs<2 ^ 1000:=xCg h0 (Int.lt_of_lt_of_le h (by wtm_at"d"))
theorem qVf {a b c d:Int}(ha:0<=a)(hb:0<=b)(h1:a<=c)(h2:b<=d):0<=a * b/\a * b<=c * d:=
 ⟨Int.mul_nonneg ha hb,Int.mul_le_mul h1 h2 hb (Int.le_trans ha h1)⟩
theorem qPh {t u:TT}{σ:St}{H:Hp}{b1 b2:Bool}(h1:∀K:Bool->Hp->Prop,K b1 H->t σ H K)(h2:∀K:Bool->Hp->Prop,K b2 H->u σ H K):∀K:Bool->Hp->Prop,K (b1 || b2) H->tOr t u σ H K:=fun K h=>by
 refine h1 _ ?_
 cases b1 with
 | true=>rw[if_pos rfl];rw[Bool.true_or] at h;exact h
 | false=>rw[if_neg yZJ];rw[Bool.false_or] at h;exact h2 _ h
theorem qYc:xM ["deck","many","taken"] ["deck","many"] (xA (top 68)):=by constructor <;> first | rfl | wtm_at"d"
def spTake:Sp:=fun vs H Q _=>∃(dk:Addr) (m de:Int),vs=[.ref dk,.int m]/\H dk=some (.lst [.int de])/\0<m/\m.natAbs<2 ^ 1000/\∀x d':Int,0<=x->x<m->Q (.int x) (upd H dk (.lst [.int d']))
theorem xVh {f:Addr}{fd:FuncData}(F:Fun K "_law_take" "_law_take" (top 68) f fd):FnOk P w K mg base CX0 1 f fd ["deck","many"] spTake:=by
 refine F.ok qYc (fun vs H Q E h=>?_) (fun zx A outer s H vs Q E hr h=>?_)
 .obtain⟨dk,m,de,rfl,_⟩:=h
  rfl
 obtain⟨dk,m,de,rfl,hd,h0,h1,q⟩:=h
 refine⟨_,(qZ (xF (i:=2) qYc.nd rfl (xQ kY (xE (qT (K:=K)) (pv 0) qE) (pv 1)))
  (qZ (qO (xQ vH (xE (qT (K:=K)) (pv 0) qE) (pv 1)) (xBh (pv 0) qE xQm))
  (qJ (qN (pv 2))))),?_⟩
 refine⟨_,rfl,dk,_,0,.int de,rfl,rfl,SqL.of hd,rfl,_,rfl,de,m,rfl,rfl,h0,?_⟩
 refine⟨_,rfl,dk,_,0,.int de,rfl,rfl,SqL.of hd,rfl,_,rfl,de,m,rfl,rfl,⟨h0,h1⟩,?_⟩
 refine⟨_,rfl,dk,[.int de],0,0,rfl,rfl,hd,rfl,?_⟩
 exact⟨_,rfl,q _ _ (Zb _ (by omega)) (Za _ h0)⟩
theorem qVq:xM ["script","k"] ["script","k"] (xA (top 64)):=by constructor <;> first | rfl | wtm_at"d"
def spCell (K:yZN):Sp:=fun vs H Q _=>∃(a:Addr) (ns:List Int) (k:Int),vs=[.ref a,.int k]/\SqL K H a (ns.map V.int)/\0<=k/\∀c:Int,Q (.int c) H
theorem xVm {f:Addr}{fd:FuncData}(F:Fun K "_law_cell_at" "_law_cell_at" (top 64) f fd)(B:Bl mg):FnOk P w K mg base CX0 1 f fd ["script","k"] (spCell K):=by
 refine F.ok qVq (fun vs H Q E h=>?_) (fun zx A outer s H vs Q E hr h=>?_)
 .obtain⟨a,ns,k,rfl,_⟩:=h
  rfl
 obtain⟨a,ns,k,rfl,hS,h0,q⟩:=h
 refine⟨_,(qZ (zD (qR qAx (pv 1) (xZ (jX (K:=K)) rfl B.len' jO (qQ (pv 0) qX)) (xD _)) (qJ (qN (xE (qT (K:=K)) (pv 0) (pv 1)))) qY)
  (qJ (qN qE))),?_⟩
 refine⟨_,rfl,_,rfl,a,_,rfl,.inl hS,_,_,rfl,rfl,_,rfl,?_⟩
 refine ite2 (fun c=>?_) (fun c=>?_)
 .have c':k<(((ns.map V.int).length:Nat):Int):=of_decide_eq_true c
  rw[yYC] at c'
  have hk:k.toNat<ns.length:=by omega
  have e:k=((k.toNat:Nat):Int):=by omega
  have z:atI (ns.map V.int) ((k.toNat:Nat):Int)=some (.int ns[k.toNat]):=jM (by rw[yYO,yYA hk] <;> rfl)
  rw[<- e] at z
  exact⟨_,rfl,_,rfl,a,_,k,_,rfl,rfl,hS,z,q _⟩
 .exact q 0
theorem qQj:xM ["cell","k","number"] ["cell","k"] (xA (top 65)):=by constructor <;> first | rfl | wtm_at"d"
def spStir:Sp:=fun vs H Q _=>∃c k:Int,vs=[.int c,.int k]/\0<=k/\k<=1000/\∀x:Int,0<=x->x<10 ^ 61->Q (.int x) H
theorem stir1 {c k:Int}(h0:0<=k)(h1:k<=1000):0<=c % 10 ^ 40 * 48271+3 ^ 60 * (k+1) * (k+1)+k/\c % 10 ^ 40 * 48271+3 ^ 60 * (k+1) * (k+1)+k<10 ^ 46:=by
 have a1:0<=c % 10 ^ 40:=Zb _ (by wtm_at"d")
 have a2:c % 10 ^ 40<10 ^ 40:=Za _ (by wtm_at"d")
 have b1:=qVf (a:=3 ^ 60) (b:=k+1) (c:=3 ^ 60) (d:=1001) (by wtm_at"d") (by omega) (Int.le_refl _) (by omega)
 have b2:=qVf (a:=3 ^ 60 * (k+1)) (b:=k+1) (c:=3 ^ 60 * 1001) (d:=1001) b1.1 (by omega) b1.2 (by omega)
 have e1:(3:Int) ^ 60 * 1001 * 1001<=10 ^ 40:=by wtm_at"d"
 have e2:(10:Int) ^ 40 * 48271+10 ^ 40+1000<10 ^ 46:=by wtm_at"d"
 generalize c % 10 ^ 40=a at *
 generalize 3 ^ 60 * (k+1) * (k+1)=b at *
 have m:a * 48271<=10 ^ 40 * 48271:=Int.mul_le_mul_of_nonneg_right (Int.le_of_lt a2) (by decide)
 have n0:0<=a * 48271:=Int.mul_nonneg a1 (by decide)
 generalize a * 48271=z at *
 generalize (10:Int) ^ 40 * 48271=y at *
 generalize (3:Int) ^ 60 * 1001 * 1001=x at *
 generalize (10:Int) ^ 40=u at *
 generalize (10:Int) ^ 46=v at *
 omega
theorem stir2 {n:Int}(h0:0<=n)(h1:n<10 ^ 46):0<=n * n+69621 * n/\n * n+69621 * n<10 ^ 93:=by
 have b:=qVf h0 h0 (Int.le_of_lt h1) (Int.le_of_lt h1)
 have b2:=qVf (a:=69621) (b:=n) (c:=69621) (d:=10 ^ 46) (by decide) h0 (Int.le_refl _) (Int.le_of_lt h1)
 have e:(10:Int) ^ 46 * 10 ^ 46+69621 * 10 ^ 46<10 ^ 93:=by wtm_at"d"
 generalize n * n=x at *
 generalize 69621 * n=y at *
 generalize (10:Int) ^ 46 * 10 ^ 46=u at *
 generalize 69621 * (10:Int) ^ 46=v at *
 generalize (10:Int) ^ 93=z at *
 omega
theorem lt200 {n:Int}{k:Nat}(h:n<10 ^ k)(hk:(10:Int) ^ k<=10 ^ 200:=by wtm_at"d"):n<10 ^ 200:=Int.lt_of_lt_of_le h hk
theorem xVi {f:Addr}{fd:FuncData}(F:Fun K "_law_stir" "_law_stir" (top 65) f fd):FnOk P w K mg base CX0 1 f fd ["cell","k"] spStir:=by
 refine F.ok qQj (fun vs H Q E h=>?_) (fun zx A outer s H vs Q E hr h=>?_)
 .obtain⟨c,k,rfl,_⟩:=h
  rfl
 obtain⟨c,k,rfl,h0,h1,q⟩:=h
 have a1:0<=c % 10 ^ 40:=Zb _ (by wtm_at"d")
 have a2:c % 10 ^ 40<10 ^ 40:=Za _ (by wtm_at"d")
 have b1:=qVf (a:=3 ^ 60) (b:=k+1) (c:=3 ^ 60) (d:=1001) (by wtm_at"d") (by omega) (Int.le_refl _) (by omega)
 have s1:=stir1 (c:=c) h0 h1
 have s2:=stir2 s1.1 s1.2
 have pw:∀i j:Int,0<=j->j<=1000->i.natAbs<2 ^ 64->CPow i j:=fun i j x y z=>⟨x,by omega,z⟩
 refine⟨_,(qZ (xF (i:=2) qQj.nd rfl (xQ jJ (xQ jJ (xQ yE (xQ kY (pv 0) (xQ kU qE qE)) qE) (xQ yE (xQ yE (xQ kU qE qE) (xQ jJ (pv 1) qE)) (xQ jJ (pv 1) qE))) (pv 1)))
  (qZ (xF (i:=2) qQj.nd rfl (xQ jJ (xQ yE (pv 2) (pv 2)) (xQ yE qE (pv 2))))
  (qJ (qN (xQ vH (xQ kY (xQ yE (pv 2) (pv 2)) (xQ jJ (xQ kU qE qE) qE)) qE))))),?_⟩
 refine⟨_,rfl,10,40,rfl,rfl,pw 10 40 (by decide) (by decide) (by decide),c,_,rfl,rfl,(by wtm_at"d":(0:Int)<10 ^ 40),_,_,rfl,rfl,
  ⟨big _ a1 (lt200 a2),by wtm_at"d"⟩,3,60,rfl,rfl,pw 3 60 (by decide) (by decide) (by decide),_,rfl,_,_,rfl,rfl,_,_,rfl,rfl,
  ⟨by wtm_at"d",big _ (by omega) (Int.lt_of_le_of_lt (b:=1001) (by omega) (by wtm_at"d"))⟩,_,rfl,_,_,rfl,rfl,_,_,rfl,rfl,
  ⟨big _ b1.1 (Int.lt_of_le_of_lt b1.2 (by wtm_at"d")),big _ (by omega) (Int.lt_of_le_of_lt (b:=1001) (by omega) (by wtm_at"d"))⟩,_,_,rfl,rfl,_,rfl,_,_,rfl,rfl,?_⟩
 obtain⟨n,hn⟩:∃n,n=c % 10 ^ 40 * 48271+3 ^ 60 * (k+1) * (k+1)+k:=⟨_,rfl⟩
 rw[<- hn] at s1 s2
 refine⟨_,rfl,_,rfl,n,n,(by subst hn;rfl),(by subst hn;rfl),⟨big _ s1.1 (lt200 s1.2),big _ s1.1 (lt200 s1.2)⟩,_,rfl,69621,n,rfl,(by subst hn;rfl),⟨by wtm_at"d",big _ s1.1 (lt200 s1.2)⟩,_,_,rfl,rfl,?_⟩
 obtain⟨m,hm⟩:∃m,m=n * n+69621 * n:=⟨_,rfl⟩
 rw[<- hm] at s2
 refine⟨_,rfl,_,rfl,m,m,(by subst hm;rfl),(by subst hm;rfl),⟨big _ s2.1 (lt200 s2.2),big _ s2.1 (lt200 s2.2)⟩,10,61,rfl,rfl,pw 10 61 (by decide) (by decide) (by decide),_,7,rfl,rfl,m * m,10 ^ 61+7,rfl,rfl,(show(0:Int)<10 ^ 61+7 by wtm_at"d"),_,8,rfl,rfl,⟨by decide,by wtm_at"d"⟩,?_⟩
 have r1:0<=m * m % (10 ^ 61+7):=Zb _ (by wtm_at"d")
 have r2:m * m % (10 ^ 61+7)<10 ^ 61+7:=Za _ (by wtm_at"d")
 have e:(10:Int) ^ 61>=100:=by wtm_at"d"
 refine q _ ?_ ?_
 .generalize m * m % (10 ^ 61+7)=z at r1
  omega
 .generalize m * m % (10 ^ 61+7)=z at r1 r2 ⊢
  generalize (10:Int) ^ 61=y at *
  omega
theorem qEh:xM ["cell"] ["cell"] (xA (top 67)):=by constructor <;> first | rfl | wtm_at"d"
def spDeck:Sp:=fun vs H Q _=>∃c:Int,vs=[.int c]/\∀(r:Addr) (d:Int),H r=none->Q (.ref r) (upd H r (.lst [.int d]))
theorem xVl {f g:Addr}{fd gd:FuncData}(F:Fun K "_law_deck" "_law_deck" (top 67) f fd)(km:FnOk P w K mg base CX0 1 g gd ["cell","k"] spStir)(jh:FunE K mg "_law_stir" g gd ["cell","k"]):
  FnOk P w K mg base CX0 2 f fd ["cell"] spDeck:=by
 refine F.ok qEh (fun vs H Q E h=>?_) (fun zx A outer s H vs Q E hr h=>?_)
 .obtain⟨c,rfl,_⟩:=h
  rfl
 obtain⟨c,rfl,q⟩:=h
 have pw:∀i j:Int,0<=j->j<=1000->i.natAbs<2 ^ 64->CPow i j:=fun i j x y z=>⟨x,by omega,z⟩
 have t60:((10:Int) ^ (60:Int).toNat).natAbs<2 ^ 1000:=by wtm_at"d"
 refine⟨_,(qZ (zD (qR xVc (pv 0) (xQ kU qE qE) (xD _)) (qJ (qN (xU (qQ (xQ wJ (pv 0) (xQ kU qE qE)) qX)))) qY)
  (qJ (qN (xU (qQ (xQ jJ (xQ yE (xQ jJ (xQ yE (zU km hr rfl jh.mg jh.kp jh.bd .nil pass0 (qQ (pv 0) (qQ qE qX))) (xQ kU qE qE)) (zU km hr rfl jh.mg jh.kp jh.bd .nil pass0 (qQ (pv 0) (qQ qE qX)))) (xQ kU qE qE)) (zU km hr rfl jh.mg jh.kp jh.bd .nil pass0 (qQ (pv 0) (qQ qE qX)))) qX))))),?_⟩
 refine⟨_,rfl,10,18,rfl,rfl,pw 10 18 (by decide) (by decide) (by decide),_,_,rfl,rfl,_,rfl,?_⟩
 refine ite2 (fun c=>?_) (fun c=>?_)
 .exact⟨_,rfl,10,18,rfl,rfl,pw 10 18 (by decide) (by decide) (by decide),_,_,rfl,rfl,(by show 1<=Yc;decide),fun r hr'=>q r _ hr'⟩
 .refine⟨_,rfl,_,1,rfl,by decide,by decide,fun x hx0 hx1=>?_⟩
  have e1:x.natAbs<2 ^ 1000:=big _ hx0 (lt200 hx1)
  refine⟨10,60,rfl,rfl,pw 10 60 (by decide) (by decide) (by decide),_,_,rfl,rfl,⟨e1,t60⟩,_,rfl,_,2,rfl,by decide,by decide,fun y hy0 hy1=>?_⟩
  refine⟨_,_,rfl,rfl,10,60,rfl,rfl,pw 10 60 (by decide) (by decide) (by decide),_,_,rfl,rfl,⟨?_,t60⟩,_,rfl,_,3,rfl,by decide,by decide,fun z hz0 hz1=>?_⟩
  .have b:=qVf (a:=x) (b:=10 ^ 60) (c:=10 ^ 61) (d:=10 ^ 60) hx0 (by wtm_at"d") (Int.le_of_lt hx1) (Int.le_refl _)
   have e:(10:Int) ^ 61 * 10 ^ 60+10 ^ 61<10 ^ 200:=by wtm_at"d"
   refine big _ ?_ ?_
   .show 0<=x * 10 ^ 60+y
    generalize x * 10 ^ 60=u at *
    omega
   .show x * 10 ^ 60+y<10 ^ 200
    generalize x * 10 ^ 60=u at *
    generalize (10:Int) ^ 61 * 10 ^ 60=v at *
    generalize (10:Int) ^ 61=v2 at *
    generalize (10:Int) ^ 200=v3 at *
    omega
  .exact⟨_,_,rfl,rfl,(by show 1<=Yc;decide),fun r hr'=>q r _ hr'⟩
theorem yN:xM ["cell","sizes","found","rest","k"] ["cell","sizes"] (xA (top 66)):=by constructor <;> first | rfl | wtm_at"d"
def Below (xs szs:List Int):Prop:=∀(i:Nat) (x z:Int),xs[i]? = some x->szs[i]? = some z->0<=x/\x<z
def qWh:Sp:=fun vs H Q _=>∃(c:Int) (a:Addr) (szs:List Int),vs=[.int c,.ref a]/\H a=some (.lst (intsV szs))/\szs.length<=100/\(∀z∈szs,0<z/\z<2 ^ 64)/\
 ∀(r:Addr) (xs:List Int),H r=none->xs.length=szs.length->Below xs szs->Q (.ref r) (upd H r (.lst (intsV xs)))
theorem qNg {xs szs:List Int}{x z:Int}(h:Below xs szs)(hz:szs[xs.length]? = some z)(h0:0<=x)(h1:x<z):Below (xs++[x]) szs:=fun i y u e1 e2=>by
 by_cases hi:i<xs.length
 .rw[Ys hi] at e1
  exact h i y u e1 e2
 .by_cases he:i=xs.length
  .subst he
   rw[Yj (yZB _),Nat.sub_self] at e1
   have e1:some x=some y:=e1
   cases e1
   rw[hz] at e2
   cases e2
   exact⟨h0,h1⟩
  .rw[Yj (by omega)] at e1
   have:i - xs.length=(i - xs.length - 1)+1:=by omega
   rw[this] at e1
   simp at e1
theorem qIe {ns:List Int}{k:Nat}{z:Int}(h:ns[k]? = some z):atI (intsV ns) (k:Int)=some (.int z):=jM (by rw[yYO,h];rfl)
theorem xXg {f g:Addr}{fd gd:FuncData}(F:Fun K "_law_drawn" "_law_drawn" (top 66) f fd)(B:Bl mg)(km:FnOk P w K mg base CX0 1 g gd ["cell","k"] spStir)(jh:FunE K mg "_law_stir" g gd ["cell","k"]):
  FnOk P w K mg base CX0 2 f fd ["cell","sizes"] qWh:=by
 refine F.ok yN (fun vs H Q E h=>?_) (fun zx A outer s H vs Q E hr h=>?_)
 .obtain⟨c,a,szs,rfl,_⟩:=h
  rfl
 obtain⟨c,a,szs,rfl,ha,hl,hz,q⟩:=h
 have pw:∀i j:Int,0<=j->j<=1000->i.natAbs<2 ^ 64->CPow i j:=fun i j x y z=>⟨x,by omega,z⟩
 have hlen:(intsV szs).length=szs.length:=yYC _
 refine⟨_,(qZ (xF (i:=2) yN.nd rfl (xU qX))
  (qZ (xF (i:=3) yN.nd rfl (xQ wJ (pv 0) (xQ kU qE qE)))
  (qZ (zH PassesOwn.never rfl (yZ rfl B.range' (qQ (xZ (jX (K:=K)) rfl B.len' jO (qQ (pv 1) qX)) qX)) (qG (i:=4) yN.nd rfl (by wtm_at "zo")) (qJ (zD (qR xVc (pv 0) (xQ kU qE qE) (xD _)) (qZ (qP (zX (K:=K) Yy Yz YT xO (pv 2) (qQ (xQ kY (pv 3) (xE (qT (K:=K)) (pv 1) (pv 4))) qX)))
  (qJ (xF (i:=3) yN.nd rfl (xQ vH (pv 3) (xE (qT (K:=K)) (pv 1) (pv 4)))))) (qJ (qP (zX (K:=K) Yy Yz YT xO (pv 2) (qQ (xQ kY (zU km hr rfl jh.mg jh.kp jh.bd .nil pass0 (qQ (pv 0) (qQ (pv 4) qX))) (xE (qT (K:=K)) (pv 1) (pv 4))) qX)))))))
  (qJ (qN (pv 2)))))),?_⟩
 refine⟨(by show 0<=Yc;decide),fun r hr'=>?_⟩
 have har:a≠r:=qB ha hr'
 refine⟨_,rfl,10,18,rfl,rfl,pw 10 18 (by decide) (by decide) (by decide),_,_,rfl,rfl,?_⟩
 have e1:upd H r (.lst []) a=some (.lst (intsV szs)):=by rw[qA har];exact ha
 refine⟨_,rfl,a,_,rfl,.inl (SqL.of e1),_,rfl,by omega,by omega,?_⟩
 refine qDx (fun i σ' H'=>∃(xs:List Int) (re:Int) (z:Option V),σ'=[some (.int c),some (.ref a),some (.ref r),some (.int re),z]/\H'=upd H r (.lst (intsV xs))/\xs.length=i/\Below xs szs)
  ⟨[],_,none,rfl,rfl,rfl,fun i x z e=>by simp at e⟩ ?_ ?_
 .rintro i σ' H' hi ⟨xs,re,zz,rfl,rfl,hxi,hb⟩
  have hi:i<szs.length:=by
   have:(((intsV szs).length:Nat):Int).toNat=szs.length:=by rw[hlen];omega
   rw[this] at hi
   exact hi
  subst hxi
  obtain⟨z,ez⟩:∃z,szs[xs.length]? = some z:=⟨_,yYA hi⟩
  have hz':=hz z (yYE ez)
  have hz1:z.natAbs<2 ^ 1000:=big _ (by omega) (Int.lt_trans hz'.2 (by wtm_at"d"))
  have e0:(0:Int)+(xs.length:Int)=(xs.length:Int):=Int.zero_add _
  have ea:upd H r (.lst (intsV xs)) a=some (.lst (intsV szs)):=by rw[qA har];exact ha
  have at0:atI (intsV szs) (0+(xs.length:Int))=some (.int z):=by rw[e0];exact qIe ez
  have fin:∀x:Int,0<=x->x<z->∀re':Int,∃(ys:List Int) (re:Int) (zz:Option V),[some (V.int c),some (.ref a),some (.ref r),some (.int re'),some (.int (0+(xs.length:Int)))]=[some (V.int c),some (.ref a),some (.ref r),some (.int re),zz]/\
    upd (upd H r (.lst (intsV xs))) r (.lst (intsV xs++[.int x]))=upd H r (.lst (intsV ys))/\ys.length=xs.length+1/\Below ys szs:=fun x h0 h1 re'=>
   ⟨xs++[x],re',_,rfl,by rw[qOq,qVn],by simp,qNg hb ez h0 h1⟩
  have hsz:(intsV xs).length<Yc:=by rw[kA];exact small (by omega)
  refine⟨_,rfl,10,18,rfl,rfl,pw 10 18 (by decide) (by decide) (by decide),_,_,rfl,rfl,_,rfl,?_⟩
  refine ite2 (fun _=>?_) (fun _=>?_)
  .refine⟨_,rfl,.inl ⟨rfl,_,SqL.of qW⟩,_,rfl,_,rfl,_,rfl,a,_,_,_,rfl,rfl,SqL.of ea,at0,_,_,rfl,rfl,hz'.1,r,_,_,rfl,rfl,qW,hsz,?_⟩
   have ea2:upd (upd H r (.lst (intsV xs))) r (.lst (intsV xs++[.int (re % z)])) a=some (.lst (intsV szs)):=by rw[qA har,qA har];exact ha
   refine⟨_,rfl,_,rfl,_,rfl,a,_,_,_,rfl,rfl,SqL.of ea2,at0,_,_,rfl,rfl,⟨hz'.1,hz1⟩,?_⟩
   exact fin _ (Zb _ (by omega)) (Za _ hz'.1) _
  .refine⟨_,rfl,.inl ⟨rfl,_,SqL.of qW⟩,_,rfl,_,rfl,c,0+(xs.length:Int),rfl,by omega,by omega,fun x hx0 hx1=>?_⟩
   refine⟨_,rfl,_,rfl,a,_,_,_,rfl,rfl,SqL.of ea,at0,_,_,rfl,rfl,hz'.1,r,_,_,rfl,rfl,qW,hsz,?_⟩
   exact fin _ (Zb _ (by omega)) (Za _ hz'.1) _
 .rintro σ' H' ⟨xs,re,zz,rfl,rfl,hxi,hb⟩
  have:(((intsV szs).length:Nat):Int).toNat=szs.length:=by rw[hlen];omega
  rw[this] at hxi
  exact⟨_,rfl,q r xs hr' hxi hb⟩
theorem zN {K:yZN}{a:Addr}{xs:List V}{g:TG}{tb:TS}{D:Ends}{σ:St}{H:Hp}(Pv:Nat->St->Hp->Prop)(h0:Pv 0 σ H)(hl:∀i σ H,i<=xs.length->Pv i σ H->SqL K H a xs)
  (hs:∀(N:St->Hp->Prop) (rt:VK) (bk:St->Hp->Prop) i x σ H,xs[i]? = some x->Pv i σ H->(∀σ H,Pv (i+1) σ H->N σ H)->g x σ H fun σ2 H2=>tb ⟨N,rt,bk,N⟩ σ2 H2) (hd:∀σ H,Pv xs.length σ H->D.nx σ H):
  ∃W:Nat->Nat->St->Hp->Prop,(∃m,W 0 m σ H)/\∀i m σ H,W i m σ H->
   ((Itl K a).stop i H/\D.nx σ H)\/((Itl K a).go i H/\∃N:St->Hp->Prop,(∀σ' H',N σ' H'->∃m',m'<m/\W (i+1) m' σ' H')/\∀x H',(Itl K a).yld i H x H'->g x σ H' fun σ2 H2=>tb { D with nx:=N,ct:=N,bk:=D.nx } σ2 H2):=
 wM Pv h0 hl (fun i x σ H e p=>hs _ _ _ i x σ H e p fun _ _ z=>z) hd
theorem vX {lo:Int}{n:Nat}{g:TG}{tb:TS}{D:Ends}{σ:St}{H:Hp}(Pv:Nat->St->Hp->Prop)(h0:Pv 0 σ H)
  (hs:∀(N:St->Hp->Prop) (rt:VK) (bk:St->Hp->Prop) i σ H,i<n->Pv i σ H->(∀σ H,Pv (i+1) σ H->N σ H)->g (.int (lo+i)) σ H fun σ2 H2=>tb ⟨N,rt,bk,N⟩ σ2 H2) (hd:∀σ H,Pv n σ H->D.nx σ H):
  ∃W:Nat->Nat->St->Hp->Prop,(∃m,W 0 m σ H)/\∀i m σ H,W i m σ H->
   ((Itr lo n).stop i H/\D.nx σ H)\/((Itr lo n).go i H/\∃N:St->Hp->Prop,(∀σ' H',N σ' H'->∃m',m'<m/\W (i+1) m' σ' H')/\∀x H',(Itr lo n).yld i H x H'->g x σ H' fun σ2 H2=>tb { D with nx:=N,ct:=N,bk:=D.nx } σ2 H2):=
 qDx Pv h0 (fun i σ H e p=>hs _ _ _ i σ H e p fun _ _ z=>z) hd
theorem laid {H H':Hp}{p:Addr}{o:HO}(n:H p=none)(h:upd H p o=H'):Same H H'/\H' p=some o:=by
 subst h
 exact⟨qV n o,qW⟩
theorem ll0:0<=Yc:=by decide
theorem ll1:1<=Yc:=by decide
theorem ll2:2<=Yc:=by decide
theorem ll3:3<=Yc:=by decide
theorem ll4:4<=Yc:=by decide
theorem ll5:5<=Yc:=by decide
theorem zE:xM ["number","many","letters","pad","size","at","first","found","k","sign"] ["number","many"] (xA (top 69)):=by constructor <;> first | rfl | wtm_at"d"
def abc:List Nat:=("abcdefghijklmnopqrstuvwxyz" : Str).cps.toList
def letter (i:Int):Nat:=abc.getD i.toNat 0
theorem xAd:abc.length=26:=by wtm_at"d"
theorem xAe:∀i j:Fin 26,abc.getD i.val 0=abc.getD j.val 0->i=j:=by wtm_at"d"
theorem qMn {i j:Int}(i0:0<=i)(i1:i<26)(j0:0<=j)(j1:j<26)(h:letter i=letter j):i=j:=by
 have:=xAe ⟨i.toNat,by omega⟩ ⟨j.toNat,by omega⟩ h
 have:=congrArg Fin.val this
 have:i.toNat=j.toNat:=this
 omega
theorem qVm {i:Int}(h0:0<=i)(h1:i<26):atI ("abcdefghijklmnopqrstuvwxyz" : Str).cps.toList i=some (letter i):=by
 have e:i=((i.toNat:Nat):Int):=by omega
 have hk:i.toNat<abc.length:=by rw[xAd];omega
 have z:atI abc ((i.toNat:Nat):Int)=some (letter i):=jM (by unfold letter;rw[Yi,yYA hk];rfl)
 rw[<- e] at z
 exact z
def wordOf (c:Nat)(a r:Int)(k:Nat):Str:=Txt.mul ⟨#[c]⟩ a++⟨#[k]⟩++Txt.mul ⟨#[c]⟩ r
theorem qWq (c:Nat):∀(k:Nat) (acc:Array Nat),((Yg k #[c]).foldl (·++·) acc).toList=acc.toList++Yg k c
 | 0,acc=>by simp
 | k+1,acc=>by
  rw[Yv,List.foldl_cons,qWq c k,Array.toList_append,yYQ,Yv]
  rfl
theorem qCd (c:Nat)(n:Int):(Txt.mul ⟨#[c]⟩ n).cps.toList=Yg n.toNat c:=by
 unfold Txt.mul
 split
 .have:n.toNat=0:=by omega
  rw[this];rfl
 .split
  .rename_i h1 h2
   have h3:(n == 1)=true:=by
    rw[Bool.or_eq_true] at h2
    rcases h2 with h | h
    .exact h
    .exact absurd (show((1:Nat) == 0)=true from h) (by decide)
   have:n=1:=eq_of_beq h3
   subst this;rfl
  .rw[qWq];rfl
theorem qXb (c:Nat)(a r:Int)(k:Nat):(wordOf c a r k).cps.toList=Yg a.toNat c++k::Yg r.toNat c:=by
 show((Txt.mul ⟨#[c]⟩ a).cps++#[k]++(Txt.mul ⟨#[c]⟩ r).cps).toList=_
 rw[Array.toList_append,Array.toList_append,qCd,qCd]
 simp
theorem qUn {c:Nat}{a r:Int}{k k':Nat}(h:wordOf c a r k=wordOf c a r k'):k=k':=by
 have e:=congrArg (fun x:Str=>x.cps.toList) h
 simp only[qXb] at e
 have:=List.append_cancel_left e
 injection this
theorem wG {c k a r p q s:Nat}(h:Yg a c++k::Yg r c=[p,q,s])(pq:p≠q)(ps:p≠s)(qs:q≠s):False:=by
 have hl:=congrArg List.length h
 simp only[yYI,yYS,Yk,yYT] at hl
 have:a=0/\r=2\/a=1/\r=1\/a=2/\r=0:=by omega
 rcases this with⟨rfl,rfl⟩ | ⟨rfl,rfl⟩ | ⟨rfl,rfl⟩
 .simp[Yg] at h;omega
 .simp[Yg] at h;omega
 .simp[Yg] at h;omega
def odd3:List Str:=["not","and","yes","way","end","one"]
def cwords:List Str:=["not","and","yes"]
theorem qIh (c:Nat)(a r:Int)(k:Nat):wordOf c a r k∉odd3:=by
 intro h
 have e:=qXb c a r k
 simp only[odd3,yYK,Yq,or_false] at h
 rcases h with h | h | h | h | h | h <;> rw[h] at e
 .exact wG (p:=110) (q:=111) (s:=116) (e.symm.trans (by wtm_at"d")) (by decide) (by decide) (by decide)
 .exact wG (p:=97) (q:=110) (s:=100) (e.symm.trans (by wtm_at"d")) (by decide) (by decide) (by decide)
 .exact wG (p:=121) (q:=101) (s:=115) (e.symm.trans (by wtm_at"d")) (by decide) (by decide) (by decide)
 .exact wG (p:=119) (q:=97) (s:=121) (e.symm.trans (by wtm_at"d")) (by decide) (by decide) (by decide)
 .exact wG (p:=101) (q:=110) (s:=100) (e.symm.trans (by wtm_at"d")) (by decide) (by decide) (by decide)
 .exact wG (p:=111) (q:=110) (s:=101) (e.symm.trans (by wtm_at"d")) (by decide) (by decide) (by decide)
structure Word (x:Str):Prop where
 lo:1<=x.length
 hi:x.length<=8
 abc:∀c∈x.cps.toList,c∈(Yb "abcdefghijklmnopqrstuvwxyz").cps.toList
def Low (c:Nat):Prop:=c∈(Yb "abcdefghijklmnopqrstuvwxyz").cps.toList
theorem xWq:∀i:Fin 26,abc.getD i.val 0∈(Yb "abcdefghijklmnopqrstuvwxyz").cps.toList:=by wtm_at"d"
theorem qVi {i:Int}(h0:0<=i)(h1:i<26):Low (letter i):=xWq ⟨i.toNat,by omega⟩
theorem qUm {c k:Nat}(h1:Low c)(h2:Low k)(a r:Int):∀d∈(wordOf c a r k).cps.toList,Low d:=fun d hd=>by
 rw[qXb] at hd
 rcases yYR.mp hd with h | h
 .rw[(List.mem_replicate.mp h).2];exact h1
 .rcases yYK.mp h with h | h
  .rw[h];exact h2
  .rw[(List.mem_replicate.mp h).2];exact h1
def Lw (x:Str):Prop:=x.length<=100/\Word x
structure Plain (ws:List Str):Prop where
 nd:ws.Nodup
 no:∀x∈ws,x∉odd3
 le:∀x∈ws,x.length<=100
 low:∀x∈ws,Word x
def qWe:Sp:=fun vs H Q _=>∃n m:Int,vs=[.int n,.int m]/\0<=n/\0<=m/\m<=26/\
 ∀(r:Addr) (ws:List Str),H r=none->ws.length=m.toNat->Plain ws->Q (.ref r) (upd H r (.lst (strsV ws)))
theorem qKk:("abcdefghijklmnopqrstuvwxyz" : Str).length<=Yc:=by wtm_at"d"
theorem xI (x y:Str):(x++y).length=x.length+y.length:=by
 show(x.cps++y.cps).size=_
 rw[Array.size_append];rfl
theorem qRx {f:Addr}{fd:FuncData}(F:Fun K "_law_unlike" "_law_unlike" (top 69) f fd)(B:Bl mg):FnOk P w K mg base CX0 1 f fd ["number","many"] qWe:=by
 refine F.ok zE (fun vs H Q E h=>?_) (fun zx A outer s H vs Q E hr h=>?_)
 .obtain⟨n,m,rfl,_⟩:=h
  rfl
 obtain⟨n,m,rfl,hn,hm0,hm1,q⟩:=h
 have z26:(0:Int)<26:=by decide
 obtain⟨c1,ec1,lc1⟩:∃c,atI ("abcdefghijklmnopqrstuvwxyz" : Str).cps.toList (n % 26)=some c/\Low c:=⟨_,qVm (Zb n (by decide)) (Za n z26),qVi (Zb n (by decide)) (Za n z26)⟩
 have d26:0<=n / 26:=Int.ediv_nonneg hn (by decide)
 have s0:=Zb (n / 26) (b:=8) (by decide)
 have s1:=Za (n / 26) (b:=8) (by decide)
 refine⟨_,(qZ (xF (i:=2) zE.nd rfl qF)
  (qZ (xF (i:=3) zE.nd rfl (xE xYw (pv 2) (xQ kY (pv 0) qE)))
  (qZ (xF (i:=4) zE.nd rfl (xQ jJ qE (xQ kY (xQ vH (pv 0) qE) qE)))
  (qZ (xF (i:=5) zE.nd rfl (xQ kY (xQ vH (pv 0) qE) (pv 4)))
  (qZ (xF (i:=6) zE.nd rfl (xQ kY (xQ vH (pv 0) qE) qE))
  (qZ (xF (i:=7) zE.nd rfl (xU qX))
  (qZ (zH PassesOwn.never rfl (yZ rfl B.range' (qQ (pv 1) qX)) (qG (i:=8) zE.nd rfl (by wtm_at "zo")) (qZ (xF (i:=9) zE.nd rfl (xE xYw (pv 2) (xQ kY (xQ jJ (pv 6) (xQ yE qE (pv 8))) qE)))
  (qJ (qP (zX (K:=K) Yy Yz YT xO (pv 7) (qQ (xQ jQ (xQ jQ (xQ qPi (pv 3) (pv 5)) (pv 9)) (xQ qPi (pv 3) (xQ wJ (xQ wJ (pv 4) (pv 5)) qE))) qX))))))
  (qJ (qN (pv 7)))))))))),?_⟩
 refine⟨_,rfl,_,rfl,_,26,rfl,rfl,z26,_,_,c1,rfl,rfl,qKk,ec1,?_⟩
 refine⟨_,rfl,_,26,rfl,rfl,⟨z26,by wtm_at"d"⟩,_,8,rfl,rfl,(by decide:(0:Int)<8),1,_,rfl,rfl,?_⟩
 obtain⟨sz,hsz⟩:∃sz,sz=n / 26 % 8:=⟨_,rfl⟩
 rw[<- hsz] at s0 s1
 have t0:0<1+sz:=by omega
 refine⟨_,rfl,_,208,rfl,rfl,⟨by decide,by wtm_at"d"⟩,_,rfl,_,1+sz,rfl,(by subst hsz;rfl),t0,?_⟩
 obtain⟨at',hat⟩:∃a,a=n / 208 % (1+sz):=⟨_,rfl⟩
 have a0:0<=at':=by rw[hat];exact Zb _ (by omega)
 have a1:at'<1+sz:=by rw[hat];exact Za _ t0
 refine⟨_,rfl,_,1664,rfl,rfl,⟨by decide,by wtm_at"d"⟩,_,26,rfl,rfl,z26,?_⟩
 obtain⟨fi,hfi⟩:∃a,a=n / 1664 % 26:=⟨_,rfl⟩
 have f0:0<=fi:=by rw[hfi];exact Zb _ (by decide)
 have f1:fi<26:=by rw[hfi];exact Za _ z26
 refine⟨(by show 0<=Yc;decide),fun r hr'=>?_⟩
 refine⟨_,rfl,m,rfl,by omega,by omega,?_⟩
 refine vX (fun i σ' H'=>∃(ws:List Str) (z1 z2:Option V),σ'=[some (.int n),some (.int m),some (.str "abcdefghijklmnopqrstuvwxyz"),some (.str ⟨#[c1]⟩),some (.int (1+sz)),some (.int at'),some (.int fi),some (.ref r),z1,z2]/\H'=upd H r (.lst (strsV ws))/\ws=(List.range i).map (fun(j:Nat)=>wordOf c1 at' (1+sz - at' - 1) (letter ((fi+3 * (0+(j:Int))) % 26)))/\ws.length=i/\Plain ws)
  ⟨[],none,none,(by subst hfi hat hsz;rfl),rfl,rfl,rfl,⟨List.nodup_nil,(fun x hx=>by cases hx),(fun x hx=>by cases hx),fun x hx=>by cases hx⟩⟩ ?_ ?_
 .rintro N rt bk i σ' H' hi ⟨ws,z1,z2,rfl,rfl,hme,hw,hx⟩ hN
  have i100:i<26:=by omega
  have m0:=fun j:Nat=>Zb (fi+3 * (0+(j:Int))) (b:=26) (by decide)
  have m1:=fun j:Nat=>Za (fi+3 * (0+(j:Int))) z26
  obtain⟨c2,hc2⟩:∃c,c=letter ((fi+3 * (0+(i:Int))) % 26):=⟨_,rfl⟩
  have ec2:=qVm (m0 i) (m1 i)
  rw[<- hc2] at ec2
  have lc2:Low c2:=by rw[hc2];exact qVi (m0 i) (m1 i)
  have hnew:wordOf c1 at' (1+sz - at' - 1) c2∉ws:=fun hmem=>by
   rw[hme] at hmem
   obtain⟨j,hj,ej⟩:=yYP.mp hmem
   have hj:=List.mem_range.mp hj
   have e:=qMn (m0 j) (m1 j) (m0 i) (m1 i) ((qUn ej).trans hc2)
   omega
  refine⟨_,rfl,_,rfl,_,rfl,3,_,rfl,rfl,⟨by wtm_at"d",big _ (by omega) (Int.lt_of_le_of_lt (b:=100) (by omega) (by wtm_at"d"))⟩,_,_,rfl,rfl,_,26,rfl,rfl,z26,_,_,c2,rfl,rfl,qKk,ec2,?_⟩
  have l1:(⟨#[c1]⟩:Str).length=1:=rfl
  have l2:(⟨#[c2]⟩:Str).length=1:=rfl
  have m1:=qRi ⟨#[c1]⟩ at'
  have m2:=qRi ⟨#[c1]⟩ (1+sz - at' - 1)
  rw[l1] at m1 m2
  have k1:(Txt.mul ⟨#[c1]⟩ at').length<=8:=by omega
  have k2:(Txt.mul ⟨#[c1]⟩ (1+sz - at' - 1)).length<=8:=by omega
  refine⟨_,rfl,.inl ⟨rfl,_,SqL.of qW⟩,_,rfl,_,rfl,_,_,rfl,rfl,by omega,by omega,by rw[l1];decide,_,rfl,_,_,rfl,rfl,by rw[l2];exact smallE (by omega),_,rfl,_,rfl,_,rfl,_,_,rfl,rfl,_,1,rfl,rfl,_,_,rfl,rfl,by omega,by omega,by rw[l1];decide,_,_,rfl,rfl,?_,?_⟩
  .rw[xI,l2];exact smallE (by omega)
  .refine⟨r,_,_,rfl,rfl,qW,by rw[xW];exact small (by omega),?_⟩
   refine hN _ _ ⟨ws++[wordOf c1 at' (1+sz - at' - 1) c2],_,_,rfl,by rw[qOq,qIn];rfl,by rw[Yx,yYU,<- hme,hc2];rfl,by simp[hw],⟨qRg hx.nd hnew,fun x hx'=>?_,fun x hx'=>?_,fun x hx'=>?_⟩⟩
   .rcases yYR.mp hx' with h | h
    .exact hx.no x h
    .rw[yYL.mp h];exact qIh _ _ _ _
   .rcases yYR.mp hx' with h | h
    .exact hx.le x h
    .rw[yYL.mp h]
     show(Txt.mul ⟨#[c1]⟩ at'++⟨#[c2]⟩++Txt.mul ⟨#[c1]⟩ (1+sz - at' - 1)).length<=100
     rw[xI,xI,l2];omega
   .rcases yYR.mp hx' with h | h
    .exact hx.low x h
    .rw[yYL.mp h]
     have ln:(wordOf c1 at' (1+sz - at' - 1) c2).length=(Txt.mul ⟨#[c1]⟩ at').length+1+(Txt.mul ⟨#[c1]⟩ (1+sz - at' - 1)).length:=by
      show(Txt.mul ⟨#[c1]⟩ at'++⟨#[c2]⟩++Txt.mul ⟨#[c1]⟩ (1+sz - at' - 1)).length=_
      rw[xI,xI,l2]
     exact⟨by rw[ln];omega,by rw[ln];omega,qUm lc1 lc2 _ _⟩
 .rintro σ' H' ⟨ws,z1,z2,rfl,rfl,hme,hw,hx⟩
  exact⟨_,rfl,q r ws hr' hw hx⟩
theorem kI {n:Nat}{xs:List Int}(h:xs.length=n+1):∃x r,xs=x::r/\r.length=n:=by
 cases xs with
 | nil=>cases h
 | cons x r=>exact⟨x,r,rfl,Nat.succ.inj h⟩
theorem eight {xs:List Int}(h0:xs.length=8):∃x0 x1 y0 y1 y2 y3 y4 y5,xs=[x0,x1,y0,y1,y2,y3,y4,y5]:=by
 obtain⟨x0,r0,e0,h1⟩:=kI h0
 obtain⟨x1,r1,e1,h2⟩:=kI h1
 obtain⟨y0,r2,e2,h3⟩:=kI h2
 obtain⟨y1,r3,e3,h4⟩:=kI h3
 obtain⟨y2,r4,e4,h5⟩:=kI h4
 obtain⟨y3,r5,e5,h6⟩:=kI h5
 obtain⟨y4,r6,e6,h7⟩:=kI h6
 obtain⟨y5,r7,e7,h8⟩:=kI h7
 cases List.length_eq_zero_iff.mp h8
 subst e7 e6 e5 e4 e3 e2 e1 e0
 exact⟨_,_,_,_,_,_,_,_,rfl⟩
theorem zP:xM ["cell","drawn","words","boxes","room","k","size"] ["cell"] (xA (top 70)):=by constructor <;> first | rfl | wtm_at"d"
def BoxIn (H:Hp)(b:Str×Int)(u:V):Prop:=∃a,u=.ref a/\H a=some (.tup [.str b.1,.int b.2])
structure Named (ws:List Str):Prop where
 nd:ws.Nodup
 no:∀x∈ws,x∉cwords
 sh:∀x∈ws,Lw x
theorem Plain.named {ws:List Str}(p:Plain ws):Named ws:=⟨p.nd,fun x hx hc=>p.no x hx (by
 simp only[cwords,yYK,Yq,or_false] at hc
 simp only[odd3,yYK,Yq,or_false]
 rcases hc with h | h | h
 .exact .inl h
 .exact .inr (.inl h)
 .exact .inr (.inr (.inl h))),fun x hx=>⟨p.le x hx,p.low x hx⟩⟩
theorem xKl:∀x∈(["way","goal","begin","end","deed","look"]:List Str),x.length<=100/\Word x:=fun x hx=>
 have h:=(show∀x∈(["way","goal","begin","end","deed","look"]:List Str),1<=x.length/\x.length<=8/\∀c∈x.cps.toList,c∈(Yb "abcdefghijklmnopqrstuvwxyz").cps.toList by wtm_at"d") x hx
 ⟨by omega,h.1,h.2.1,h.2.2⟩
theorem qRh:Named ["way","goal","begin","end","deed","look"]:=⟨by wtm_at"d",by wtm_at"d",xKl⟩
theorem Named.sub {ws xs:List Str}(n:Named ws)(s:List.Sublist xs ws):Named xs:=⟨s.nodup n.nd,fun x hx=>n.no x (s.subset hx),fun x hx=>n.sh x (s.subset hx)⟩
def qOl:Sp:=fun vs H Q _=>∃c:Int,vs=[.int c]/\∀(r:Addr) (bs:List (Str×Int)) (us:List V) (H':Hp),H r=none->Same H H'->H' r=some (.lst us)->Paired (BoxIn H') bs us->1<=bs.length->bs.length<=6->
 (∀b∈bs,2<=b.2/\b.2<=5)->(bs.map (·.2)).foldl (· * ·) 1<=200->Named (bs.map (·.1))->Q (.ref r) H'
theorem BoxIn.mono {H H':Hp}(h:Tups H H'){b:Str×Int}{u:V}(x:BoxIn H b u):BoxIn H' b u:=let ⟨a,e,q⟩:=x;⟨a,e,h _ _ q⟩
theorem xY {H H':Hp}(h:Tups H H'){bs:List (Str×Int)}{us:List V}(p:Paired (BoxIn H) bs us):Paired (BoxIn H') bs us:=Paired.mapP p fun _ _ x=>x.mono h
theorem qVo (l:List Int)(x a:Int):(l++[x]).foldl (· * ·) a=l.foldl (· * ·) a * x:=by rw[List.foldl_append];rfl
theorem qPz:∀j:Fin 6,([10 ^ 9,6,4,4,4,4,4,4]:List Int)[j.val+2]? = some 4:=by wtm_at"d"
theorem xXl {f g h:Addr}{fd gd hd:FuncData}(F:Fun K "_law_boxes" "_law_boxes" (top 70) f fd)(B:Bl mg)(Jt:FnOk P w K mg base CX0 2 g gd ["cell","sizes"] qWh)(vn:FunE K mg "_law_drawn" g gd ["cell","sizes"])
  (JV:FnOk P w K mg base CX0 2 h hd ["number","many"] qWe) (vh:FunE K mg "_law_unlike" h hd ["number","many"]):FnOk P w K mg base CX0 3 f fd ["cell"] qOl:=by
 refine F.ok zP (fun vs H Q E h=>?_) (fun zx A outer s H vs Q E hr h=>?_)
 .obtain⟨c,rfl,_⟩:=h
  rfl
 obtain⟨c,rfl,q⟩:=h
 have pw:∀i j:Int,0<=j->j<=1000->i.natAbs<2 ^ 64->CPow i j:=fun i j x y z=>⟨x,by omega,z⟩
 have rest:∃u,PSs (cxOf CX0 P w K mg base ["cell","drawn","words","boxes","room","k","size"] "_law_boxes" (xA (top 70)) f zx A outer s H E).nox ((xB (top 70)).drop 3) u/\
   ∀(dr:Addr) (x0 x1 y0 y1 y2 y3 y4 y5:Int),0<=x1->x1<6->(∀(j:Nat) (y:Int),[y0,y1,y2,y3,y4,y5][j]? = some y->0<=y/\y<4)->
    ∀(wd:Addr) (ws:List Str) (H7:Hp),Same H H7->H7 dr=some (.lst (intsV [x0,x1,y0,y1,y2,y3,y4,y5]))->H7 wd=some (.lst (strsV ws))->ws.length=6->Named ws->
     u { nx:=fun _ H'=>Q .non H',rt:=Q } [some (.int c),some (.ref dr),some (.ref wd),none,none,none,none] H7:=by
  refine⟨_,(qZ (xF (i:=3) zP.nd rfl (xU qX))
  (qZ (xF (i:=4) zP.nd rfl qE)
  (qZ (zH PassesOwn.never rfl (yZ rfl B.range' (qQ (xQ jJ qE (xE (qT (K:=K)) (pv 1) qE)) qX)) (qG (i:=5) zP.nd rfl (by wtm_at "zo")) (qZ (xF (i:=6) zP.nd rfl (xZ (qUa rfl) rfl B.min' xDm (qQ (xQ jJ qE (xE (qT (K:=K)) (pv 1) (xQ jJ qE (pv 5)))) (qQ (pv 4) qX))))
  (qJ (zD (qR xXc (pv 6) qE (xD _)) (qZ (qP (zX (K:=K) Yy Yz YT xO (pv 3) (qQ (xN (qQ (xE (qT (K:=K)) (pv 2) (pv 5)) (qQ (pv 6) qX))) qX)))
  (qJ (xF (i:=4) zP.nd rfl (xQ vH (pv 4) (pv 6))))) qY))))
  (qJ (qN (pv 3)))))),?_⟩
  intro dr x0 x1 y0 y1 y2 y3 y4 y5 hx0 hx6 hy wd ws H7 S7 eD7 eW7 hw6 nmd
  refine⟨(by show 0<=Yc;decide),fun r hr'=>?_⟩
  have rH:H r=none:=S7.free hr'
  have rd:dr≠r:=qB eD7 hr'
  have rw':wd≠r:=qB eW7 hr'
  have eD8:upd H7 r (.lst []) dr=some (.lst (intsV [x0,x1,y0,y1,y2,y3,y4,y5])):=by rw[qA rd];exact eD7
  refine⟨_,rfl,dr,_,1,.int x1,rfl,rfl,SqL.of eD8,rfl,1,x1,rfl,rfl,_,rfl,by omega,by omega,?_⟩
  refine vX (fun i σ' H'=>∃(bs:List (Str×Int)) (us:List V) (ro:Int) (z1 z2:Option V),σ'=[some (.int c),some (.ref dr),some (.ref wd),some (.ref r),some (.int ro),z1,z2]/\But r H7 H'/\H' r=some (.lst us)/\Paired (BoxIn H') bs us/\bs.length<=i/\
    (0<i->1<=bs.length)/\(∀b∈bs,2<=b.2/\b.2<=5)/\1<=ro/\(i=0->ro=200)/\1<=(bs.map (·.2)).foldl (· * ·) 1/\(bs.map (·.2)).foldl (· * ·) 1 * ro<=200/\List.Sublist (bs.map (·.1)) (ws.take i))
   ⟨[],[],200,none,none,rfl,But.upd,qW,.nil,yZB _,fun z=>absurd z (by decide),(fun b hb=>by cases hb),by decide,fun _=>rfl,by decide,by decide,List.nil_sublist _⟩ ?_ ?_
  .rintro N rt bk i σ' H' hi ⟨bs,us,ro,z1,z2,rfl,hbut,hru,hp,hbl,hb1,hb25,hro,hr0,hf1,hf2,hsub⟩ hN
   have hi6:i<6:=by omega
   have eD9:H' dr=some (.lst (intsV [x0,x1,y0,y1,y2,y3,y4,y5])):=hbut _ _ rd eD7
   have eW9:H' wd=some (.lst (strsV ws)):=hbut _ _ rw' eW7
   obtain⟨y,ey⟩:∃y,[y0,y1,y2,y3,y4,y5][i]? = some y:=⟨_,yYA (by simpa using hi6)⟩
   have by':=hy i y ey
   have aty:atI (intsV [x0,x1,y0,y1,y2,y3,y4,y5]) (2+(0+(i:Int)))=some (.int y):=by
    have e:(2:Int)+(0+(i:Int))=((i+2:Nat):Int):=by omega
    rw[e]
    exact qIe (by simpa using ey)
   obtain⟨wi,ewi⟩:∃x,ws[i]? = some x:=⟨_,yYA (by omega)⟩
   have atw:atI (strsV ws) (0+(i:Int))=some (.str wi):=by
    rw[Int.zero_add]
    exact jM (by rw[yYO,ewi];rfl)
   refine⟨_,rfl,_,rfl,2,_,rfl,rfl,dr,_,_,.int y,rfl,rfl,SqL.of eD9,aty,2,y,rfl,rfl,_,rfl,_,_,rfl,?_⟩
   generalize hsz:(if ro<2+y then ro else 2+y)=sz
   refine⟨_,rfl,sz,1,rfl,rfl,_,rfl,?_⟩
   have szle:sz<=5/\sz<=ro/\(sz<=1->ro<=1):=by
    rw[<- hsz]
    by_cases hlt:ro<2+y
    .rw[if_pos hlt];omega
    .rw[if_neg hlt];omega
   refine ite2 (fun c=>?_) (fun c=>?_)
   .have c':1<sz:=of_decide_eq_true c
    refine⟨_,rfl,.inl ⟨rfl,_,SqL.of hru⟩,_,rfl,_,rfl,wd,_,_,.str wi,rfl,rfl,SqL.of eW9,atw,_,rfl,(by show 2<=Yc;decide),fun t ht=>?_⟩
    have tr:r≠t:=qB hru ht
    have hl:=hp.length
    refine⟨r,us,.ref t,rfl,rfl,by rw[qA tr];exact hru,by rw[<- hl];exact small (by omega),?_⟩
    refine⟨_,rfl,_,rfl,ro,sz,rfl,rfl,⟨by omega,big _ (by omega) (Int.lt_of_le_of_lt (b:=10) (by omega) (by wtm_at"d"))⟩,?_⟩
    have T1:Tups H' (upd (upd H' t (.tup [.str wi,.int sz])) r (.lst (us++[.ref t]))):=fun b ys e=>by
     rw[qA (wO e hru (by intro z;cases z)),qA (qB e ht)];exact e
    have dv:ro / sz * sz<=ro:=Int.ediv_mul_le _ (by omega)
    have d1:1<=ro / sz:=by
     apply Int.le_ediv_of_mul_le (by omega)
     omega
    refine hN _ _ ⟨bs++[(wi,sz)],us++[.ref t],ro / sz,_,_,rfl,fun b o hb e=>?_,qW,Paired.snoc (xY T1 hp) ⟨t,rfl,by rw[qA (Ne.symm tr)];exact qW⟩,by simp;omega,fun _=>by simp,fun b hb=>?_,d1,fun z=>by omega,?_,?_,?_⟩
    .rw[qA hb,qA (qB (hbut _ _ hb e) ht)];exact hbut _ _ hb e
    .rcases yYR.mp hb with h | h
     .exact hb25 b h
     .rw[yYL.mp h];exact⟨by show 2<=sz;omega,szle.1⟩
    .rw[yYU]
     show 1<=((bs.map (·.2))++[sz]).foldl (· * ·) 1
     rw[qVo]
     have:=Int.mul_le_mul hf1 (show(1:Int)<=sz by omega) (by decide) (by omega)
     omega
    .rw[yYU]
     show((bs.map (·.2))++[sz]).foldl (· * ·) 1 * (ro / sz)<=200
     rw[qVo,Int.mul_assoc,Int.mul_comm sz]
     have:=Int.mul_le_mul_of_nonneg_left dv (show 0<=(bs.map (·.2)).foldl (· * ·) 1 by omega)
     omega
    .rw[yYU,yYM,ewi]
     exact List.Sublist.append hsub (List.Sublist.refl _)
   .have c':¬1<sz:=of_decide_eq_false (Bool.eq_false_iff.mpr c)
    refine hN _ _ ⟨bs,us,ro,_,_,rfl,hbut,hru,hp,by omega,fun _=>?_,hb25,hro,fun z=>by omega,hf1,hf2,hsub.trans (by rw[yYM];exact List.sublist_append_left _ _)⟩
    by_cases h0:i=0
    .have:=hr0 h0;omega
    .exact hb1 (by omega)
  .rintro σ' H' ⟨bs,us,ro,z1,z2,rfl,hbut,hru,hp,hbl,hb1,hb25,hro,hr0,hf1,hf2,hsub⟩
   refine⟨_,rfl,q r bs us H' rH (fun b o e=>hbut _ _ (qB e rH) (S7 _ _ e)) hru hp (hb1 (by omega)) (by omega) hb25 ?_ (nmd.sub (hsub.trans (Yw _ _)))⟩
   have:=Int.mul_le_mul_of_nonneg_left hro (show 0<=(bs.map (·.2)).foldl (· * ·) 1 by omega)
   omega
 obtain⟨u,hu,go⟩:=rest
 refine⟨_,qZ (xF (i:=1) zP.nd rfl (zU Jt hr rfl vn.mg vn.kp vn.bd .nil pass0 (qQ (pv 0) (qQ (xQ qKq (xU (qQ (xQ kU qE qE) (qQ qE qX))) (xQ xCk (xU (qQ qE qX)) qE)) qX)))) (qZ (xF (i:=2) zP.nd rfl (zU JV hr rfl vh.mg vh.kp vh.bd .nil pass0 (qQ (xE (qT (K:=K)) (pv 1) qE) (qQ qE qX)))) (qZ (zD (qR zM (xQ kY (xE (qT (K:=K)) (pv 1) qE) qE) qE (xD _)) (qJ (xF (i:=2) zP.nd rfl (xU (qQ qF (qQ qF (qQ qF (qQ qF (qQ qF (qQ qF qX))))))))) qY) hu)),?_⟩
 refine⟨_,rfl,10,9,rfl,rfl,pw 10 9 (by decide) (by decide) (by decide),(by show 2<=Yc;decide),fun l1 hl1=>?_⟩
 refine⟨(by show 1<=Yc;decide),fun l2 hl2=>?_⟩
 have n12:l1≠l2:=qB qW hl2
 refine⟨l2,6,_,rfl,rfl,qW,by decide,by decide,(by show 1 * 6<=Yc;decide),fun l3 hl3=>?_⟩
 have x1:upd (upd (upd H l1 (.lst [.int (10 ^ (9:Int).toNat),.int 6])) l2 (.lst [.int 4])) l3 (.lst (Yg (6:Int).toNat [V.int 4]).flatten) l1=some (.lst [.int (10 ^ (9:Int).toNat),.int 6]):=by
  rw[qA (qB (by rw[qA n12];exact qW) hl3),qA n12];exact qW
 refine⟨l1,l3,_,_,rfl,rfl,x1,qW,(by show 2+6<=Yc;decide),fun l4 hl4=>?_⟩
 refine⟨c,l4,[10 ^ 9,6,4,4,4,4,4,4],rfl,qW,by decide,by decide,fun dr xs hdr hxl hxb=>?_⟩
 have S4:Same H (upd (upd (upd (upd H l1 (.lst [.int (10 ^ (9:Int).toNat),.int 6])) l2 (.lst [.int 4])) l3 (.lst (Yg (6:Int).toNat [V.int 4]).flatten)) l4 (.lst ([.int (10 ^ (9:Int).toNat),.int 6]++(Yg (6:Int).toNat [V.int 4]).flatten))):=
  (qV hl1 _).trans ((qV hl2 _).trans ((qV hl3 _).trans (qV hl4 _)))
 generalize upd (upd (upd (upd H l1 (.lst [.int (10 ^ (9:Int).toNat),.int 6])) l2 (.lst [.int 4])) l3 (.lst (Yg (6:Int).toNat [V.int 4]).flatten)) l4 (.lst ([.int (10 ^ (9:Int).toNat),.int 6]++(Yg (6:Int).toNat [V.int 4]).flatten))=H4 at hdr S4
 obtain⟨x0,x1,y0,y1,y2,y3,y4,y5,rfl⟩:=eight hxl
 have b0:=hxb 0 x0 (10 ^ 9) rfl rfl
 have b1:=hxb 1 x1 6 rfl rfl
 have hy:∀(j:Nat) (y:Int),[y0,y1,y2,y3,y4,y5][j]? = some y->0<=y/\y<4:=fun j y e=>by
  have hj:j<6:=(yYB.mp e).1
  refine hxb (j+2) y 4 (by simpa using e) ?_
  exact qPz ⟨j,hj⟩
 have S5:Same H (upd H4 dr (.lst (intsV [x0,x1,y0,y1,y2,y3,y4,y5]))):=S4.trans (qV hdr _)
 have eD:upd H4 dr (.lst (intsV [x0,x1,y0,y1,y2,y3,y4,y5])) dr=some (.lst (intsV [x0,x1,y0,y1,y2,y3,y4,y5])):=qW
 generalize upd H4 dr (.lst (intsV [x0,x1,y0,y1,y2,y3,y4,y5]))=H5 at S5 eD
 refine⟨_,rfl,dr,_,0,.int x0,rfl,rfl,SqL.of eD,rfl,x0,6,rfl,b0.1,by decide,by decide,fun wd ws hwd hwl hwp=>?_⟩
 have S6:Same H (upd H5 wd (.lst (strsV ws))):=S5.trans (qV hwd _)
 have eD6:upd H5 wd (.lst (strsV ws)) dr=some (.lst (intsV [x0,x1,y0,y1,y2,y3,y4,y5])):=by rw[qA (qB eD hwd)];exact eD
 have eW6:upd H5 wd (.lst (strsV ws)) wd=some (.lst (strsV ws)):=qW
 generalize upd H5 wd (.lst (strsV ws))=H6 at S6 eD6 eW6
 refine⟨_,rfl,dr,_,0,.int x0,rfl,rfl,SqL.of eD6,rfl,x0,8,rfl,rfl,(by decide:(0:Int)<8),rfl,_,rfl,?_⟩
 refine ite2 (fun _=>?_) (fun _=>?_)
 .refine⟨(by show 6<=Yc;decide),fun p hp=>?_⟩
  exact go dr x0 x1 y0 y1 y2 y3 y4 y5 b1.1 b1.2 hy p ["way","goal","begin","end","deed","look"] _ (S6.trans (qV hp _)) (by rw[qA (qB eD6 hp)];exact eD6) qW rfl qRh
 .exact go dr x0 x1 y0 y1 y2 y3 y4 y5 b1.1 b1.2 hy wd ws H6 S6 eD6 eW6 hwl hwp.named
theorem qQk:xM ["deck","words","deep","kind","one"] ["deck","words","deep"] (xA (top 71)):=by constructor <;> first | rfl | wtm_at"d"
def Expr' (ws:List Str):Th->Prop
 | .num n=>0<=n/\n<10
 | .box x=>x∈ws
 | .nul _=>False
 | .un _ _=>False
 | .bin k a b=>(k = "plus" \/ k = "less")/\Expr' ws a/\Expr' ws b
theorem qYn:Th.Op "plus" := ⟨by wtm_at"d",by wtm_at"d"⟩
theorem qYo:Th.Op "less" := ⟨by wtm_at"d",by wtm_at"d"⟩
theorem Expr'.ok {ws:List Str}:∀{t:Th},Expr' ws t->t.Ok
 | .num _,_=>trivial
 | .box _,_=>trivial
 | .nul _,h=>h.elim
 | .un _ _,h=>h.elim
 | .bin k a b,⟨h,ha,hb⟩=>⟨by rcases h with rfl | rfl;exact qYn;exact qYo,Expr'.ok ha,Expr'.ok hb⟩
structure Dk (H:Hp)(dk wd:Addr)(ws:List Str):Prop where
 deck:∃d:Int,H dk=some (.lst [.int d])
 words:H wd=some (.lst (strsV ws))
 ne:ws≠[]
 le:ws.length<=100
 ap:wd≠dk
theorem Dk.but {H H':Hp}{dk wd:Addr}{ws:List Str}(D:Dk H dk wd ws)(b:But dk H H'){d:Int}(h:H' dk=some (.lst [.int d])):Dk H' dk wd ws:=⟨⟨d,h⟩,b _ _ D.ap D.words,D.ne,D.le,D.ap⟩
def spExpr (n:Nat):Sp:=fun vs H Q _=>∃(dk wd:Addr) (ws:List Str) (dp:Int),vs=[.ref dk,.ref wd,.int dp]/\Dk H dk wd ws/\0<=dp/\dp<n/\
 ∀(t:Th) (v:V) (H':Hp),But dk H H'->Dk H' dk wd ws->t.At H' v->Expr' ws t->t.dep<=dp.toNat+1->Q v H'
theorem xXf {f:Addr}{fd:FuncData}:FnOk P w K mg base CX0 1 f fd ["deck","words","deep"] (spExpr 0):=by
 have no:∀vs H Q E,¬spExpr 0 vs H Q E:=fun vs H Q E h=>by
  obtain⟨_,_,_,dp,_,_,h1,h2,_⟩:=h
  omega
 exact⟨fun vs H Q E h=>absurd h (no vs H Q E),fun A outer s H args us vs Q E _ _ _ _ h=>absurd h (no vs H Q E)⟩
theorem qUl {ws:List Str}{i:Int}(h0:0<=i)(h1:i<ws.length):∃x,x∈ws/\atI (strsV ws) i=some (.str x):=by
 have e:i=((i.toNat:Nat):Int):=by omega
 have hk:i.toNat<ws.length:=by omega
 have z:atI (strsV ws) ((i.toNat:Nat):Int)=some (.str ws[i.toNat]):=jM (by rw[yYO,yYA hk];rfl)
 rw[<- e] at z
 exact⟨_,List.getElem_mem hk,z⟩
theorem xXe {n:Nat}{f g:Addr}{fd gd:FuncData}(F:Fun K "_law_expr" "_law_expr" (top 71) f fd)(B:Bl mg)(kq:FnOk P w K mg base CX0 (n+1) f fd ["deck","words","deep"] (spExpr n))(ja:FunE K mg "_law_expr" f fd ["deck","words","deep"])
  (kr:FnOk P w K mg base CX0 (n+1) g gd ["deck","many"] spTake) (jb:FunE K mg "_law_take" g gd ["deck","many"]):FnOk P w K mg base CX0 (n+2) f fd ["deck","words","deep"] (spExpr (n+1)):=by
 refine F.ok qQk (fun vs H Q E h=>?_) (fun zx A outer s H vs Q E hr h=>?_)
 .obtain⟨_,_,_,_,rfl,_⟩:=h
  rfl
 obtain⟨dk,wd,ws,dp,rfl,D,h0,h1,q⟩:=h
 obtain⟨de,hde⟩:=D.deck
 refine⟨_,(qZ (xF (i:=3) qQk.nd rfl (zU kr hr rfl jb.mg jb.kp jb.bd .nil pass0 (qQ (pv 0) (qQ qE qX))))
  (qZ (zD (PW.pt (qVz (qR zM (pv 2) qE (xD _)) (qYf (qR qAx (pv 3) qE (xD _))))) (qZ (zD (qR zM (xQ kY (pv 3) qE) qE (xD _)) (qJ (qN (xN (qQ qF (qQ (zU kr hr rfl jb.mg jb.kp jb.bd .nil pass0 (qQ (pv 0) (qQ qE qX))) qX))))) qY)
  (qJ (qN (xN (qQ qF (qQ (xE (qT (K:=K)) (pv 1) (zU kr hr rfl jb.mg jb.kp jb.bd .nil pass0 (qQ (pv 0) (qQ (xZ (jX (K:=K)) rfl B.len' jO (qQ (pv 1) qX)) qX)))) qX)))))) qY)
  (qZ (xF (i:=4) qQk.nd rfl (zU kq hr rfl ja.mg ja.kp ja.bd .nil pass0 (qQ (pv 0) (qQ (pv 1) (qQ (xQ wJ (pv 2) qE) qX)))))
  (qJ (qN (xN (qQ (xE (qT (K:=K)) (xU (qQ qF (qQ qF qX))) (xQ wJ (pv 3) qE)) (qQ (pv 4) (qQ (zU kq hr rfl ja.mg ja.kp ja.bd .nil pass0 (qQ (pv 0) (qQ (pv 1) (qQ (xQ wJ (pv 2) qE) qX)))) qX))))))))),?_⟩
 refine⟨_,rfl,dk,5,de,rfl,hde,by decide,by wtm_at"d",fun k d1 hk0 hk5=>?_⟩
 have B1:But dk H (upd H dk (.lst [.int d1])):=But.upd
 have D1:Dk (upd H dk (.lst [.int d1])) dk wd ws:=D.but B1 qW
 generalize upd H dk (.lst [.int d1])=H1 at B1 D1
 show tOr (tTest (tOp rEq (tVar 2) (tC (.int 0)))) (tTest (tOp (rI0 fun i j=>.bl (decide (i<j))) (tVar 3) (tC (.int 3)))) _ _ _
 refine qPh (b1:=decide (V.int dp=V.int 0)) (b2:=decide (k<3)) (fun K h=>⟨_,rfl,rfl,_,rfl,h⟩) (fun K h=>⟨_,rfl,_,_,rfl,rfl,_,rfl,h⟩) _ ?_
 refine ite2 (fun _=>?_) (fun c=>?_)
 .-- a leaf
  refine⟨_,rfl,k,3,rfl,rfl,(by decide:(0:Int)<3),rfl,_,rfl,?_⟩
  obtain⟨d1',hd1⟩:=D1.deck
  refine ite2 (fun _=>?_) (fun _=>?_)
  .refine⟨_,rfl,dk,10,d1',rfl,hd1,by decide,by wtm_at"d",fun x d2 hx0 hx1=>?_⟩
   refine⟨(by show 2<=Yc;decide),fun t ht=>?_⟩
   have B2:But dk H1 (upd (upd H1 dk (.lst [.int d2])) t (.tup [.str "number",.int x])):=But.upd.trans (qV ht _).but
   refine q (.num x) (.ref t) _ (B1.trans B2) (D1.but B2 (d:=d2) ?_) ⟨t,rfl,qW⟩ ⟨hx0,hx1⟩ (by show 1<=_;omega)
   rw[qA (qB qW ht)]
   exact qW
  .refine⟨_,rfl,_,rfl,_,rfl,wd,_,rfl,.inl (SqL.of D1.words),dk,_,d1',rfl,hd1,?_,?_,fun x d2 hx0 hx1=>?_⟩
   .rw[xW]
    have:=List.length_pos_iff.mpr D1.ne
    omega
   .rw[xW]
    have:=D1.le
    exact big _ (by omega) (Int.lt_of_le_of_lt (b:=100) (by omega) (by wtm_at"d"))
   .rw[xW] at hx1
    obtain⟨x',hm,ex⟩:=qUl hx0 hx1
    have w2:upd H1 dk (.lst [.int d2]) wd=some (.lst (strsV ws)):=by rw[qA D1.ap];exact D1.words
    refine⟨wd,_,x,.str x',rfl,rfl,SqL.of w2,ex,(by show 2<=Yc;decide),fun t ht=>?_⟩
    have B2:But dk H1 (upd (upd H1 dk (.lst [.int d2])) t (.tup [.str "box",.str x'])):=But.upd.trans (qV ht _).but
    refine q (.box x') (.ref t) _ (B1.trans B2) (D1.but B2 (d:=d2) ?_) ⟨t,rfl,qW⟩ hm (by show 1<=_;omega)
    rw[qA (qB qW ht)]
    exact qW
 have c1:¬(V.int dp=V.int 0):=fun z=>c (by rw[decide_eq_true z];rfl)
 have c2:¬k<3:=fun z=>c (by rw[decide_eq_true z,Bool.or_true])
 have dp1:dp≠0:=fun z=>c1 (by rw[z])
 refine⟨_,rfl,_,rfl,_,rfl,_,1,rfl,rfl,dk,wd,ws,dp - 1,rfl,D1,by omega,by omega,fun t1 v1 H2 B2 D2 a1 x1 d1=>?_⟩
 refine⟨(by show 2<=Yc;decide),fun l hl=>?_⟩
 have key:∃op:Str,(op = "plus" \/ op = "less")/\atI [V.str "plus",V.str "less"] (k - 3)=some (.str op):=by
  have:k - 3=0\/k - 3=1:=by omega
  rcases this with e | e
  .exact⟨"plus",.inl rfl,by rw[e];rfl⟩
  .exact⟨"less",.inr rfl,by rw[e];rfl⟩
 obtain⟨op,hop,eop⟩:=key
 refine⟨_,rfl,k,3,rfl,rfl,l,_,k - 3,.str op,rfl,rfl,SqL.of qW,eop,_,rfl,_,rfl,_,rfl,_,rfl,_,1,rfl,rfl,dk,wd,ws,dp - 1,rfl,?_,by omega,by omega,fun t2 v2 H3 B3 D3 a2 x2 d2=>?_⟩
 .obtain⟨d2',hd2⟩:=D2.deck
  exact D2.but (qV hl _).but (d:=d2') (by rw[qA (qB hd2 hl)];exact hd2)
 .refine⟨(by show 3<=Yc;decide),fun t ht=>?_⟩
  have B4:But dk H (upd H3 t (.tup [.str op,v1,v2])):=B1.trans (B2.trans ((qV hl _).but.trans (B3.trans (qV ht _).but)))
  obtain⟨d3',hd3⟩:=D3.deck
  obtain⟨d2',hd2⟩:=D2.deck
  have T2:Tups H2 (upd H3 t (.tup [.str op,v1,v2])):=(qC (qV hl _)).trans ((kG B3 (by rw[qA (qB hd2 hl)];exact hd2)).trans (qC (qV ht _)))
  refine q (.bin op t1 t2) (.ref t) _ B4 (D.but B4 (d:=d3') (by rw[qA (qB hd3 ht)];exact hd3)) ⟨t,v1,v2,rfl,qW,a1.mono T2,a2.mono (qC (qV ht _))⟩ ⟨hop,x1,x2⟩ ?_
  show max t1.dep t2.dep+1<=_
  omega
theorem qRv {f g:Addr}{fd gd:FuncData}(F:Fun K "_law_expr" "_law_expr" (top 71) f fd)(B:Bl mg)(ja:FunE K mg "_law_expr" f fd ["deck","words","deep"])
  (G:FnOk P w K mg base CX0 1 g gd ["deck","many"] spTake) (jb:FunE K mg "_law_take" g gd ["deck","many"]):∀n:Nat,FnOk P w K mg base CX0 (n+1) f fd ["deck","words","deep"] (spExpr n)
 | 0=>xXf
 | n+1=>xXe F B (qRv F B ja G jb n) ja (G.mono (by omega)) jb
theorem vD:xM ["deck","words","deep","kind","one"] ["deck","words","deep"] (xA (top 72)):=by constructor <;> first | rfl | wtm_at"d"
def Cond' (ws:List Str):Th->Prop
 | .num _=>False
 | .box _=>False
 | .nul k=>k = "yes"
 | .un k a=>k = "not" /\ Cond' ws a
 | .bin k a b=>((k = "same" \/ k = "under")/\Expr' ws a/\Expr' ws b)\/(k = "both" /\ Cond' ws a/\Cond' ws b)
theorem xVk:Th.Op "same" := ⟨by wtm_at"d",by wtm_at"d"⟩
theorem xXb:Th.Op "under" := ⟨by wtm_at"d",by wtm_at"d"⟩
theorem xVg:Th.Op "both" := ⟨by wtm_at"d",by wtm_at"d"⟩
theorem xCv:Th.Op "not" := ⟨by wtm_at"d",by wtm_at"d"⟩
theorem xCj:Th.Op "yes" := ⟨by wtm_at"d",by wtm_at"d"⟩
theorem Cond'.ok {ws:List Str}:∀{t:Th},Cond' ws t->t.Ok
 | .num _,h=>h.elim
 | .box _,h=>h.elim
 | .nul k,h=>by cases(show k = "yes" from h);exact xCj
 | .un k a,⟨h,ha⟩=>⟨by cases h;exact xCv,Cond'.ok ha⟩
 | .bin k a b,h=>by
  rcases h with⟨h,ha,hb⟩ | ⟨h,ha,hb⟩
  .exact⟨by rcases h with rfl | rfl;exact xVk;exact xXb,ha.ok,hb.ok⟩
  .exact⟨by cases h;exact xVg,Cond'.ok ha,Cond'.ok hb⟩
def spCond (n:Nat):Sp:=fun vs H Q _=>∃(dk wd:Addr) (ws:List Str) (dp:Int),vs=[.ref dk,.ref wd,.int dp]/\Dk H dk wd ws/\0<=dp/\dp<n/\
 ∀(t:Th) (v:V) (H':Hp),But dk H H'->Dk H' dk wd ws->t.At H' v->Cond' ws t->t.dep<=dp.toNat+4->Q v H'
theorem xXi {f:Addr}{fd:FuncData}:FnOk P w K mg base CX0 1 f fd ["deck","words","deep"] (spCond 0):=by
 have no:∀vs H Q E,¬spCond 0 vs H Q E:=fun vs H Q E h=>by
  obtain⟨_,_,_,dp,_,_,h1,h2,_⟩:=h
  omega
 exact⟨fun vs H Q E h=>absurd h (no vs H Q E),fun A outer s H args us vs Q E _ _ _ _ h=>absurd h (no vs H Q E)⟩
theorem Dk.new {H:Hp}{dk wd p:Addr}{ws:List Str}{o:HO}(D:Dk H dk wd ws)(hp:H p=none):Dk (upd H p o) dk wd ws:=by
 obtain⟨d,hd⟩:=D.deck
 exact D.but (qV hp _).but (d:=d) (by rw[qA (qB hd hp)];exact hd)
theorem xXh {n:Nat}{f g e:Addr}{fd gd ed:FuncData}(F:Fun K "_law_cond" "_law_cond" (top 72) f fd)(B:Bl mg)(uO:FnOk P w K mg base CX0 (n+5) f fd ["deck","words","deep"] (spCond n))(jp:FunE K mg "_law_cond" f fd ["deck","words","deep"])
  (kq:FnOk P w K mg base CX0 (n+5) e ed ["deck","words","deep"] (spExpr 3)) (ja:FunE K mg "_law_expr" e ed ["deck","words","deep"])
  (kr:FnOk P w K mg base CX0 (n+5) g gd ["deck","many"] spTake) (jb:FunE K mg "_law_take" g gd ["deck","many"]):FnOk P w K mg base CX0 (n+6) f fd ["deck","words","deep"] (spCond (n+1)):=by
 refine F.ok vD (fun vs H Q E h=>?_) (fun zx A outer s H vs Q E hr h=>?_)
 .obtain⟨_,_,_,_,rfl,_⟩:=h
  rfl
 obtain⟨dk,wd,ws,dp,rfl,D,h0,h1,q⟩:=h
 obtain⟨de,hde⟩:=D.deck
 refine⟨_,(qZ (xF (i:=3) vD.nd rfl (zU kr hr rfl jb.mg jb.kp jb.bd .nil pass0 (qQ (pv 0) (qQ qE qX))))
  (qZ (zD (PW.pt (qVz (qR zM (pv 2) qE (xD _)) (qYf (qR qAx (pv 3) qE (xD _))))) (qZ (zD (qR zM (pv 3) qE (xD _)) (qJ (qN (xN (qQ qF qX)))) qY)
  (qZ (xF (i:=4) vD.nd rfl (zU kq hr rfl ja.mg ja.kp ja.bd .nil pass0 (qQ (pv 0) (qQ (pv 1) (qQ qE qX)))))
  (qJ (qN (xN (qQ (xE (qT (K:=K)) (xU (qQ qF (qQ qF qX))) (xQ kY (pv 3) qE)) (qQ (pv 4) (qQ (zU kq hr rfl ja.mg ja.kp ja.bd .nil pass0 (qQ (pv 0) (qQ (pv 1) (qQ qE qX)))) qX)))))))) qY)
  (qZ (xF (i:=4) vD.nd rfl (zU uO hr rfl jp.mg jp.kp jp.bd .nil pass0 (qQ (pv 0) (qQ (pv 1) (qQ (xQ wJ (pv 2) qE) qX)))))
  (qZ (zD (qR qAx (pv 3) qE (xD _)) (qJ (qN (xN (qQ qF (qQ (pv 4) qX))))) qY)
  (qJ (qN (xN (qQ qF (qQ (pv 4) (qQ (zU uO hr rfl jp.mg jp.kp jp.bd .nil pass0 (qQ (pv 0) (qQ (pv 1) (qQ (xQ wJ (pv 2) qE) qX)))) qX)))))))))),?_⟩
 refine⟨_,rfl,dk,7,de,rfl,hde,by decide,by wtm_at"d",fun k d1 hk0 hk5=>?_⟩
 have B1:But dk H (upd H dk (.lst [.int d1])):=But.upd
 have D1:Dk (upd H dk (.lst [.int d1])) dk wd ws:=D.but B1 qW
 generalize upd H dk (.lst [.int d1])=H1 at B1 D1
 show tOr (tTest (tOp rEq (tVar 2) (tC (.int 0)))) (tTest (tOp (rI0 fun i j=>.bl (decide (i<j))) (tVar 3) (tC (.int 3)))) _ _ _
 refine qPh (b1:=decide (V.int dp=V.int 0)) (b2:=decide (k<3)) (fun K h=>⟨_,rfl,rfl,_,rfl,h⟩) (fun K h=>⟨_,rfl,_,_,rfl,rfl,_,rfl,h⟩) _ ?_
 refine ite2 (fun _=>?_) (fun c=>?_)
 .refine⟨_,rfl,rfl,_,rfl,?_⟩
  refine ite2 (fun _=>?_) (fun _=>?_)
  .refine⟨(by show 1<=Yc;decide),fun t ht=>?_⟩
   exact q (.nul "yes") (.ref t) _ (B1.trans (qV ht _).but) (D1.new ht) ⟨t,rfl,qW⟩ rfl (by show 1<=_;omega)
  .refine⟨_,rfl,_,rfl,dk,wd,ws,2,rfl,D1,by decide,by decide,fun t1 v1 H2 B2 D2 a1 x1 d1=>?_⟩
   refine⟨(by show 2<=Yc;decide),fun l hl=>?_⟩
   have key:∃op:Str,(op = "same" \/ op = "under")/\atI [V.str "same",V.str "under"] (k % 2)=some (.str op):=by
    have:k % 2=0\/k % 2=1:=by omega
    rcases this with e | e
    .exact⟨"same",.inl rfl,by rw[e];rfl⟩
    .exact⟨"under",.inr rfl,by rw[e];rfl⟩
   obtain⟨op,hop,eop⟩:=key
   refine⟨_,rfl,k,2,rfl,rfl,(by decide:(0:Int)<2),l,_,k % 2,.str op,rfl,rfl,SqL.of qW,eop,_,rfl,_,rfl,_,rfl,dk,wd,ws,2,rfl,D2.new hl,by decide,by decide,fun t2 v2 H3 B3 D3 a2 x2 d2=>?_⟩
   refine⟨(by show 3<=Yc;decide),fun t ht=>?_⟩
   obtain⟨d2',hd2⟩:=D2.deck
   have T2:Tups H2 (upd H3 t (.tup [.str op,v1,v2])):=(qC (qV hl _)).trans ((kG B3 (by rw[qA (qB hd2 hl)];exact hd2)).trans (qC (qV ht _)))
   refine q (.bin op t1 t2) (.ref t) _ (B1.trans (B2.trans ((qV hl _).but.trans (B3.trans (qV ht _).but)))) (D3.new ht) ⟨t,v1,v2,rfl,qW,a1.mono T2,a2.mono (qC (qV ht _))⟩ (.inl ⟨hop,x1,x2⟩) ?_
   have e3:(2:Int).toNat+1=3:=rfl
   rw[e3] at d1 d2
   show max t1.dep t2.dep+1<=_
   omega
 have c1:¬(V.int dp=V.int 0):=fun z=>c (by rw[decide_eq_true z];rfl)
 have dp1:dp≠0:=fun z=>c1 (by rw[z])
 refine⟨_,rfl,_,rfl,_,rfl,_,1,rfl,rfl,dk,wd,ws,dp - 1,rfl,D1,by omega,by omega,fun t1 v1 H2 B2 D2 a1 x1 d1=>?_⟩
 refine⟨_,rfl,_,_,rfl,rfl,_,rfl,?_⟩
 refine ite2 (fun _=>?_) (fun _=>?_)
 .refine⟨_,rfl,(by show 2<=Yc;decide),fun t ht=>?_⟩
  refine q (.un "not" t1) (.ref t) _ (B1.trans (B2.trans (qV ht _).but)) (D2.new ht) ⟨t,v1,rfl,qW,a1.mono (qC (qV ht _))⟩ ⟨rfl,x1⟩ ?_
  show t1.dep+1<=_
  omega
 .refine⟨_,rfl,_,rfl,_,rfl,_,rfl,_,1,rfl,rfl,dk,wd,ws,dp - 1,rfl,D2,by omega,by omega,fun t2 v2 H3 B3 D3 a2 x2 d2=>?_⟩
  refine⟨(by show 3<=Yc;decide),fun t ht=>?_⟩
  obtain⟨d2',hd2⟩:=D2.deck
  have T2:Tups H2 (upd H3 t (.tup [.str "both",v1,v2])):=(kG B3 hd2).trans (qC (qV ht _))
  refine q (.bin "both" t1 t2) (.ref t) _ (B1.trans (B2.trans (B3.trans (qV ht _).but))) (D3.new ht) ⟨t,v1,v2,rfl,qW,a1.mono T2,a2.mono (qC (qV ht _))⟩ (.inr ⟨rfl,x1,x2⟩) ?_
  show max t1.dep t2.dep+1<=_
  omega
theorem qRw {f g e:Addr}{fd gd ed:FuncData}(F:Fun K "_law_cond" "_law_cond" (top 72) f fd)(B:Bl mg)(jp:FunE K mg "_law_cond" f fd ["deck","words","deep"])
  (GE:FnOk P w K mg base CX0 4 e ed ["deck","words","deep"] (spExpr 3)) (ja:FunE K mg "_law_expr" e ed ["deck","words","deep"])
  (G:FnOk P w K mg base CX0 1 g gd ["deck","many"] spTake) (jb:FunE K mg "_law_take" g gd ["deck","many"]):∀n:Nat,FnOk P w K mg base CX0 (n+5) f fd ["deck","words","deep"] (spCond n)
 | 0=>xXi.mono (by omega)
 | n+1=>xXh F B (qRw F B jp GE ja G jb n) jp (GE.mono (by omega)) ja (G.mono (by omega)) jb
def Th.worth (ρ:Str->Int):Th->Int
 | .num n=>n
 | .box x=>ρ x
 | .nul _=>0
 | .un _ _=>0
 | .bin k a b=>if k = "plus" then a.worth ρ+b.worth ρ else a.worth ρ - b.worth ρ
theorem xCf:("less" : Str) ≠ "plus" := by wtm_at"d"
def Env' (kvs:List (Key×V))(ws:List Str)(ρ:Str->Int):Prop:=∀x∈ws,valV kvs (Sum.inr x)=some (.int (ρ x))/\0<=ρ x/\ρ x<10
theorem vB:xM ["expression","values","kind","one","other"] ["expression","values"] (xA (top 8)):=by constructor <;> first | rfl | wtm_at"d"
def kQ (n:Nat):Sp:=fun vs H Q _=>∃(t:Th) (v:V) (d:Addr) (kvs:List (Key×V)) (ws:List Str) (ρ:Str->Int),vs=[v,.ref d]/\t.At H v/\Expr' ws t/\t.dep<=n/\H d=some (.dK kvs)/\Env' kvs ws ρ/\Q (.int (t.worth ρ)) H
theorem qCa {f:Addr}{fd:FuncData}:FnOk P w K mg base CX0 1 f fd ["expression","values"] (kQ 0):=by
 have no:∀vs H Q E,¬kQ 0 vs H Q E:=fun vs H Q E h=>by
  obtain⟨t,_,_,_,_,_,_,_,_,h1,_⟩:=h
  have:=t.dep_pos
  omega
 exact⟨fun vs H Q E h=>absurd h (no vs H Q E),fun A outer s H args us vs Q E _ _ _ _ h=>absurd h (no vs H Q E)⟩
theorem qCw {n:Nat}{f:Addr}{fd:FuncData}(F:Fun K "worth_by" "worth_by" (top 8) f fd)(uP:FnOk P w K mg base CX0 (n+1) f fd ["expression","values"] (kQ n))(jq:FunE K mg "worth_by" f fd ["expression","values"]):
  FnOk P w K mg base CX0 (n+2) f fd ["expression","values"] (kQ (n+1)):=by
 refine F.ok vB (fun vs H Q E h=>?_) (fun zx A outer s H vs Q E hr h=>?_)
 .obtain⟨_,_,_,_,_,_,rfl,_⟩:=h
  rfl
 obtain⟨t,v,d,kvs,ws,ρ,rfl,at',ex,hn,hd,env,q⟩:=h
 have hu:=xDx hr
 refine⟨_,(qZ (xF (i:=2) vB.nd rfl (xE (qS (K:=K)) (pv 0) qE))
  (qZ (zD (qR zM (pv 2) qF (xD _)) (qJ (qN (xE (qS (K:=K)) (pv 0) qE))) qY)
  (qZ (zD (qR zM (pv 2) qF (xD _)) (qJ (qN (qPg hu (pv 1) (xE (qS (K:=K)) (pv 0) qE) (fun _ _=>rfl)))) qY)
  (qZ (xF (i:=3) vB.nd rfl (zU uP hr rfl jq.mg jq.kp jq.bd .nil pass0 (qQ (xE (qS (K:=K)) (pv 0) qE) (qQ (pv 1) qX))))
  (qZ (xF (i:=4) vB.nd rfl (zU uP hr rfl jq.mg jq.kp jq.bd .nil pass0 (qQ (xE (qS (K:=K)) (pv 0) qE) (qQ (pv 1) qX))))
  (qJ (qN (vF (qR zM (pv 2) qF (xD _)) (xQ jJ (pv 3) (pv 4)) (xQ wJ (pv 3) (pv 4)))))))))),?_⟩
 cases t with
 | nul _=>exact False.elim ex
 | un _ _=>exact False.elim ex
 | num n=>
  obtain⟨a,ev,ea⟩:=at'
  subst ev
  refine⟨_,rfl,a,_,0,.str "number",rfl,rfl,SqT.of ea,rfl,?_⟩
  refine⟨_,rfl,rfl,_,rfl,?_⟩
  rw[jD]
  refine iteT ?_
  exact⟨_,rfl,a,_,1,.int n,rfl,rfl,SqT.of ea,rfl,q⟩
 | box x=>
  obtain⟨a,ev,ea⟩:=at'
  subst ev
  refine⟨_,rfl,a,_,0,.str "box",rfl,rfl,SqT.of ea,rfl,?_⟩
  refine⟨_,rfl,rfl,_,rfl,?_⟩
  rw[xV (Ne.symm xVo)]
  refine iteF ?_
  refine⟨_,rfl,rfl,_,rfl,?_⟩
  rw[jD]
  refine iteT ?_
  refine⟨_,rfl,_,rfl,a,_,1,.str x,rfl,rfl,SqT.of ea,rfl,d,.int (ρ x),rfl,?_,q⟩
  rw[<- (env x ex).1]
  exact DGet.k (k:=Sum.inr x) hd
 | bin k t1 t2=>
  obtain⟨a,u1,u2,ev,ea,a1,a2⟩:=at'
  obtain⟨hk,x1,x2⟩:=ex
  subst ev
  have hn':max t1.dep t2.dep+1<=n+1:=hn
  have k1:k ≠ "number" := by rcases hk with rfl | rfl;exact qYn.2;exact qYo.2
  have k2:k ≠ "box" := by rcases hk with rfl | rfl;exact qYn.1;exact qYo.1
  refine⟨_,rfl,a,_,0,.str k,rfl,rfl,SqT.of ea,rfl,?_⟩
  refine⟨_,rfl,rfl,_,rfl,?_⟩
  rw[xV k1]
  refine iteF ?_
  refine⟨_,rfl,rfl,_,rfl,?_⟩
  rw[xV k2]
  refine iteF ?_
  refine⟨_,rfl,a,_,1,u1,rfl,rfl,SqT.of ea,rfl,_,rfl,t1,u1,d,kvs,ws,ρ,rfl,a1,x1,by omega,hd,env,?_⟩
  refine⟨_,rfl,a,_,2,u2,rfl,rfl,SqT.of ea,rfl,_,rfl,t2,u2,d,kvs,ws,ρ,rfl,a2,x2,by omega,hd,env,?_⟩
  refine⟨_,rfl,rfl,_,rfl,?_⟩
  have q':Q (.int (if k = "plus" then t1.worth ρ+t2.worth ρ else t1.worth ρ - t2.worth ρ)) H:=q
  refine ite2 (fun c=>?_) (fun c=>?_)
  .have c':k = "plus" := by
    have z:=of_decide_eq_true c
    cases z
    rfl
   rw[if_pos c'] at q'
   exact⟨_,rfl,_,rfl,_,_,rfl,rfl,q'⟩
  .have c':k ≠ "plus" := fun z=>c (by rw[z,jD])
   rw[if_neg c'] at q'
   exact⟨_,rfl,_,rfl,_,_,rfl,rfl,q'⟩
theorem qKx {f:Addr}{fd:FuncData}(F:Fun K "worth_by" "worth_by" (top 8) f fd)(jq:FunE K mg "worth_by" f fd ["expression","values"]):∀n:Nat,FnOk P w K mg base CX0 (n+1) f fd ["expression","values"] (kQ n)
 | 0=>qCa
 | n+1=>qCw F (qKx F jq n) jq
theorem qVh {x:Str}:∀(kvs:List (Str×V)) (acc:List (Key×V)),((valV acc (Sum.inr x)).isSome=true\/x∈kvs.map (·.1))->(valV (mergeK acc (pairK kvs)) (Sum.inr x)).isSome=true
 | [],acc,h=>by rcases h with h | h;exact h;cases h
 | (n,v)::kvs,acc,h=>by
  show(valV (mergeK (putK acc (Sum.inr n) v) (pairK kvs)) (Sum.inr x)).isSome=true
  refine qVh kvs _ ?_
  rw[qJx]
  by_cases e:x=n
  .left;subst e;rw[if_pos rfl];rfl
  .rw[if_neg (fun z=>e (Sum.inr.inj z))]
   rcases h with h | h
   .exact .inl h
   .rcases yYK.mp h with h | h
    .exact absurd h e
    .exact .inr h
theorem qCf {Pr:V->Prop}:∀(kvs:List (Str×V)) (acc:List (Key×V)),(∀kv∈kvs,Pr kv.2)->(∀k v,valV acc k=some v->Pr v)->∀k v,valV (mergeK acc (pairK kvs)) k=some v->Pr v
 | [],acc,_,h=>h
 | (n,v)::kvs,acc,hk,h=>by
  show∀k v',valV (mergeK (putK acc (Sum.inr n) v) (pairK kvs)) k=some v'->Pr v'
  refine qCf kvs _ (fun kv hkv=>hk kv (yYH _ hkv)) fun k v' e=>?_
  rw[qJx] at e
  by_cases c:k=Sum.inr n
  .rw[if_pos c] at e;cases e;exact hk (n,v) yYG
  .rw[if_neg c] at e;exact h k v' e
def envOf (kvs:List (Key×V))(x:Str):Int:=match valV kvs (Sum.inr x) with
 | some (.int i)=>i
 | _=>0
abbrev kvsOf (bs:List (Str×Int))(vals:List Int):List (Key×V):=mergeK [] (zipK (bs.map (·.1)) (intsV vals))
def Stands (bs:List (Str×Int))(vals:List Int):Prop:=vals.length=bs.length/\∀v∈vals,0<=v/\v<10
theorem xYi {bs:List (Str×Int)}{vals:List Int}(h:Stands bs vals):Env' (kvsOf bs vals) (bs.map (·.1)) (envOf (kvsOf bs vals)):=fun x hx=>by
 have s1:(valV (kvsOf bs vals) (Sum.inr x)).isSome=true:=qVh (x:=x) ((bs.map (fun b:Str×Int=>b.1)).zip (intsV vals)) [] (.inr (by
  rw[List.map_fst_zip]
  .exact hx
  .rw[yYC,kA,h.1];exact yZB _))
 have s2:=qCf (Pr:=fun v=>∃i:Int,v=.int i/\0<=i/\i<10) ((bs.map (fun b:Str×Int=>b.1)).zip (intsV vals)) [] (fun kv hkv=>by
  obtain⟨a,b⟩:=kv
  obtain⟨i,hi,e⟩:=yYP.mp (List.of_mem_zip hkv).2
  exact⟨i,e.symm,h.2 i hi⟩) (fun k v e=>by cases e) (Sum.inr x)
 cases e:valV (kvsOf bs vals) (Sum.inr x) with
 | none=>rw[e] at s1;cases s1
 | some v=>
  obtain⟨i,rfl,h0,h1⟩:=s2 v e
  have e2:envOf (kvsOf bs vals) x=i:=by unfold envOf;rw[e]
  rw[e2]
  exact⟨rfl,h0,h1⟩
theorem qXl:xM ["boxes","standing"] ["boxes","standing"] (xA (top 7)):=by constructor <;> first | rfl | wtm_at"d"
theorem yF:CompOk (xA (top 7)) ["boxes","standing"] (qEf (argOf (argOf (asgVal (stAt (xB (top 7)) 0)) 0) 0)) ["name","size"] 2 []:=
 by constructor <;> wtm_at"d"
structure World' (H:Hp)(bx st:Addr)(bs:List (Str×Int))(vals:List Int):Prop where
 boxes:∃us,H bx=some (.lst us)/\Paired (BoxIn H) bs us
 stand:H st=some (.tup (intsV vals))
 ok:Stands bs vals
 le:bs.length<=100
def qJz:Sp:=fun vs H Q _=>∃(bx st:Addr) (bs:List (Str×Int)) (vals:List Int),vs=[.ref bx,.ref st]/\World' H bx st bs vals/\
 ∀(p:Addr) (H':Hp),Same H H'->H' p=some (.dK (kvsOf bs vals))->Q (.ref p) H'
theorem qRq {f:Addr}{fd:FuncData}(F:Fun K "values_by_name" "values_by_name" (top 7) f fd)(B:Bl mg):FnOk P w K mg base CX0 1 f fd ["boxes","standing"] qJz:=by
 refine F.ok qXl (fun vs H Q E h=>?_) (fun zx A outer s H vs Q E hr h=>?_)
 .obtain⟨_,_,_,_,rfl,_⟩:=h
  rfl
 obtain⟨bx,st,bs,vals,rfl,W,q⟩:=h
 obtain⟨us,e1,p1⟩:=W.boxes
 refine⟨_,qJ (qN (qEn rfl rfl B.dict' rfl B.zip' (qQ (zI rfl yF (qPe (pv 0))
  (fun cl fp s H=>show PG _ _ (gTup K 2 (gCons (gName 0) (gCons (gName 1) gNil))) from xYx rfl (qH (qG (i:=0) yF.nd rfl (Or.inl rfl) (.inr rfl)) (qH (qG (i:=1) yF.nd rfl (Or.inl rfl) (.inr rfl)) qI)))
  (fun cl fp s H=>zF) (fun cl fp s H=>pv 0)) (qQ (pv 1) qX)))),?_⟩
 refine⟨_,rfl,bx,rfl,⟨us,SqL.of e1⟩,?_⟩
 refine zV (xs:=us) (fun D i ys H'=>ys=strsV ((bs.take i).map (·.1))/\∀b o,H b=some o->H' b=some o) (fun D hD=>⟨rfl,qV hD _⟩)
  (fun D i ys H' _ hP=>(show Same H H' from hP.2).seq (SqL.of e1)) (fun D i x ys H' N hD hDy ex hP hN=>?_) (fun D ys H2 hD hDy hP=>?_)
 .obtain⟨rfl,hk⟩:=hP
  obtain⟨b,eb⟩:∃b,bs[i]? = some b:=⟨_,yYA (by rw[p1.length];exact(yYB.mp ex).1)⟩
  obtain⟨ba,rfl,hba⟩:=xK p1 eb ex
  refine⟨ba,_,rfl,SqT.of (hk _ _ hba),rfl,_,_,rfl,_,_,rfl,rfl,⟨[some (.str b.1),some (.int b.2)],rfl,rfl⟩,?_⟩
  have wle:=W.le
  refine⟨_,rfl,hDy,?_,hN _ _ qW ⟨?_,fun b o e=>?_⟩⟩
  .rw[xW,yYC,yYF];exact small (by omega)
  .rw[yYM,eb,yYU,xR];rfl
  .rw[qA (qB e hD)];exact hk _ _ e
 obtain⟨rfl,hk2⟩:=hP
 have lb:us.length=bs.length:=p1.length.symm
 rw[lb,yYJ] at hDy
 have wle:=W.le
 refine⟨_,rfl,D,st,bs.map (·.1),intsV vals,rfl,SqL.of hDy,SqT.of (hk2 _ _ W.stand),?_,?_,fun p hp=>?_⟩
 .rw[yYC,kA,W.ok.1]
 .rw[yYC];omega
 .exact q p _ ((show Same H H2 from hk2).trans (qV hp _)) qW
theorem qWn:xM ["boxes","standing"] ["boxes","standing"] (xA (top 75)):=by constructor <;> first | rfl | wtm_at"d"
theorem qXv:CompOk (xA (top 75)) ["boxes","standing"] (qEf (argOf (asgVal (stAt (xB (top 75)) 0)) 0)) ["k","boxes","standing"] 1 [0,1]:=
 by constructor <;> wtm_at"d"
theorem qMf {H H':Hp}(h:Tups H H'){kvs:List (Str×V)}{us:List V}(p:Paired (PairIn H) kvs us):Paired (PairIn H') kvs us:=Paired.mapP p fun _ _ x=>let ⟨a,e,q⟩:=x;⟨a,e,h _ _ q⟩
theorem qMh {f:Addr}{fd:FuncData}(F:Fun K "_law_values" "_law_values" (top 75) f fd)(B:Bl mg):FnOk P w K mg base CX0 1 f fd ["boxes","standing"] qJz:=by
 refine F.ok qWn (fun vs H Q E h=>?_) (fun zx A outer s H vs Q E hr h=>?_)
 .obtain⟨_,_,_,_,rfl,_⟩:=h
  rfl
 obtain⟨bx,st,bs,vals,rfl,W,q⟩:=h
 obtain⟨us,e1,p1⟩:=W.boxes
 have wle:=W.le
 have lb:us.length=bs.length:=p1.length.symm
 have lv:=W.ok.1
 refine⟨_,qJ (qN (xX (qDh rfl) rfl B.dict' qUd (qQ (zI rfl qXv (yZ rfl B.range' (qQ (xZ qZl rfl B.len' jO (qQ (pv 0) qX)) qX))
  (fun cl fp s H=>qG (i:=0) qXv.nd rfl (Or.inl rfl) (.inr rfl)) (fun cl fp s H=>zF)
  (fun cl fp s H=>xN (qQ (xE (r:=rIxT K) qSd (xE (r:=rIxL K) qSe (pv 1) (pv 0)) qE) (qQ (xE (r:=rIxT K) qSd (pv 2) (pv 0)) qX)))) qX))),?_⟩
 refine⟨_,rfl,bx,_,rfl,.inl (SqL.of e1),_,rfl,by omega,by omega,?_⟩
 have e0:((us.length:Nat):Int).toNat=us.length:=by omega
 rw[e0]
 refine qWx (fun D i ys H'=>Paired (PairIn H') (((bs.map (·.1)).zip (intsV vals)).take i) ys/\∀b o,H b=some o->H' b=some o) (fun D hD=>⟨.nil,qV hD _⟩)
  (fun D i ys H' N hD hDy hi hP hN=>?_) (fun D ys H2 hD hDy hP=>?_)
 .obtain⟨hp,hk⟩:=hP
  obtain⟨b,eb⟩:∃b,bs[i]? = some b:=⟨_,yYA (by omega)⟩
  obtain⟨u,eu⟩:∃u,us[i]? = some u:=⟨_,yYA hi⟩
  obtain⟨v,ev⟩:∃v,vals[i]? = some v:=⟨_,yYA (by omega)⟩
  obtain⟨ba,rfl,hba⟩:=xK p1 eb eu
  have lp:=hp.length
  rw[yYF,List.length_zip,yYC,kA] at lp
  refine⟨⟨[some (.int (0+(i:Int)))],rfl,rfl⟩,?_⟩
  have at1:atI us (0+(i:Int))=some (.ref ba):=by rw[Int.zero_add];exact jM eu
  have at2:atI (intsV vals) (0+(i:Int))=some (.int v):=by rw[Int.zero_add];exact qIe ev
  refine⟨_,rfl,_,rfl,bx,us,_,.ref ba,rfl,rfl,SqL.of (hk _ _ e1),at1,ba,_,0,.str b.1,rfl,rfl,SqT.of (hk _ _ hba),rfl,_,rfl,_,rfl,st,_,_,.int v,rfl,rfl,SqT.of (hk _ _ W.stand),at2,(by show 2<=Yc;decide),fun t ht=>?_⟩
  have Dt:D≠t:=qB hDy ht
  refine⟨by rw[qA Dt];exact hDy,by exact small (by omega),hN _ _ qW ⟨?_,fun b o e=>?_⟩⟩
  .have T1:Tups H' (upd (upd H' t (.tup [.str b.1,.int v])) D (.lst (ys++[.ref t]))):=fun b xs e=>by rw[qA (wO e hDy (by intro z;cases z)),qA (qB e ht)];exact e
   have ez:((bs.map (·.1)).zip (intsV vals))[i]? = some (b.1,.int v):=List.getElem?_zip_eq_some.mpr ⟨by rw[yYO,eb];rfl,by rw[yYO,ev];rfl⟩
   rw[yYM,ez]
   exact Paired.snoc (qMf T1 hp) ⟨t,rfl,by rw[qA (Ne.symm Dt)];exact qW⟩
  .rw[qA (qB e hD),qA (qB (hk _ _ e) ht)];exact hk _ _ e
 obtain⟨hp,hk⟩:=hP
 have lz:((bs.map (·.1)).zip (intsV vals)).length=us.length:=by rw[List.length_zip,yYC,kA];omega
 rw[<- lz,yYJ] at hp
 refine⟨D,ys,_,rfl,hDy,hp,by omega,fun p hp'=>?_⟩
 exact q p _ ((show Same H H2 from hk).trans (qV hp' _)) qW
theorem jH:xM ["part","values","total","pile","one","sign"] ["part","values"] (xA (top 73)):=by constructor <;> first | rfl | wtm_at"d"
def qWg:Sp:=fun vs H Q _=>∃(t:Th) (v:V) (d:Addr) (kvs:List (Key×V)) (ws:List Str) (ρ:Str->Int),vs=[v,.ref d]/\t.At H v/\Expr' ws t/\t.dep<=12/\H d=some (.dK kvs)/\Env' kvs ws ρ/\∀H',Same H H'->Q (.int (t.worth ρ)) H'
def Sig (H:Hp)(ws:List Str)(p:Th×Int)(u:V):Prop:=∃a v,u=.ref a/\H a=some (.tup [v,.int p.2])/\p.1.At H v/\Expr' ws p.1/\(p.2=1\/p.2 = -1)
theorem qJv {H H':Hp}{ws:List Str}(h:Tups H H'){ps:List (Th×Int)}{us:List V}(p:Paired (Sig H ws) ps us):Paired (Sig H' ws) ps us:=Paired.mapP p fun _ _ x=>let ⟨a,v,e,q,r,s⟩:=x;⟨a,v,e,h _ _ q,r.mono h,s⟩
def sumAll (ρ:Str->Int)(ps:List (Th×Int)):Int:=(ps.map fun p=>p.2 * p.1.worth ρ).sum
def cntS (ps:List (Th×Int)):Nat:=(ps.map fun p=>p.1.cnt).sum
theorem qQx (ρ:Str->Int)(ps:List (Th×Int))(p:Th×Int):sumAll ρ (ps++[p])=sumAll ρ ps+p.2 * p.1.worth ρ:=by simp[sumAll]
theorem vY (ps:List (Th×Int))(p:Th×Int):cntS (ps++[p])=cntS ps+p.1.cnt:=by simp[cntS]
theorem qHo:∀ps:List (Th×Int),ps.length<=cntS ps
 | []=>yZB _
 | p::r=>by
  have:=qHo r
  have:=p.1.cnt_pos
  show r.length+1<=p.1.cnt+cntS r
  omega
theorem xQh {F:Th×Int->V->Prop}{ts:List (Th×Int)}{us:List V}(p:Paired F ts us)(h:us≠[]):∃ts' t us' u,ts=ts'++[t]/\us=us'++[u]/\Paired F ts' us'/\F t u:=by
 induction p with
 | nil=>exact absurd rfl h
 | @cons a b l₁ l₂ f p ih=>
  cases l₂ with
  | nil=>
   cases p
   exact⟨[],a,[],b,rfl,rfl,.nil,f⟩
  | cons c l₂=>
   obtain⟨ts',t,us',u,e1,e2,p',f'⟩:=ih (by simp)
   exact⟨a::ts',t,b::us',u,by rw[e1];rfl,by rw[e2];rfl,.cons f p',f'⟩
theorem xQl {g:Int}(h:g=1\/g = -1):g.natAbs<2 ^ 1000:=by rcases h with rfl | rfl <;> wtm_at"d"
abbrev PileI (v0:V)(d p:Addr)(ws:List Str)(ρ:Str->Int)(t0:Th)(H:Hp)(m:Nat)(σ':St)(H':Hp):Prop:=∃(tt:Int) (ps:List (Th×Int)) (us:List V) (z1 z2:Option V),σ'=[some v0,some (.ref d),some (.int tt),some (.ref p),z1,z2]/\m=cntS ps/\(∀b o,b≠p->H b=some o->H' b=some o)/\H' p=some (.lst us)/\
   Paired (Sig H' ws) ps us/\tt+sumAll ρ ps=t0.worth ρ/\cntS ps<=t0.cnt
theorem qRk {f:Addr}{fd:FuncData}(F:Fun K "_law_worth" "_law_worth" (top 73) f fd)(B:Bl mg):FnOk P w K mg base CX0 1 f fd ["part","values"] qWg:=by
 refine F.ok jH (fun vs H Q E h=>?_) (fun zx A outer s H vs Q E hr h=>?_)
 .obtain⟨_,_,_,_,_,_,rfl,_⟩:=h
  rfl
 obtain⟨t0,v0,d,kvs,ws,ρ,rfl,at0,ex0,h12,hd,env,q⟩:=h
 have hu:=xDx hr
 have cs:=t0.cnt_small h12
 refine⟨_,(qZ (xF (i:=2) jH.nd rfl qE)
  (qZ (xF (i:=3) jH.nd rfl (xU (qQ (xN (qQ (pv 0) (qQ qE qX))) qX)))
  (qZ (qWo PassesOwn.never (qR (xVb (K:=K) hr.units) (pv 3) (xU qX) (xD _)) (qZ (qO (qAq (K:=K) Yy PySem.F.slot_list_pop PySem.F.type_list_pop xYk (pv 3)) (jF (K:=K) (n:=2) rfl (qH (qG (i:=4) jH.nd rfl (by wtm_at "zo")) (qH (qG (i:=5) jH.nd rfl (by wtm_at "zo")) qI))))
  (qJ (zD (qR zM (xE (qS (K:=K)) (pv 4) qE) qF (xD _)) (qJ (xF (i:=2) jH.nd rfl (xQ jJ (pv 2) (xQ yE (pv 5) (xE (qS (K:=K)) (pv 4) qE))))) (qJ (zD (qR zM (xE (qS (K:=K)) (pv 4) qE) qF (xD _)) (qJ (xF (i:=2) jH.nd rfl (xQ jJ (pv 2) (xQ yE (pv 5) (qPg hu (pv 1) (xE (qS (K:=K)) (pv 4) qE) (fun _ _=>rfl)))))) (qZ (qP (zX (K:=K) Yy Yz YT xO (pv 3) (qQ (xN (qQ (xE (qS (K:=K)) (pv 4) qE) (qQ (pv 5) qX))) qX)))
  (qJ (qP (zX (K:=K) Yy Yz YT xO (pv 3) (qQ (xN (qQ (xE (qS (K:=K)) (pv 4) qE) (qQ (xE (qT (K:=K)) (xU (qQ (qYi vS (pv 5)) (qQ (pv 5) qX))) (xX qDg rfl B.int' qDm (qQ (zJ zM (xE (qS (K:=K)) (pv 4) qE) qF (xD _)) qX))) qX))) qX)))))))))))
  (qJ (qN (pv 2)))))),?_⟩
 refine⟨_,rfl,(by show 2<=Yc;decide),fun a1 ha1=>?_⟩
 refine⟨(by show 1<=Yc;decide),fun p hp=>?_⟩
 have hpH:H p=none:=(qV ha1 _).free hp
 have T0:Tups H (upd (upd H a1 (.tup [v0,.int 1])) p (.lst [.ref a1])):=(qC (qV ha1 _)).trans (qC (qV hp _))
 refine⟨fun m σ' H'=>PileI v0 d p ws ρ t0 H m σ' H',
  ⟨_,0,[(t0,1)],[.ref a1],none,none,rfl,rfl,fun b o h1 e=>by rw[qA h1,qA (qB e ha1)];exact e,qW,.cons ⟨a1,v0,rfl,qV hp _ _ _ qW,at0.mono T0,ex0,.inl rfl⟩ .nil,by simp[sumAll],by simp[cntS]⟩,?_⟩
 rintro m σ' H' ⟨tt,ps,us,z1,z2,rfl,rfl,hk,hpu,hpile,hsum,hcnt⟩
 refine⟨_,rfl,(by show 0<=Yc;decide),fun e0 he0=>?_⟩
 have n2:p≠e0:=qB hpu he0
 have hpu1:upd H' e0 (.lst []) p=some (.lst us):=by rw[qA n2];exact hpu
 have hk1:∀b o,b≠p->H b=some o->upd H' e0 (.lst []) b=some o:=fun b o h1 e=>by rw[qA (qB (hk b o h1 e) he0)];exact hk b o h1 e
 have hpile1:=qJv (qC (qV he0 (.lst []))) hpile
 have he1:upd H' e0 (.lst []) e0=some (.lst []):=qW
 generalize upd H' e0 (.lst [])=H1 at hpu1 hk1 hpile1 he1
 refine⟨p,e0,us,rfl,rfl,SqL.of hpu1,SqL.of he1,_,rfl,?_⟩
 cases hus:us with
 | nil=>
  subst hus
  cases hpile1
  refine iteF ?_
  have:tt=t0.worth ρ:=by simpa [sumAll] using hsum
  subst this
  exact⟨_,rfl,q H1 fun b o e=>hk1 b o (qB e hpH) e⟩
 | cons u0 ur=>
  obtain⟨ps',⟨t,g⟩,us',u,rfl,eu,hp',⟨a,v,rfl,ha,ata,exa,hg⟩⟩:=xQh hpile1 (by rw[hus];simp)
  rw[hus] at eu
  refine iteT ?_
  have ha:H1 a=some (.tup [v,.int g]):=ha
  have ata:t.At H1 v:=ata
  have exa:Expr' ws t:=exa
  have hg:g=1\/g = -1:=hg
  rw[vY] at hcnt
  rw[qQx] at hsum
  have hsum:tt+(sumAll ρ ps'+g * t.worth ρ)=t0.worth ρ:=hsum
  have hcnt:cntS ps'+t.cnt<=t0.cnt:=hcnt
  have lp:=hp'.length
  have lc:=qHo ps'
  have tc:=t.cnt_pos
  have gs:=xQl hg
  obtain⟨N,hN,hN'⟩:∃N:St->Hp->Prop,(∀σ' H',N σ' H'->∃m',m'<cntS (ps'++[(t,g)])/\PileI v0 d p ws ρ t0 H m' σ' H')/\∀σ' H',(∃m',m'<cntS ps'+t.cnt/\PileI v0 d p ws ρ t0 H m' σ' H')->N σ' H':=⟨_,fun _ _ h=>h,fun _ _ h=>by rw[vY];exact h⟩
  refine⟨N,hN,?_⟩
  have hpu2:H1 p=some (.lst (us'++[.ref a])):=by rw[hpu1,hus,eu]
  have T1:Tups H1 (upd H1 p (.lst us')):=fun b xs e=>by rw[qA (wO e hpu2 (by intro z;cases z))];exact e
  refine⟨_,rfl,.inl ⟨rfl,_,SqL.of hpu2⟩,p,_,.ref a,rfl,rfl,hpu2,by simp,?_⟩
  rw[List.dropLast_concat]
  have ha2:=T1 _ _ ha
  have hpu3:upd H1 p (.lst us') p=some (.lst us'):=qW
  have hk2:∀b o,b≠p->H b=some o->upd H1 p (.lst us') b=some o:=fun b o h1 e=>by rw[qA h1];exact hk1 b o h1 e
  have hp2:=qJv T1 hp'
  have ata2:=ata.mono T1
  generalize upd H1 p (.lst us')=H2 at ha2 hpu3 hk2 hp2 ata2
  refine⟨a,_,rfl,SqT.of ha2,rfl,_,_,rfl,_,_,rfl,rfl,?_⟩
  have pd:d≠p:=qB hd hpH
  cases t with
  | nul _=>exact False.elim exa
  | un _ _=>exact False.elim exa
  | num n=>
   obtain⟨b,ev,eb⟩:=ata2
   obtain⟨hn0,hn1⟩:=exa
   subst ev
   refine⟨_,rfl,b,_,0,.str "number",rfl,rfl,SqT.of eb,rfl,rfl,_,rfl,?_⟩
   rw[jD]
   refine iteT ?_
   refine⟨_,rfl,_,rfl,_,rfl,b,_,1,.int n,rfl,rfl,SqT.of eb,rfl,g,n,rfl,rfl,⟨gs,big _ hn0 (Int.lt_trans hn1 (by wtm_at"d"))⟩,_,_,rfl,rfl,?_⟩
   refine hN' _ _ ⟨_,?_,tt+g * n,ps',us',_,_,rfl,rfl,hk2,hpu3,hp2,?_,?_⟩
   .have:(Th.num n).cnt=1:=rfl
    show cntS ps'<cntS ps'+1
    omega
   .have:(Th.num n).worth ρ=n:=rfl
    rw[this] at hsum
    omega
   .omega
  | box x=>
   obtain⟨b,ev,eb⟩:=ata2
   subst ev
   have ex:x∈ws:=exa
   refine⟨_,rfl,b,_,0,.str "box",rfl,rfl,SqT.of eb,rfl,rfl,_,rfl,?_⟩
   rw[xV (Ne.symm xVo)]
   refine iteF ?_
   refine⟨_,rfl,b,_,0,.str "box",rfl,rfl,SqT.of eb,rfl,rfl,_,rfl,?_⟩
   rw[jD]
   refine iteT ?_
   obtain⟨ev,h0,h1⟩:=env x ex
   refine⟨_,rfl,_,rfl,_,rfl,_,rfl,b,_,1,.str x,rfl,rfl,SqT.of eb,rfl,d,.int (ρ x),rfl,?_,g,ρ x,rfl,rfl,⟨gs,big _ h0 (Int.lt_trans h1 (by wtm_at"d"))⟩,_,_,rfl,rfl,?_⟩
   .rw[<- ev]
    exact DGet.k (k:=Sum.inr x) (hk2 _ _ pd hd)
   refine hN' _ _ ⟨_,?_,tt+g * ρ x,ps',us',_,_,rfl,rfl,hk2,hpu3,hp2,?_,?_⟩
   .show cntS ps'<cntS ps'+1
    omega
   .have:(Th.box x).worth ρ=ρ x:=rfl
    rw[this] at hsum
    omega
   .omega
  | bin k t1 t2=>
   obtain⟨b,u1,u2,ev,eb,b1,b2⟩:=ata2
   obtain⟨hk',x1,x2⟩:=exa
   subst ev
   have k1:k ≠ "number" := by rcases hk' with rfl | rfl;exact qYn.2;exact qYo.2
   have k2:k ≠ "box" := by rcases hk' with rfl | rfl;exact qYn.1;exact qYo.1
   have hcnt:cntS ps'+(t1.cnt+t2.cnt+1)<=t0.cnt:=hcnt
   refine⟨_,rfl,b,_,0,.str k,rfl,rfl,SqT.of eb,rfl,rfl,_,rfl,?_⟩
   rw[xV k1]
   refine iteF ?_
   refine⟨_,rfl,b,_,0,.str k,rfl,rfl,SqT.of eb,rfl,rfl,_,rfl,?_⟩
   rw[xV k2]
   refine iteF ?_
   refine⟨_,rfl,.inl ⟨rfl,_,SqL.of hpu3⟩,_,rfl,b,_,1,u1,rfl,rfl,SqT.of eb,rfl,_,rfl,(by show 2<=Yc;decide),fun c1 hc1=>?_⟩
   have pc1:p≠c1:=qB hpu3 hc1
   refine⟨p,us',.ref c1,rfl,rfl,by rw[qA pc1];exact hpu3,by rw[<- lp];exact small (by omega),?_⟩
   have T3:Tups H2 (upd (upd H2 c1 (.tup [u1,.int g])) p (.lst (us'++[.ref c1]))):=fun b xs e=>by rw[qA (wO e hpu3 (by intro z;cases z)),qA (qB e hc1)];exact e
   have ec1:upd (upd H2 c1 (.tup [u1,.int g])) p (.lst (us'++[.ref c1])) c1=some (.tup [u1,.int g]):=by rw[qA (Ne.symm pc1)];exact qW
   have hpu4:upd (upd H2 c1 (.tup [u1,.int g])) p (.lst (us'++[.ref c1])) p=some (.lst (us'++[.ref c1])):=qW
   have hk3:∀b o,b≠p->H b=some o->upd (upd H2 c1 (.tup [u1,.int g])) p (.lst (us'++[.ref c1])) b=some o:=fun b o h1 e=>by rw[qA h1,qA (qB (hk2 b o h1 e) hc1)];exact hk2 b o h1 e
   have hp3:Paired (Sig (upd (upd H2 c1 (.tup [u1,.int g])) p (.lst (us'++[.ref c1]))) ws) (ps'++[(t1,g)]) (us'++[.ref c1]):=Paired.snoc (qJv T3 hp2) ⟨c1,u1,rfl,ec1,b1.mono T3,x1,hg⟩
   have eb3:=T3 _ _ eb
   have b23:=b2.mono T3
   generalize upd (upd H2 c1 (.tup [u1,.int g])) p (.lst (us'++[.ref c1]))=H3 at hpu4 hk3 hp3 eb3 b23
   obtain⟨g2,hg2,eg2,wg2⟩:∃g2:Int,(g2=1\/g2 = -1)/\atI [V.int (-g),V.int g] (if decide (V.str k=V.str "plus")=true then 1 else 0)=some (.int g2)/\g * (Th.bin k t1 t2).worth ρ=g * t1.worth ρ+g2 * t2.worth ρ:=by
    rcases hk' with rfl | rfl
    .refine⟨g,hg,by rw[jD,if_pos rfl];rfl,?_⟩
     show g * (if ("plus" : Str) = "plus" then t1.worth ρ+t2.worth ρ else t1.worth ρ - t2.worth ρ)=_
     rw[if_pos rfl,Int.mul_add]
    .refine⟨-g,by rcases hg with rfl | rfl;exact .inr rfl;exact .inl rfl,by rw[xV xCf,if_neg yZJ];rfl,?_⟩
     show g * (if ("less" : Str) = "plus" then t1.worth ρ+t2.worth ρ else t1.worth ρ - t2.worth ρ)=_
     rw[if_neg xCf,Int.mul_sub,Int.neg_mul]
     omega
   refine⟨_,rfl,.inl ⟨rfl,_,SqL.of hpu4⟩,_,rfl,b,_,2,u2,rfl,rfl,SqT.of eb3,rfl,_,rfl,_,rfl,_,rfl,(by show 2<=Yc;decide),fun l hl=>?_⟩
   have eb4:upd H3 l (.lst [.int (-g),.int g]) b=some (.tup [.str k,u1,u2]):=by rw[qA (qB eb3 hl)];exact eb3
   refine⟨_,rfl,b,_,0,.str k,rfl,rfl,SqT.of eb4,rfl,rfl,.inr ⟨_,rfl,?_⟩⟩
   have pl:p≠l:=qB hpu4 hl
   refine⟨l,_,_,.int g2,rfl,rfl,SqL.of qW,eg2,(by show 2<=Yc;decide),fun c2 hc2=>?_⟩
   have hpu5:upd H3 l (.lst [.int (-g),.int g]) p=some (.lst (us'++[.ref c1])):=by rw[qA pl];exact hpu4
   have pc2:p≠c2:=qB hpu5 hc2
   refine⟨p,_,.ref c2,rfl,rfl,by rw[qA pc2];exact hpu5,?_,?_⟩
   .rw[yYI,List.length_singleton,<- lp];exact small (by omega)
   have T4:Tups H3 (upd (upd (upd H3 l (.lst [.int (-g),.int g])) c2 (.tup [u2,.int g2])) p (.lst (us'++[.ref c1]++[.ref c2]))):=fun b xs e=>by
    rw[qA (wO e hpu4 (by intro z;cases z)),qA (qB (qV hl _ _ _ e) hc2),qA (qB e hl)];exact e
   refine hN' _ _ ⟨_,?_,tt,ps'++[(t1,g)]++[(t2,g2)],us'++[.ref c1]++[.ref c2],_,_,rfl,rfl,fun b o h1 e=>?_,qW,Paired.snoc (qJv T4 hp3) ⟨c2,u2,rfl,by rw[qA (Ne.symm pc2)];exact qW,b23.mono T4,x2,hg2⟩,?_,?_⟩
   .rw[vY,vY]
    show cntS ps'+t1.cnt+t2.cnt<cntS ps'+(t1.cnt+t2.cnt+1)
    omega
   .rw[qA h1,qA (qB (qV hl _ _ _ (hk3 b o h1 e)) hc2),qA (qB (hk3 b o h1 e) hl)];exact hk3 b o h1 e
   .rw[qQx,qQx]
    show tt+(sumAll ρ ps'+g * t1.worth ρ+g2 * t2.worth ρ)=t0.worth ρ
    omega
   .rw[vY,vY]
    show cntS ps'+t1.cnt+t2.cnt<=t0.cnt
    omega
def Th.truth (ρ:Str->Int):Th->Bool
 | .num _=>false
 | .box _=>false
 | .nul _=>true
 | .un _ a=>!a.truth ρ
 | .bin k a b=>if k = "both" then a.truth ρ && b.truth ρ else if k = "same" then decide (a.worth ρ=b.worth ρ) else decide (a.worth ρ<b.worth ρ)
theorem qXc {ρ:Str->Int}{a b:Th}:(Th.bin "both" a b).truth ρ=(a.truth ρ && b.truth ρ):=by
 show(if ("both" : Str) = "both" then _ else _)=_
 rw[if_pos rfl]
theorem xFj:("same" : Str) ≠ "both" := by wtm_at"d"
theorem xFz:("under" : Str) ≠ "both" := by wtm_at"d"
theorem xCe:("under" : Str) ≠ "same" := by wtm_at"d"
theorem qVw {ρ:Str->Int}{a b:Th}:(Th.bin "same" a b).truth ρ=decide (a.worth ρ=b.worth ρ):=by
 show(if ("same" : Str) = "both" then _ else if ("same" : Str) = "same" then _ else _)=_
 rw[if_neg xFj,if_pos rfl]
theorem qYq {ρ:Str->Int}{a b:Th}:(Th.bin "under" a b).truth ρ=decide (a.worth ρ<b.worth ρ):=by
 show(if ("under" : Str) = "both" then _ else if ("under" : Str) = "same" then _ else _)=_
 rw[if_neg xFz,if_neg xCe]
theorem vE:xM ["condition","values","kind","one","other"] ["condition","values"] (xA (top 9)):=by constructor <;> first | rfl | wtm_at"d"
def qQb (n:Nat):Sp:=fun vs H Q _=>∃(t:Th) (v:V) (d:Addr) (kvs:List (Key×V)) (ws:List Str) (ρ:Str->Int),vs=[v,.ref d]/\t.At H v/\Cond' ws t/\t.dep<=n/\t.dep<=12/\H d=some (.dK kvs)/\Env' kvs ws ρ/\Q (.bl (t.truth ρ)) H
theorem qDw {n:Nat}(F:Fd K mg "holds_by" (top 9) ["condition","values"])(ku:Dn P w K mg base "holds_by" (n+13) ["condition","values"] (qQb n))(kx:Dn P w K mg base "worth_by" 13 ["expression","values"] (kQ 12)):
  Dn P w K mg base "holds_by" (n+14) ["condition","values"] (qQb (n+1)):=by
 refine F.ok vE (fun vs H Q E h=>?_) (fun f zx A outer s H vs Q E hr h=>?_)
 .obtain⟨_,_,_,_,_,_,rfl,_⟩:=h
  rfl
 obtain⟨t,v,d,kvs,ws,ρ,rfl,at',cx,hn,h12,hd,env,q⟩:=h
 refine⟨_,(qZ (xF (i:=2) vE.nd rfl (xE (qS (K:=K)) (pv 0) qE))
  (qZ (zD (qR zM (pv 2) qF (xD _)) (qJ (qN qCx)) qY)
  (qZ (zD (qR zM (pv 2) qF (xD _)) (qJ (qN (qHw (qD ku hr (qQ (xE (qS (K:=K)) (pv 0) qE) (qQ (pv 1) qX)))))) qY)
  (qZ (zD (qR zM (pv 2) qF (xD _)) (qJ (qN (qZa (qD ku hr (qQ (xE (qS (K:=K)) (pv 0) qE) (qQ (pv 1) qX))) (qQf (qD ku hr (qQ (xE (qS (K:=K)) (pv 0) qE) (qQ (pv 1) qX))))))) qY)
  (qZ (xF (i:=3) vE.nd rfl (qD kx hr (qQ (xE (qS (K:=K)) (pv 0) qE) (qQ (pv 1) qX))))
  (qZ (xF (i:=4) vE.nd rfl (qD kx hr (qQ (xE (qS (K:=K)) (pv 0) qE) (qQ (pv 1) qX))))
  (qJ (qN (vF (qR zM (pv 2) qF (xD _)) (zJ zM (pv 3) (pv 4) (xD _)) (zJ qAx (pv 3) (pv 4) (xD _))))))))))),?_⟩
 match t,at',cx,hn,h12,q with
 | .nul k,⟨a,ev,ea⟩,cx,hn,h12,q=>
  cases(show k = "yes" from cx)
  subst ev
  wtm_at"z"
  exact q
 | .un k t1,⟨a,u,ev,ea,a1⟩,⟨hk,c1⟩,hn,h12,q=>
  cases hk
  subst ev
  have hn':t1.dep+1<=n+1:=hn
  have h12':t1.dep+1<=12:=h12
  wtm_at"z"
  refine⟨t1,u,d,kvs,ws,ρ,rfl,a1,c1,by omega,by omega,hd,env,?_⟩
  wtm_at"z"
  exact q
 | .bin k t1 t2,⟨a,u1,u2,ev,ea,a1,a2⟩,cx,hn,h12,q=>
  subst ev
  have hn':max t1.dep t2.dep+1<=n+1:=hn
  have h12':max t1.dep t2.dep+1<=12:=h12
  rcases cx with⟨hk,x1,x2⟩ | ⟨hk,c1,c2⟩
  .have n1:k ≠ "yes" := by rcases hk with rfl | rfl <;> wtm_at"d"
   have n2:k ≠ "not" := by rcases hk with rfl | rfl <;> wtm_at"d"
   have n3:k ≠ "both" := by rcases hk with rfl | rfl <;> wtm_at"d"
   wtm_at"z"
   refine⟨t1,u1,d,kvs,ws,ρ,rfl,a1,x1,by omega,hd,env,?_⟩
   wtm_at"z"
   refine⟨t2,u2,d,kvs,ws,ρ,rfl,a2,x2,by omega,hd,env,?_⟩
   rcases hk with rfl | rfl
   .rw[qVw] at q
    wtm_at"z"
    have e:decide (V.int (t1.worth ρ)=V.int (t2.worth ρ))=decide (t1.worth ρ=t2.worth ρ):=decide_eq_decide.mpr ⟨fun z=>by injection z,fun z=>by rw[z]⟩
    rw[e]
    exact q
   .rw[qYq] at q
    wtm_at"z"
    exact q
  .cases hk
   rw[qXc] at q
   wtm_at"z"
   refine⟨t1,u1,d,kvs,ws,ρ,rfl,a1,c1,by omega,by omega,hd,env,?_⟩
   wtm_at"z"
   cases e1:t1.truth ρ with
   | false=>
    rw[e1,Bool.false_and] at q
    refine iteF ?_
    exact q
   | true=>
    rw[e1,Bool.true_and] at q
    refine iteT ?_
    wtm_at"z"
    exact⟨t2,u2,d,kvs,ws,ρ,rfl,a2,c2,by omega,by omega,hd,env,q⟩
theorem qKd (F:Fd K mg "holds_by" (top 9) ["condition","values"])(kx:Dn P w K mg base "worth_by" 13 ["expression","values"] (kQ 12)):∀n:Nat,Dn P w K mg base "holds_by" (n+13) ["condition","values"] (qQb n)
 | 0=>F.never fun vs H Q E h=>by
  obtain⟨t,_,_,_,_,_,_,_,_,h1,_⟩:=h
  have:=t.dep_pos
  omega
 | n+1=>qDw F (qKd F kx n) kx
theorem xQo:xM ["condition","boxes","standing"] ["condition","boxes","standing"] (xA (top 5)):=by constructor <;> first | rfl | wtm_at"d"
def qOi:Sp:=fun vs H Q _=>∃(t:Th) (v:V) (bx st:Addr) (bs:List (Str×Int)) (vals:List Int),vs=[v,.ref bx,.ref st]/\t.At H v/\Cond' (bs.map (·.1)) t/\t.dep<=12/\World' H bx st bs vals/\
 ∀H',Same H H'->Q (.bl (t.truth (envOf (kvsOf bs vals)))) H'
theorem xJz (F:Fd K mg "holds" (top 5) ["condition","boxes","standing"])(ku:Dn P w K mg base "holds_by" 25 ["condition","values"] (qQb 12))(uC:Dn P w K mg base "values_by_name" 1 ["boxes","standing"] qJz):
  Dn P w K mg base "holds" 26 ["condition","boxes","standing"] qOi:=by
 refine F.ok xQo (fun vs H Q E h=>?_) (fun f zx A outer s H vs Q E hr h=>?_)
 .obtain⟨_,_,_,_,_,_,rfl,_⟩:=h
  rfl
 obtain⟨t,v,bx,st,bs,vals,rfl,at',cx,dp,W,q⟩:=h
 refine⟨_,(qJ (qN (qD ku hr (qQ (pv 0) (qQ (qD uC hr (qQ (pv 1) (qQ (pv 2) qX))) qX))))),?_⟩
 wtm_at"z"
 refine⟨bx,st,bs,vals,rfl,W,fun p H' S e=>?_⟩
 wtm_at"z"
 exact⟨t,v,p,_,_,_,rfl,at'.mono (qC S),cx,dp,dp,e,xYi W.ok,q H' S⟩
theorem qZw:xM ["cond","values","apart"] ["cond","values"] (xA (top 74)):=by constructor <;> first | rfl | wtm_at"d"
def qJk (n:Nat):Sp:=fun vs H Q _=>∃(t:Th) (v:V) (d:Addr) (kvs:List (Key×V)) (ws:List Str) (ρ:Str->Int),vs=[v,.ref d]/\t.At H v/\Cond' ws t/\t.dep<=n/\t.dep<=12/\H d=some (.dK kvs)/\Env' kvs ws ρ/\∀H',Same H H'->Q (.bl (t.truth ρ)) H'
theorem eqAll2 (a b:Bool):eqAll [V.bl a,V.bl b] [V.bl true,V.bl true]=(a && b):=by cases a <;> cases b <;> rfl
theorem qNa {n:Nat}(F:Fd K mg "_law_holds" (top 74) ["cond","values"])(B:Bl mg)(ke:Dn P w K mg base "_law_holds" (n+1) ["cond","values"] (qJk n))(kf:Dn P w K mg base "_law_worth" 1 ["part","values"] qWg):
  Dn P w K mg base "_law_holds" (n+2) ["cond","values"] (qJk (n+1)):=by
 refine F.ok qZw (fun vs H Q E h=>?_) (fun f zx A outer s H vs Q E hr h=>?_)
 .obtain⟨_,_,_,_,_,_,rfl,_⟩:=h
  rfl
 obtain⟨t,v,d,kvs,ws,ρ,rfl,at',cx,hn,h12,hd,env,q⟩:=h
 refine⟨_,(qZ (zD (qR zM (xE (qS (K:=K)) (pv 0) qE) qF (xD _)) (qJ (qN qCx)) qY)
  (qZ (zD (qR zM (xE (qS (K:=K)) (pv 0) qE) qF (xD _)) (qJ (qN (qHw (qD ke hr (qQ (xE (qS (K:=K)) (pv 0) qE) (qQ (pv 1) qX)))))) qY)
  (qZ (zD (qR zM (xE (qS (K:=K)) (pv 0) qE) qF (xD _)) (qJ (qN (zJ (qPn (K:=K) hr.units) (xU (qQ (qD ke hr (qQ (xE (qS (K:=K)) (pv 0) qE) (qQ (pv 1) qX))) (qQ (qD ke hr (qQ (xE (qS (K:=K)) (pv 0) qE) (qQ (pv 1) qX))) qX))) (xU (qQ qCx (qQ qCx qX))) (xD _)))) qY)
  (qZ (xF (i:=2) qZw.nd rfl (xQ wJ (qD kf hr (qQ (xE (qS (K:=K)) (pv 0) qE) (qQ (pv 1) qX))) (qD kf hr (qQ (xE (qS (K:=K)) (pv 0) qE) (qQ (pv 1) qX)))))
  (qJ (qN (xE (qT (K:=K)) (xU (qQ (zJ xXc (pv 2) qE (xD _)) (qQ (zJ zM (pv 2) qE (xD _)) qX))) (xX qDg rfl B.int' qDm (qQ (zJ zM (xE (qS (K:=K)) (pv 0) qE) qF (xD _)) qX))))))))),?_⟩
 match t,at',cx,hn,h12,q with
 | .nul k,⟨a,ev,ea⟩,cx,hn,h12,q=>
  cases(show k = "yes" from cx)
  subst ev
  wtm_at"z"
  exact q H (Same.refl _)
 | .un k t1,⟨a,u,ev,ea,a1⟩,⟨hk,c1⟩,hn,h12,q=>
  cases hk
  subst ev
  have hn':t1.dep+1<=n+1:=hn
  have h12':t1.dep+1<=12:=h12
  wtm_at"z"
  refine⟨t1,u,d,kvs,ws,ρ,rfl,a1,c1,by omega,by omega,hd,env,fun H1 S1=>?_⟩
  wtm_at"z"
  exact q H1 S1
 | .bin k t1 t2,⟨a,u1,u2,ev,ea,a1,a2⟩,cx,hn,h12,q=>
  subst ev
  have hn':max t1.dep t2.dep+1<=n+1:=hn
  have h12':max t1.dep t2.dep+1<=12:=h12
  rcases cx with⟨hk,x1,x2⟩ | ⟨hk,c1,c2⟩
  .have n1:k ≠ "yes" := by rcases hk with rfl | rfl <;> wtm_at"d"
   have n2:k ≠ "not" := by rcases hk with rfl | rfl <;> wtm_at"d"
   have n3:k ≠ "both" := by rcases hk with rfl | rfl <;> wtm_at"d"
   wtm_at"z"
   refine⟨t2,u2,d,kvs,ws,ρ,rfl,a2,x2,by omega,hd,env,fun H1 S1=>?_⟩
   wtm_at"z"
   refine⟨t1,u1,d,kvs,ws,ρ,rfl,a1.mono (qC S1),x1,by omega,S1 _ _ hd,env,fun H2 S2=>?_⟩
   wtm_at"z"
   refine⟨(by show 2<=Yc;decide),fun l hl=>?_⟩
   wtm_at"z"
   refine .inr ⟨_,rfl,?_⟩
   have S3:Same H (upd H2 l (.lst [.bl (decide (0<t2.worth ρ - t1.worth ρ)),.bl (decide (V.int (t2.worth ρ - t1.worth ρ)=V.int 0))])):=S1.trans (S2.trans (qV hl _))
   rcases hk with rfl | rfl
   .rw[qVw] at q
    rw[jD]
    wtm_at"z"
    have e:decide (V.int (t2.worth ρ - t1.worth ρ)=V.int 0)=decide (t1.worth ρ=t2.worth ρ):=decide_eq_decide.mpr ⟨fun z=>by injection z with z;omega,fun z=>by rw[z,Int.sub_self]⟩
    rw[<- e] at q
    exact q _ S3
   .rw[qYq] at q
    rw[xV xCe]
    wtm_at"z"
    have e:decide (0<t2.worth ρ - t1.worth ρ)=decide (t1.worth ρ<t2.worth ρ):=decide_eq_decide.mpr ⟨fun z=>by omega,fun z=>by omega⟩
    rw[<- e] at q
    exact q _ S3
  .cases hk
   rw[qXc] at q
   wtm_at"z"
   refine⟨t1,u1,d,kvs,ws,ρ,rfl,a1,c1,by omega,by omega,hd,env,fun H1 S1=>?_⟩
   wtm_at"z"
   refine⟨t2,u2,d,kvs,ws,ρ,rfl,a2.mono (qC S1),c2,by omega,by omega,S1 _ _ hd,env,fun H2 S2=>?_⟩
   wtm_at"z"
   refine⟨(by show 2<=Yc;decide),fun l hl=>?_⟩
   wtm_at"z"
   refine⟨(by show 2<=Yc;decide),fun l2 hl2=>?_⟩
   refine⟨l,l2,_,_,rfl,rfl,SqL.of (qV hl2 _ _ _ qW),SqL.of qW,rfl,rfl,rfl,?_⟩
   rw[if_neg yZJ,eqAll2]
   exact q _ (S1.trans (S2.trans ((qV hl _).trans (qV hl2 _))))
theorem qDv (F:Fd K mg "_law_holds" (top 74) ["cond","values"])(B:Bl mg)(kf:Dn P w K mg base "_law_worth" 1 ["part","values"] qWg):∀n:Nat,Dn P w K mg base "_law_holds" (n+1) ["cond","values"] (qJk n)
 | 0=>F.never fun vs H Q E h=>by
  obtain⟨t,_,_,_,_,_,_,_,_,h1,_⟩:=h
  have:=t.dep_pos
  omega
 | n+1=>qNa F B (qDv F B kf n) kf
theorem qQz:xM ["thing","names","part"] ["thing"] (xA (top 6)):=by constructor <;> first | rfl | wtm_at"d"
def qXh (n:Nat):Sp:=fun vs H Q _=>∃(t:Th) (v:V),vs=[v]/\t.At H v/\t.Ok/\t.dep<=n/\t.dep<=12/\
 ∀(r:Addr) (H':Hp),H r=none->Same H H'->H' r=some (.lst (strsV t.names))->Q (.ref r) H'
theorem qRj {f:Addr}{fd:FuncData}:FnOk P w K mg base CX0 1 f fd ["thing"] (qXh 0):=by
 have no:∀vs H Q E,¬qXh 0 vs H Q E:=fun vs H Q E h=>by
  obtain⟨t,v,_,_,_,h1,_⟩:=h
  have:=t.dep_pos
  omega
 exact⟨fun vs H Q E h=>absurd h (no vs H Q E),fun A outer s H args us vs Q E _ _ _ _ h=>absurd h (no vs H Q E)⟩
theorem qRz {n:Nat}{f:Addr}{fd:FuncData}(F:Fun K "names_in" "names_in" (top 6) f fd)(VP:FnOk P w K mg base CX0 (n+1) f fd ["thing"] (qXh n))(jz:FunE K mg "names_in" f fd ["thing"]):
  FnOk P w K mg base CX0 (n+2) f fd ["thing"] (qXh (n+1)):=by
 refine F.ok qQz (fun vs H Q E h=>?_) (fun zx A outer s H vs Q E hr h=>?_)
 .obtain⟨_,_,rfl,_⟩:=h
  rfl
 obtain⟨t,v,rfl,at',ok,hn,h12,q⟩:=h
 refine⟨_,(qZ (zD (qR zM (xE (qS (K:=K)) (pv 0) qE) qF (xD _)) (qJ (qN (xU (qQ (xE (qS (K:=K)) (pv 0) qE) qX)))) qY)
  (qZ (xF (i:=1) qQz.nd rfl (xU qX))
  (qZ (zD (qR qMg (xE (qS (K:=K)) (pv 0) qE) qF (xD _)) (qJ (zH PassesOwn.never rfl (qYh (K:=K) (zK (qEe (K:=K)) (pv 0) (zB qE) zC)) (qG (i:=2) qQz.nd rfl (by wtm_at "zo")) (qJ (qP (zX (K:=K) Yy PySem.F.slot_list_extend PySem.F.type_list_extend qKj (pv 1) (qQ (zU VP hr rfl jz.mg jz.kp jz.bd .nil pass0 (qQ (pv 2) qX)) qX)))))) qY)
  (qJ (qN (pv 1)))))),?_⟩
 cases view at' ok with
 | box a x et ev ea=>
  subst et ev
  refine⟨_,rfl,a,_,0,.str "box",rfl,rfl,SqT.of ea,rfl,rfl,_,rfl,?_⟩
  rw[jD]
  refine iteT ?_
  refine⟨_,rfl,a,_,1,.str x,rfl,rfl,SqT.of ea,rfl,ll1,fun r hr'=>?_⟩
  exact q r _ hr' (qV hr' _) qW
 | num a x et ev ea=>
  subst et ev
  refine⟨_,rfl,a,_,0,.str "number",rfl,rfl,SqT.of ea,rfl,rfl,_,rfl,?_⟩
  rw[xV xVo]
  refine iteF ?_
  refine⟨ll0,fun r hr'=>?_⟩
  have ea':upd H r (.lst []) a=some (.tup [.str "number",.int x]):=by rw[qA (qB ea hr')];exact ea
  refine⟨_,rfl,a,_,0,.str "number",rfl,rfl,SqT.of ea',rfl,rfl,_,rfl,?_⟩
  rw[jD]
  refine iteF ?_
  exact⟨_,rfl,q r _ hr' (qV hr' _) qW⟩
 | op a k us ts ev ea hk hl hl2 kids en ec=>
  subst ev
  refine⟨_,rfl,a,_,0,.str k,rfl,rfl,SqT.of ea,qBx _ _,rfl,_,rfl,?_⟩
  rw[xV hk.1]
  refine iteF ?_
  refine⟨ll0,fun r hr'=>?_⟩
  have ea':upd H r (.lst []) a=some (.tup (.str k::us)):=by rw[qA (qB ea hr')];exact ea
  refine⟨_,rfl,a,_,0,.str k,rfl,rfl,SqT.of ea',qBx _ _,rfl,_,rfl,?_⟩
  rw[xV hk.2]
  refine iteT ?_
  refine⟨_,rfl,1,rfl,a,_,rfl,SqT.of ea',notwhole _ _,fun p hp=>?_⟩
  rw[cut1]
  have pr:p≠r:=fun z=>by subst z;rw[qW] at hp;cases hp
  have S2:But r H (upd (upd H r (.lst [])) p (.tup us)):=But.upd.trans (qV hp _).but
  have er2:upd (upd H r (.lst [])) p (.tup us) r=some (.lst []):=by rw[qA (Ne.symm pr)];exact qW
  have ep2:upd (upd H r (.lst [])) p (.tup us) p=some (.tup us):=qW
  generalize upd (upd H r (.lst [])) p (.tup us)=H2 at S2 er2 ep2
  have cs:=t.cnt_small h12
  have nl:=t.names_le
  refine⟨p,rfl,⟨us,SqT.of ep2⟩,?_⟩
  refine qFc (xs:=us) (fun i σ' H'=>∃z:Option V,σ'=[some (.ref a),some (.ref r),z]/\But r H2 H'/\H' r=some (.lst (strsV ((ts.take i).flatMap Th.names))))
   ⟨none,rfl,But.refl _,er2⟩ (fun i σ' H' _ hP=>?_) (fun i x σ' H' ex hP=>?_) (fun σ' H' hP=>?_)
  .obtain⟨z,rfl,hb,_⟩:=hP
   exact SqT.of (hb _ _ pr ep2)
  .obtain⟨z,rfl,hb,hrr⟩:=hP
   obtain⟨c,ecx⟩:∃c,ts[i]? = some c:=⟨_,yYA (by rw[<- hl];exact(yYB.mp ex).1)⟩
   obtain⟨ka,ko,kd⟩:=kids i x c ex ecx
   have T2:Tups H H':=fun b xs e=>hb _ _ (qB e hr') (S2 _ _ (qB e hr') e)
   refine⟨_,rfl,.inl ⟨rfl,_,SqL.of hrr⟩,_,rfl,c,x,rfl,ka.mono T2,ko,by omega,by omega,fun r2 H3 hr2 S3 e3=>?_⟩
   have e3r:=S3 _ _ hrr
   refine⟨r,r2,_,_,rfl,rfl,e3r,e3,?_,?_⟩
   .have z1:=qBe ecx
    have z2:=xQb (ts:=ts) (i+1)
    rw[z1,<- en,yYI] at z2
    rw[xW,xW]
    exact smallE (by omega)
   .refine⟨_,rfl,hb.trans (S3.but.trans But.upd),?_⟩
    rw[qW,qBe ecx,xR]
  .obtain⟨z,rfl,hb,hrr⟩:=hP
   refine⟨_,rfl,q r H' hr' (fun b o e=>hb _ _ (qB e hr') (S2 _ _ (qB e hr') e)) ?_⟩
   rw[hrr,hl,yYJ,en]
theorem qHg {f:Addr}{fd:FuncData}(F:Fun K "names_in" "names_in" (top 6) f fd)(jz:FunE K mg "names_in" f fd ["thing"]):∀n:Nat,FnOk P w K mg base CX0 (n+1) f fd ["thing"] (qXh n)
 | 0=>qRj
 | n+1=>qRz F (qHg F jz n) jz
theorem qIg {σ:St}{H:Hp}{Q:VK}{bx:Addr}{us:List V}{bs:List (Str×Int)}(e1:H bx=some (.lst us))(p1:Paired (BoxIn H) bs us)(hl:bs.length<=1000)
  (q:∀(D:Addr) (H':Hp),Same H H'->H' D=some (.lst (strsV (bs.map (·.1))))->Q (.ref D) H'):
  rdC 1 [] (gName 0) tYes (tOp (rIxT K) (tVar 0) (tC (.int 0))) (Itl K bx) σ H Q:=by
 have lb:us.length=bs.length:=p1.length.symm
 refine zV (xs:=us) (fun D i ys H'=>ys=strsV ((bs.take i).map (·.1))/\∀b o,H b=some o->H' b=some o) (fun D hD=>⟨rfl,qV hD _⟩)
  (fun D i ys H' _ hP=>(show Same H H' from hP.2).seq (SqL.of e1)) (fun D i x ys H' N hD hDy ex hP hN=>?_) (fun wd ys H2 hD hDy hP=>?_)
 .obtain⟨rfl,hk⟩:=hP
  obtain⟨b,eb⟩:∃b,bs[i]? = some b:=⟨_,yYA (by rw[<- lb];exact(yYB.mp ex).1)⟩
  obtain⟨ba,rfl,hba⟩:=xK p1 eb ex
  refine⟨⟨[some (.ref ba)],rfl,rfl⟩,?_⟩
  refine⟨_,rfl,ba,_,0,.str b.1,rfl,rfl,SqT.of (hk _ _ hba),rfl,hDy,?_,hN _ _ qW ⟨?_,fun b o e=>?_⟩⟩
  .rw[xW,yYC,yYF];exact small (by omega)
  .rw[yYM,eb,yYU,xR];rfl
  .rw[qA (qB e hD)];exact hk _ _ e
 obtain⟨rfl,hk2⟩:=hP
 rw[lb,yYJ] at hDy
 exact q wd H2 hk2 hDy
theorem qVe {σ:St}{H:Hp}{Q:VK}{bx:Addr}{us:List V}{bs:List (Str×Int)}(e1:H bx=some (.lst us))(p1:Paired (BoxIn H) bs us)(hl:bs.length<=1000)
  (q:∀(D:Addr) (H':Hp),Same H H'->H' D=some (.lst (strsV (bs.map (·.1))))->Q (.ref D) H'):
  rdC 2 [] (gTup K 2 (gCons (gName 0) (gCons (gName 1) gNil))) tYes (tVar 0) (Itl K bx) σ H Q:=by
 have lb:us.length=bs.length:=p1.length.symm
 refine zV (xs:=us) (fun D i ys H'=>ys=strsV ((bs.take i).map (·.1))/\∀b o,H b=some o->H' b=some o) (fun D hD=>⟨rfl,qV hD _⟩)
  (fun D i ys H' _ hP=>(show Same H H' from hP.2).seq (SqL.of e1)) (fun D i x ys H' N hD hDy ex hP hN=>?_) (fun wd ys H2 hD hDy hP=>?_)
 .obtain⟨rfl,hk⟩:=hP
  obtain⟨b,eb⟩:∃b,bs[i]? = some b:=⟨_,yYA (by rw[<- lb];exact(yYB.mp ex).1)⟩
  obtain⟨ba,rfl,hba⟩:=xK p1 eb ex
  refine⟨ba,_,rfl,SqT.of (hk _ _ hba),rfl,_,_,rfl,_,_,rfl,rfl,⟨[some (.str b.1),some (.int b.2)],rfl,rfl⟩,?_⟩
  refine⟨_,rfl,hDy,?_,hN _ _ qW ⟨?_,fun b o e=>?_⟩⟩
  .rw[xW,yYC,yYF];exact small (by omega)
  .rw[yYM,eb,yYU,xR];rfl
  .rw[qA (qB e hD)];exact hk _ _ e
 obtain⟨rfl,hk2⟩:=hP
 rw[lb,yYJ] at hDy
 exact q wd H2 hk2 hDy
def Fits (bs:List (Str×Int))(vals:List Int):Prop:=vals.length=bs.length/\∀(i:Nat) b v,bs[i]? = some b->vals[i]? = some v->0<=v/\v<b.2
theorem Fits.stands {bs:List (Str×Int)}{vals:List Int}(f:Fits bs vals)(h25:∀b∈bs,2<=b.2/\b.2<=5):Stands bs vals:=⟨f.1,fun v hv=>by
 obtain⟨i,hi⟩:=List.mem_iff_getElem?.mp hv
 have hl:i<bs.length:=by rw[<- f.1];exact(yYB.mp hi).1
 have:=f.2 i _ v (yYA hl) hi
 have:=h25 _ (List.getElem_mem hl)
 omega⟩
theorem small2 {n:Nat}(h:n<=100000):n<Yc:=yZG h (by decide)
theorem qOo {n:Nat}(h:n<=100000):n<=Yc:=Nat.le_of_lt (small2 h)
def rowsBy (acc:List (List Int))(n:Nat):List (List Int):=acc.flatMap fun r=>(List.range n).map fun v=>r++[((v:Nat):Int)]
def allV (bs:List (Str×Int)):List (List Int):=(bs.map fun b=>b.2.toNat).foldl rowsBy [[]]
theorem kF {bs:List (Str×Int)}{i:Nat}{b:Str×Int}(h:bs[i]? = some b):allV (bs.take (i+1))=rowsBy (allV (bs.take i)) b.2.toNat:=by
 unfold allV
 rw[yYM,h,yYU,List.foldl_append]
 rfl
theorem qYd {acc:List (List Int)}{n j:Nat}{r:List Int}(h:acc[j]? = some r):rowsBy (acc.take (j+1)) n=rowsBy (acc.take j) n++(List.range n).map fun v=>r++[((v:Nat):Int)]:=by
 unfold rowsBy
 rw[yYM,h,List.flatMap_append]
 simp
theorem wF (n:Nat):∀acc:List (List Int),(rowsBy acc n).length=acc.length * n
 | []=>by simp[rowsBy]
 | r::acc=>by
  have:=wF n acc
  unfold rowsBy at this ⊢
  rw[List.flatMap_cons,yYI,this,yYC,List.length_range,yYS,Nat.succ_mul]
  omega
theorem wZ (acc:List (List Int))(n j:Nat):(rowsBy (acc.take j) n).length<=acc.length * n:=by
 rw[wF,yYF]
 exact Nat.mul_le_mul_right _ (Nat.min_le_right _ _)
theorem qJl {bs:List (Str×Int)}(h:∀b∈bs,2<=b.2/\b.2<=5):∀i:Nat,i<=bs.length->(allV (bs.take i)).length<=5 ^ i
 | 0,_=>by simp[allV]
 | i+1,hi=>by
  have hb:bs[i]? = some (bs[i]'(by omega)):=yYA (by omega)
  rw[kF hb,wF,Nat.pow_succ]
  have:=h _ (List.getElem_mem (h:=(by omega:i<bs.length)))
  exact Nat.mul_le_mul (qJl h i (by omega)) (by omega)
theorem qMk {n k:Nat}{acc:List (List Int)}(h:∀r∈acc,r.length=k):∀r∈rowsBy acc n,r.length=k+1:=fun r hr=>by
 obtain⟨x,hx,hr⟩:=List.mem_flatMap.mp hr
 obtain⟨v,_,rfl⟩:=yYP.mp hr
 rw[yYI,h x hx];rfl
theorem qBz (bs:List (Str×Int)):∀i:Nat,i<=bs.length->∀r∈allV (bs.take i),r.length=i
 | 0,_=>fun r hr=>by simp[allV] at hr;subst hr;rfl
 | i+1,hi=>by
  have hb:bs[i]? = some (bs[i]'(by omega)):=yYA (by omega)
  rw[kF hb]
  exact qMk (qBz bs i (by omega))
theorem pow56 {i:Nat}(h:i<=6):5 ^ i<=15625:=yZH (Y9 (by decide) h) (by decide)
theorem qSo {bs:List (Str×Int)}{i:Nat}{b:Str×Int}{r:List Int}{v:Nat}(hb:bs[i]? = some b)(h:Fits (bs.take i) r)(hv:(v:Int)<b.2):Fits (bs.take (i+1)) (r++[((v:Nat):Int)]):=by
 have hl:=h.1
 have hib:i<bs.length:=(yYB.mp hb).1
 have lt:(bs.take i).length=i:=by rw[yYF];omega
 refine⟨by rw[yYM,hb,yYI,yYI,hl];rfl,fun j c x ec ex=>?_⟩
 rw[yYM,hb] at ec
 by_cases hj:j<i
 .rw[Ys (by omega)] at ec ex
  exact h.2 j c x ec ex
 .have hj':j=i:=by
   have:=(yYB.mp ex).1
   rw[yYI,List.length_singleton] at this
   omega
  subst hj'
  rw[Yj (by omega)] at ec ex
  have e1:j - (bs.take j).length=0:=by omega
  have e2:j - r.length=0:=by omega
  rw[e1] at ec
  rw[e2] at ex
  cases ec;cases ex
  exact⟨by omega,hv⟩
theorem qEj {bs:List (Str×Int)}:∀i:Nat,i<=bs.length->∀r∈allV (bs.take i),Fits (bs.take i) r
 | 0,_=>fun r hr=>by
  simp[allV] at hr
  subst hr
  exact⟨rfl,fun j b v e=>by simp at e⟩
 | i+1,hi=>fun r hr=>by
  have hb:bs[i]? = some (bs[i]'(by omega)):=yYA (by omega)
  rw[kF hb] at hr
  obtain⟨x,hx,hr⟩:=List.mem_flatMap.mp hr
  obtain⟨v,hv,rfl⟩:=yYP.mp hr
  have hv:=List.mem_range.mp hv
  exact qSo hb (qEj i (by omega) x hx) (by omega)
theorem qBj {bs:List (Str×Int)}{r:List Int}(h:r∈allV bs):Fits bs r:=by
 have:=qEj (bs:=bs) bs.length (yZB _) r
 rw[yYJ] at this
 exact this h
def TupIn (H:Hp)(vals:List Int)(u:V):Prop:=∃a,u=.ref a/\H a=some (.tup (intsV vals))
theorem xJ {H H':Hp}(h:Tups H H'){rs:List (List Int)}{us:List V}(p:Paired (TupIn H) rs us):Paired (TupIn H') rs us:=Paired.mapP p fun _ _ x=>let ⟨a,e,q⟩:=x;⟨a,e,h _ _ q⟩
theorem qHj {σ:St}{H:Hp}{Q:VK}{j:Nat}{ra:Addr}{r:List Int}{n:Nat}(era:H ra=some (.tup (intsV r)))(hj:σ.getD j none=some (.ref ra))(hr:r.length<=100)(hn:n<=1000)
  (q:∀(D:Addr) (us:List V) (H':Hp),H D=none->Same H H'->H' D=some (.lst us)->Paired (TupIn H') ((List.range n).map fun v=>r++[((v:Nat):Int)]) us->Q (.ref D) H'):
  rdC 1 [j] (gName 0) tYes (tOp (rCatN K) (tVar 1) (tTup (tCons (tVar 0) tNil))) (Itr 0 n) σ H Q:=by
 have fr:frees [j] σ=[some (.ref ra)]:=by show [σ.getD j none]=_;rw[hj]
 refine qWx (fun D i ys H'=>Paired (TupIn H') ((List.range i).map fun v=>r++[((v:Nat):Int)]) ys/\Same H H') (fun D hD=>⟨.nil,qV hD _⟩) (fun D i ys H' N hD hDy hi hP hN=>?_) (fun D ys H2 hD hDy hP=>?_)
 .obtain⟨hp,hk⟩:=hP
  have lp:=hp.length
  rw[yYC,List.length_range] at lp
  have e0:(0:Int)+(i:Int)=(i:Int):=Int.zero_add _
  rw[e0]
  refine⟨⟨[some (.int (i:Int))],rfl,rfl⟩,?_⟩
  refine⟨.ref ra,(by show(([some (V.int (i:Int))]:St)++frees [j] σ)[1]? = _;rw[fr];rfl),_,rfl,ll1,fun t ht=>?_⟩
  have Dt:D≠t:=qB hDy ht
  have fin:∀(a:Addr) (H3:Hp),Same H' H3->H3 a=some (.tup (intsV (r++[((i:Nat):Int)])))->H3 D=some (.lst ys)/\ys.length<Yc/\N (ys++[.ref a]) (upd H3 D (.lst (ys++[.ref a]))):=fun a H3 S3 ea=>by
   have eD:=S3 _ _ hDy
   refine⟨eD,small (by omega),hN _ _ qW ⟨?_,fun b o e=>?_⟩⟩
   .have T1:Tups H' (upd H3 D (.lst (ys++[.ref a]))):=fun b xs e=>by rw[qA (wO e hDy (by intro z;cases z))];exact S3 _ _ e
    rw[Yx,yYU]
    exact Paired.snoc (xJ T1 hp) ⟨a,rfl,by rw[qA (wO ea eD (by intro z;cases z))];exact ea⟩
   .rw[qA (qB e hD)];exact S3 _ _ (hk _ _ e)
  refine⟨ra,t,_,_,rfl,rfl,SqT.of (qV ht _ _ _ (hk _ _ era)),SqT.of qW,by simp,?_,fun z=>?_,fun z p hp'=>?_⟩
  .rw[kA];exact smallE (by show r.length+1<=_;omega)
  .have z':r=[]:=List.map_eq_nil_iff.mp z
   subst z'
   exact fin t _ (qV ht _) qW
  .refine fin p _ ((qV ht _).trans (qV hp' _)) ?_
   rw[qVn];exact qW
 .exact q D ys H2 hD hP.2 hDy hP.1
def qJj:Sp:=fun vs H Q _=>∃(bx:Addr) (bs:List (Str×Int)) (us:List V),vs=[.ref bx]/\H bx=some (.lst us)/\Paired (BoxIn H) bs us/\bs.length<=6/\(∀b∈bs,2<=b.2/\b.2<=5)/\
 ∀(r:Addr) (ss:List V) (H':Hp),H r=none->Same H H'->H' r=some (.lst ss)->Paired (TupIn H') (allV bs) ss->Q (.ref r) H'
theorem xT:xM ["boxes","rows","name","size","longer","row"] ["boxes"] (xA (top 16)):=by constructor <;> first | rfl | wtm_at"d"
theorem yC:CompOk (xA (top 16)) ["boxes","rows","name","size","longer","row"] (scAt (xB (top 16)) [1,1,0] [1]) ["value","row"] 1 [5]:=
 by constructor <;> wtm_at"d"
theorem xDv (F:Fd K mg "standings_of_boxes" (top 16) ["boxes"])(B:Bl mg):Dn P w K mg base "standings_of_boxes" 1 ["boxes"] qJj:=by
 refine F.ok xT (fun vs H Q E h=>?_) (fun f zx A outer s H vs Q E hr h=>?_)
 .obtain⟨_,_,_,rfl,_⟩:=h
  rfl
 obtain⟨bx,bs,us,rfl,ebx,pb,h6,h25,q⟩:=h
 have lb:us.length=bs.length:=pb.length.symm
 refine⟨_,(qZ (xF (i:=1) xT.nd rfl (xU (qQ (xN qX) qX)))
  (qZ (zH PassesOwn.never rfl (qU (K:=K) (pv 0)) (jF (K:=K) (n:=2) rfl (qH (qG (i:=2) xT.nd rfl (by wtm_at "zo")) (qH (qG (i:=3) xT.nd rfl (by wtm_at "zo")) qI))) (qZ (xF (i:=4) xT.nd rfl (xU qX))
  (qZ (zH PassesOwn.never rfl (qU (K:=K) (pv 1)) (qG (i:=5) xT.nd rfl (by wtm_at "zo")) (qJ (qP (zX (K:=K) Yy PySem.F.slot_list_extend PySem.F.type_list_extend qKj (pv 4) (qQ (zI rfl yC (yZ rfl B.range' (qQ (pv 3) qX)) (fun cl fp s H=>(qG (i:=0) yC.nd rfl (Or.inl rfl) (.inr rfl))) (fun cl fp s H=>zF) (fun cl fp s H=>(xQ (qAz (K:=K)) (pv 1) (xN (qQ (pv 0) qX))))) qX)))))
  (qJ (xF (i:=1) xT.nd rfl (pv 4))))))
  (qJ (qN (pv 1))))),?_⟩
 wtm_at"z"
 refine⟨ll0,fun t0 ht0=>?_⟩
 wtm_at"z"
 refine⟨ll1,fun r0 hr0=>?_⟩
 wtm_at"z"
 have S0:Same H (upd (upd H t0 (.tup [])) r0 (.lst [.ref t0])):=(qV ht0 _).trans (qV hr0 _)
 refine⟨_,rfl,bx,rfl,⟨us,SqL.of (S0 _ _ ebx)⟩,?_⟩
 refine zN (xs:=us) (fun i σ' H'=>∃(ro:Addr) (ss:List V) (z2 z3 z4 z5:Option V),σ'=[some (.ref bx),some (.ref ro),z2,z3,z4,z5]/\Same H H'/\H ro=none/\H' ro=some (.lst ss)/\Paired (TupIn H') (allV (bs.take i)) ss)
  ⟨r0,[.ref t0],none,none,none,none,rfl,S0,(qV ht0 _).free hr0,qW,.cons ⟨t0,rfl,qV hr0 _ _ _ qW⟩ .nil⟩
  (fun i σ' H' _ hP=>?_) (fun N rt bk i x σ' H' ex hP hN=>?_) (fun σ' H' hP=>?_)
 .obtain⟨ro,ss,z2,z3,z4,z5,rfl,S1,_⟩:=hP
  exact SqL.of (S1 _ _ ebx)
 .obtain⟨ro,ss,z2,z3,z4,z5,rfl,S1,nro,ero,prs⟩:=hP
  have hi:i<bs.length:=by rw[<- lb];exact(yYB.mp ex).1
  obtain⟨b,eb⟩:∃b,bs[i]? = some b:=⟨_,yYA hi⟩
  obtain⟨ba,rfl,hba⟩:=xK pb eb ex
  have hb25:=h25 b (yYE eb)
  have rl:=qJl h25 i (by omega)
  have p5:=pow56 (i:=i) (by omega)
  refine⟨ba,_,rfl,SqT.of (S1 _ _ hba),rfl,_,_,rfl,_,_,rfl,rfl,?_⟩
  wtm_at"z"
  refine⟨ll0,fun lo hlo=>?_⟩
  wtm_at"z"
  have lr:=prs.length
  refine⟨_,rfl,ro,rfl,⟨ss,SqL.of (qV hlo _ _ _ ero)⟩,?_⟩
  refine zN (xs:=ss) (fun j σ'' H''=>∃(ls:List V) (z5:Option V),σ''=[some (.ref bx),some (.ref ro),some (.str b.1),some (.int b.2),some (.ref lo),z5]/\(∀c o,H' c=some o->H'' c=some o)/\H'' lo=some (.lst ls)/\Paired (TupIn H'') (rowsBy ((allV (bs.take i)).take j) b.2.toNat) ls)
   ⟨[],z5,rfl,qV hlo _,qW,.nil⟩ (fun j σ'' H'' _ hP=>?_) (fun N2 rt2 bk2 j x σ'' H'' ex2 hP hN2=>?_) (fun σ'' H'' hP=>?_)
  .obtain⟨ls,z5,rfl,k2,_⟩:=hP
   exact SqL.of (k2 _ _ ero)
  .obtain⟨ls,z5,rfl,k2,elo,pls⟩:=hP
   have hj:j<(allV (bs.take i)).length:=by rw[lr];exact(yYB.mp ex2).1
   obtain⟨row,erow⟩:∃row,(allV (bs.take i))[j]? = some row:=⟨_,yYA hj⟩
   obtain⟨ra,rfl,hra⟩:=xK prs erow ex2
   have hrl:=qBz bs i (by omega) row (yYE erow)
   have ll:=pls.length
   have lm:=wZ (allV (bs.take i)) b.2.toNat j
   have l5:(allV (bs.take i)).length * b.2.toNat<=15625 * 5:=Nat.mul_le_mul (by omega) (by omega)
   wtm_at"z"
   refine⟨.inl ⟨rfl,_,SqL.of elo⟩,?_⟩
   wtm_at"z"
   refine⟨_,rfl,b.2,rfl,by omega,by omega,qHj (k2 _ _ hra) rfl (by omega) (by omega) fun D zs H3 nD S3 eD pz=>?_⟩
   have lz:=pz.length
   rw[yYC,List.length_range] at lz
   have elo3:=S3 _ _ elo
   refine⟨lo,D,ls,zs,rfl,rfl,elo3,eD,by rw[<- ll,<- lz];exact qOo (by omega),?_⟩
   have T3:Tups H3 (upd H3 lo (.lst (ls++zs))):=fun c xs e=>by rw[qA (wO e elo3 (by intro z;cases z))];exact e
   refine hN2 _ _ ⟨ls++zs,_,rfl,fun c o e=>?_,qW,?_⟩
   .rw[qA (qB e hlo)];exact S3 _ _ (k2 _ _ e)
   .rw[qYd erow]
    exact paired_app (xJ T3 (xJ (qC S3) pls)) (xJ T3 pz)
  .obtain⟨ls,z5,rfl,k2,elo,pls⟩:=hP
   rw[<- lr,yYJ,<- kF eb] at pls
   wtm_at"z"
   exact hN _ _ ⟨lo,ls,_,_,_,_,rfl,S1.trans k2,S1.free hlo,elo,pls⟩
 .obtain⟨ro,ss,z2,z3,z4,z5,rfl,S1,nro,ero,prs⟩:=hP
  rw[lb,yYJ] at prs
  wtm_at"z"
  exact q ro ss H' nro S1 ero prs
theorem zW:xM ["boxes","found","name","size","longer","one"] ["boxes"] (xA (top 76)):=by constructor <;> first | rfl | wtm_at"d"
theorem vJ:CompOk (xA (top 76)) ["boxes","found","name","size","longer","one"] (scAt (xB (top 76)) [1,1,0] [1]) ["value","one"] 1 [5]:=
 by constructor <;> wtm_at"d"
theorem qTb (F:Fd K mg "_law_standings" (top 76) ["boxes"])(B:Bl mg):Dn P w K mg base "_law_standings" 1 ["boxes"] qJj:=by
 refine F.ok zW (fun vs H Q E h=>?_) (fun f zx A outer s H vs Q E hr h=>?_)
 .obtain⟨_,_,_,rfl,_⟩:=h
  rfl
 obtain⟨bx,bs,us,rfl,ebx,pb,h6,h25,q⟩:=h
 have lb:us.length=bs.length:=pb.length.symm
 refine⟨_,(qZ (xF (i:=1) zW.nd rfl (xU (qQ (xN qX) qX)))
  (qZ (zH PassesOwn.never rfl (qU (K:=K) (pv 0)) (jF (K:=K) (n:=2) rfl (qH (qG (i:=2) zW.nd rfl (by wtm_at "zo")) (qH (qG (i:=3) zW.nd rfl (by wtm_at "zo")) qI))) (qZ (xF (i:=4) zW.nd rfl (xU qX))
  (qZ (zH PassesOwn.never rfl (qU (K:=K) (pv 1)) (qG (i:=5) zW.nd rfl (by wtm_at "zo")) (qJ (xF (i:=4) zW.nd rfl (xQ qKq (pv 4) (zI rfl vJ (yZ rfl B.range' (qQ (pv 3) qX)) (fun cl fp s H=>(qG (i:=0) vJ.nd rfl (Or.inl rfl) (.inr rfl))) (fun cl fp s H=>zF) (fun cl fp s H=>(xQ (qAz (K:=K)) (pv 1) (xN (qQ (pv 0) qX)))))))))
  (qJ (xF (i:=1) zW.nd rfl (pv 4))))))
  (qJ (qN (pv 1))))),?_⟩
 wtm_at"z"
 refine⟨(by show 0<=Yc;decide),fun t0 ht0=>?_⟩
 wtm_at"z"
 refine⟨(by show 1<=Yc;decide),fun r0 hr0=>?_⟩
 wtm_at"z"
 have S0:Same H (upd (upd H t0 (.tup [])) r0 (.lst [.ref t0])):=(qV ht0 _).trans (qV hr0 _)
 refine⟨_,rfl,bx,rfl,⟨us,SqL.of (S0 _ _ ebx)⟩,?_⟩
 refine zN (xs:=us) (fun i σ' H'=>∃(ro:Addr) (ss:List V) (z2 z3 z4 z5:Option V),σ'=[some (.ref bx),some (.ref ro),z2,z3,z4,z5]/\Same H H'/\H ro=none/\H' ro=some (.lst ss)/\Paired (TupIn H') (allV (bs.take i)) ss)
  ⟨r0,[.ref t0],none,none,none,none,rfl,S0,(qV ht0 _).free hr0,qW,.cons ⟨t0,rfl,qV hr0 _ _ _ qW⟩ .nil⟩
  (fun i σ' H' _ hP=>?_) (fun N rt bk i x σ' H' ex hP hN=>?_) (fun σ' H' hP=>?_)
 .obtain⟨ro,ss,z2,z3,z4,z5,rfl,S1,_⟩:=hP
  exact SqL.of (S1 _ _ ebx)
 .obtain⟨ro,ss,z2,z3,z4,z5,rfl,S1,nro,ero,prs⟩:=hP
  have hi:i<bs.length:=by rw[<- lb];exact(yYB.mp ex).1
  obtain⟨b,eb⟩:∃b,bs[i]? = some b:=⟨_,yYA hi⟩
  obtain⟨ba,rfl,hba⟩:=xK pb eb ex
  have hb25:=h25 b (yYE eb)
  have rl:=qJl h25 i (by omega)
  have p5:=pow56 (i:=i) (by omega)
  refine⟨ba,_,rfl,SqT.of (S1 _ _ hba),rfl,_,_,rfl,_,_,rfl,rfl,?_⟩
  wtm_at"z"
  refine⟨(by show 0<=Yc;decide),fun lo0 hlo0=>?_⟩
  wtm_at"z"
  have lr:=prs.length
  refine⟨_,rfl,ro,rfl,⟨ss,SqL.of (qV hlo0 _ _ _ ero)⟩,?_⟩
  refine zN (xs:=ss) (fun j σ'' H''=>∃(lo:Addr) (ls:List V) (z5:Option V),σ''=[some (.ref bx),some (.ref ro),some (.str b.1),some (.int b.2),some (.ref lo),z5]/\Same H' H''/\H' lo=none/\H'' lo=some (.lst ls)/\Paired (TupIn H'') (rowsBy ((allV (bs.take i)).take j) b.2.toNat) ls)
   ⟨lo0,[],z5,rfl,qV hlo0 _,hlo0,qW,.nil⟩ (fun j σ'' H'' _ hP=>?_) (fun N2 rt2 bk2 j x σ'' H'' ex2 hP hN2=>?_) (fun σ'' H'' hP=>?_)
  .obtain⟨lo,ls,z5,rfl,k2,_⟩:=hP
   exact SqL.of (k2 _ _ ero)
  .obtain⟨lo,ls,z5,rfl,k2,nlo,elo,pls⟩:=hP
   have hj:j<(allV (bs.take i)).length:=by rw[lr];exact(yYB.mp ex2).1
   obtain⟨row,erow⟩:∃row,(allV (bs.take i))[j]? = some row:=⟨_,yYA hj⟩
   obtain⟨ra,rfl,hra⟩:=xK prs erow ex2
   have hrl:=qBz bs i (by omega) row (yYE erow)
   have ll:=pls.length
   have lm:=wZ (allV (bs.take i)) b.2.toNat j
   have l5:(allV (bs.take i)).length * b.2.toNat<=15625 * 5:=Nat.mul_le_mul (by omega) (by omega)
   wtm_at"z"
   refine⟨_,rfl,b.2,rfl,by omega,by omega,qHj (k2 _ _ hra) rfl (by omega) (by omega) fun D zs H3 nD S3 eD pz=>?_⟩
   have lz:=pz.length
   rw[yYC,List.length_range] at lz
   refine⟨lo,D,ls,zs,rfl,rfl,S3 _ _ elo,eD,by rw[<- ll,<- lz];exact qOo (by omega),fun p hp=>?_⟩
   have S4:Same H3 (upd H3 p (.lst (ls++zs))):=qV hp _
   refine hN2 _ _ ⟨p,ls++zs,_,rfl,k2.trans (S3.trans S4),k2.free (S3.free hp),qW,?_⟩
   rw[qYd erow]
   exact paired_app (xJ (qC (S3.trans S4)) pls) (xJ (qC S4) pz)
  .obtain⟨lo,ls,z5,rfl,k2,nlo,elo,pls⟩:=hP
   rw[<- lr,yYJ,<- kF eb] at pls
   wtm_at"z"
   exact hN _ _ ⟨lo,ls,_,_,_,_,rfl,S1.trans k2,S1.free nlo,elo,pls⟩
 .obtain⟨ro,ss,z2,z3,z4,z5,rfl,S1,nro,ero,prs⟩:=hP
  rw[lb,yYJ] at prs
  wtm_at"z"
  exact q ro ss H' nro S1 ero prs
def zZ (H:Hp)(c:Str×Th)(u:V):Prop:=∃a v,u=.ref a/\H a=some (.tup [.str c.1,v])/\c.2.At H v
def WayIn (H:Hp)(wy:List (Str×Th))(u:V):Prop:=∃a us,u=.ref a/\H a=some (.lst us)/\Paired (zZ H) wy us
structure Deed where
 name:Str
 price:Int
 need:Th
 ways:List (List (Str×Th))
def DeedIn (H:Hp)(d:Deed)(u:V):Prop:=∃a nv wa us,u=.ref a/\H a=some (.tup [.str d.name,.int d.price,nv,.ref wa])/\d.need.At H nv/\H wa=some (.lst us)/\Paired (WayIn H) d.ways us
structure Look where
 name:Str
 price:Int
 part:Th
def LookIn (H:Hp)(l:Look)(u:V):Prop:=∃a v,u=.ref a/\H a=some (.tup [.str l.name,.int l.price,v])/\l.part.At H v
structure WayOk (ws:List Str)(wy:List (Str×Th)):Prop where
 nd:(wy.map (·.1)).Nodup
 le:wy.length<=100
 ok:∀c∈wy,c.1∈ws/\Expr' ws c.2/\c.2.dep<=12
 sm:∀c∈wy,c.2.dep<=3
structure DeedOk (ws:List Str)(d:Deed):Prop where
 price:1<=d.price
 need:Cond' ws d.need
 dep:d.need.dep<=12
 ne:d.ways≠[]
 le:d.ways.length<=100
 ways:∀wy∈d.ways,WayOk ws wy
 hi:d.price<10 ^ 30
 sm:d.need.dep<=6
 w4:d.ways.length<=4
structure LookOk (ws:List Str)(l:Look):Prop where
 price:1<=l.price
 part:Expr' ws l.part
 dep:l.part.dep<=12
 hi:l.price<10 ^ 30
 sm:l.part.dep<=3
section
variable {H H':Hp}
theorem zZ.same (s:Same H H'){c:Str×Th}{u:V}(x:zZ H c u):zZ H' c u:=let ⟨a,v,e,q,r⟩:=x;⟨a,v,e,s _ _ q,r.mono (qC s)⟩
theorem WayIn.same (s:Same H H'){c:List (Str×Th)}{u:V}(x:WayIn H c u):WayIn H' c u:=let ⟨a,us,e,q,r⟩:=x;⟨a,us,e,s _ _ q,Paired.mapP r fun _ _ y=>y.same s⟩
theorem DeedIn.same (s:Same H H'){c:Deed}{u:V}(x:DeedIn H c u):DeedIn H' c u:=let ⟨a,nv,wa,us,e,q,r,q2,p⟩:=x;⟨a,nv,wa,us,e,s _ _ q,r.mono (qC s),s _ _ q2,Paired.mapP p fun _ _ y=>y.same s⟩
theorem LookIn.same (s:Same H H'){c:Look}{u:V}(x:LookIn H c u):LookIn H' c u:=let ⟨a,v,e,q,r⟩:=x;⟨a,v,e,s _ _ q,r.mono (qC s)⟩
end
structure Wd where
 bs:List (Str×Int)
 ds:List Deed
 ls:List Look
 bt:Th
 gt:Th
abbrev Wd.ws (W:Wd):List Str:=W.bs.map (·.1)
structure WAt (H:Hp)(W:Wd)(bx dx lx:Addr)(bv gv:V):Prop where
 boxes:∃us,H bx=some (.lst us)/\Paired (BoxIn H) W.bs us
 deeds:∃us,H dx=some (.lst us)/\Paired (DeedIn H) W.ds us
 looks:∃us,H lx=some (.lst us)/\Paired (LookIn H) W.ls us
 beg:W.bt.At H bv
 goal:W.gt.At H gv
structure WOk (W:Wd):Prop where
 b1:1<=W.bs.length
 b6:W.bs.length<=6
 b25:∀b∈W.bs,2<=b.2/\b.2<=5
 b200:(W.bs.map (·.2)).foldl (· * ·) 1<=200
 named:Named W.ws
 dl:W.ds.length<=100
 ll:W.ls.length<=100
 nd:(W.ds.map Deed.name++W.ls.map Look.name).Nodup
 deeds:∀d∈W.ds,DeedOk W.ws d
 looks:∀l∈W.ls,LookOk W.ws l
 beg:Cond' W.ws W.bt
 begd:W.bt.dep<=12
 goal:Cond' W.ws W.gt
 goald:W.gt.dep<=12
 some':∃vals∈allV W.bs,W.bt.truth (envOf (kvsOf W.bs vals))=true
 sh:∀x∈W.ds.map Deed.name++W.ls.map Look.name,Lw x
 bsm:W.bt.dep<=8
 gsm:W.gt.dep<=8
theorem WAt.same {H H':Hp}{W:Wd}{bx dx lx:Addr}{bv gv:V}(s:Same H H')(x:WAt H W bx dx lx bv gv):WAt H' W bx dx lx bv gv:=by
 obtain⟨u1,e1,p1⟩:=x.boxes
 obtain⟨u2,e2,p2⟩:=x.deeds
 obtain⟨u3,e3,p3⟩:=x.looks
 exact⟨⟨u1,s _ _ e1,xY (qC s) p1⟩,⟨u2,s _ _ e2,Paired.mapP p2 fun _ _ y=>y.same s⟩,⟨u3,s _ _ e3,Paired.mapP p3 fun _ _ y=>y.same s⟩,x.beg.mono (qC s),x.goal.mono (qC s)⟩
theorem Expr'.in {ws:List Str}:∀{t:Th},Expr' ws t->∀x∈t.names,x∈ws
 | .num _,_,x,h=>by cases h
 | .box y,h,x,hx=>by
  have hx:x∈[y]:=hx
  rw[yYL.mp hx];exact h
 | .nul _,h,_,_=>h.elim
 | .un _ _,h,_,_=>h.elim
 | .bin k a b,⟨_,ha,hb⟩,x,hx=>by
  have hx:x∈a.names++b.names:=hx
  rcases yYR.mp hx with h | h
  .exact Expr'.in ha x h
  .exact Expr'.in hb x h
theorem Cond'.in {ws:List Str}:∀{t:Th},Cond' ws t->∀x∈t.names,x∈ws
 | .num _,h,_,_=>h.elim
 | .box _,h,_,_=>h.elim
 | .nul _,_,x,h=>by cases h
 | .un k a,⟨_,ha⟩,x,hx=>Cond'.in ha x hx
 | .bin k a b,h,x,hx=>by
  have hx:x∈a.names++b.names:=hx
  rcases h with⟨_,ha,hb⟩ | ⟨_,ha,hb⟩
  .rcases yYR.mp hx with h | h
   .exact ha.in x h
   .exact hb.in x h
  .rcases yYR.mp hx with h | h
   .exact Cond'.in ha x h
   .exact Cond'.in hb x h
theorem flat_strs (ws:List Str):(strsV ws).all flatV=true:=List.all_eq_true.mpr fun x hx=>by
 obtain⟨y,_,rfl⟩:=yYP.mp hx
 rfl
theorem kM (x:Str)(ws:List Str):inV (.str x) (strsV ws)=decide (x∈ws):=by
 unfold inV
 rw[List.any_map]
 by_cases h:x∈ws
 .rw[decide_eq_true h]
  refine List.any_eq_true.mpr ⟨x,h,?_⟩
  show(x == x)=true
  exact beq_self_eq_true x
 .rw[decide_eq_false h]
  refine Bool.eq_false_iff.mpr fun z=>?_
  obtain⟨y,hy,e⟩:=List.any_eq_true.mp z
  have e:(y == x)=true:=e
  exact h (eq_of_beq e▸hy)
theorem qEi:xM ["thing"] ["thing"] (xA (top 18)):=by constructor <;> first | rfl | wtm_at"d"
def qEd:Sp:=fun vs H Q _=>∃i:Int,vs=[.int i]/\Q (.bl true) H
theorem xCi:PySem.W.kitOne K (.type "int") (.type "bool")=some false:=by with_unfolding_all rfl
theorem xZf (F:Fd K mg "is_whole" (top 18) ["thing"])(B:Bl mg):Dn P w K mg base "is_whole" 1 ["thing"] qEd:=by
 refine F.ok qEi (fun vs H Q E h=>?_) (fun f zx A outer s H vs Q E hr h=>?_)
 .obtain⟨_,rfl,_⟩:=h
  rfl
 obtain⟨i,rfl,q⟩:=h
 refine⟨_,(qJ (qN (qZa (xZ (jY (K:=K)) rfl B.isinstance' zS (qQ (pv 0) (qQ (qCq rfl B.int' qDm) qX))) (qQf (qHw (xZ (jY (K:=K)) rfl B.isinstance' zS (qQ (pv 0) (qQ (qCq rfl B.bool' qFo) qX)))))))),?_⟩
 wtm_at"z"
 refine⟨.int i,"int",_,true,rfl,.int i,qCl,?_⟩
 wtm_at"z"
 refine⟨.int i,"bool",_,false,rfl,.int i,xCi,?_⟩
 wtm_at"z"
 exact q
theorem qYa:xM ["name","price"] ["name","price"] (xA (top 21)):=by constructor <;> first | rfl | wtm_at"d"
def qOf:Sp:=fun vs H Q _=>∃(x:V) (p:Int),vs=[x,.int p]/\1<=p/\Q .non H
theorem xZn (F:Fd K mg "refuse_price" (top 21) ["name","price"])(yj:Dn P w K mg base "is_whole" 1 ["thing"] qEd)(vL:Gi mg "LEAST_PRICE" 1):Dn P w K mg base "refuse_price" 2 ["name","price"] qOf:=by
 refine F.ok qYa (fun vs H Q E h=>?_) (fun f zx A outer s H vs Q E hr h=>?_)
 .obtain⟨_,_,rfl,_⟩:=h
  rfl
 obtain⟨x,p,rfl,hp,q⟩:=h
 refine⟨_,(qJ (zD (PW.pt (qVz (qQe (kH (qD yj hr (qQ (pv 1) qX)))) (qYf (qR qAx (pv 1) (qXn vL) (xD _))))) (qJ yX) qY)),?_⟩
 wtm_at"z"
 refine⟨p,rfl,?_⟩
 wtm_at"z"
 refine zQ (decide_eq_false (by omega)) ?_
 wtm_at"z"
 exact q
theorem vP:xM ["name","names"] ["name","names"] (xA (top 23)):=by constructor <;> first | rfl | wtm_at"d"
def qXg:Sp:=fun vs H Q _=>∃(x:Str) (nl:Addr) (ws:List Str),vs=[.str x,.ref nl]/\H nl=some (.lst (strsV ws))/\x∈ws/\Q .non H
theorem qFe (F:Fd K mg "refuse_strange_name" (top 23) ["name","names"]):Dn P w K mg base "refuse_strange_name" 1 ["name","names"] qXg:=by
 refine F.ok vP (fun vs H Q E h=>?_) (fun f zx A outer s H vs Q E hr h=>?_)
 .obtain⟨_,_,_,rfl,_⟩:=h
  rfl
 obtain⟨x,nl,ws,rfl,hn,hx,q⟩:=h
 refine⟨_,(qJ (zD (qR (qCk (K:=K)) (pv 0) (pv 1) (by with_unfolding_all rfl)) (qJ yX) qY)),?_⟩
 wtm_at"z"
 refine⟨nl,_,rfl,.inl (SqL.of hn),rfl,flat_strs ws,?_⟩
 wtm_at"z"
 rw[if_pos rfl,kM,decide_eq_true hx]
 refine iteF ?_
 wtm_at"z"
 exact q
theorem jU:xM ["thing","names","name"] ["thing","names"] (xA (top 24)):=by constructor <;> first | rfl | wtm_at"d"
def qYk:Sp:=fun vs H Q _=>∃(t:Th) (v:V) (nl:Addr) (ws:List Str),vs=[v,.ref nl]/\t.At H v/\t.Ok/\t.dep<=12/\H nl=some (.lst (strsV ws))/\(∀x∈t.names,x∈ws)/\∀H',Same H H'->Q .non H'
theorem qNv (F:Fd K mg "refuse_strange_names" (top 24) ["thing","names"])(jw:Dn P w K mg base "refuse_strange_name" 1 ["name","names"] qXg)
  (VQ:Dn P w K mg base "names_in" 13 ["thing"] (qXh 12)):Dn P w K mg base "refuse_strange_names" 14 ["thing","names"] qYk:=by
 refine F.ok jU (fun vs H Q E h=>?_) (fun f zx A outer s H vs Q E hr h=>?_)
 .obtain⟨_,_,_,_,rfl,_⟩:=h
  rfl
 obtain⟨t,v,nl,ws,rfl,at',ok,dp,hn,hin,q⟩:=h
 refine⟨_,(qJ (zH PassesOwn.never rfl (qU (K:=K) (qD VQ hr (qQ (pv 0) qX))) (qG (i:=2) jU.nd rfl (by wtm_at "zo")) (qJ (qP (qD jw hr (qQ (pv 2) (qQ (pv 1) qX))))))),?_⟩
 wtm_at "zf"
 refine⟨t,v,rfl,at',ok,dp,dp,fun r H1 hr1 S1 er=>?_⟩
 refine⟨r,rfl,⟨_,SqL.of er⟩,?_⟩
 refine wM (xs:=strsV t.names) (fun i σ' H'=>∃z:Option V,σ'=[some v,some (.ref nl),z]/\H'=H1) ⟨none,rfl,rfl⟩ (fun i σ' H' _ hP=>?_) (fun i x σ' H' ex hP=>?_) (fun σ' H' hP=>?_)
 .obtain⟨z,rfl,rfl⟩:=hP
  exact SqL.of er
 .obtain⟨z,rfl,rfl⟩:=hP
  obtain⟨y,hy,rfl⟩:=yYP.mp (yYE ex)
  wtm_at"z"
  refine⟨y,nl,ws,rfl,S1 _ _ hn,hin y hy,?_⟩
  exact⟨_,rfl,rfl⟩
 .obtain⟨z,rfl,rfl⟩:=hP
  exact q _ S1
theorem qYw:xM ["names","kind"] ["names","kind"] (xA (top 20)):=by constructor <;> first | rfl | wtm_at"d"
def qWf:Sp:=fun vs H Q _=>∃(nl:Addr) (ws:List Str) (x:V),vs=[.ref nl,x]/\H nl=some (.lst (strsV ws))/\ws.Nodup/\ws.length<=1000/\∀H',Same H H'->Q .non H'
theorem xZg (F:Fd K mg "refuse_twice" (top 20) ["names","kind"])(B:Bl mg)(VR:mg "set" = none):Dn P w K mg base "refuse_twice" 1 ["names","kind"] qWf:=by
 refine F.ok qYw (fun vs H Q E h=>?_) (fun f zx A outer s H vs Q E hr h=>?_)
 .obtain⟨_,_,_,rfl,_⟩:=h
  rfl
 obtain⟨nl,ws,x,rfl,hn,nd,hl,q⟩:=h
 refine⟨_,(qJ (zD (qR qAx (xZ (qUb (P:=P) (w:=w)) rfl B.len' jO (qQ (xX (qUw (P:=P) (w:=w) (K:=K) rfl) rfl VR xDl (qQ (pv 0) qX)) qX)) (xZ (jX (K:=K)) rfl B.len' jO (qQ (pv 0) qX)) (xD _)) (qJ yX) qY)),?_⟩
 wtm_at"z"
 refine⟨nl,ws,rfl,SqL.of hn,nd,hl,fun p hp=>?_⟩
 wtm_at"z"
 refine⟨p,ws.length,rfl,qW,hl,?_⟩
 wtm_at"z"
 refine zQ (decide_eq_false (by rw[xW];omega)) ?_
 wtm_at"z"
 exact q _ (qV hp _)
theorem kZ:xM ["boxes","name","size"] ["boxes"] (xA (top 19)):=by constructor <;> first | rfl | wtm_at"d"
theorem yR:CompOk (xA (top 19)) ["boxes","name","size"] (scAt (xB (top 19)) [1] [1]) ["name","size"] 2 []:=
 by constructor <;> wtm_at"d"
def qGi:Sp:=fun vs H Q _=>∃(bx:Addr) (bs:List (Str×Int)) (us:List V),vs=[.ref bx]/\H bx=some (.lst us)/\Paired (BoxIn H) bs us/\1<=bs.length/\bs.length<=1000/\(∀b∈bs,2<=b.2/\b.2<=5)/\Named (bs.map (·.1))/\∀H',Same H H'->Q .non H'
theorem qTw (F:Fd K mg "refuse_boxes" (top 19) ["boxes"])(B:Bl mg)(jx:Dn P w K mg base "refuse_twice" 1 ["names","kind"] qWf)(yj:Dn P w K mg base "is_whole" 1 ["thing"] qEd)
  (vd:Gi mg "LEAST_SIZE" 2) (kg:Gi mg "GREATEST_SIZE" 5) (ju:Gs K mg "WORDS_OF_CONDITIONS" ["not","and","yes"]):Dn P w K mg base "refuse_boxes" 2 ["boxes"] qGi:=by
 refine F.ok kZ (fun vs H Q E h=>?_) (fun f zx A outer s H vs Q E hr h=>?_)
 .obtain⟨_,_,_,rfl,_⟩:=h
  rfl
 obtain⟨bx,bs,us,rfl,ebx,pb,h1,h1000,h25,nmd,q⟩:=h
 have lb:us.length=bs.length:=pb.length.symm
 refine⟨_,(qZ (zD (qR zM (xZ (jX (K:=K)) rfl B.len' jO (qQ (pv 0) qX)) qE (xD _)) (qJ yX) qY)
  (qZ (qP (qD jx hr (qQ (zI rfl yR (qU (K:=K) (pv 0)) (fun cl fp s H=>(jF (K:=K) (n:=2) rfl (qH (qG (i:=0) yR.nd rfl (Or.inl rfl) (.inr rfl)) (qH (qG (i:=1) yR.nd rfl (Or.inl rfl) (.inr rfl)) qI)))) (fun cl fp s H=>zF) (fun cl fp s H=>(pv 0))) (qQ qF qX))))
  (qJ (zH PassesOwn.never rfl (qU (K:=K) (pv 0)) (jF (K:=K) (n:=2) rfl (qH (qG (i:=1) kZ.nd rfl (by wtm_at "zo")) (qH (qG (i:=2) kZ.nd rfl (by wtm_at "zo")) qI))) (qZ (zD (qR (qHf (K:=K)) (pv 1) (qPf ju) (by with_unfolding_all rfl)) (qJ yX) qY)
  (qJ (zD (PW.pt (qVz (qQe (kH (qD yj hr (qQ (pv 2) qX)))) (qVz (qR qAx (pv 2) (qXn vd) (xD _)) (qYf (qR xXc (pv 2) (qXn kg) (xD _)))))) (qJ yX) qY))))))),?_⟩
 wtm_at"z"
 refine zQ (decide_eq_false (by intro z;injection z with z;omega)) ?_
 wtm_at"z"
 refine⟨_,rfl,bx,rfl,⟨us,SqL.of ebx⟩,qVe ebx pb h1000 fun D H1 S1 eD=>?_⟩
 wtm_at"z"
 refine⟨D,_,_,rfl,eD,nmd.nd,by rw[yYC];omega,fun H2 S2=>?_⟩
 have S12:=S1.trans S2
 wtm_at"z"
 refine⟨_,rfl,bx,rfl,⟨us,SqL.of (S12 _ _ ebx)⟩,?_⟩
 refine zN (xs:=us) (fun i σ' H'=>∃z1 z2:Option V,σ'=[some (.ref bx),z1,z2]/\H'=H2) ⟨none,none,rfl,rfl⟩ (fun i σ' H' _ hP=>?_) (fun N rt bk i x σ' H' ex hP hN=>?_) (fun σ' H' hP=>?_)
 .obtain⟨z1,z2,rfl,rfl⟩:=hP
  exact SqL.of (S12 _ _ ebx)
 .obtain⟨z1,z2,rfl,rfl⟩:=hP
  obtain⟨b,eb⟩:∃b,bs[i]? = some b:=⟨_,yYA (by rw[<- lb];exact(yYB.mp ex).1)⟩
  obtain⟨ba,rfl,hba⟩:=xK pb eb ex
  have hb25:=h25 b (yYE eb)
  have hno:=nmd.no b.1 (yYP.mpr ⟨b,yYE eb,rfl⟩)
  refine⟨ba,_,rfl,SqT.of (S12 _ _ hba),rfl,_,_,rfl,_,_,rfl,rfl,?_⟩
  wtm_at"z"
  intro p sq
  refine⟨p,_,rfl,.inr sq,rfl,flat_strs _,?_⟩
  wtm_at"z"
  rw[if_neg yZJ,kM,decide_eq_false (p:=b.1∈([("not" : Str),"and","yes"]:List Str)) hno]
  refine iteF ?_
  wtm_at"z"
  refine⟨b.2,rfl,?_⟩
  wtm_at"z"
  refine zQ (decide_eq_false (by omega)) ?_
  wtm_at"z"
  refine zQ (decide_eq_false (by omega)) ?_
  exact hN _ _ ⟨_,_,rfl,rfl⟩
 .obtain⟨z1,z2,rfl,rfl⟩:=hP
  exact q _ S12
theorem yI:xM ["deed_name","ways","names","way","name","expression"] ["deed_name","ways","names"] (xA (top 22)):=by constructor <;> first | rfl | wtm_at"d"
theorem kC:CompOk (xA (top 22)) ["deed_name","ways","names","way","name","expression"] (scAt (xB (top 22)) [1,0] [1]) ["name","expression"] 2 []:=
 by constructor <;> wtm_at"d"
def spWays:Sp:=fun vs H Q _=>∃(x:V) (wa nl:Addr) (us:List V) (ws:List Str) (wys:List (List (Str×Th))),vs=[x,.ref wa,.ref nl]/\H wa=some (.lst us)/\Paired (WayIn H) wys us/\wys≠[]/\wys.length<=100/\(∀wy∈wys,WayOk ws wy)/\
 H nl=some (.lst (strsV ws))/\∀H',Same H H'->Q .non H'
theorem qNx {σ:St}{H:Hp}{Q:VK}{wa:Addr}{us:List V}{wy:List (Str×Th)}(e1:H wa=some (.lst us))(p1:Paired (zZ H) wy us)(hl:wy.length<=1000)
  (q:∀(D:Addr) (H':Hp),Same H H'->H' D=some (.lst (strsV (wy.map (·.1))))->Q (.ref D) H'):
  rdC 2 [] (gTup K 2 (gCons (gName 0) (gCons (gName 1) gNil))) tYes (tVar 0) (Itl K wa) σ H Q:=by
 have lb:us.length=wy.length:=p1.length.symm
 refine zV (xs:=us) (fun D i ys H'=>ys=strsV ((wy.take i).map (·.1))/\∀b o,H b=some o->H' b=some o) (fun D hD=>⟨rfl,qV hD _⟩)
  (fun D i ys H' _ hP=>(show Same H H' from hP.2).seq (SqL.of e1)) (fun D i x ys H' N hD hDy ex hP hN=>?_) (fun wd ys H2 hD hDy hP=>?_)
 .obtain⟨rfl,hk⟩:=hP
  obtain⟨b,eb⟩:∃b,wy[i]? = some b:=⟨_,yYA (by rw[<- lb];exact(yYB.mp ex).1)⟩
  obtain⟨ba,bv,rfl,hba,_⟩:=xK p1 eb ex
  refine⟨ba,_,rfl,SqT.of (hk _ _ hba),rfl,_,_,rfl,_,_,rfl,rfl,⟨[some (.str b.1),some bv],rfl,rfl⟩,?_⟩
  refine⟨_,rfl,hDy,?_,hN _ _ qW ⟨?_,fun b o e=>?_⟩⟩
  .rw[xW,yYC,yYF];exact small (by omega)
  .rw[yYM,eb,yYU,xR];rfl
  .rw[qA (qB e hD)];exact hk _ _ e
 obtain⟨rfl,hk2⟩:=hP
 rw[lb,yYJ] at hDy
 exact q wd H2 hk2 hDy
theorem xWd (F:Fd K mg "refuse_ways" (top 22) ["deed_name","ways","names"])(B:Bl mg)(jx:Dn P w K mg base "refuse_twice" 1 ["names","kind"] qWf)(jw:Dn P w K mg base "refuse_strange_name" 1 ["name","names"] qXg)
  (jf:Dn P w K mg base "refuse_strange_names" 14 ["thing","names"] qYk):Dn P w K mg base "refuse_ways" 15 ["deed_name","ways","names"] spWays:=by
 refine F.ok yI (fun vs H Q E h=>?_) (fun f zx A outer s H vs Q E hr h=>?_)
 .obtain⟨_,_,_,_,_,_,rfl,_⟩:=h
  rfl
 obtain⟨x,wa,nl,us,ws,wys,rfl,ewa,pw,hne,hle,hok,hn,q⟩:=h
 have lw:us.length=wys.length:=pw.length.symm
 have l1:=List.length_pos_iff.mpr hne
 refine⟨_,(qZ (zD (qR zM (xZ (jX (K:=K)) rfl B.len' jO (qQ (pv 1) qX)) qE (xD _)) (qJ yX) qY)
  (qJ (zH PassesOwn.never rfl (qU (K:=K) (pv 1)) (qG (i:=3) yI.nd rfl (by wtm_at "zo")) (qZ (qP (qD jx hr (qQ (zI rfl kC (qU (K:=K) (pv 3)) (fun cl fp s H=>(jF (K:=K) (n:=2) rfl (qH (qG (i:=0) kC.nd rfl (Or.inl rfl) (.inr rfl)) (qH (qG (i:=1) kC.nd rfl (Or.inl rfl) (.inr rfl)) qI)))) (fun cl fp s H=>zF) (fun cl fp s H=>(pv 0))) (qQ qF qX))))
  (qJ (zH PassesOwn.never rfl (qU (K:=K) (pv 3)) (jF (K:=K) (n:=2) rfl (qH (qG (i:=4) yI.nd rfl (by wtm_at "zo")) (qH (qG (i:=5) yI.nd rfl (by wtm_at "zo")) qI))) (qZ (qP (qD jw hr (qQ (pv 4) (qQ (pv 2) qX))))
  (qJ (qP (qD jf hr (qQ (pv 5) (qQ (pv 2) qX)))))))))))),?_⟩
 wtm_at"z"
 refine zQ (decide_eq_false (by intro z;injection z with z;omega)) ?_
 wtm_at"z"
 refine⟨_,rfl,wa,rfl,⟨us,SqL.of ewa⟩,?_⟩
 refine zN (xs:=us) (fun i σ' H'=>∃z1 z2 z3:Option V,σ'=[some x,some (.ref wa),some (.ref nl),z1,z2,z3]/\Same H H') ⟨none,none,none,rfl,Same.refl _⟩ (fun i σ' H' _ hP=>?_) (fun N rt bk i u σ' H' ex hP hN=>?_) (fun σ' H' hP=>?_)
 .obtain⟨_,_,_,rfl,S⟩:=hP
  exact SqL.of (S _ _ ewa)
 .obtain⟨z1,z2,z3,rfl,S1⟩:=hP
  obtain⟨wy,ewy⟩:∃b,wys[i]? = some b:=⟨_,yYA (by rw[<- lw];exact(yYB.mp ex).1)⟩
  obtain⟨ya,cs,rfl,eya,pc⟩:=xK pw ewy ex
  have wok:=hok wy (yYE ewy)
  have lc:cs.length=wy.length:=pc.length.symm
  have wle:=wok.le
  wtm_at"z"
  refine⟨_,rfl,ya,rfl,⟨cs,SqL.of (S1 _ _ eya)⟩,qNx (S1 _ _ eya) (Paired.mapP pc fun _ _ y=>y.same S1) (by omega) fun D H2 S2 eD=>?_⟩
  wtm_at"z"
  refine⟨D,_,_,rfl,eD,wok.nd,by rw[yYC];omega,fun H3 S3=>?_⟩
  have S13:=S1.trans (S2.trans S3)
  wtm_at"z"
  refine⟨_,rfl,ya,rfl,⟨cs,SqL.of (S13 _ _ eya)⟩,?_⟩
  refine zN (xs:=cs) (fun j σ'' H''=>∃z2 z3:Option V,σ''=[some x,some (.ref wa),some (.ref nl),some (.ref ya),z2,z3]/\Same H H'') ⟨z2,z3,rfl,S13⟩ (fun j σ'' H'' _ hP=>?_) (fun N2 rt2 bk2 j u σ'' H'' ex2 hP hN2=>?_) (fun σ'' H'' hP=>?_)
  .obtain⟨_,_,rfl,S⟩:=hP
   exact SqL.of (S _ _ eya)
  .obtain⟨z2,z3,rfl,S4⟩:=hP
   obtain⟨c,ec⟩:∃b,wy[j]? = some b:=⟨_,yYA (by rw[<- lc];exact(yYB.mp ex2).1)⟩
   obtain⟨ca,cv,rfl,eca,cat⟩:=xK pc ec ex2
   obtain⟨o1,o2,o3⟩:=wok.ok c (yYE ec)
   refine⟨ca,_,rfl,SqT.of (S4 _ _ eca),rfl,_,_,rfl,_,_,rfl,rfl,?_⟩
   wtm_at"z"
   refine⟨c.1,nl,ws,rfl,S4 _ _ hn,o1,?_⟩
   wtm_at"z"
   refine⟨c.2,cv,nl,ws,rfl,cat.mono (qC S4),o2.ok,o3,S4 _ _ hn,o2.in,fun H5 S5=>?_⟩
   exact hN2 _ _ ⟨_,_,rfl,S4.trans S5⟩
  .obtain⟨z2,z3,rfl,S4⟩:=hP
   exact hN _ _ ⟨_,_,_,rfl,S4⟩
 .obtain⟨_,_,_,rfl,S1⟩:=hP
  exact q _ S1
theorem vU:xM ["begin","boxes","standing"] ["begin","boxes"] (xA (top 25)):=by constructor <;> first | rfl | wtm_at"d"
def qOm:Sp:=fun vs H Q _=>∃(t:Th) (v:V) (bx:Addr) (bs:List (Str×Int)) (us:List V),vs=[v,.ref bx]/\t.At H v/\Cond' (bs.map (·.1)) t/\t.dep<=12/\H bx=some (.lst us)/\Paired (BoxIn H) bs us/\bs.length<=6/\(∀b∈bs,2<=b.2/\b.2<=5)/\
 (∃vals∈allV bs,t.truth (envOf (kvsOf bs vals))=true)/\∀H',Same H H'->Q .non H'
theorem xJj (F:Fd K mg "refuse_begin" (top 25) ["begin","boxes"])(yk:Dn P w K mg base "standings_of_boxes" 1 ["boxes"] qJj)(ug:Dn P w K mg base "holds" 26 ["condition","boxes","standing"] qOi):
  Dn P w K mg base "refuse_begin" 27 ["begin","boxes"] qOm:=by
 refine F.ok vU (fun vs H Q E h=>?_) (fun f zx A outer s H vs Q E hr h=>?_)
 .obtain⟨_,_,_,_,_,rfl,_⟩:=h
  rfl
 obtain⟨t,v,bx,bs,us,rfl,at',cx,dp,ebx,pb,h6,h25,⟨vals0,hv0,ht0⟩,q⟩:=h
 refine⟨_,(qZ (zH PassesOwn.never rfl (qU (K:=K) (qD yk hr (qQ (pv 1) qX))) (qG (i:=2) vU.nd rfl (by wtm_at "zo")) (qJ (zD (kH (qD ug hr (qQ (pv 0) (qQ (pv 1) (qQ (pv 2) qX))))) (qJ xVq) qY)))
  (qJ yX)),?_⟩
 wtm_at "zf"
 refine⟨bx,bs,us,rfl,ebx,pb,h6,h25,fun r ss H1 nr S1 er pr=>?_⟩
 have lr:=pr.length
 refine⟨r,rfl,⟨ss,SqL.of er⟩,?_⟩
 refine wM (xs:=ss) (fun i σ' H'=>∃z:Option V,σ'=[some v,some (.ref bx),z]/\Same H1 H'/\∀x∈(allV bs).take i,t.truth (envOf (kvsOf bs x))=false) ⟨none,rfl,Same.refl _,fun x hx=>by cases hx⟩
  (fun i σ' H' _ hP=>?_) (fun i x σ' H' ex hP=>?_) (fun σ' H' hP=>?_)
 .obtain⟨_,rfl,S,_⟩:=hP
  exact SqL.of (S _ _ er)
 .obtain⟨z,rfl,S2,hno⟩:=hP
  obtain⟨vals,ev⟩:∃b,(allV bs)[i]? = some b:=⟨_,yYA (by rw[lr];exact(yYB.mp ex).1)⟩
  obtain⟨st,rfl,est⟩:=xK pr ev ex
  have S12:=S1.trans S2
  have fv:=qBj (yYE ev)
  wtm_at"z"
  refine⟨t,v,bx,st,bs,vals,rfl,at'.mono (qC S12),cx,dp,⟨⟨us,S12 _ _ ebx,xY (qC S12) pb⟩,S2 _ _ est,fv.stands h25,by omega⟩,fun H3 S3=>?_⟩
  wtm_at"z"
  cases e:t.truth (envOf (kvsOf bs vals)) with
  | true=>
   refine iteT ?_
   exact q _ (S12.trans S3)
  | false=>
   refine iteF ?_
   refine⟨_,rfl,S2.trans S3,fun x hx=>?_⟩
   rw[yYM,ev] at hx
   rcases yYR.mp hx with h | h
   .exact hno x h
   .have h:x∈[vals]:=h
    rw[yYL.mp h];exact e
 .obtain⟨z,rfl,S2,hno⟩:=hP
  rw[<- lr,yYJ] at hno
  rw[hno vals0 hv0] at ht0
  cases ht0
def LstIn (ok:Addr->Prop)(H:Hp)(cs:List V)(u:V):Prop:=∃l,u=.ref l/\ok l/\H l=some (.lst cs)
def DeedAt (ok:Addr->Prop)(H:Hp)(x:Str)(p:Int)(dc:V×List (List V))(u:V):Prop:=∃a wa us,u=.ref a/\H a=some (.tup [.str x,.int p,dc.1,.ref wa])/\ok wa/\H wa=some (.lst us)/\Paired (LstIn ok H) dc.2 us
def yW (H:Hp)(d:Deed)(dc:V×List (List V)):Prop:=d.need.At H dc.1/\Paired (fun wy cs=>Paired (zZ H) wy cs) d.ways dc.2
theorem LstIn.move {ok ok':Addr->Prop}{H H':Hp}(h:∀b o,ok b->H b=some o->H' b=some o)(i:∀b,ok b->ok' b){cs:List V}{u:V}(x:LstIn ok H cs u):LstIn ok' H' cs u:=let ⟨l,e,o,q⟩:=x;⟨l,e,i l o,h l _ o q⟩
theorem DeedAt.move {ok ok':Addr->Prop}{H H':Hp}(h:∀b o,ok b->H b=some o->H' b=some o)(t:Tups H H')(i:∀b,ok b->ok' b){x:Str}{p:Int}{dc:V×List (List V)}{u:V}(z:DeedAt ok H x p dc u):DeedAt ok' H' x p dc u:=
 let ⟨a,wa,us,e,q,o,q2,r⟩:=z;⟨a,wa,us,e,t _ _ q,i wa o,h wa _ o q2,Paired.mapP r fun _ _ y=>y.move h i⟩
theorem qCz {H:Hp}{wys:List (List (Str×Th))}{us:List V}(p:Paired (WayIn H) wys us):∃css,Paired (fun wy cs=>Paired (zZ H) wy cs) wys css/\Paired (LstIn (fun _=>True) H) css us:=by
 induction p with
 | nil=>exact⟨[],.nil,.nil⟩
 | cons h _ ih=>
  obtain⟨a,cs,e,q,r⟩:=h
  obtain⟨css,h1,h2⟩:=ih
  exact⟨cs::css,.cons r h1,.cons ⟨a,e,trivial,q⟩ h2⟩
theorem qFx {ok:Addr->Prop}{H:Hp}{wys:List (List (Str×Th))}{css:List (List V)}{us:List V}(p:Paired (fun wy cs=>Paired (zZ H) wy cs) wys css)(h:Paired (LstIn ok H) css us):Paired (WayIn H) wys us:=by
 induction p generalizing us with
 | nil=>cases h;exact .nil
 | cons r _ ih=>
  cases h with
  | cons x t=>
   obtain⟨l,e,_,q⟩:=x
   exact .cons ⟨l,_,e,q,r⟩ (ih t)
theorem qNc {H:Hp}{d:Deed}{u:V}(h:DeedIn H d u):∃dc,yW H d dc/\DeedAt (fun _=>True) H d.name d.price dc u:=by
 obtain⟨a,nv,wa,us,e,q,r,q2,p⟩:=h
 obtain⟨css,h1,h2⟩:=qCz p
 exact⟨(nv,css),⟨r,h1⟩,a,wa,us,e,q,trivial,q2,h2⟩
theorem qTh {ok:Addr->Prop}{H:Hp}{d:Deed}{dc:V×List (List V)}{u:V}(h1:yW H d dc)(h2:DeedAt ok H d.name d.price dc u):DeedIn H d u:=by
 obtain⟨a,wa,us,e,q,_,q2,p⟩:=h2
 exact⟨a,dc.1,wa,us,e,q,h1.1,q2,qFx h1.2 p⟩
theorem qFg {H:Hp}{ds:List Deed}{us:List V}(p:Paired (DeedIn H) ds us):∃ps:List (Deed×V×List (List V)),ps.map (·.1)=ds/\(∀p∈ps,yW H p.1 p.2)/\Paired (fun p u=>DeedAt (fun _=>True) H p.1.name p.1.price p.2 u) ps us:=by
 induction p with
 | nil=>exact⟨[],rfl,(fun p hp=>by cases hp),.nil⟩
 | cons h t ih=>
  obtain⟨ps,e,h1,h2⟩:=ih
  obtain⟨dc,h3,h4⟩:=qNc h
  refine⟨(_,dc)::ps,by rw[Ym,e],fun p hp=>?_,.cons h4 h2⟩
  rcases yYK.mp hp with rfl | hp
  .exact h3
  .exact h1 p hp
theorem qZq {ok:Addr->Prop}{H:Hp}{ps:List (Deed×V×List (List V))}{us:List V}(h:∀p∈ps,yW H p.1 p.2)(t:Paired (fun p u=>DeedAt ok H p.1.name p.1.price p.2 u) ps us):Paired (DeedIn H) (ps.map (·.1)) us:=by
 induction t with
 | nil=>exact .nil
 | cons x t ih=>exact .cons (qTh (h _ yYG) x) (ih fun p hp=>h p (yYH _ hp))
theorem yW.same {H H':Hp}(s:Same H H'){d:Deed}{dc:V×List (List V)}(h:yW H d dc):yW H' d dc:=⟨h.1.mono (qC s),Paired.mapP h.2 fun _ _ y=>Paired.mapP y fun _ _ z=>z.same s⟩
theorem qVx:xM ["deed"] ["deed"] (xA (top 17)):=by constructor <;> first | rfl | wtm_at"d"
theorem wD:CompOk (xA (top 17)) ["deed"] (scAt (xB (top 17)) [0] [3]) ["way"] 1 []:=
 by constructor <;> wtm_at"d"
def qWi:Sp:=fun vs H Q _=>∃(u:V) (x:Str) (p:Int) (dc:V×List (List V)),vs=[u]/\DeedAt (fun _=>True) H x p dc u/\dc.2.length<=100/\
 ∀(y:V) (H':Hp),Same H H'->DeedAt (fun b=>H b=none) H' x p dc y->Q y H'
theorem qTd (F:Fd K mg "copied_deed" (top 17) ["deed"])(B:Bl mg):Dn P w K mg base "copied_deed" 1 ["deed"] qWi:=by
 refine F.ok qVx (fun vs H Q E h=>?_) (fun f zx A outer s H vs Q E hr h=>?_)
 .obtain⟨_,_,_,_,rfl,_⟩:=h
  rfl
 obtain⟨u,x,p,dc,rfl,⟨a,wa,us,rfl,ea,_,ewa,pus⟩,hl,q⟩:=h
 refine⟨_,(qJ (qN (xN (qQ (xE (qS (K:=K)) (pv 0) qE) (qQ (xE (qS (K:=K)) (pv 0) qE) (qQ (xE (qS (K:=K)) (pv 0) qE) (qQ (zI rfl wD (qU (K:=K) (xE (qS (K:=K)) (pv 0) qE)) (fun cl fp s H=>(qG (i:=0) wD.nd rfl (Or.inl rfl) (.inr rfl))) (fun cl fp s H=>zF) (fun cl fp s H=>(xX (qZz (K:=K)) rfl B.list' qZj (qQ (pv 0) qX)))) qX))))))),?_⟩
 wtm_at "zf"
 refine⟨wa,rfl,⟨us,SqL.of ewa⟩,?_⟩
 have lu:=pus.length
 refine zV (xs:=us) (fun D i ys H'=>Paired (LstIn (fun b=>H b=none/\b≠D) H') (dc.2.take i) ys/\∀b o,H b=some o->H' b=some o) (fun D hD=>⟨.nil,qV hD _⟩)
  (fun D i ys H' _ hP=>(show Same H H' from hP.2).seq (SqL.of ewa)) (fun D i x ys H' N hD hDy ex hP hN=>?_) (fun D ys H2 hD hDy hP=>?_)
 .obtain⟨pl,hk⟩:=hP
  have hi:i<dc.2.length:=by rw[lu];exact(yYB.mp ex).1
  obtain⟨cs,ec⟩:∃b,dc.2[i]? = some b:=⟨_,yYA hi⟩
  obtain⟨l0,rfl,_,el0⟩:=xK pus ec ex
  have ll:=pl.length
  rw[yYF] at ll
  refine⟨⟨[some (.ref l0)],rfl,rfl⟩,?_⟩
  refine⟨_,rfl,l0,cs,rfl,.inl (SqL.of (hk _ _ el0)),fun l hl'=>?_⟩
  have Dl:D≠l:=qB hDy hl'
  refine⟨by rw[qA Dl];exact hDy,small (by omega),hN _ _ qW ⟨?_,fun b o e=>?_⟩⟩
  .rw[yYM,ec]
   refine Paired.snoc (Paired.mapP pl fun _ _ z=>z.move (fun b o ok e=>?_) fun _ z=>z) ⟨l,rfl,⟨(show Same H H' from hk).free hl',Ne.symm Dl⟩,by rw[qA (Ne.symm Dl)];exact qW⟩
   rw[qA ok.2,qA (qB e hl')];exact e
  .rw[qA (qB e hD),qA (qB (hk _ _ e) hl')];exact hk _ _ e
 obtain⟨pl,hk⟩:=hP
 rw[<- lu,yYJ] at pl
 refine⟨ll4,fun t ht=>?_⟩
 have S2:Same H (upd H2 t (.tup [.str x,.int p,dc.1,.ref D])):=(show Same H H2 from hk).trans (qV ht _)
 refine q (.ref t) _ S2 ⟨t,D,ys,rfl,qW,hD,qV ht _ _ _ hDy,Paired.mapP pl fun _ _ z=>z.move (fun b o _ e=>qV ht _ _ _ e) fun _ z=>z.1⟩
theorem jK:xM ["boxes","deeds","looks","begin","goal","names","name","price","need","ways","expression"] ["boxes","deeds","looks","begin","goal"] (xA (top 15)):=by constructor <;> first | rfl | wtm_at"d"
theorem qZe:CompOk (xA (top 15)) ["boxes","deeds","looks","begin","goal","names","name","price","need","ways","expression"] (scAt (xB (top 15)) [1] [1,0]) ["deed"] 1 []:=
 by constructor <;> wtm_at"d"
theorem qZd:CompOk (xA (top 15)) ["boxes","deeds","looks","begin","goal","names","name","price","need","ways","expression"] (scAt (xB (top 15)) [1] [1,1]) ["look"] 1 []:=
 by constructor <;> wtm_at"d"
theorem wW:CompOk (xA (top 15)) ["boxes","deeds","looks","begin","goal","names","name","price","need","ways","expression"] (scAt (xB (top 15)) [2] []) ["name","size"] 2 []:=
 by constructor <;> wtm_at"d"
theorem qZc:CompOk (xA (top 15)) ["boxes","deeds","looks","begin","goal","names","name","price","need","ways","expression"] (scAt (xB (top 15)) [8] [1]) ["deed"] 1 []:=
 by constructor <;> wtm_at"d"
structure WF (ok:Addr->Prop)(H:Hp)(W:Wd)(p:Addr):Prop where
 ex:∃(bx dx lx:Addr) (bv gv:V) (us du lu:List V) (ps:List (Deed×V×List (List V))),H p=some (.tup [.ref bx,.ref dx,.ref lx,bv,gv])/\ok bx/\ok dx/\ok lx/\H bx=some (.lst us)/\Paired (BoxIn H) W.bs us/\
  ps.map (·.1)=W.ds/\(∀p∈ps,yW H p.1 p.2)/\H dx=some (.lst du)/\Paired (fun p u=>DeedAt ok H p.1.name p.1.price p.2 u) ps du/\H lx=some (.lst lu)/\Paired (LookIn H) W.ls lu/\W.bt.At H bv/\W.gt.At H gv
theorem WF.at' {ok:Addr->Prop}{H:Hp}{W:Wd}{p:Addr}(x:WF ok H W p):∃(bx dx lx:Addr) (bv gv:V),H p=some (.tup [.ref bx,.ref dx,.ref lx,bv,gv])/\WAt H W bx dx lx bv gv:=by
 obtain⟨bx,dx,lx,bv,gv,us,du,lu,ps,ep,_,_,_,e1,p1,eps,dat,e2,p2,e3,p3,b,g⟩:=x.ex
 have:=qZq dat p2
 rw[eps] at this
 exact⟨bx,dx,lx,bv,gv,ep,⟨us,e1,p1⟩,⟨du,e2,this⟩,⟨lu,e3,p3⟩,b,g⟩
theorem WF.move {ok ok':Addr->Prop}{H H':Hp}{W:Wd}{p:Addr}(h:∀b o,ok b->H b=some o->H' b=some o)(t:Tups H H')(i:∀b,ok b->ok' b)(x:WF ok H W p):WF ok' H' W p:=by
 obtain⟨bx,dx,lx,bv,gv,us,du,lu,ps,ep,o1,o2,o3,e1,p1,eps,dat,e2,p2,e3,p3,b,g⟩:=x.ex
 refine⟨bx,dx,lx,bv,gv,us,du,lu,ps,t _ _ ep,i _ o1,i _ o2,i _ o3,h _ _ o1 e1,xY t p1,eps,fun p hp=>⟨(dat p hp).1.mono t,Paired.mapP (dat p hp).2 fun _ _ y=>Paired.mapP y fun _ _ z=>let ⟨a,v,e,q,r⟩:=z;⟨a,v,e,t _ _ q,r.mono t⟩⟩,h _ _ o2 e2,Paired.mapP p2 fun _ _ y=>y.move h t i,h _ _ o3 e3,Paired.mapP p3 fun _ _ y=>let ⟨a,v,e,q,r⟩:=y;⟨a,v,e,t _ _ q,r.mono t⟩,b.mono t,g.mono t⟩
def qYj:Sp:=fun vs H Q _=>∃(W:Wd) (bx dx lx:Addr) (bv gv:V),vs=[.ref bx,.ref dx,.ref lx,bv,gv]/\WAt H W bx dx lx bv gv/\WOk W/\
 ∀(p:Addr) (H':Hp),Same H H'->WF (fun b=>H b=none) H' W p->Q (.ref p) H'
theorem qKc {σ:St}{H:Hp}{Q:VK}{la:Addr}{us:List V}{xs:List Str}(e1:H la=some (.lst us))(p1:Paired (fun x u=>∃a ys,u=.ref a/\H a=some (.tup (.str x::ys))) xs us)(hl:xs.length<=1000)
  (q:∀(D:Addr) (H':Hp),H D=none->Same H H'->H' D=some (.lst (strsV xs))->Q (.ref D) H'):
  rdC 1 [] (gName 0) tYes (tOp (rIxT K) (tVar 0) (tC (.int 0))) (Itl K la) σ H Q:=by
 have lb:us.length=xs.length:=p1.length.symm
 refine zV (xs:=us) (fun D i ys H'=>ys=strsV (xs.take i)/\∀b o,H b=some o->H' b=some o) (fun D hD=>⟨rfl,qV hD _⟩)
  (fun D i ys H' _ hP=>(show Same H H' from hP.2).seq (SqL.of e1)) (fun D i x ys H' N hD hDy ex hP hN=>?_) (fun wd ys H2 hD hDy hP=>?_)
 .obtain⟨rfl,hk⟩:=hP
  obtain⟨b,eb⟩:∃b,xs[i]? = some b:=⟨_,yYA (by rw[<- lb];exact(yYB.mp ex).1)⟩
  obtain⟨ba,zs,rfl,hba⟩:=xK p1 eb ex
  refine⟨⟨[some (.ref ba)],rfl,rfl⟩,?_⟩
  refine⟨_,rfl,ba,_,0,.str b,rfl,rfl,SqT.of (hk _ _ hba),qBx _ _,hDy,?_,hN _ _ qW ⟨?_,fun b o e=>?_⟩⟩
  .rw[xW,yYF];exact small (by omega)
  .rw[yYM,eb,xR];rfl
  .rw[qA (qB e hD)];exact hk _ _ e
 obtain⟨rfl,hk2⟩:=hP
 rw[lb,yYJ] at hDy
 exact q wd H2 hD hk2 hDy
theorem qFh {H:Hp}{ds:List Deed}{us:List V}(p:Paired (DeedIn H) ds us):Paired (fun x u=>∃a ys,u=.ref a/\H a=some (.tup (.str x::ys))) (ds.map Deed.name) us:=by
 induction p with
 | nil=>exact .nil
 | cons h _ ih=>
  obtain⟨a,_,_,_,e,q,_⟩:=h
  exact .cons ⟨a,_,e,q⟩ ih
theorem qFv {H:Hp}{ds:List Look}{us:List V}(p:Paired (LookIn H) ds us):Paired (fun x u=>∃a ys,u=.ref a/\H a=some (.tup (.str x::ys))) (ds.map Look.name) us:=by
 induction p with
 | nil=>exact .nil
 | cons h _ ih=>
  obtain⟨a,_,e,q,_⟩:=h
  exact .cons ⟨a,_,e,q⟩ ih
theorem qNb {σ:St}{H:Hp}{Q:VK}{dx:Addr}{us:List V}{ps:List (Deed×V×List (List V))}(e1:H dx=some (.lst us))(p1:Paired (fun p u=>DeedAt (fun _=>True) H p.1.name p.1.price p.2 u) ps us)(hl:ps.length<=1000)
  (h2:∀p∈ps,p.2.2.length<=100)
  (q:∀(D:Addr) (ys:List V) (H':Hp),H D=none->Same H H'->H' D=some (.lst ys)->Paired (fun p u=>DeedAt (fun b=>H b=none/\b≠D) H' p.1.name p.1.price p.2 u) ps ys->Q (.ref D) H'):
  rdC 1 [] (gName 0) tYes (tCall qWi [] E0 (tCons (tVar 0) tNil)) (Itl K dx) σ H Q:=by
 have lb:us.length=ps.length:=p1.length.symm
 refine zV (xs:=us) (fun D i ys H'=>Paired (fun p u=>DeedAt (fun b=>H b=none/\b≠D) H' p.1.name p.1.price p.2 u) (ps.take i) ys/\∀b o,H b=some o->H' b=some o) (fun D hD=>⟨.nil,qV hD _⟩)
  (fun D i ys H' _ hP=>(show Same H H' from hP.2).seq (SqL.of e1)) (fun D i x ys H' N hD hDy ex hP hN=>?_) (fun D ys H2 hD hDy hP=>?_)
 .obtain⟨pl,hk⟩:=hP
  have hi:i<ps.length:=by rw[<- lb];exact(yYB.mp ex).1
  obtain⟨b,eb⟩:∃b,ps[i]? = some b:=⟨_,yYA hi⟩
  have db:=xK p1 eb ex
  have ll:=pl.length
  rw[yYF] at ll
  refine⟨⟨[some x],rfl,rfl⟩,?_⟩
  refine⟨_,rfl,x,b.1.name,b.1.price,b.2,rfl,db.move (fun b o _ e=>hk _ _ e) (qC hk) (fun _ z=>z),h2 b (yYE eb),fun y H4 S4 dy=>?_⟩
  have eD:=S4 _ _ hDy
  refine⟨eD,small (by omega),hN _ _ qW ⟨?_,fun b o e=>?_⟩⟩
  .have T4:Tups H4 (upd H4 D (.lst (ys++[y]))):=fun b xs e=>by rw[qA (wO e eD (by intro z;cases z))];exact e
   rw[yYM,eb]
   refine Paired.snoc (Paired.mapP pl fun _ _ z=>z.move (fun b o ok e=>?_) ((qC S4).trans T4) fun _ z=>z) (dy.move (fun b o ok e=>?_) T4 fun b ok=>?_)
   .rw[qA ok.2];exact S4 _ _ e
   .rw[qA (fun z=>by subst z;rw[hDy] at ok;cases ok)];exact e
   .exact⟨(show Same H H' from hk).free ok,fun z=>by subst z;rw[hDy] at ok;cases ok⟩
  .rw[qA (qB e hD)];exact S4 _ _ (hk _ _ e)
 obtain⟨pl,hk⟩:=hP
 rw[lb,yYJ] at pl
 exact q D ys H2 hD hk hDy pl
theorem qFd (F:Fd K mg "world_of" (top 15) ["boxes","deeds","looks","begin","goal"])(B:Bl mg)(uh:Dn P w K mg base "refuse_boxes" 2 ["boxes"] qGi)(jx:Dn P w K mg base "refuse_twice" 1 ["names","kind"] qWf)
  (ye:Dn P w K mg base "refuse_price" 2 ["name","price"] qOf) (jf:Dn P w K mg base "refuse_strange_names" 14 ["thing","names"] qYk) (JL:Dn P w K mg base "refuse_ways" 15 ["deed_name","ways","names"] spWays)
  (ui:Dn P w K mg base "refuse_begin" 27 ["begin","boxes"] qOm) (JM:Dn P w K mg base "copied_deed" 1 ["deed"] qWi):Dn P w K mg base "world_of" 28 ["boxes","deeds","looks","begin","goal"] qYj:=by
 refine F.ok jK (fun vs H Q E h=>?_) (fun f zx A outer s H vs Q E hr h=>?_)
 .obtain⟨_,_,_,_,_,_,rfl,_⟩:=h
  rfl
 obtain⟨W,bx,dx,lx,bv,gv,rfl,A0,ok,q⟩:=h
 obtain⟨us,ebx,pb⟩:=A0.boxes
 obtain⟨du,edx,pd⟩:=A0.deeds
 obtain⟨lu,elx,pl⟩:=A0.looks
 have b6:=ok.b6
 have dl:=ok.dl
 have ll:=ok.ll
 refine⟨_,(qZ (qP (qD uh hr (qQ (pv 0) qX)))
  (qZ (qP (qD jx hr (qQ (xQ qKq (zI rfl qZe (qU (K:=K) (pv 1)) (fun cl fp s H=>(qG (i:=0) qZe.nd rfl (Or.inl rfl) (.inr rfl))) (fun cl fp s H=>zF) (fun cl fp s H=>(xE (qS (K:=K)) (pv 0) qE))) (zI rfl qZd (qU (K:=K) (pv 2)) (fun cl fp s H=>(qG (i:=0) qZd.nd rfl (Or.inl rfl) (.inr rfl))) (fun cl fp s H=>zF) (fun cl fp s H=>(xE (qS (K:=K)) (pv 0) qE)))) (qQ qF qX))))
  (qZ (yD (i:=5) jK.nd rfl (by wtm_at "zo") rfl wW (qU (K:=K) (pv 0)) (fun cl fp s H=>(jF (K:=K) (n:=2) rfl (qH (qG (i:=0) wW.nd rfl (Or.inl rfl) (.inr rfl)) (qH (qG (i:=1) wW.nd rfl (Or.inl rfl) (.inr rfl)) qI)))) (fun cl fp s H=>zF) (fun cl fp s H=>(pv 0)))
  (qZ (zH PassesOwn.never rfl (qU (K:=K) (pv 1)) (jF (K:=K) (n:=4) rfl (qH (qG (i:=6) jK.nd rfl (by wtm_at "zo")) (qH (qG (i:=7) jK.nd rfl (by wtm_at "zo")) (qH (qG (i:=8) jK.nd rfl (by wtm_at "zo")) (qH (qG (i:=9) jK.nd rfl (by wtm_at "zo")) qI))))) (qZ (qP (qD ye hr (qQ (pv 6) (qQ (pv 7) qX))))
  (qZ (qP (qD jf hr (qQ (pv 8) (qQ (pv 5) qX))))
  (qJ (qP (qD JL hr (qQ (pv 6) (qQ (pv 9) (qQ (pv 5) qX)))))))))
  (qZ (zH PassesOwn.never rfl (qU (K:=K) (pv 2)) (jF (K:=K) (n:=3) rfl (qH (qG (i:=6) jK.nd rfl (by wtm_at "zo")) (qH (qG (i:=7) jK.nd rfl (by wtm_at "zo")) (qH (qG (i:=10) jK.nd rfl (by wtm_at "zo")) qI)))) (qZ (qP (qD ye hr (qQ (pv 6) (qQ (pv 7) qX))))
  (qJ (qP (qD jf hr (qQ (pv 10) (qQ (pv 5) qX)))))))
  (qZ (qP (qD jf hr (qQ (pv 3) (qQ (pv 5) qX))))
  (qZ (qP (qD jf hr (qQ (pv 4) (qQ (pv 5) qX))))
  (qZ (qP (qD ui hr (qQ (pv 3) (qQ (pv 0) qX))))
  (qJ (qN (xN (qQ (xX (qZz (K:=K)) rfl B.list' qZj (qQ (pv 0) qX)) (qQ (zI rfl qZc (qU (K:=K) (pv 1)) (fun cl fp s H=>(qG (i:=0) qZc.nd rfl (Or.inl rfl) (.inr rfl))) (fun cl fp s H=>zF) (fun cl fp s H=>(qD JM hr (qQ (pv 0) qX)))) (qQ (xX (qZz (K:=K)) rfl B.list' qZj (qQ (pv 2) qX)) (qQ (pv 3) (qQ (pv 4) qX)))))))))))))))),?_⟩
 wtm_at"z"
 refine⟨bx,W.bs,us,rfl,ebx,pb,ok.b1,by omega,ok.b25,ok.named,fun H1 S1=>?_⟩
 wtm_at"z"
 refine⟨_,rfl,dx,rfl,⟨du,SqL.of (S1 _ _ edx)⟩,qKc (S1 _ _ edx) (qFh (Paired.mapP pd fun _ _ y=>y.same S1)) (by rw[yYC];omega) fun d1 H2 nd1 S2 ed1=>?_⟩
 have S12:=S1.trans S2
 refine⟨_,rfl,lx,rfl,⟨lu,SqL.of (S12 _ _ elx)⟩,qKc (S12 _ _ elx) (qFv (Paired.mapP pl fun _ _ y=>y.same S12)) (by rw[yYC];omega) fun d2 H3 nd2 S3 ed2=>?_⟩
 have S13:=S12.trans S3
 refine⟨d1,d2,_,_,rfl,rfl,S3 _ _ ed1,ed2,?_,fun d3 hd3=>?_⟩
 .rw[xW,xW,yYC,yYC];exact smallE (by omega)
 have S14:=S13.trans (qV hd3 (.lst (strsV (W.ds.map Deed.name)++strsV (W.ls.map Look.name))))
 wtm_at"z"
 refine⟨d3,W.ds.map Deed.name++W.ls.map Look.name,_,rfl,by rw[xR];exact qW,ok.nd,by rw[yYI,yYC,yYC];omega,fun H5 S5=>?_⟩
 have S15:=S14.trans S5
 wtm_at"z"
 refine⟨_,rfl,bx,rfl,⟨us,SqL.of (S15 _ _ ebx)⟩,qVe (S15 _ _ ebx) (xY (qC S15) pb) (by omega) fun nl H6 S6 enl=>?_⟩
 have S16:=S15.trans S6
 wtm_at "zf"
 refine⟨dx,rfl,⟨du,SqL.of (S16 _ _ edx)⟩,?_⟩
 refine zN (xs:=du) (fun i σ' H'=>∃z6 z7 z8 z9 z10:Option V,σ'=[some (.ref bx),some (.ref dx),some (.ref lx),some bv,some gv,some (.ref nl),z6,z7,z8,z9,z10]/\Same H6 H') ⟨none,none,none,none,none,rfl,Same.refl _⟩
  (fun i σ' H' _ hP=>?_) (fun N rt bk i x σ' H' ex hP hN=>?_) (fun σ' H' hP=>?_)
 .obtain⟨_,_,_,_,_,rfl,S⟩:=hP
  exact SqL.of (S _ _ (S16 _ _ edx))
 .obtain⟨z6,z7,z8,z9,z10,rfl,S7⟩:=hP
  obtain⟨d,ed⟩:∃b,W.ds[i]? = some b:=⟨_,yYA (by rw[pd.length];exact(yYB.mp ex).1)⟩
  have S17:=S16.trans S7
  obtain⟨a,nv,wa,wu,rfl,ea,nat,ewa,pw⟩:=(xK pd ed ex).same S17
  have dok:=ok.deeds d (yYE ed)
  wtm_at"z"
  refine⟨.str d.name,d.price,rfl,dok.price,?_⟩
  wtm_at"z"
  refine⟨d.need,nv,nl,_,rfl,nat,dok.need.ok,dok.dep,S7 _ _ enl,dok.need.in,fun H8 S8=>?_⟩
  wtm_at"z"
  refine⟨.str d.name,wa,nl,wu,_,d.ways,rfl,S8 _ _ ewa,Paired.mapP pw fun _ _ y=>y.same S8,dok.ne,dok.le,dok.ways,S8 _ _ (S7 _ _ enl),fun H9 S9=>?_⟩
  exact hN _ _ ⟨_,_,_,_,_,rfl,S7.trans (S8.trans S9)⟩
 obtain⟨z6,z7,z8,z9,z10,rfl,S7⟩:=hP
 have S17:=S16.trans S7
 wtm_at "zf"
 refine⟨lx,rfl,⟨lu,SqL.of (S17 _ _ elx)⟩,?_⟩
 refine zN (xs:=lu) (fun i σ' H'=>∃z6 z7 z8 z9 z10:Option V,σ'=[some (.ref bx),some (.ref dx),some (.ref lx),some bv,some gv,some (.ref nl),z6,z7,z8,z9,z10]/\Same H6 H') ⟨z6,z7,z8,z9,z10,rfl,S7⟩
  (fun i σ' H' _ hP=>?_) (fun N rt bk i x σ' H' ex hP hN=>?_) (fun σ' H' hP=>?_)
 .obtain⟨_,_,_,_,_,rfl,S⟩:=hP
  exact SqL.of (S _ _ (S16 _ _ elx))
 .obtain⟨z6,z7,z8,z9,z10,rfl,S8⟩:=hP
  obtain⟨d,ed⟩:∃b,W.ls[i]? = some b:=⟨_,yYA (by rw[pl.length];exact(yYB.mp ex).1)⟩
  have S18:=S16.trans S8
  obtain⟨a,nv,rfl,ea,nat⟩:=(xK pl ed ex).same S18
  have dok:=ok.looks d (yYE ed)
  wtm_at"z"
  refine⟨.str d.name,d.price,rfl,dok.price,?_⟩
  wtm_at"z"
  refine⟨d.part,nv,nl,_,rfl,nat,dok.part.ok,dok.dep,S8 _ _ enl,dok.part.in,fun H9 S9=>?_⟩
  exact hN _ _ ⟨_,_,_,_,_,rfl,S8.trans S9⟩
 obtain⟨z6,z7,z8,z9,z10,rfl,S8⟩:=hP
 have S18:=S16.trans S8
 wtm_at"z"
 refine⟨W.bt,bv,nl,_,rfl,A0.beg.mono (qC S18),ok.beg.ok,ok.begd,S8 _ _ enl,ok.beg.in,fun H9 S9=>?_⟩
 wtm_at"z"
 have S19:=S18.trans S9
 refine⟨W.gt,gv,nl,_,rfl,A0.goal.mono (qC S19),ok.goal.ok,ok.goald,S9 _ _ (S8 _ _ enl),ok.goal.in,fun H10 S10=>?_⟩
 wtm_at"z"
 have S110:=S19.trans S10
 refine⟨W.bt,bv,bx,W.bs,us,rfl,A0.beg.mono (qC S110),ok.beg,ok.begd,S110 _ _ ebx,xY (qC S110) pb,ok.b6,ok.b25,ok.some',fun H11 S11=>?_⟩
 have S111:=S110.trans S11
 wtm_at"z"
 refine⟨bx,us,rfl,.inl (SqL.of (S111 _ _ ebx)),fun bx' hbx'=>?_⟩
 have S112:=S111.trans (qV hbx' (.lst us))
 have ebx':upd H11 bx' (.lst us) bx'=some (.lst us):=qW
 generalize upd H11 bx' (.lst us)=H12 at S112 ebx'
 obtain⟨ps,eps,dat,pds⟩:=qFg (Paired.mapP pd fun _ _ y=>y.same S112)
 have lps:ps.length=W.ds.length:=by rw[<- eps,yYC]
 have p100:∀p∈ps,p.2.2.length<=100:=fun p hp=>by
  have h1:=(dat p hp).2.length
  have h2:=(ok.deeds p.1 (by rw[<- eps];exact yYP.mpr ⟨p,hp,rfl⟩)).le
  omega
 refine⟨_,rfl,dx,rfl,⟨du,SqL.of (S112 _ _ edx)⟩,qNb (S112 _ _ edx) pds (by omega) p100 fun dx' ys H13 ndx' S13' edx' pys=>?_⟩
 have S113:=S112.trans S13'
 wtm_at"z"
 refine⟨lx,lu,rfl,.inl (SqL.of (S113 _ _ elx)),fun lx' hlx'=>?_⟩
 wtm_at"z"
 refine⟨ll5,fun p hp=>?_⟩
 have Sf:Same H13 (upd (upd H13 lx' (.lst lu)) p (.tup [.ref bx',.ref dx',.ref lx',bv,gv])):=(qV hlx' _).trans (qV hp _)
 have S114:=S113.trans Sf
 have elx':upd (upd H13 lx' (.lst lu)) p (.tup [.ref bx',.ref dx',.ref lx',bv,gv]) lx'=some (.lst lu):=qV hp _ _ _ qW
 have ep:upd (upd H13 lx' (.lst lu)) p (.tup [.ref bx',.ref dx',.ref lx',bv,gv]) p=some (.tup [.ref bx',.ref dx',.ref lx',bv,gv]):=qW
 generalize upd (upd H13 lx' (.lst lu)) p (.tup [.ref bx',.ref dx',.ref lx',bv,gv])=H14 at Sf S114 elx' ep
 have pys':=Paired.mapP pys fun _ _ z=>z.move (ok':=fun b=>H b=none) (fun b o _ e=>Sf _ _ e) (qC Sf) fun b z=>S112.free z.1
 have dat':∀p∈ps,yW H14 p.1 p.2:=fun p hp=>(dat p hp).same (S13'.trans Sf)
 exact q p H14 S114 ⟨bx',dx',lx',bv,gv,us,ys,lu,ps,ep,S111.free hbx',S112.free ndx',S113.free hlx',Sf _ _ (S13' _ _ ebx'),xY (qC S114) pb,eps,dat',Sf _ _ edx',pys',elx',Paired.mapP pl fun _ _ y=>y.same S114,A0.beg.mono (qC S114),A0.goal.mono (qC S114)⟩
theorem qMc {x:Int}(h0:0<=x)(h1:x<3):∃m:Int,0<m/\m<=10 ^ 29/\atI [V.int 1,V.int 9,V.int (10 ^ (29:Int).toNat)] x=some (.int m):=by
 have:x=0\/x=1\/x=2:=by omega
 rcases this with rfl | rfl | rfl
 .exact⟨1,by decide,by wtm_at"d",rfl⟩
 .exact⟨9,by decide,by wtm_at"d",rfl⟩
 .exact⟨10 ^ (29:Int).toNat,by wtm_at"d",by wtm_at"d",rfl⟩
theorem qVc {σ:St}{H:Hp}{Q:VK}{j:Nat}{dk:Addr}{d:Int}(hj:σ[j]? = some (some (.ref dk)))(hd:H dk=some (.lst [.int d]))
  (q:∀(p d':Int) (H':Hp),1<=p->p<10 ^ 30->But dk H H'->H' dk=some (.lst [.int d'])->Q (.int p) H'):
  tOp (rI0 fun i j=>V.int (i+j)) (tC (.int 1)) (tCall spTake [] E0 (tCons (tVar j) (tCons (tOp (rIxL K) (tLst (tCons (tC (.int 1)) (tCons (tC (.int 9)) (tCons (tOp (rI CPow fun i j=>V.int (i ^ j.toNat)) (tC (.int 10)) (tC (.int 29))) tNil))))
   (tCall spTake [] E0 (tCons (tVar j) (tCons (tC (.int 3)) tNil)))) tNil))) σ H Q:=by
 refine⟨_,hj,10,29,rfl,rfl,⟨by decide,by decide,by decide⟩,(by show 3<=Yc;decide),fun l hl=>?_⟩
 have nld:l≠dk:=fun z=>by subst z;rw[hd] at hl;cases hl
 refine⟨_,hj,dk,3,d,rfl,qV hl _ _ _ hd,by decide,by wtm_at"d",fun x d1 hx0 hx1=>?_⟩
 obtain⟨m,m0,m1,em⟩:=qMc hx0 hx1
 have mb:m.natAbs<2 ^ 1000:=yZG (show m.natAbs<=10 ^ 29 by omega) (by wtm_at"d")
 refine⟨l,_,x,.int m,rfl,rfl,SqL.of (by rw[qA nld];exact qW),em,?_⟩
 refine⟨dk,m,d1,rfl,qW,m0,mb,fun y d2 hy0 hy1=>⟨1,y,rfl,rfl,?_⟩⟩
 exact q (1+y) d2 _ (by omega) (Int.lt_of_lt_of_le (show 1+y<10 ^ 29+1 by omega) (by wtm_at"d")) (((qV hl _).but.trans But.upd).trans But.upd) qW
theorem jI:xM ["deck","name","words","price","need","ways","k","way","word"] ["deck","name","words"] (xA (top 77)):=by constructor <;> first | rfl | wtm_at"d"
def spDeed:Sp:=fun vs H Q _=>∃(dk wd:Addr) (x:Str) (ws:List Str),vs=[.ref dk,.str x,.ref wd]/\Dk H dk wd ws/\ws.Nodup/\
 ∀(d:Deed) (dc:V×List (List V)) (u:V) (H':Hp),d.name=x->DeedOk ws d->But dk H H'->yW H' d dc->DeedAt (fun b=>H b=none) H' d.name d.price dc u->Q u H'
theorem qIv (ws:List Str)(lo hi:Option Int):∃zs:List Str,cutV (strsV ws) lo hi=strsV zs/\List.Sublist zs ws:=by
 unfold cutV
 refine⟨(ws.drop (HT.sIx (strsV ws).length 0 lo)).take (HT.sIx (strsV ws).length (strsV ws).length hi - HT.sIx (strsV ws).length 0 lo),?_,?_⟩
 .rw[<- List.map_drop,<- List.map_take]
 .exact(Yw _ _).trans (List.drop_sublist _ _)
theorem qKf {H H':Hp}(t:Tups H H'){wys:List (List (Str×Th))}{css:List (List V)}(p:Paired (fun wy cs=>Paired (zZ H) wy cs) wys css):Paired (fun wy cs=>Paired (zZ H') wy cs) wys css:=
 Paired.mapP p fun _ _ y=>Paired.mapP y fun _ _ z=>let ⟨a,v,e,q,r⟩:=z;⟨a,v,e,t _ _ q,r.mono t⟩
theorem kO {H H':Hp}(t:Tups H H'){wy:List (Str×Th)}{cs:List V}(p:Paired (zZ H) wy cs):Paired (zZ H') wy cs:=Paired.mapP p fun _ _ z=>let ⟨a,v,e,q,r⟩:=z;⟨a,v,e,t _ _ q,r.mono t⟩
theorem xAq (F:Fd K mg "_law_deed" (top 77) ["deck","name","words"])(B:Bl mg)(jr:Dn P w K mg base "_law_take" 1 ["deck","many"] spTake)(ve:Dn P w K mg base "_law_cond" 8 ["deck","words","deep"] (spCond 3))(yl:Dn P w K mg base "_law_expr" 4 ["deck","words","deep"] (spExpr 3)):
  Dn P w K mg base "_law_deed" 9 ["deck","name","words"] spDeed:=by
 refine F.ok jI (fun vs H Q E h=>?_) (fun f zx A outer s H vs Q E hr h=>?_)
 .obtain⟨_,_,_,_,rfl,_⟩:=h
  rfl
 obtain⟨dk,wd,x,ws,rfl,D0,wnd,q⟩:=h
 obtain⟨d0,hd0⟩:=D0.deck
 have wpos:=List.length_pos_iff.mpr D0.ne
 have wle:=D0.le
 refine⟨_,(qZ (xF (i:=3) jI.nd rfl (xQ jJ qE (qD jr hr (qQ (pv 0) (qQ (xE (qT (K:=K)) (xU (qQ qE (qQ qE (qQ (xQ kU qE qE) qX)))) (qD jr hr (qQ (pv 0) (qQ qE qX)))) qX)))))
  (qZ (xF (i:=4) jI.nd rfl (xN (qQ qF qX)))
  (qK (zD (qR zM (qD jr hr (qQ (pv 0) (qQ qE qX))) qE (xD _)) (qJ (xF (i:=4) jI.nd rfl (qD ve hr (qQ (pv 0) (qQ (pv 2) (qQ qE qX)))))) qY)
  (qZ (xF (i:=5) jI.nd rfl (xU qX))
  (qZ (zH PassesOwn.never rfl (yZ rfl B.range' (qQ (xQ jJ qE (qD jr hr (qQ (pv 0) (qQ qE qX)))) qX)) (qG (i:=6) jI.nd rfl (by wtm_at "zo")) (qZ (xF (i:=7) jI.nd rfl (xU qX))
  (qZ (zH PassesOwn.never rfl (qU (K:=K) (zK (zT (K:=K)) (zK (zT (K:=K)) (pv 2) (zB (qD jr hr (qQ (pv 0) (qQ (xZ (jX (K:=K)) rfl B.len' jO (qQ (pv 2) qX)) qX)))) zC) zC (zB qE))) (qG (i:=8) jI.nd rfl (by wtm_at "zo")) (qJ (zD (qR zM (qD jr hr (qQ (pv 0) (qQ qE qX))) qE (xD _)) (qJ (qP (zX (K:=K) Yy Yz YT xO (pv 7) (qQ (xN (qQ (pv 8) (qQ (qD yl hr (qQ (pv 0) (qQ (pv 2) (qQ qE qX)))) qX))) qX)))) qY)))
  (qJ (qP (zX (K:=K) Yy Yz YT xO (pv 5) (qQ (pv 7) qX)))))))
  (qJ (qN (xN (qQ (pv 1) (qQ (pv 3) (qQ (pv 4) (qQ (pv 5) qX)))))))))))),?_⟩
 refine qVc rfl hd0 fun p d1 H1 hp hpu B1 e1=>?_
 wtm_at"z"
 refine⟨(by show 1<=Yc;decide),fun ya hya=>?_⟩
 have B2:But dk H (upd H1 ya (.tup [.str "yes"])):=B1.trans (qV hya _).but
 have e2:=qV hya (.tup [.str "yes"]) _ _ e1
 have ey:upd H1 ya (.tup [.str "yes"]) ya=some (.tup [.str "yes"]):=qW
 generalize upd H1 ya (.tup [.str "yes"])=H2 at B2 e2 ey
 wtm_at"z"
 refine⟨fun σ' H'=>∃(nv:V) (t:Th) (d':Int),σ'=[some (.ref dk),some (.str x),some (.ref wd),some (.int p),some nv,none,none,none,none]/\But dk H H'/\H' dk=some (.lst [.int d'])/\t.At H' nv/\Cond' ws t/\t.dep<=6,?_,?_⟩
 .wtm_at"z"
  refine⟨dk,2,d1,rfl,e2,by decide,by wtm_at"d",fun y d3 hy0 hy1=>?_⟩
  have B3:But dk H (upd H2 dk (.lst [.int d3])):=B2.trans But.upd
  have e3:upd H2 dk (.lst [.int d3]) dk=some (.lst [.int d3]):=qW
  have ey3:upd H2 dk (.lst [.int d3]) ya=some (.tup [.str "yes"]):=by rw[qA (wO ey e2 (by intro z;cases z))];exact ey
  generalize upd H2 dk (.lst [.int d3])=H3 at B3 e3 ey3
  wtm_at"z"
  refine ite2 (fun _=>?_) (fun _=>?_)
  .wtm_at"z"
   refine⟨dk,wd,ws,1,rfl,D0.but B3 e3,by decide,by decide,fun t v H4 B4 D4 At Cx Dep=>?_⟩
   obtain⟨d4,e4⟩:=D4.deck
   have e5:(1:Int).toNat+4=5:=rfl
   exact⟨v,t,d4,rfl,B3.trans B4,e4,At,Cx,by omega⟩
  .exact⟨.ref ya,.nul "yes",d3,rfl,B3,e3,⟨ya,rfl,ey3⟩,rfl,by show 1<=6;decide⟩
 rintro σ' H3 ⟨nv,nt,d3,rfl,B3,e3,nat,ncx,ndep⟩
 wtm_at"z"
 refine⟨(by show 0<=Yc;decide),fun wa hwa=>?_⟩
 have nwa:H wa=none:=by
  cases z:H wa with
  | none=>rfl
  | some o=>
   by_cases hz:wa=dk
   .subst hz;rw[e3] at hwa;cases hwa
   .rw[B3 _ _ hz z] at hwa;cases hwa
 have B4:But dk H (upd H3 wa (.lst [])):=B3.trans (qV hwa _).but
 have e4:=qV hwa (.lst []) _ _ e3
 have nat4:=nat.mono (qC (qV hwa (.lst [])))
 have ewa:upd H3 wa (.lst []) wa=some (.lst []):=qW
 have wad:wa≠dk:=fun z=>by subst z;rw[e3] at hwa;cases hwa
 generalize upd H3 wa (.lst [])=H4 at B4 e4 nat4 ewa
 wtm_at "zf"
 refine⟨dk,4,d3,rfl,e4,by decide,by wtm_at"d",fun y d5 hy0 hy1=>?_⟩
 have B5:But dk H (upd H4 dk (.lst [.int d5])):=B4.trans But.upd
 have e5:upd H4 dk (.lst [.int d5]) dk=some (.lst [.int d5]):=qW
 have nat5:nt.At (upd H4 dk (.lst [.int d5])) nv:=nat4.mono (kG But.upd e4)
 have ewa5:upd H4 dk (.lst [.int d5]) wa=some (.lst []):=by rw[qA wad];exact ewa
 generalize upd H4 dk (.lst [.int d5])=H5 at B5 e5 nat5 ewa5
 wtm_at"z"
 refine⟨_,rfl,by omega,by omega,?_⟩
 refine vX (fun i σ' H'=>∃(wus:List V) (css:List (List V)) (wys:List (List (Str×Th))) (d':Int) (z6 z7 z8:Option V),σ'=[some (.ref dk),some (.str x),some (.ref wd),some (.int p),some nv,some (.ref wa),z6,z7,z8]/\
   But dk H H'/\H' dk=some (.lst [.int d'])/\nt.At H' nv/\H' wa=some (.lst wus)/\Paired (LstIn (fun b=>H b=none/\b≠wa) H') css wus/\Paired (fun wy cs=>Paired (zZ H') wy cs) wys css/\(∀wy∈wys,WayOk ws wy)/\wys.length=i)
  ⟨[],[],[],d5,none,none,none,rfl,B5,e5,nat5,ewa5,.nil,.nil,(fun wy hw=>by cases hw),rfl⟩ ?_ ?_
 .rintro N rt bk i σ' H6 hi ⟨wus,css,wys,d6,z6,z7,z8,rfl,B6,e6,nat6,ewa6,pl,pd,wok,wl⟩ hN
  have lpl:=pl.length
  have lpd:=pd.length
  wtm_at"z"
  refine⟨(by show 0<=Yc;decide),fun yy hyy=>?_⟩
  have yd:yy≠dk:=fun z=>by subst z;rw[e6] at hyy;cases hyy
  have yw:yy≠wa:=fun z=>by subst z;rw[ewa6] at hyy;cases hyy
  have nyy:H yy=none:=by
   cases z:H yy with
   | none=>rfl
   | some o=>rw[B6 _ _ yd z] at hyy;cases hyy
  have B7:But dk H (upd H6 yy (.lst [])):=B6.trans (qV hyy _).but
  have D7:Dk (upd H6 yy (.lst [])) dk wd ws:=D0.but B7 (qV hyy _ _ _ e6)
  have ewd7:=D7.words
  wtm_at "zf"
  refine⟨dk,_,d6,rfl,qV hyy _ _ _ e6,by rw[xW];omega,by rw[xW];exact big _ (by omega) (Int.lt_of_le_of_lt (b:=100) (by omega) (by wtm_at"d")),fun y2 d7 hy20 hy21=>?_⟩
  wtm_at"z"
  have ewd8:upd (upd H6 yy (.lst [])) dk (.lst [.int d7]) wd=some (.lst (strsV ws)):=by rw[qA D7.ap];exact D7.words
  refine⟨wd,_,rfl,SqL.of ewd8,fun s1 hs1=>?_⟩
  obtain⟨zs1,ez1,sub1⟩:=qIv ws (some y2) none
  rw[ez1]
  wtm_at"z"
  refine⟨s1,_,rfl,SqL.of qW,fun s2 hs2=>?_⟩
  obtain⟨zs,ez,sub2⟩:=qIv zs1 none (some 4)
  rw[ez]
  have sub:=sub2.trans sub1
  have znd:=sub.nodup wnd
  have zle:=sub.length_le
  have B9:But dk H6 (upd (upd (upd (upd H6 yy (.lst [])) dk (.lst [.int d7])) s1 (.lst (strsV zs1))) s2 (.lst (strsV zs))):=(((qV hyy _).but.trans But.upd).trans (qV hs1 _).but).trans (qV hs2 _).but
  have e9:upd (upd (upd (upd H6 yy (.lst [])) dk (.lst [.int d7])) s1 (.lst (strsV zs1))) s2 (.lst (strsV zs)) dk=some (.lst [.int d7]):=qV hs2 _ _ _ (qV hs1 _ _ _ qW)
  have ey9:upd (upd (upd (upd H6 yy (.lst [])) dk (.lst [.int d7])) s1 (.lst (strsV zs1))) s2 (.lst (strsV zs)) yy=some (.lst []):=qV hs2 _ _ _ (qV hs1 _ _ _ (by rw[qA yd];exact qW))
  have es9:upd (upd (upd (upd H6 yy (.lst [])) dk (.lst [.int d7])) s1 (.lst (strsV zs1))) s2 (.lst (strsV zs)) s2=some (.lst (strsV zs)):=qW
  have sd:s2≠dk:=fun z=>by subst z;rw[qV hs1 _ _ _ qW] at hs2;cases hs2
  have sy:s2≠yy:=fun z=>by subst z;rw[qV hs1 _ _ _ (show upd (upd H6 s2 (.lst [])) dk (.lst [.int d7]) s2=some (.lst []) by rw[qA yd];exact qW)] at hs2;cases hs2
  generalize upd (upd (upd (upd H6 yy (.lst [])) dk (.lst [.int d7])) s1 (.lst (strsV zs1))) s2 (.lst (strsV zs))=H9 at B9 e9 ey9 es9
  refine⟨s2,rfl,⟨_,SqL.of es9⟩,?_⟩
  refine zN (xs:=strsV zs) (fun j σ'' H'=>∃(cs:List V) (wy:List (Str×Th)) (d':Int) (z8:Option V),σ''=[some (.ref dk),some (.str x),some (.ref wd),some (.int p),some nv,some (.ref wa),some (.int (0+(i:Int))),some (.ref yy),z8]/\
    But dk H6 H'/\H' dk=some (.lst [.int d'])/\H' s2=some (.lst (strsV zs))/\H' yy=some (.lst cs)/\Paired (zZ H') wy cs/\List.Sublist (wy.map (·.1)) (zs.take j)/\∀c∈wy,c.1∈ws/\Expr' ws c.2/\c.2.dep<=3)
   ⟨[],[],d7,z8,rfl,B9,e9,es9,ey9,.nil,List.nil_sublist _,fun c hc=>by cases hc⟩ (fun j σ'' H' _ hP=>?_) (fun N2 rt2 bk2 j u σ'' H10 ex hP hN2=>?_) (fun σ'' H10 hP=>?_)
  .obtain⟨_,_,_,_,_,_,_,e,_⟩:=hP
   exact SqL.of e
  .obtain⟨cs,wy,d10,z8,rfl,B10,e10,es10,ey10,pc,sb,cok⟩:=hP
   obtain⟨word,hword,rfl⟩:∃word,zs[j]? = some word/\u=.str word:=by
    rw[yYO] at ex
    cases z:zs[j]? with
    | none=>rw[z] at ex;cases ex
    | some v=>rw[z] at ex;exact⟨v,rfl,(Option.some.inj ex).symm⟩
   have lsb:=sb.length_le
   rw[yYC,yYF] at lsb
   have lpc:=pc.length
   wtm_at"z"
   refine⟨dk,2,d10,rfl,e10,by decide,by wtm_at"d",fun y3 d11 hy30 hy31=>?_⟩
   have B11:But dk H10 (upd H10 dk (.lst [.int d11])):=But.upd
   have e11:upd H10 dk (.lst [.int d11]) dk=some (.lst [.int d11]):=qW
   have es11:upd H10 dk (.lst [.int d11]) s2=some (.lst (strsV zs)):=by rw[qA sd];exact es10
   have ey11:upd H10 dk (.lst [.int d11]) yy=some (.lst cs):=by rw[qA yd];exact ey10
   have pc11:Paired (zZ (upd H10 dk (.lst [.int d11]))) wy cs:=kO (kG B11 e10) pc
   generalize upd H10 dk (.lst [.int d11])=H11 at B11 e11 es11 ey11 pc11
   wtm_at"z"
   refine ite2 (fun _=>?_) (fun _=>?_)
   .wtm_at"z"
    refine⟨.inl ⟨rfl,_,SqL.of ey11⟩,?_⟩
    wtm_at"z"
    have B06:But dk H H11:=B6.trans (B10.trans B11)
    refine⟨dk,wd,ws,1,rfl,D0.but B06 e11,by decide,by decide,fun t v H12 B12 D12 At Ex Dep=>?_⟩
    obtain⟨d12,e12⟩:=D12.deck
    wtm_at"z"
    refine⟨(by show 2<=Yc;decide),fun ta hta=>?_⟩
    have T12:Tups H11 H12:=kG B12 e11
    have ey12:=B12 _ _ yd ey11
    have yta:yy≠ta:=qB ey12 hta
    refine⟨yy,cs,.ref ta,rfl,rfl,qV hta _ _ _ ey12,small (by omega),?_⟩
    have T13:Tups H12 (upd (upd H12 ta (.tup [.str word,v])) yy (.lst (cs++[.ref ta]))):=fun b xs e=>by
     rw[qA (wO e ey12 (by intro z;cases z))];exact qV hta _ _ _ e
    have e5:(1:Int).toNat+1=2:=rfl
    refine hN2 _ _ ⟨cs++[.ref ta],wy++[(word,t)],d12,_,rfl,fun b o hb e=>?_,?_,?_,qW,Paired.snoc (kO T13 (kO T12 pc11)) ⟨ta,v,rfl,by rw[qA (Ne.symm yta)];exact qW,At.mono T13⟩,?_,fun c hc=>?_⟩
    .rw[qA (qB e hyy)];exact qV hta _ _ _ (B12 _ _ hb (B11 _ _ hb (B10 _ _ hb e)))
    .rw[qA (Ne.symm yd)];exact qV hta _ _ _ e12
    .rw[qA sy];exact qV hta _ _ _ (B12 _ _ sd es11)
    .rw[yYU,yYM,hword]
     exact List.Sublist.append sb (List.Sublist.refl _)
    .rcases yYR.mp hc with h | h
     .exact cok c h
     .rw[yYL.mp h]
      exact⟨sub.subset (yYE hword),Ex,by show t.dep<=3;omega⟩
   .refine hN2 _ _ ⟨cs,wy,d11,_,rfl,B10.trans B11,e11,es11,ey11,pc11,sb.trans ?_,cok⟩
    rw[yYM];exact List.sublist_append_left _ _
  .obtain⟨cs,wy,d10,z8,rfl,B10,e10,es10,ey10,pc,sb,cok⟩:=hP
   have ewa10:=B10 _ _ wad ewa6
   have T10:Tups H6 H10:=kG B10 e6
   wtm_at"z"
   refine⟨.inl ⟨rfl,_,SqL.of ewa10⟩,?_⟩
   wtm_at"z"
   refine⟨wa,wus,.ref yy,rfl,rfl,ewa10,small (by omega),?_⟩
   have T11:Tups H10 (upd H10 wa (.lst (wus++[.ref yy]))):=fun b xs e=>by rw[qA (wO e ewa10 (by intro z;cases z))];exact e
   refine hN _ _ ⟨wus++[.ref yy],css++[cs],wys++[wy],d10,_,_,_,rfl,fun b o hb e=>?_,by rw[qA (Ne.symm wad)];exact e10,nat6.mono (T10.trans T11),qW,?_,?_,fun wy' hw=>?_,by simp[wl]⟩
   .rw[qA (qB e nwa)];exact B10 _ _ hb (B6 _ _ hb e)
   .refine Paired.snoc (Paired.mapP pl fun _ _ z=>z.move (fun b o okb e=>?_) fun _ z=>z) ⟨yy,rfl,⟨nyy,yw⟩,by rw[qA yw];exact ey10⟩
    have bd:b≠dk:=fun z=>by subst z;rw[hd0] at okb;cases okb.1
    rw[qA okb.2];exact B10 _ _ bd e
   .exact Paired.snoc (qKf (T10.trans T11) pd) (kO T11 pc)
   .rcases yYR.mp hw with h | h
    .exact wok wy' h
    .rw[yYL.mp h]
     have lz:(zs.take (strsV zs).length).length<=100:=by rw[yYF];omega
     have:=sb.length_le
     rw[yYC] at this
     exact⟨(sb.trans (Yw _ _)).nodup znd,by omega,fun c hc=>⟨(cok c hc).1,(cok c hc).2.1,by have:=(cok c hc).2.2;omega⟩,fun c hc=>(cok c hc).2.2⟩
 .rintro σ' H6 ⟨wus,css,wys,d6,z6,z7,z8,rfl,B6,e6,nat6,ewa6,pl,pd,wok,wl⟩
  wtm_at"z"
  refine⟨(by show 4<=Yc;decide),fun a ha=>?_⟩
  have S7:Same H6 (upd H6 a (.tup [.str x,.int p,nv,.ref wa])):=qV ha _
  have T7:=qC S7
  refine q ⟨x,p,nt,wys⟩ (nv,css) (.ref a) _ rfl ⟨hp,ncx,(show nt.dep<=12 by omega),?_,?_,wok,hpu,ndep,(show wys.length<=4 by omega)⟩ (B6.trans S7.but) ⟨nat6.mono T7,qKf T7 pd⟩ ⟨a,wa,wus,rfl,qW,nwa,S7 _ _ ewa6,Paired.mapP pl fun _ _ z=>z.move (fun b o _ e=>S7 _ _ e) fun _ z=>z.1⟩
  .show wys≠[]
   intro z
   rw[z] at wl
   simp only[yYT] at wl
   omega
  .show wys.length<=100
   omega
theorem xP:xM ["script","boxes","words","deck","begin","goal","drawn","names","deeds","k","looks","price"] ["script"] (xA (top 78)):=by constructor <;> first | rfl | wtm_at"d"
theorem qXk:CompOk (xA (top 78)) ["script","boxes","words","deck","begin","goal","drawn","names","deeds","k","looks","price"] (scAt (xB (top 78)) [1] []) ["box"] 1 []:=
 by constructor <;> wtm_at"d"
theorem qXj:CompOk (xA (top 78)) ["script","boxes","words","deck","begin","goal","drawn","names","deeds","k","looks","price"] (scAt (xB (top 78)) [5] [0]) ["one","begin","boxes"] 1 [4,1]:=
 by constructor <;> wtm_at"d"
def qGl (K:yZN):Sp:=fun vs H Q _=>∃(a:Addr) (ns:List Int),vs=[.ref a]/\SqL K H a (ns.map V.int)/\ns.length<=63/\
 ∀(p:Addr) (W:Wd) (bx dx lx:Addr) (bv gv:V) (H':Hp),Same H H'->H' p=some (.tup [.ref bx,.ref dx,.ref lx,bv,gv])->WAt H' W bx dx lx bv gv->WOk W->W.bt.dep<=6->W.gt.dep<=6->Q (.ref p) H'
theorem xJb (ws:List Str)(k:Nat):cutV (strsV ws) none (some (k:Int))=strsV (ws.take k):=by
 unfold cutV
 rw[HT.sIx_none,HT.sIx_nat,List.drop_zero,Nat.sub_zero,<- List.map_take,xW]
 have e:ws.take (min k ws.length)=ws.take k:=by
  by_cases h:k<=ws.length
  .rw[Nat.min_eq_left h]
  .rw[Nat.min_eq_right (by omega),Yl (yZB _),Yl (by omega)]
 rw[e]
theorem xJc (ws:List Str)(k:Nat):cutV (strsV ws) (some (k:Int)) none=strsV (ws.drop k):=by
 unfold cutV
 rw[HT.sIx_none,HT.sIx_nat,<- List.map_drop,<- List.map_take,xW]
 have e:(ws.drop (min k ws.length)).take (ws.length - min k ws.length)=ws.drop k:=by
  rw[Yl (by rw[Yp];exact yZB _)]
  by_cases h:k<=ws.length
  .rw[Nat.min_eq_left h]
  .rw[Nat.min_eq_right (by omega),List.drop_eq_nil_of_le (yZB _),List.drop_eq_nil_of_le (by omega)]
 rw[e]
theorem qRc {ws:List Str}(p:Plain ws):(([("not" : Str),"and","yes"]:List Str)++ws.take 5++([("way" : Str),"end","one"]:List Str)++ws.drop 5).Nodup:=by
 have h1:(odd3++ws).Nodup:=List.nodup_append.mpr ⟨by wtm_at"d",p.nd,fun a ha b hb e=>p.no b hb (e▸ha)⟩
 have e0:odd3++ws=([("not" : Str),"and","yes"]:List Str)++([("way" : Str),"end","one"]:List Str)++ws.take 5++ws.drop 5:=by
  rw[yYQ,List.take_append_drop];rfl
 rw[e0] at h1
 refine(List.Perm.nodup_iff ?_).mp h1
 refine List.Perm.append_right _ ?_
 rw[yYQ,yYQ]
 exact List.Perm.append_left _ List.perm_append_comm
theorem qRd:∀x∈([("not" : Str),"and","yes"]:List Str)++[("way" : Str),"end","one"],x.length<=100/\Word x:=fun x hx=>
 have h:=(show∀x∈([("not" : Str),"and","yes"]:List Str)++[("way" : Str),"end","one"],1<=x.length/\x.length<=8/\∀c∈x.cps.toList,c∈(Yb "abcdefghijklmnopqrstuvwxyz").cps.toList by wtm_at"d") x hx
 ⟨by omega,h.1,h.2.1,h.2.2⟩
theorem xAc (bs:List (Str×Int))(h:∀b∈bs,2<=b.2/\b.2<=5):∃v,v∈allV bs:=by
 have key:∀i:Nat,i<=bs.length->0<(allV (bs.take i)).length:=by
  intro i
  induction i with
  | zero=>intro _;simp[allV]
  | succ i ih=>
   intro hi
   have hb:bs[i]? = some (bs[i]'(by omega)):=yYA (by omega)
   rw[kF hb,wF]
   have:=h _ (List.getElem_mem (h:=(by omega:i<bs.length)))
   exact Nat.mul_pos (ih (by omega)) (by omega)
 have:=key bs.length (yZB _)
 rw[yYJ] at this
 exact⟨_,List.getElem_mem (h:=this)⟩
theorem qVl {H H':Hp}(t:Tups H H'){ls:List Look}{us:List V}(p:Paired (LookIn H) ls us):Paired (LookIn H') ls us:=Paired.mapP p fun _ _ z=>let ⟨a,v,e,q,r⟩:=z;⟨a,v,e,t _ _ q,r.mono t⟩
theorem yW.tups {H H':Hp}(t:Tups H H'){d:Deed}{dc:V×List (List V)}(h:yW H d dc):yW H' d dc:=⟨h.1.mono t,qKf t h.2⟩
theorem qTa (F:Fd K mg "_law_world" (top 78) ["script"])(B:Bl mg)(jm:Dn P w K mg base "_law_cell_at" 1 ["script","k"] (spCell K))(Ju:Dn P w K mg base "_law_boxes" 3 ["cell"] qOl)
  (ym:Dn P w K mg base "_law_deck" 2 ["cell"] spDeck) (ve:Dn P w K mg base "_law_cond" 8 ["deck","words","deep"] (spCond 3)) (yl:Dn P w K mg base "_law_expr" 4 ["deck","words","deep"] (spExpr 3)) (jr:Dn P w K mg base "_law_take" 1 ["deck","many"] spTake)
  (uQ:Dn P w K mg base "_law_standings" 1 ["boxes"] qJj) (ke:Dn P w K mg base "_law_holds" 13 ["cond","values"] (qJk 12)) (JW:Dn P w K mg base "_law_values" 1 ["boxes","standing"] qJz)
  (vo:Dn P w K mg base "_law_drawn" 2 ["cell","sizes"] qWh) (JX:Dn P w K mg base "_law_unlike" 1 ["number","many"] qWe) (VS:Dn P w K mg base "_law_deed" 9 ["deck","name","words"] spDeed):
  Dn P w K mg base "_law_world" 14 ["script"] (qGl K):=by
 refine F.ok xP (fun vs H Q E h=>?_) (fun f zx A outer s H vs Q E hr h=>?_)
 .obtain⟨_,_,rfl,_⟩:=h
  rfl
 obtain⟨a,ns,rfl,hS,h63,q⟩:=h
 refine⟨_,(qZ (xF (i:=1) xP.nd rfl (qD Ju hr (qQ (qD jm hr (qQ (pv 0) (qQ qE qX))) qX)))
  (qZ (yD (i:=2) xP.nd rfl (by wtm_at "zo") rfl qXk (qU (K:=K) (pv 1)) (fun cl fp s H=>(qG (i:=0) qXk.nd rfl (Or.inl rfl) (.inr rfl))) (fun cl fp s H=>zF) (fun cl fp s H=>(xE (qS (K:=K)) (pv 0) qE)))
  (qZ (xF (i:=3) xP.nd rfl (qD ym hr (qQ (qD jm hr (qQ (pv 0) (qQ qE qX))) qX)))
  (qZ (xF (i:=4) xP.nd rfl (qD ve hr (qQ (pv 3) (qQ (pv 2) (qQ qE qX)))))
  (qZ (xF (i:=5) xP.nd rfl (qD ve hr (qQ (pv 3) (qQ (pv 2) (qQ qE qX)))))
  (qK (zD (qR (qPo (K:=K) hr.units) (zI rfl qXj (qU (K:=K) (qD uQ hr (qQ (pv 1) qX))) (fun cl fp s H=>(qG (i:=0) qXj.nd rfl (Or.inl rfl) (.inr rfl))) (fun cl fp s H=>(qXm (kH (qD ke hr (qQ (pv 1) (qQ (qD JW hr (qQ (pv 2) (qQ (pv 0) qX))) qX)))))) (fun cl fp s H=>(pv 0))) (xU qX) (xD _)) (qJ (xF (i:=4) xP.nd rfl (xN (qQ qF qX)))) qY)
  (qZ (xF (i:=6) xP.nd rfl (qD vo hr (qQ (qD jm hr (qQ (pv 0) (qQ qE qX))) (qQ (xU (qQ (xQ kU qE qE) (qQ qE (qQ qE qX)))) qX))))
  (qZ (xF (i:=7) xP.nd rfl (qD JX hr (qQ (xE (qT (K:=K)) (pv 6) qE) (qQ qE qX))))
  (qK (zD (qR zM (xQ kY (xE (qT (K:=K)) (pv 6) qE) qE) qE (xD _)) (qJ (xF (i:=7) xP.nd rfl (xQ qKq (xQ qKq (xQ qKq (xU (qQ qF (qQ qF (qQ qF qX)))) (zK (zT (K:=K)) (pv 7) zC (zB qE))) (xU (qQ qF (qQ qF (qQ qF qX))))) (zK (zT (K:=K)) (pv 7) (zB qE) zC)))) qY)
  (qZ (xF (i:=8) xP.nd rfl (xU qX))
  (qZ (zH PassesOwn.never rfl (yZ rfl B.range' (qQ (xE (qT (K:=K)) (pv 6) qE) qX)) (qG (i:=9) xP.nd rfl (by wtm_at "zo")) (qJ (qP (zX (K:=K) Yy Yz YT xO (pv 8) (qQ (qD VS hr (qQ (qD ym hr (qQ (xQ jJ (qD jm hr (qQ (pv 0) (qQ (xQ jJ qE (pv 9)) qX))) (pv 9)) qX)) (qQ (xE (qT (K:=K)) (pv 7) (pv 9)) (qQ (pv 2) qX)))) qX)))))
  (qZ (xF (i:=10) xP.nd rfl (xU qX))
  (qZ (zH PassesOwn.never rfl (yZ rfl B.range' (qQ (xE (qT (K:=K)) (pv 6) qE) qX)) (qG (i:=9) xP.nd rfl (by wtm_at "zo")) (qZ (xF (i:=3) xP.nd rfl (qD ym hr (qQ (xQ jJ (qD jm hr (qQ (pv 0) (qQ (xQ jJ qE (pv 9)) qX))) (xQ yE qE (pv 9))) qX)))
  (qZ (xF (i:=11) xP.nd rfl (xQ jJ qE (qD jr hr (qQ (pv 3) (qQ (xE (qT (K:=K)) (xU (qQ qE (qQ qE (qQ (xQ kU qE qE) qX)))) (qD jr hr (qQ (pv 3) (qQ qE qX)))) qX)))))
  (qJ (qP (zX (K:=K) Yy Yz YT xO (pv 10) (qQ (xN (qQ (xE (qT (K:=K)) (pv 7) (xQ jJ qE (pv 9))) (qQ (pv 11) (qQ (qD yl hr (qQ (pv 3) (qQ (pv 2) (qQ qE qX)))) qX)))) qX)))))))
  (qJ (qN (xN (qQ (pv 1) (qQ (pv 8) (qQ (pv 10) (qQ (pv 4) (qQ (pv 5) qX))))))))))))))))))))),?_⟩
 wtm_at"z"
 refine⟨a,ns,0,rfl,hS,Int.le_refl 0,fun c=>?_⟩
 wtm_at"z"
 refine⟨c,rfl,fun bx bs us H1 hr1 S1 e1 p1 hb1 hb6 hb25 hb200 nmd=>?_⟩
 wtm_at"z"
 refine⟨_,rfl,bx,rfl,⟨us,SqL.of e1⟩,qIg e1 p1 (by omega) fun wd H2 S2 ewd=>?_⟩
 have S02:=S1.trans S2
 wtm_at"z"
 refine⟨a,ns,1,rfl,S02.seq hS,by decide,fun c1=>?_⟩
 wtm_at"z"
 refine⟨c1,rfl,fun dk d hdk=>?_⟩
 have S3:Same H2 (upd H2 dk (.lst [.int d])):=qV hdk _
 have e3:upd H2 dk (.lst [.int d]) dk=some (.lst [.int d]):=qW
 generalize upd H2 dk (.lst [.int d])=H3 at S3 e3
 have wne:bs.map (·.1)≠[]:=by intro z;have:=congrArg List.length z;rw[yYC,yYT] at this;omega
 have wle:(bs.map (·.1)).length<=100:=by rw[yYC];omega
 have D3:Dk H3 dk wd (bs.map (·.1)):=⟨⟨d,e3⟩,S3 _ _ ewd,wne,wle,qB ewd hdk⟩
 wtm_at"z"
 refine⟨dk,wd,bs.map (·.1),2,rfl,D3,by decide,by decide,fun bt bv H4 B4 D4 bat bcx bdep=>?_⟩
 obtain⟨d4,e4⟩:=D4.deck
 wtm_at"z"
 refine⟨dk,wd,bs.map (·.1),2,rfl,D4,by decide,by decide,fun gt gv H5 B5 D5 gat gcx gdep=>?_⟩
 obtain⟨d5,e5⟩:=D5.deck
 have i6:(2:Int).toNat+4=6:=rfl
 have S25:Same H2 H5:=fun b o e=>B5 _ _ (qB e hdk) (B4 _ _ (qB e hdk) (S3 _ _ e))
 have bat5:=bat.mono (kG B5 e4)
 have ebx5:=S25 _ _ (S2 _ _ e1)
 have pbx5:Paired (BoxIn H5) bs us:=xY (qC (S2.trans S25)) p1
 wtm_at"z"
 refine⟨fun σ' H'=>∃(bv':V) (bt':Th),σ'=[some (.ref a),some (.ref bx),some (.ref wd),some (.ref dk),some bv',some gv,none,none,none,none,none,none]/\Same H2 H'/\bt'.At H' bv'/\gt.At H' gv/\Cond' (bs.map (·.1)) bt'/\bt'.dep<=6/\
   ∃vals∈allV bs,bt'.truth (envOf (kvsOf bs vals))=true,?_,?_⟩
 .wtm_at "zf"
  refine⟨bx,bs,us,rfl,ebx5,pbx5,hb6,hb25,fun r ss H6 nr S6 er pr=>?_⟩
  have lr:=pr.length
  have lal:=qJl hb25 bs.length (yZB _)
  rw[yYJ] at lal
  have p5:=pow56 hb6
  refine⟨r,rfl,⟨ss,SqL.of er⟩,?_⟩
  refine zV (xs:=ss) (fun D i ys H'=>(∀b o,H6 b=some o->H' b=some o)/\ys.length<=i/\(ys≠[]->∃vals∈allV bs,bt.truth (envOf (kvsOf bs vals))=true)) (fun D hD=>⟨qV hD _,yZB _,fun z=>absurd rfl z⟩)
   (fun D i ys H' _ hP=>(show Same H6 H' from hP.1).seq (SqL.of er)) (fun D i x ys H' N hD hDy ex hP hN=>?_) (fun D ys H7 hD hDy hP=>?_)
  .obtain⟨hk,hyl,hys⟩:=hP
   obtain⟨vals,ev⟩:∃b,(allV bs)[i]? = some b:=⟨_,yYA (by rw[lr];exact(yYB.mp ex).1)⟩
   obtain⟨st,rfl,est⟩:=xK pr ev ex
   have hi:i<ss.length:=(yYB.mp ex).1
   have S7:Same H5 H':=S6.trans hk
   have fv:=qBj (yYE ev)
   refine⟨⟨[some (.ref st)],rfl,rfl⟩,?_⟩
   refine⟨_,rfl,_,rfl,_,rfl,bx,st,bs,vals,rfl,⟨⟨us,S7 _ _ ebx5,xY (qC S7) pbx5⟩,hk _ _ est,fv.stands hb25,by omega⟩,fun p H8 S8 e8=>?_⟩
   refine⟨bt,bv,p,_,bs.map (·.1),envOf (kvsOf bs vals),rfl,bat5.mono (qC (S7.trans S8)),bcx,by omega,by omega,e8,xYi (fv.stands hb25),fun H9 S9=>?_⟩
   have S89:=S8.trans S9
   refine⟨_,rfl,?_⟩
   cases et:bt.truth (envOf (kvsOf bs vals)) with
   | true=>
    refine iteT ?_
    refine⟨_,rfl,S89 _ _ hDy,small2 (by omega),hN _ _ qW ⟨fun b o e=>?_,by rw[yYI];show ys.length+1<=i+1;omega,fun _=>⟨vals,yYE ev,et⟩⟩⟩
    rw[qA (qB e hD)];exact S89 _ _ (hk _ _ e)
   | false=>
    refine iteF ?_
    exact hN _ _ (S89 _ _ hDy) ⟨fun b o e=>S89 _ _ (hk _ _ e),by omega,hys⟩
  .obtain⟨hk,hyl,hys⟩:=hP
   have S27:Same H5 H7:=S6.trans hk
   wtm_at"z"
   refine⟨(by show 0<=Yc;decide),fun e0 he0=>?_⟩
   have S8:=S27.trans (qV he0 (.lst []))
   refine⟨D,e0,ys,rfl,rfl,SqL.of (qV he0 _ _ _ hDy),SqL.of qW,?_⟩
   generalize upd H7 e0 (.lst [])=H8 at S8
   cases ys with
   | nil=>
    refine⟨true,rfl,iteT ?_⟩
    wtm_at"z"
    refine⟨(by show 1<=Yc;decide),fun t ht=>?_⟩
    obtain⟨v0,hv0⟩:=xAc bs hb25
    exact⟨.ref t,.nul "yes",rfl,S25.trans (S8.trans (qV ht _)),⟨t,rfl,qW⟩,gat.mono (qC (S8.trans (qV ht _))),rfl,by show 1<=6;decide,v0,hv0,rfl⟩
   | cons y0 yr=>
    refine⟨false,rfl,iteF ?_⟩
    exact⟨bv,bt,rfl,S25.trans S8,bat5.mono (qC S8),gat.mono (qC S8),bcx,by omega,hys (by simp)⟩
 rintro σ' H7 ⟨bv',bt',rfl,S7,bat',gat',bcx',bdep',hsome⟩
 have S07:=S02.trans S7
 wtm_at"z"
 refine⟨a,ns,2,rfl,S07.seq hS,by decide,fun c2=>?_⟩
 wtm_at"z"
 refine w_I ⟨by decide,by decide,by decide⟩ ?_
 wtm_at"z"
 refine⟨(by show 3<=Yc;decide),fun l hl=>?_⟩
 wtm_at"z"
 refine⟨c2,l,[10 ^ 9,9,7],rfl,qW,by decide,by decide,fun dr xs hdr hxl hxb=>?_⟩
 match xs,hxl,hxb with
 | [x0,x1,x2],_,hxb=>
 have b0:=hxb 0 x0 (10 ^ 9) rfl rfl
 have b1:=hxb 1 x1 9 rfl rfl
 have b2:=hxb 2 x2 7 rfl rfl
 have S8:=((qV hl (.lst [.int (10 ^ (9:Int).toNat),.int 9,.int 7])).trans (qV hdr (.lst (intsV [x0,x1,x2]))))
 have edr:upd (upd H7 l (.lst [.int (10 ^ (9:Int).toNat),.int 9,.int 7])) dr (.lst (intsV [x0,x1,x2])) dr=some (.lst (intsV [x0,x1,x2])):=qW
 generalize upd (upd H7 l (.lst [.int (10 ^ (9:Int).toNat),.int 9,.int 7])) dr (.lst (intsV [x0,x1,x2]))=H8 at S8 edr
 wtm_at"z"
 refine⟨x0,14,rfl,b0.1,by decide,by decide,fun na nm hna hnl plain=>?_⟩
 have S9:=S8.trans (qV hna (.lst (strsV nm)))
 have edr9:=qV hna (.lst (strsV nm)) _ _ edr
 have ena:upd H8 na (.lst (strsV nm)) na=some (.lst (strsV nm)):=qW
 generalize upd H8 na (.lst (strsV nm))=H9 at S9 edr9 ena
 have nl14:nm.length=14:=hnl
 wtm_at"z"
 refine⟨fun σ' H'=>∃(na:Addr) (nm:List Str),σ'=[some (.ref a),some (.ref bx),some (.ref wd),some (.ref dk),some bv',some gv,some (.ref dr),some (.ref na),none,none,none,none]/\Same H9 H'/\H' na=some (.lst (strsV nm))/\nm.Nodup/\14<=nm.length/\(∀x∈nm,Lw x),?_,?_⟩
 .wtm_at"z"
  refine w_I (show(0:Int)<8 by decide) ?_
  wtm_at"z"
  refine ite2 (fun _=>?_) (fun _=>?_)
  .wtm_at"z"
   refine⟨(by show 3<=Yc;decide),fun l1 hl1=>?_⟩
   wtm_at"z"
   refine⟨na,_,rfl,SqL.of (qV hl1 _ _ _ ena),fun l2 hl2=>?_⟩
   rw[show cutV (strsV nm) none (some 5)=strsV (nm.take 5) from xJb nm 5]
   refine⟨l1,l2,_,_,rfl,rfl,qV hl2 _ _ _ qW,qW,?_,fun l3 hl3=>?_⟩
   .rw[xW,yYF];exact smallE (by show 3+_<=_;omega)
   wtm_at"z"
   refine⟨(by show 3<=Yc;decide),fun l4 hl4=>?_⟩
   refine⟨l3,l4,_,_,rfl,rfl,qV hl4 _ _ _ qW,qW,?_,fun l5 hl5=>?_⟩
   .rw[yYI,xW,yYF];exact smallE (by show 3+_+3<=_;omega)
   have Sx:=(((((qV hl1 (.lst [.str "not",.str "and",.str "yes"])).trans (qV hl2 (.lst (strsV (nm.take 5))))).trans (qV hl3 (.lst ([.str "not",.str "and",.str "yes"]++strsV (nm.take 5))))).trans
    (qV hl4 (.lst [.str "way",.str "end",.str "one"]))).trans (qV hl5 (.lst ([.str "not",.str "and",.str "yes"]++strsV (nm.take 5)++[.str "way",.str "end",.str "one"]))))
   wtm_at"z"
   refine⟨na,_,rfl,SqL.of (Sx _ _ ena),fun l6 hl6=>?_⟩
   rw[show cutV (strsV nm) (some 5) none=strsV (nm.drop 5) from xJc nm 5]
   refine⟨l5,l6,_,_,rfl,rfl,qV hl6 _ _ _ qW,qW,?_,fun l7 hl7=>?_⟩
   .rw[yYI,yYI,xW,xW,yYF,Yp];exact smallE (by show 3+_+3+_<=_;omega)
   refine⟨l7,([("not" : Str),"and","yes"]:List Str)++nm.take 5++([("way" : Str),"end","one"]:List Str)++nm.drop 5,rfl,Sx.trans ((qV hl6 _).trans (qV hl7 _)),?_,qRc plain,?_,fun x hx=>?_⟩
   .rw[qW,xR,xR,xR];rfl
   .rw[yYI,yYI,yYI,yYF,Yp]
    show 14<=3+_+3+_
    omega
   .rcases yYR.mp hx with h | h
    .rcases yYR.mp h with h | h
     .rcases yYR.mp h with h | h
      .exact qRd x (yYR.mpr (.inl h))
      .exact⟨plain.le x (Yt h),plain.low x (Yt h)⟩
     .exact qRd x (yYR.mpr (.inr h))
    .exact⟨plain.le x (List.mem_of_mem_drop h),plain.low x (List.mem_of_mem_drop h)⟩
  .exact⟨na,nm,rfl,Same.refl _,ena,plain.nd,by omega,fun x hx=>⟨plain.le x hx,plain.low x hx⟩⟩
 rintro σ' H10 ⟨na,nm,rfl,S10,ena,ndn,nl,shn⟩
 have edr10:=S10 _ _ edr9
 have S0A:Same H H10:=S07.trans (S9.trans S10)
 have S2A:Same H2 H10:=S7.trans (S9.trans S10)
 have ewdA:=S2A _ _ ewd
 wtm_at"z"
 refine⟨(by show 0<=Yc;decide),fun da hda=>?_⟩
 have edr11:=qV hda (.lst []) _ _ edr10
 wtm_at "zf"
 refine⟨x1,rfl,by omega,by omega,?_⟩
 refine vX (fun i σ' H'=>∃(du:List V) (ps:List (Deed×V×List (List V))) (z9:Option V),σ'=[some (.ref a),some (.ref bx),some (.ref wd),some (.ref dk),some bv',some gv,some (.ref dr),some (.ref na),some (.ref da),z9,none,none]/\
   (∀b o,H10 b=some o->H' b=some o)/\H' da=some (.lst du)/\Paired (fun p u=>DeedAt (fun b=>b≠da) H' p.1.name p.1.price p.2 u) ps du/\(∀p∈ps,yW H' p.1 p.2/\DeedOk (bs.map (·.1)) p.1)/\ps.map (fun p=>p.1.name)=nm.take i)
  ⟨[],[],none,rfl,qV hda _,qW,.nil,(fun p hp=>by cases hp),rfl⟩ ?_ ?_
 .rintro N rt bk i σ' H11 hi ⟨du,ps,z9,rfl,k11,eda,pds,pok,pnm⟩ hN
  have S11:Same H10 H11:=k11
  have hi8:i<8:=by omega
  have ldu:=pds.length
  have lps:=congrArg List.length pnm
  rw[yYC,yYF] at lps
  obtain⟨nmi,enmi⟩:∃x,nm[i]? = some x:=⟨_,yYA (by omega)⟩
  have atn:atI (strsV nm) (0+(i:Int))=some (.str nmi):=by rw[Int.zero_add];exact jM (by rw[yYO,enmi];rfl)
  wtm_at"z"
  refine⟨.inl ⟨rfl,_,SqL.of eda⟩,?_⟩
  wtm_at"z"
  refine⟨a,ns,_,rfl,(S0A.trans S11).seq hS,by omega,fun c3=>?_⟩
  wtm_at"z"
  refine⟨_,rfl,fun dk2 d2 hdk2=>?_⟩
  have ewd12:=qV hdk2 (.lst [.int d2]) _ _ (S11 _ _ ewdA)
  have ndd:da≠dk2:=qB eda hdk2
  wtm_at"z"
  refine⟨dk2,wd,nmi,bs.map (·.1),rfl,⟨⟨d2,qW⟩,ewd12,wne,wle,qB (S11 _ _ ewdA) hdk2⟩,nmd.nd,fun dd dc u H12 en dok B12 dat dat2=>?_⟩
  have K12:∀b o,H11 b=some o->H12 b=some o:=fun b o e=>B12 _ _ (qB e hdk2) (qV hdk2 _ _ _ e)
  have eda12:=K12 _ _ eda
  refine⟨da,du,u,rfl,rfl,eda12,small (by omega),?_⟩
  have T12:Tups H12 (upd H12 da (.lst (du++[u]))):=fun b xs e=>by rw[qA (wO e eda12 (by intro z;cases z))];exact e
  have T11:Tups H11 (upd H12 da (.lst (du++[u]))):=(qC (show Same H11 H12 from K12)).trans T12
  refine hN _ _ ⟨du++[u],ps++[(dd,dc)],_,rfl,fun b o e=>?_,qW,?_,fun p hp=>?_,?_⟩
  .rw[qA (qB e hda)];exact K12 _ _ (k11 _ _ e)
  .refine Paired.snoc (Paired.mapP pds fun _ _ z=>z.move (fun b o okb e=>?_) T11 fun _ z=>z) (dat2.move (fun b o okb e=>?_) T12 fun b okb=>?_)
   .rw[qA okb];exact K12 _ _ e
   .rw[qA (fun z=>by subst z;rw[qV hdk2 _ _ _ eda] at okb;cases okb)];exact e
   .intro z;subst z;rw[qV hdk2 _ _ _ eda] at okb;cases okb
  .rcases yYR.mp hp with h | h
   .exact⟨(pok p h).1.tups T11,(pok p h).2⟩
   .rw[yYL.mp h];exact⟨dat.tups T12,dok⟩
  .rw[yYU,pnm,yYM,enmi,<- en];rfl
 rintro σ' H11 ⟨du,ps,z9,rfl,k11,eda,pds,pok,pnm⟩
 have S11:Same H10 H11:=k11
 have edr12:=S11 _ _ edr10
 wtm_at"z"
 refine⟨(by show 0<=Yc;decide),fun la hla=>?_⟩
 have edr13:=qV hla (.lst []) _ _ edr12
 wtm_at "zf"
 refine⟨x2,rfl,by omega,by omega,?_⟩
 refine vX (fun i σ' H'=>∃(lu:List V) (lks:List Look) (z3 z9 z11:Option V),σ'=[some (.ref a),some (.ref bx),some (.ref wd),z3,some bv',some gv,some (.ref dr),some (.ref na),some (.ref da),z9,some (.ref la),z11]/\
   (∀b o,H11 b=some o->H' b=some o)/\H' la=some (.lst lu)/\Paired (LookIn H') lks lu/\(∀l∈lks,LookOk (bs.map (·.1)) l)/\lks.map Look.name=(nm.drop 8).take i)
  ⟨[],[],_,_,none,rfl,qV hla _,qW,.nil,(fun p hp=>by cases hp),rfl⟩ ?_ ?_
 .rintro N rt bk i σ' H12 hi ⟨lu,lks,z3,z9,z11,rfl,k12,ela,pls,lok,lnm⟩ hN
  have S12:Same H11 H12:=k12
  have hi6:i<6:=by omega
  have llu:=pls.length
  have lls:=congrArg List.length lnm
  rw[yYC,yYF,Yp] at lls
  obtain⟨nmi,enmi⟩:∃x,(nm.drop 8)[i]? = some x:=⟨_,yYA (by rw[Yp];omega)⟩
  have atn:atI (strsV nm) (8+(0+(i:Int)))=some (.str nmi):=by
   have e:(8:Int)+(0+(i:Int))=((8+i:Nat):Int):=by omega
   rw[e]
   exact jM (by rw[yYO,<- List.getElem?_drop,enmi];rfl)
  wtm_at"z"
  refine⟨a,ns,_,rfl,(S0A.trans (S11.trans S12)).seq hS,by omega,fun c3=>?_⟩
  wtm_at"z"
  refine w_I ⟨by wtm_at"d",big _ (by omega) (Int.lt_of_le_of_lt (b:=100) (by omega) (by wtm_at"d"))⟩ ?_
  wtm_at"z"
  refine⟨_,rfl,fun dk2 d2 hdk2=>?_⟩
  have ewd12:=qV hdk2 (.lst [.int d2]) _ _ (S12 _ _ (S11 _ _ ewdA))
  have nwd:=qB (S12 _ _ (S11 _ _ ewdA)) hdk2
  refine qVc rfl qW fun pr d3 H13 hpr hpu B13 e13=>?_
  have K13:∀b o,H12 b=some o->H13 b=some o:=fun b o e=>B13 _ _ (qB e hdk2) (qV hdk2 _ _ _ e)
  have S13:Same H12 H13:=K13
  have ena13:=S13 _ _ (S12 _ _ (S11 _ _ ena))
  wtm_at"z"
  refine⟨.inl ⟨rfl,_,SqL.of (S13 _ _ ela)⟩,?_⟩
  wtm_at"z"
  refine⟨dk2,wd,bs.map (·.1),2,rfl,⟨⟨d3,e13⟩,S13 _ _ (S12 _ _ (S11 _ _ ewdA)),wne,wle,nwd⟩,by decide,by decide,fun t v H14 B14 D14 At Ex Dep=>?_⟩
  have K14:∀b o,H12 b=some o->H14 b=some o:=fun b o e=>B14 _ _ (qB e hdk2) (K13 _ _ e)
  wtm_at"z"
  refine⟨(by show 3<=Yc;decide),fun ta hta=>?_⟩
  have ela14:=K14 _ _ ela
  have lta:la≠ta:=qB ela14 hta
  refine⟨la,lu,.ref ta,rfl,rfl,qV hta _ _ _ ela14,small (by omega),?_⟩
  have T14:Tups H14 (upd (upd H14 ta (.tup [.str nmi,.int pr,v])) la (.lst (lu++[.ref ta]))):=fun b xs e=>by
   rw[qA (wO e ela14 (by intro z;cases z))];exact qV hta _ _ _ e
  have i3:(2:Int).toNat+1=3:=rfl
  refine hN _ _ ⟨lu++[.ref ta],lks++[⟨nmi,pr,t⟩],_,_,_,rfl,fun b o e=>?_,qW,Paired.snoc (qVl ((qC (show Same H12 H14 from K14)).trans T14) pls) ⟨ta,v,rfl,by rw[qA (Ne.symm lta)];exact qW,At.mono T14⟩,fun l hl=>?_,?_⟩
  .rw[qA (qB e hla)];exact qV hta _ _ _ (K14 _ _ (k12 _ _ e))
  .rcases yYR.mp hl with h | h
   .exact lok l h
   .rw[yYL.mp h];exact⟨hpr,Ex,by show t.dep<=12;omega,hpu,by show t.dep<=3;omega⟩
  .rw[yYU,lnm,yYM,enmi];rfl
 rintro σ' H12 ⟨lu,lks,z3,z9,z11,rfl,k12,ela,pls,lok,lnm⟩
 have S12:Same H11 H12:=k12
 wtm_at"z"
 refine⟨(by show 5<=Yc;decide),fun p hp=>?_⟩
 have Sf:=qV hp (.tup [.ref bx,.ref da,.ref la,bv',gv])
 have SB:Same H11 (upd H12 p (.tup [.ref bx,.ref da,.ref la,bv',gv])):=S12.trans Sf
 have ep:upd H12 p (.tup [.ref bx,.ref da,.ref la,bv',gv]) p=some (.tup [.ref bx,.ref da,.ref la,bv',gv]):=qW
 have ela':=Sf _ _ ela
 have pls':=qVl (qC Sf) pls
 generalize upd H12 p (.tup [.ref bx,.ref da,.ref la,bv',gv])=H13 at SB ep ela' pls' Sf
 have S2B:Same H2 H13:=S2A.trans (S11.trans SB)
 have S7B:Same H7 H13:=(S9.trans S10).trans (S11.trans SB)
 have pds':=Paired.mapP pds fun _ _ z=>z.move (ok':=fun b=>b≠da) (fun b o _ e=>SB _ _ e) (qC SB) fun _ z=>z
 have pdj:=qZq (fun p hp=>(pok p hp).1.same SB) pds'
 have lps:=congrArg List.length pnm
 have lls:=congrArg List.length lnm
 rw[yYC,yYF] at lps lls
 refine q p ⟨bs,ps.map (·.1),lks,bt',gt⟩ bx da la bv' gv H13 (S0A.trans (S11.trans SB)) ep
  ⟨⟨us,S2B _ _ (S2 _ _ e1),xY (qC (S2.trans S2B)) p1⟩,⟨du,SB _ _ eda,pdj⟩,⟨lu,ela',pls'⟩,bat'.mono (qC S7B),gat'.mono (qC S7B)⟩
  ⟨hb1,hb6,hb25,hb200,nmd,?_,?_,?_,fun d hd=>?_,lok,bcx',(show bt'.dep<=12 by omega),gcx,by show gt.dep<=12;omega,hsome,fun x hx=>?_,yZH bdep' (by decide),by show gt.dep<=8;omega⟩ bdep' (by show gt.dep<=6;omega)
 .show(ps.map (·.1)).length<=100
  rw[yYC];omega
 .show lks.length<=100
  omega
 .show((ps.map (·.1)).map Deed.name++lks.map Look.name).Nodup
  rw[Yo,lnm]
  have e:ps.map (Deed.name∘fun x=>x.1)=nm.take x1.toNat:=pnm
  rw[e]
  refine List.Sublist.nodup ?_ ndn
  have e8:nm=nm.take 8++nm.drop 8:=(List.take_append_drop 8 nm).symm
  rw[show List.Sublist (nm.take x1.toNat++(nm.drop 8).take x2.toNat) nm↔List.Sublist (nm.take x1.toNat++(nm.drop 8).take x2.toNat) (nm.take 8++nm.drop 8) by rw[<- e8]]
  refine List.Sublist.append ?_ (Yw _ _)
  have:nm.take x1.toNat=(nm.take 8).take x1.toNat:=by rw[List.take_take,Nat.min_eq_left (by omega)]
  rw[this]
  exact Yw _ _
 .obtain⟨pp,hpp,rfl⟩:=yYP.mp hd
  exact(pok pp hpp).2
 .have hx:x∈(ps.map (·.1)).map Deed.name++lks.map Look.name:=hx
  rw[Yo,lnm] at hx
  have e:ps.map (Deed.name∘fun x=>x.1)=nm.take x1.toNat:=pnm
  rw[e] at hx
  rcases yYR.mp hx with h | h
  .exact shn x (Yt h)
  .exact shn x (List.mem_of_mem_drop (Yt h))
theorem xH {n:Nat}(h:n<=1000000):n<=Yc:=by rw[show Yc=16777216 by decide];omega
theorem xCh {n:Nat}(h:n<10 ^ 100):n.log2<1920:=by
 by_cases z:n=0
 .rw[z];decide
 .exact(Nat.log2_lt z).mpr (Nat.lt_trans h (by wtm_at"d"))
theorem jT:xM ["number","sign","rest","blocks"] ["number"] (xA (top 45)):=by constructor <;> first | rfl | wtm_at"d"
def spNum:Sp:=fun vs H Q _=>∃i:Int,vs=[.int i]/\i.natAbs<200/\∀H',Same H H'->Q (.str (numS i)) H'
theorem xDa (F:Fd K mg "shown_number" (top 45) ["number"])(VT:mg "abs" = none)(VU:mg "str" = none)(va:Gi mg "BLOCK" 1000000000000000000):Dn P w K mg base "shown_number" 1 ["number"] spNum:=by
 refine F.ok jT (fun vs H Q E h=>?_) (fun f zx A outer s H vs Q E hr h=>?_)
 .obtain⟨_,rfl,_⟩:=h
  rfl
 obtain⟨i,rfl,hi,q⟩:=h
 refine⟨_,(qZ (xF (i:=1) jT.nd rfl (vF (qR qAx (pv 0) qE (xD _)) qF qF))
  (qZ (xF (i:=2) jT.nd rfl (xZ xJf rfl VT xDn (qQ (pv 0) qX)))
  (qZ (xF (i:=3) jT.nd rfl (xU qX))
  (qZ (qWo PassesOwn.never (qR xVc (pv 2) (qXn va) (xD _)) (qZ yX (qJ yX)))
  (qZ (qP (zX (K:=K) Yy Yz YT xO (pv 3) (qQ (xQ jQ (pv 1) (xX qUv rfl VU xDi (qQ (pv 2) qX))) qX)))
  (qZ (qP (qAq (K:=K) Yy PySem.F.slot_list_reverse PySem.F.type_list_reverse qVg (pv 3)))
  (qJ (qN (zX (K:=K) YU PySem.F.slot_str_join PySem.F.type_str_join qAv qF (qQ (pv 3) qX)))))))))),?_⟩
 have sz:=figs hi
 have e0:(if i<0 then -i else i)=((i.natAbs:Nat):Int):=by split <;> omega
 have fin:∀(H1:Hp) (r:Addr) (sg:Str),sg++dec i.natAbs=numS i->sg.length<=1->Same H H1->H r=none->H1 r=some (.lst [])->tSeq (tDrop (tBM K "list" qEl (tVar 3) (tCons (tOp (fun x y H Q=>∃i j,x=.str i/\y=.str j/\i.length+j.length<=Yc/\Q (.str (i++j)) H) (tVar 1) (tCB rStrA (tCons (tVar 2) tNil))) tNil)))
   (tSeq (tDrop (tBM0 K "list" qHv (tVar 3))) (tRet (tBM K "str" rJoin (tC (.str (Yb ""))) (tCons (tVar 3) tNil)))) { nx:=fun x H'=>Q V.non H',rt:=Q } [some (.int i),some (.str sg),some (.int ((i.natAbs:Nat):Int)),some (.ref r)] H1:=fun H1 r sg es ls S nr er=>by
  wtm_at"z"
  refine kP (SqL.of er) ?_
  wtm_at"z"
  refine⟨_,rfl,.inl ⟨_,rfl,xCh (yZC (show((i.natAbs:Nat):Int).natAbs<200 by omega) (by wtm_at"d"))⟩,?_⟩
  have et:txV (.int ((i.natAbs:Nat):Int))=dec i.natAbs:=qJe _
  rw[et]
  refine⟨_,_,rfl,rfl,xH (by have:=sz.hi;omega),?_⟩
  rw[es]
  wtm_at"z"
  refine jG er (by show 0<Yc;decide) ?_
  have S1:Same H (upd H1 r (.lst ([]++[V.str (numS i)]))):=S.set nr
  have e1:upd H1 r (.lst ([]++[V.str (numS i)])) r=some (.lst [V.str (numS i)]):=qW
  generalize upd H1 r (.lst ([]++[V.str (numS i)]))=H2 at S1 e1 ⊢
  wtm_at"z"
  refine kP (SqL.of e1) ?_
  refine⟨r,_,rfl,rfl,e1,?_⟩
  have S2:Same H (upd H2 r (.lst [V.str (numS i)].reverse)):=S1.set nr
  have e2:upd H2 r (.lst [V.str (numS i)].reverse) r=some (.lst ([numS i].map V.str)):=qW
  generalize upd H2 r (.lst [V.str (numS i)].reverse)=H3 at S2 e2 ⊢
  wtm_at"z"
  have ln:(numS i).length<=4:=by rw[<- es,xI];have:=sz.hi;omega
  refine⟨_,r,[numS i],rfl,rfl,e2,?_,q H3 S2⟩
  show(numS i).length+0+1 * (Yb "").length<=1000000
  rw[qDl]
  show(numS i).length+0+1 * 0<=1000000
  omega
 have no:¬((1000000000000000000:Int)<=((i.natAbs:Nat):Int)):=by omega
 wtm_at"z"
 by_cases hn:i<0
 .rw[decide_eq_true hn]
  refine iteT ?_
  wtm_at"z"
  refine⟨i,rfl,?_⟩
  rw[e0]
  wtm_at"z"
  refine⟨xH (yZE _),fun r hr'=>?_⟩
  wtm_at"z"
  refine qGk (fun R hR=>?_) (fin _ r _ ?_ ?_ (qV hr' _) hr' qW)
  .wtm_at"z"
   rw[decide_eq_false no]
   exact hR
  .unfold numS
   rw[if_pos hn,xYm]
  .rw[xYm];decide
 .rw[decide_eq_false hn]
  refine iteF ?_
  wtm_at"z"
  refine⟨i,rfl,?_⟩
  rw[e0]
  wtm_at"z"
  refine⟨xH (yZE _),fun r hr'=>?_⟩
  wtm_at"z"
  refine qGk (fun R hR=>?_) (fin _ r _ ?_ ?_ (qV hr' _) hr' qW)
  .wtm_at"z"
   rw[decide_eq_false no]
   exact hR
  .unfold numS
   rw[if_neg hn,qHl]
  .rw[qDl];decide
def forms80:List (Str×List Str):=[("plus",["(","E","+","E",")"]),("less",["(","E","-","E",")"]),("same",["E","=","E"]),("under",["E","<","E"]),("not",["not","C"]),("both",["(","C","and","C",")"])]
def slotW (s:Str):Bool:=decide (s = "E") || decide (s = "C")
def fillW:List Str->List Str->List Str
 | [],_=>[]
 | s::ss,ps=>(if slotW s then ps.headD "" else s)::fillW ss (if slotW s then ps.tail else ps)
def formOf (k:Str):List Str:=(forms80.lookup k).getD []
def sh:Th->Str
 | .num n=>numS n
 | .box x=>x
 | .nul _=>Yb "yes"
 | .un k a=>Txt.join (Yb " ") (fillW (formOf k) [sh a])
 | .bin k a b=>Txt.join (Yb " ") (fillW (formOf k) [sh a,sh b])
def Bin5 (k:Str):Prop:=k = "plus" \/ k = "less" \/ k = "same" \/ k = "under" \/ k = "both"
def Shw:Th->Prop
 | .num n=>0<=n/\n<10
 | .box x=>x.length<=8
 | .nul k=>k = "yes"
 | .un k a=>k = "not" /\ Shw a
 | .bin k a b=>Bin5 k/\Shw a/\Shw b
theorem Shw.ofE {ws:List Str}(n:∀x∈ws,x.length<=8){t:Th}(h:Expr' ws t):Shw t:=by
 induction t with
 | num i=>exact h
 | box x=>exact n x h
 | nul k=>exact h.elim
 | un k a _=>exact h.elim
 | bin k a b ha hb=>
  obtain⟨hk,h1,h2⟩:=h
  refine⟨?_,ha h1,hb h2⟩
  rcases hk with e | e
  .exact .inl e
  .exact .inr (.inl e)
theorem Shw.ofC {ws:List Str}(n:∀x∈ws,x.length<=8){t:Th}(h:Cond' ws t):Shw t:=by
 induction t with
 | num i=>exact h.elim
 | box x=>exact h.elim
 | nul k=>exact h
 | un k a ha=>exact⟨h.1,ha h.2⟩
 | bin k a b ha hb=>
  rcases h with⟨hk,h1,h2⟩ | ⟨hk,h1,h2⟩
  .refine⟨?_,Shw.ofE n h1,Shw.ofE n h2⟩
   rcases hk with e | e
   .exact .inr (.inr (.inl e))
   .exact .inr (.inr (.inr (.inl e)))
  .exact⟨.inr (.inr (.inr (.inr hk))),ha h1,hb h2⟩
theorem xDj (x:Str):fillW (formOf "not") [x]=[("not" : Str),x]:=rfl
theorem xYd (x y:Str):fillW (formOf "plus") [x,y]=[("(" : Str),x,"+",y,")"]:=rfl
theorem xYe (x y:Str):fillW (formOf "less") [x,y]=[("(" : Str),x,"-",y,")"]:=rfl
theorem xYc (x y:Str):fillW (formOf "same") [x,y]=[x,("=" : Str),y]:=rfl
theorem qTq (x y:Str):fillW (formOf "under") [x,y]=[x,("<" : Str),y]:=rfl
theorem xYf (x y:Str):fillW (formOf "both") [x,y]=[("(" : Str),x,"and",y,")"]:=rfl
def wlen (ws:List Str):Nat:=(ws.map (·.length)).sum+ws.length * 1
theorem qGz (x:Str):wlen (fillW (formOf "not") [x])=x.length+5:=by
 rw[xDj]
 show 3+(x.length+0)+2 * 1=_
 omega
theorem qGj {k:Str}(h:Bin5 k)(x y:Str):wlen (fillW (formOf k) [x,y])<=x.length+y.length+10:=by
 rcases h with rfl | rfl | rfl | rfl | rfl
 .rw[xYd];show 1+(x.length+(1+(y.length+(1+0))))+5 * 1<=_;omega
 .rw[xYe];show 1+(x.length+(1+(y.length+(1+0))))+5 * 1<=_;omega
 .rw[xYc];show x.length+(1+(y.length+0))+3 * 1<=_;omega
 .rw[qTq];show x.length+(1+(y.length+0))+3 * 1<=_;omega
 .rw[xYf];show 1+(x.length+(3+(y.length+(1+0))))+5 * 1<=_;omega
theorem qBw (ws:List Str):(Txt.join (Yb " ") ws).length<=wlen ws:=by
 have:=qJd (Yb " ") ws
 rw[show(Yb " ").length=1 from rfl] at this
 exact this
theorem xXn {n:Int}(h0:0<=n)(h1:n<10):(numS n).length<=4:=by
 have:=(figs (show n.natAbs<200 by omega)).hi
 unfold numS
 rw[if_neg (by omega)]
 omega
theorem qSz {t:Th}(h:Shw t):(sh t).length<=18 * t.cnt:=by
 induction t with
 | num n=>
  have:=xXn h.1 h.2
  show(numS n).length<=18 * 1
  omega
 | box x=>
  have h:x.length<=8:=h
  show x.length<=18 * 1
  omega
 | nul k=>show 3<=18 * 1;omega
 | un k a ih=>
  obtain⟨rfl,h2⟩:=h
  have h3:=ih h2
  have h4:=qBw (fillW (formOf "not") [sh a])
  rw[qGz] at h4
  show(Txt.join (Yb " ") (fillW (formOf "not") [sh a])).length<=18 * (a.cnt+1)
  omega
 | bin k a b iha ihb=>
  obtain⟨hk,h2,h3⟩:=h
  have h4:=iha h2
  have h5:=ihb h3
  have h6:=qBw (fillW (formOf k) [sh a,sh b])
  have h7:=qGj hk (sh a) (sh b)
  show(Txt.join (Yb " ") (fillW (formOf k) [sh a,sh b])).length<=18 * (a.cnt+b.cnt+1)
  omega
theorem qSx {t:Th}(h:Shw t)(d:t.dep<=6):(sh t).length<=7000:=by
 have h1:=t.cnt_le
 have h2:2 ^ t.dep<=2 ^ 6:=Y9 (by decide) d
 have h3:=qSz h
 omega
theorem qAw {t:Th}(h:Shw t)(d:t.dep<=3):(sh t).length<=800:=by
 have h1:=t.cnt_le
 have h2:2 ^ t.dep<=2 ^ 3:=Y9 (by decide) d
 have h3:=qSz h
 omega
theorem wV {t:Th}(h:Shw t)(d:t.dep<=8):(sh t).length<=7000:=by
 have h1:=t.cnt_le
 have h2:2 ^ t.dep<=2 ^ 8:=Y9 (by decide) d
 have h3:=qSz h
 omega
theorem yH:xM ["thing","parts","words","sign"] ["thing"] (xA (top 44)):=by constructor <;> first | rfl | wtm_at"d"
theorem wB:CompOk (xA (top 44)) ["thing","parts","words","sign"] (scAt (xB (top 44)) [3] []) ["part"] 1 []:=
 by constructor <;> wtm_at"d"
def qXf (n:Nat):Sp:=fun vs H Q _=>∃(t:Th) (v:V),vs=[v]/\t.At H v/\Shw t/\t.dep<=n/\t.dep<=8/\∀H',Same H H'->Q (.str (sh t)) H'
def slots (ws:List Str):Nat:=(ws.filter slotW).length
theorem qIo {k:Str}(h:Bin5 k):slots (formOf k)=2/\(k,formOf k)∈forms80/\(formOf k).length<=5:=by
 rcases h with rfl | rfl | rfl | rfl | rfl <;> wtm_at"d"
theorem xDq (s:Str):inV (.str s) [V.str "E",V.str "C"]=slotW s:=by
 have e:inV (.str s) [V.str "E",V.str "C"]=inV (.str s) (strsV ["E","C"]):=rfl
 rw[e,kM]
 unfold slotW
 rw[<- Bool.decide_or]
 exact decide_eq_decide.mpr ⟨fun h=>by
  rcases yYK.mp h with h | h
  .exact .inl h
  .exact .inr (yYL.mp h),fun h=>by
  rcases h with h | h
  .rw[h];exact yYG
  .rw[h];exact yYH _ yYG⟩
theorem pop0 (x:V)(xs:List V):seqIndex? 0 (x::xs).length=some 0:=by
 unfold seqIndex?
 rw[yYS]
 simp
inductive View80 (H:Hp)(t:Th)(v:V):Prop
 | box (a:Addr) (x:Str):sh t=x->v=.ref a->H a=some (.tup [.str "box",.str x])->View80 H t v
 | num (a:Addr) (n:Int):sh t=numS n->n.natAbs<200->v=.ref a->H a=some (.tup [.str "number",.int n])->View80 H t v
 | yes (a:Addr):sh t=Yb "yes" -> v=.ref a->H a=some (.tup [.str "yes"])->View80 H t v
 | op (a:Addr) (k:Str) (us:List V) (ts:List Th):v=.ref a->H a=some (.tup (.str k::us))->(k,formOf k)∈forms80->k ≠ "number" -> k ≠ "box" -> us.isEmpty=false->us.length=ts.length->us.length<=2->slots (formOf k)=us.length->(formOf k).length<=5->
   (∀(i:Nat) u r,us[i]? = some u->ts[i]? = some r->r.At H u/\Shw r/\r.dep+1<=t.dep)->Txt.join (Yb " ") (fillW (formOf k) (ts.map sh))=sh t->wlen (fillW (formOf k) (ts.map sh))<=100000->View80 H t v
theorem xYn {k:Str}(h:Bin5 k):k ≠ "number" /\ k ≠ "box" := by
 rcases h with rfl | rfl | rfl | rfl | rfl <;> exact⟨by wtm_at"d",by wtm_at"d"⟩
theorem view80 {H:Hp}{t:Th}{v:V}(at':t.At H v)(sw:Shw t)(h8:t.dep<=8):View80 H t v:=by
 cases t with
 | num n=>
  obtain⟨a,e,q⟩:=at'
  exact .num a n rfl (by have:=sw.1;have:=sw.2;omega) e q
 | box x=>
  obtain⟨a,e,q⟩:=at'
  exact .box a x rfl e q
 | nul k=>
  obtain⟨a,e,q⟩:=at'
  cases(show k = "yes" from sw)
  exact .yes a rfl e q
 | un k t1=>
  obtain⟨a,u,e,q,r⟩:=at'
  obtain⟨rfl,s1⟩:=sw
  have h8:t1.dep+1<=8:=h8
  refine .op a "not" [u] [t1] e q (by wtm_at"d") (by wtm_at"d") (by wtm_at"d") rfl rfl (by show 1<=2;decide) (show slots (formOf "not")=1 by wtm_at"d") (by wtm_at"d") (fun i u' r' e1 e2=>?_) rfl ?_
  .cases i with
   | zero=>cases e1;cases e2;exact⟨r,s1,yZB _⟩
   | succ i=>cases e1
  .have:=wV s1 (by omega)
   show wlen (fillW (formOf "not") [sh t1])<=_
   rw[qGz];omega
 | bin k t1 t2=>
  obtain⟨a,u1,u2,e,q,r1,r2⟩:=at'
  obtain⟨hk,s1,s2⟩:=sw
  have h8:max t1.dep t2.dep+1<=8:=h8
  obtain⟨f1,f2,f3⟩:=qIo hk
  refine .op a k [u1,u2] [t1,t2] e q f2 (xYn hk).1 (xYn hk).2 rfl rfl (by show 2<=2;decide) f1 f3 (fun i u' r' e1 e2=>?_) rfl ?_
  .show r'.At H u'/\Shw r'/\r'.dep+1<=max t1.dep t2.dep+1
   cases i with
   | zero=>cases e1;cases e2;exact⟨r1,s1,by omega⟩
   | succ i=>
    cases i with
    | zero=>cases e1;cases e2;exact⟨r2,s2,by omega⟩
    | succ i=>cases e1
  .have h1:=wV s1 (by omega)
   have h2:=wV s2 (by omega)
   have h3:=qGj hk (sh t1) (sh t2)
   show wlen (fillW (formOf k) [sh t1,sh t2])<=_
   omega
theorem xBz {K:yZN}{fs:List (Str×List Str)}{ty:TE}{σ:St}{H:Hp}{Q:VK}(q:ty σ H fun y H1=>∃k ws,y=.str k/\(k,ws)∈fs/\∀(a b:Addr) (c:Str),SqT K H1 a [.str c,.ref b]->(∀H,SqT K H b (ws.map V.str))->Q (.ref a) H1):tForm K fs ty σ H Q:=q
theorem qTz {n:Nat}(F:Fd K mg "shown_thing" (top 44) ["thing"])(B:Bl mg)(ji:Dn P w K mg base "shown_thing" (n+1) ["thing"] (qXf n))(kL:Dn P w K mg base "shown_number" 1 ["number"] spNum)
  (jo:Gs K mg "YES" ["yes"]) (jk:Gf w K mg "FORMS" forms80):Dn P w K mg base "shown_thing" (n+2) ["thing"] (qXf (n+1)):=by
 refine F.ok yH (fun vs H Q E h=>?_) (fun f zx A outer s H vs Q E hr h=>?_)
 .obtain⟨_,_,rfl,_⟩:=h
  rfl
 obtain⟨t,v,rfl,at',sw,hn,h8,q⟩:=h
 refine⟨_,(qZ (zD (qR zM (xE (qS (K:=K)) (pv 0) qE) qF (xD _)) (qJ (qN (qD kL hr (qQ (xE (qS (K:=K)) (pv 0) qE) qX)))) qY)
  (qZ (zD (qR zM (xE (qS (K:=K)) (pv 0) qE) qF (xD _)) (qJ (qN (xE (qS (K:=K)) (pv 0) qE))) qY)
  (qZ (zD (qR (qPm (K:=K) hr.units) (pv 0) (qPf jo) (xD _)) (qJ (qN qF)) qY)
  (qZ (yD (i:=1) yH.nd rfl (by wtm_at "zo") rfl wB (qYh (K:=K) (zK (qEe (K:=K)) (pv 0) (zB qE) zC)) (fun cl fp s H=>(qG (i:=0) wB.nd rfl (Or.inl rfl) (.inr rfl))) (fun cl fp s H=>zF) (fun cl fp s H=>(qD ji hr (qQ (pv 0) qX))))
  (qZ (xF (i:=2) yH.nd rfl (xU qX))
  (qZ (zH PassesOwn.never rfl (qYh (K:=K) (xE (qS (K:=K)) (xVz jk (xE (qS (K:=K)) (pv 0) qE) (fun _ _=>rfl)) qE)) (qG (i:=3) yH.nd rfl (by wtm_at "zo")) (qJ (qP (zX (K:=K) Yy Yz YT xO (pv 2) (qQ (vF (qR (qHf (K:=K)) (pv 3) (xN (qQ qF (qQ qF qX))) (by with_unfolding_all rfl)) (zX (K:=K) Yy PySem.F.slot_list_pop PySem.F.type_list_pop xZx (pv 1) (qQ qE qX)) (pv 3)) qX)))))
  (qJ (qN (zX (K:=K) YU PySem.F.slot_str_join PySem.F.type_str_join qAv qF (qQ (pv 2) qX)))))))))),?_⟩
 cases view80 at' sw h8 with
 | box a x et ev ea=>
  subst ev
  rw[et] at q
  wtm_at"z"
  exact q H (Same.refl _)
 | num a i et hi ev ea=>
  subst ev
  rw[et] at q
  wtm_at"z"
  exact⟨i,rfl,hi,q⟩
 | yes a et ev ea=>
  subst ev
  rw[et] at q
  wtm_at"z"
  intro p hp
  refine⟨a,p,"yes",[],"yes",rfl,rfl,SqT.of ea,hp,?_⟩
  wtm_at"z"
  refine yB rfl ?_
  wtm_at"z"
  exact q H (Same.refl _)
 | op a k us ts ev ea hf n1 n2 une hl hl2 hsl h5 kids et hw=>
  subst ev
  wtm_at"z"
  intro p hp
  refine⟨a,p,k,us,"yes",rfl,rfl,SqT.of ea,hp,?_⟩
  wtm_at"z"
  rw[une,Bool.and_false]
  refine iteF ?_
  wtm_at "zf"
  refine⟨a,_,rfl,SqT.of ea,notwhole _ _,fun p2 hp2=>?_⟩
  rw[cut1]
  have S2:Same H (upd H p2 (.tup us)):=qV hp2 _
  have ep2:upd H p2 (.tup us) p2=some (.tup us):=qW
  generalize upd H p2 (.tup us)=H2 at S2 ep2 ⊢
  refine⟨p2,rfl,⟨us,SqT.of ep2⟩,?_⟩
  refine qIw (xs:=us) (fun D i ys H'=>ys=strsV ((ts.take i).map sh)/\∀b o,H2 b=some o->H' b=some o) (fun D hD=>⟨rfl,qV hD _⟩) (fun D i ys H' _ hP=>SqT.of (hP.2 _ _ ep2)) (fun D i x ys H' N hD hDy ex hP hN=>?_) (fun D ys H3 hD hDy hP=>?_)
  .obtain⟨rfl,hk⟩:=hP
   obtain⟨c,ec⟩:∃c,ts[i]? = some c:=⟨_,yYA (by rw[<- hl];exact(yYB.mp ex).1)⟩
   obtain⟨ka,kw,kd⟩:=kids i x c ex ec
   have S3:Same H H':=S2.trans hk
   refine⟨⟨[some x],rfl,rfl⟩,?_⟩
   refine⟨_,rfl,c,x,rfl,ka.mono (qC S3),kw,by omega,by omega,fun H4 S4=>?_⟩
   refine⟨S4 _ _ hDy,small (by rw[xW,yYC,yYF];omega),hN _ _ qW ⟨?_,fun b o e=>?_⟩⟩
   .rw[yYM,ec,yYU,xR];rfl
   .rw[qA (qB e hD)];exact S4 _ _ (hk _ _ e)
  obtain⟨rfl,hk⟩:=hP
  rw[hl,yYJ] at hDy
  wtm_at"z"
  refine⟨xH (yZE _),fun wl hwl=>?_⟩
  have S3:Same H H3:=S2.trans hk
  have nD:H D=none:=S2.free hD
  have nwl:H wl=none:=S3.free hwl
  have S4:Same H (upd H3 wl (.lst [])):=S3.trans (qV hwl _)
  have eD4:=qV hwl (.lst []) _ _ hDy
  have ewl:upd H3 wl (.lst []) wl=some (.lst []):=qW
  have Dw:D≠wl:=qB hDy hwl
  generalize upd H3 wl (.lst [])=H4 at S4 eD4 ewl ⊢
  have ea4:=S4 _ _ ea
  wtm_at "zf"
  refine xBz ?_
  wtm_at"z"
  refine⟨k,formOf k,rfl,hf,fun fa fb c h1 h2=>?_⟩
  wtm_at"z"
  refine⟨fb,rfl,⟨_,h2 _⟩,?_⟩
  refine qFc (xs:=(formOf k).map V.str) (fun i σ' H'=>∃(dn ps:List Str) (z:Option V),σ'=[some (.ref a),some (.ref D),some (.ref wl),z]/\H' D=some (.lst (strsV ps))/\H' wl=some (.lst (strsV dn))/\Same H H'/\
    dn++fillW ((formOf k).drop i) ps=fillW (formOf k) (ts.map sh)/\slots ((formOf k).drop i)<=ps.length/\dn.length<=i) ⟨[],ts.map sh,none,rfl,eD4,ewl,S4,rfl,(by rw[yYC,<- hl];exact Nat.le_of_eq hsl),yZB _⟩
   (fun i σ' H' _ _=>h2 H') (fun i x σ' H' ex hP=>?_) (fun σ' H' hP=>?_)
  .obtain⟨dn,ps,z,rfl,eD,ew,S5,efl,hs,hd⟩:=hP
   rw[yYO] at ex
   obtain⟨sg,esg,rfl⟩:=Zd.mp ex
   have hi:=(yYB.mp esg).1
   have edr:(formOf k).drop i=sg::(formOf k).drop (i+1):=by
    rw[List.drop_eq_getElem_cons hi,(yYB.mp esg).2]
   rw[edr] at efl hs
   wtm_at"z"
   refine kP (SqL.of ew) ?_
   wtm_at"z"
   refine⟨xH (show 2<=1000000 by decide),fun tp htp=>?_⟩
   have S6:=S5.trans (qV htp (.tup [V.str "E",V.str "C"]))
   have eD6:=qV htp (.tup [V.str "E",V.str "C"]) _ _ eD
   have ew6:=qV htp (.tup [V.str "E",V.str "C"]) _ _ ew
   have etp:upd H' tp (.tup [V.str "E",V.str "C"]) tp=some (.tup [V.str "E",V.str "C"]):=qW
   generalize upd H' tp (.tup [V.str "E",V.str "C"])=H6 at S6 eD6 ew6 etp ⊢
   refine⟨tp,_,rfl,.inr (SqT.of etp),rfl,rfl,?_⟩
   show∃k,V.bl (inV (.str sg) [V.str "E",V.str "C"])=.bl k/\_
   rw[xDq]
   refine⟨_,rfl,?_⟩
   cases c:slotW sg with
   | true=>
    refine yB rfl ?_
    rw[fillW,c] at efl
    have hs1:slots (sg::(formOf k).drop (i+1))=slots ((formOf k).drop (i+1))+1:=by
     unfold slots
     rw[List.filter_cons_of_pos c,yYS]
    rw[hs1] at hs
    cases ps with
    | nil=>exact absurd hs (by rw[yYT];omega)
    | cons p0 pr=>
     rw[yYS] at hs
     wtm_at"z"
     refine kP (SqL.of eD6) ?_
     wtm_at"z"
     refine⟨D,_,0,0,.str p0,rfl,rfl,eD6,by decide,by decide,pop0 _ _,rfl,?_⟩
     refine⟨wl,_,_,rfl,rfl,by rw[qA (Ne.symm Dw)];exact ew6,small (by rw[xW];omega),?_⟩
     refine⟨dn++[p0],pr,_,rfl,by rw[qA Dw];exact qW,by rw[qW,xR];rfl,(S6.set nD).set nwl,?_,by omega,by rw[yYI];show dn.length+1<=i+1;omega⟩
     rw[yYQ]
     exact efl
   | false=>
    refine zQ rfl ?_
    rw[fillW,c] at efl
    have hs1:slots (sg::(formOf k).drop (i+1))=slots ((formOf k).drop (i+1)):=by
     unfold slots
     rw[List.filter_cons_of_neg (by rw[c];exact yZJ)]
    rw[hs1] at hs
    wtm_at"z"
    refine⟨wl,_,_,rfl,rfl,ew6,small (by rw[xW];omega),?_⟩
    refine⟨dn++[sg],ps,_,rfl,by rw[qA Dw];exact eD6,by rw[qW,xR];rfl,S6.set nwl,?_,hs,by rw[yYI];show dn.length+1<=i+1;omega⟩
    rw[yYQ]
    exact efl
  .obtain⟨dn,ps,z,rfl,eD,ew,S5,efl,hs,hd⟩:=hP
   rw[yYC,List.drop_length] at efl
   have efl:dn++[]=fillW (formOf k) (ts.map sh):=efl
   rw[Yr] at efl
   rw[efl] at ew
   wtm_at"z"
   refine⟨_,wl,_,rfl,rfl,ew,?_,?_⟩
   .have hw:((fillW (formOf k) (ts.map sh)).map (·.length)).sum+(fillW (formOf k) (ts.map sh)).length * 1<=100000:=hw
    show _+_ * 1<=1000000
    omega
   .rw[et];exact q H' S5
theorem qIj (F:Fd K mg "shown_thing" (top 44) ["thing"])(B:Bl mg)(kL:Dn P w K mg base "shown_number" 1 ["number"] spNum)
  (jo:Gs K mg "YES" ["yes"]) (jk:Gf w K mg "FORMS" forms80):∀n:Nat,Dn P w K mg base "shown_thing" (n+1) ["thing"] (qXf n)
 | 0=>F.never fun vs H Q E h=>by
  obtain⟨t,_,_,_,_,h1,_⟩:=h
  have:=t.dep_pos
  omega
 | n+1=>qTz F B (qIj F B kL jo jk n) kL jo jk
theorem yV (a b c:Str):(a++b)++c=a++(b++c):=yP (by rw[zY,zY,zY,zY,yYQ])
theorem qXq (a:Str):Str.empty++a=a:=yP (by rw[zY];rfl)
theorem vT (ws:List Str)(x:Str):strsV ws++[V.str x]=strsV (ws++[x]):=by rw[xR];rfl
def intS (n:Int):Str:=Yb (toString n)
def needS:Th->Str
 | .nul _=>Yb ""
 | t=>Yb " if " ++ sh t
def chS (c:Str×Th):Str:=Yb " " ++ c.1++Yb " := " ++ sh c.2
def wayS (wy:List (Str×Th)):Str:=Yb "way" ++ Txt.join (Yb ",") (wy.map chS)
def boxS (b:Str×Int):Str:=Yb "box " ++ b.1++Yb " " ++ intS b.2
def deedS (d:Deed):Str:=Yb "deed " ++ d.name++Yb " " ++ intS d.price++needS d.need
def lookS (l:Look):Str:=Yb "look " ++ l.name++Yb " " ++ intS l.price++Yb " " ++ sh l.part
def xG (d:Deed):List Str:=deedS d::d.ways.map wayS
def rowsOf (W:Wd):List Str:=W.bs.map boxS++W.ds.flatMap xG++W.ls.map lookS++[Yb "begin " ++ sh W.bt,Yb "goal " ++ sh W.gt]
def textW (W:Wd):Str:=Txt.join (Yb "\n") (rowsOf W)
theorem qAd {n:Int}(h0:0<=n)(h1:n<2 ^ 1100):(intS n).length<=1000/\n.natAbs.log2<1920:=by
 have hn:n.natAbs<2 ^ 1100:=by
  have:(n.natAbs:Int)<2 ^ 1100:=by rw[Int.natAbs_of_nonneg h0];exact h1
  exact_mod_cast this
 constructor
 .have e:n=((n.natAbs:Nat):Int):=(Int.natAbs_of_nonneg h0).symm
  unfold intS
  rw[e,qJe,zR]
  show(((Nat.toDigits 10 n.natAbs).map Char.toNat).toArray).toList.length<=1000
  rw[List.toList_toArray,yYC]
  have h2:=(Nat.length_toDigits_le_iff (b:=10) (k:=1000) (by decide) (by decide)).mpr (yZC hn (show 2 ^ 1100<=10 ^ 1000 by wtm_at"d"))
  exact h2
 .by_cases z:n.natAbs=0
  .rw[z];decide
  .exact Nat.lt_trans ((Nat.log2_lt z).mpr hn) (by decide)
theorem qCc {t:Th}(h:Shw t)(d:t.dep<=6):(needS t).length<=7004:=by
 have:=qSx h d
 cases t with
 | nul k=>exact yZE _
 | num n=>show(Yb " if " ++ sh (.num n)).length<=_;rw[xI];show 4+_<=_;omega
 | box n=>show(Yb " if " ++ sh (.box n)).length<=_;rw[xI];show 4+_<=_;omega
 | un k n=>show(Yb " if " ++ sh (.un k n)).length<=_;rw[xI];show 4+_<=_;omega
 | bin k n m=>show(Yb " if " ++ sh (.bin k n m)).length<=_;rw[xI];show 4+_<=_;omega
theorem xAk {c:Str×Th}(h1:c.1.length<=100)(h:Shw c.2)(d:c.2.dep<=3):(chS c).length<=1000:=by
 have:=qAw h d
 unfold chS
 rw[xI,xI,xI]
 show 1+c.1.length+4+(sh c.2).length<=1000
 omega
structure ShWay (wy:List (Str×Th)):Prop where
 le:wy.length<=6
 ok:∀c∈wy,c.1.length<=100/\Shw c.2/\c.2.dep<=3
theorem qWw {wy:List (Str×Th)}(h:ShWay wy):((wy.map chS).map (·.length)).sum+(wy.map chS).length * (Yb ",").length<=6006:=by
 have h1:=xJn (ws:=wy.map chS) (m:=1000) fun w hw=>by
  obtain⟨c,hc,rfl⟩:=yYP.mp hw
  obtain⟨a,b,d⟩:=h.ok c hc
  exact xAk a b d
 have h2:=h.le
 rw[yYC] at h1 ⊢
 rw[show(Yb ",").length=1 from rfl]
 omega
theorem qGw {wy:List (Str×Th)}(h:ShWay wy):(wayS wy).length<=6009:=by
 have h1:=qJd (Yb ",") (wy.map chS)
 have h2:=qWw h
 unfold wayS
 rw[xI]
 show 3+_<=_
 omega
structure ShW (W:Wd):Prop where
 ok:WOk W
 d2:W.ds.length<=8
 l3:W.ls.length<=6
theorem xXo {ws xs:List Str}(nd:ws.Nodup)(h:∀x∈ws,x∈xs):ws.length<=xs.length:=by
 induction ws generalizing xs with
 | nil=>exact yZE _
 | cons x ws ih=>
  have nd':=List.nodup_cons.mp nd
  have hx:=h x yYG
  have h1:=ih (xs:=xs.erase x) nd'.2 fun y hy=>(List.mem_erase_of_ne (fun e:y=x=>nd'.1 (by rw[<- e];exact hy))).mpr (h y (yYH _ hy))
  rw[List.length_erase_of_mem hx] at h1
  have h2:=List.length_pos_of_mem hx
  rw[yYS];omega
section
variable {W:Wd}
theorem ShW.names (h:ShW W):∀x∈W.ws,x.length<=8:=fun x hx=>(h.ok.named.sh x hx).2.hi
theorem ShW.way (h:ShW W){d:Deed}(hd:d∈W.ds){wy:List (Str×Th)}(hw:wy∈d.ways):ShWay wy:=by
 have o:=(h.ok.deeds d hd).ways wy hw
 refine⟨?_,fun c hc=>⟨yZH (h.names _ (o.ok c hc).1) (by decide),Shw.ofE h.names (o.ok c hc).2.1,o.sm c hc⟩⟩
 have h1:=xXo o.nd fun x hx=>by
  obtain⟨c,hc,rfl⟩:=yYP.mp hx
  exact(o.ok c hc).1
 rw[yYC] at h1
 have h2:=h.ok.b6
 have h3:W.ws.length=W.bs.length:=yYC _
 omega
theorem ShW.need (h:ShW W){d:Deed}(hd:d∈W.ds):Shw d.need:=Shw.ofC h.names (h.ok.deeds d hd).need
theorem ShW.part (h:ShW W){l:Look}(hl:l∈W.ls):Shw l.part:=Shw.ofE h.names (h.ok.looks l hl).part
theorem ShW.dname (h:ShW W){d:Deed}(hd:d∈W.ds):d.name.length<=100:=(h.ok.sh _ (Yn _ (yYP.mpr ⟨d,hd,rfl⟩))).1
theorem ShW.lname (h:ShW W){l:Look}(hl:l∈W.ls):l.name.length<=100:=(h.ok.sh _ (yYN _ (yYP.mpr ⟨l,hl,rfl⟩))).1
theorem ShW.size (h:ShW W){b:Str×Int}(hb:b∈W.bs):(intS b.2).length<=1000/\b.2.natAbs.log2<1920:=qAd (by have:=(h.ok.b25 b hb).1;omega) (Int.lt_of_le_of_lt (h.ok.b25 b hb).2 (by wtm_at"d"))
theorem ShW.bname (h:ShW W){b:Str×Int}(hb:b∈W.bs):b.1.length<=100:=yZH (h.names _ (yYP.mpr ⟨b,hb,rfl⟩)) (by decide)
theorem ShW.dprice (h:ShW W){d:Deed}(hd:d∈W.ds):(intS d.price).length<=1000/\d.price.natAbs.log2<1920:=qAd (by have:=(h.ok.deeds d hd).price;omega) (Int.lt_trans (h.ok.deeds d hd).hi (by wtm_at"d"))
theorem ShW.lprice (h:ShW W){l:Look}(hl:l∈W.ls):(intS l.price).length<=1000/\l.price.natAbs.log2<1920:=qAd (by have:=(h.ok.looks l hl).price;omega) (Int.lt_trans (h.ok.looks l hl).hi (by wtm_at"d"))
theorem xJg (h:ShW W){b:Str×Int}(hb:b∈W.bs):(boxS b).length<=9000:=by
 have h1:=(h.size hb).1
 have h2:=h.bname hb
 unfold boxS
 rw[xI,xI,xI]
 show 4+b.1.length+1+(intS b.2).length<=_
 omega
theorem qTl (h:ShW W){d:Deed}(hd:d∈W.ds):(deedS d).length<=9000:=by
 have h1:=(h.dprice hd).1
 have h2:=h.dname hd
 have h3:=qCc (h.need hd) (h.ok.deeds d hd).sm
 unfold deedS
 rw[xI,xI,xI,xI]
 show 5+d.name.length+1+(intS d.price).length+(needS d.need).length<=_
 omega
theorem qRo (h:ShW W){l:Look}(hl:l∈W.ls):(lookS l).length<=9000:=by
 have h1:=(h.lprice hl).1
 have h2:=h.lname hl
 have h3:=qAw (h.part hl) (h.ok.looks l hl).sm
 unfold lookS
 rw[xI,xI,xI,xI,xI]
 show 5+l.name.length+1+(intS l.price).length+1+(sh l.part).length<=_
 omega
theorem ShW.beg (h:ShW W):Shw W.bt:=Shw.ofC h.names h.ok.beg
theorem ShW.goal (h:ShW W):Shw W.gt:=Shw.ofC h.names h.ok.goal
theorem qAe {ds:List Deed}(h:∀d∈ds,d.ways.length<=4):(ds.flatMap xG).length<=5 * ds.length:=by
 induction ds with
 | nil=>exact yZB _
 | cons d ds ih=>
  have h1:=h d yYG
  have h2:=ih fun e he=>h e (yYH _ he)
  rw[List.flatMap_cons,yYI,yYS]
  have e:(xG d).length=d.ways.length+1:=by
   show(d.ways.map wayS).length+1=_
   rw[yYC]
  omega
theorem qHz (h:ShW W):(rowsOf W).length<=54:=by
 have h1:=qAe (ds:=W.ds) fun d hd=>(h.ok.deeds d hd).w4
 have h2:=h.d2
 have h3:=h.l3
 have h4:=h.ok.b6
 unfold rowsOf
 rw[yYI,yYI,yYI,yYC,yYC]
 show _+_+_+2<=54
 omega
theorem qBo (h:ShW W):∀r∈rowsOf W,r.length<=9000:=fun r hr=>by
 rcases yYR.mp hr with hr | hr
 .rcases yYR.mp hr with hr | hr
  .rcases yYR.mp hr with hr | hr
   .obtain⟨b,hb,rfl⟩:=yYP.mp hr
    exact xJg h hb
   .obtain⟨d,hd,hr⟩:=List.mem_flatMap.mp hr
    rcases yYK.mp hr with rfl | hr
    .exact qTl h hd
    .obtain⟨wy,hw,rfl⟩:=yYP.mp hr
     exact yZH (qGw (h.way hd hw)) (by decide)
  .obtain⟨l,hl,rfl⟩:=yYP.mp hr
   exact qRo h hl
 .rcases yYK.mp hr with rfl | hr
  .have:=wV h.beg h.ok.bsm
   rw[xI];show 6+_<=_;omega
  .rw[yYL.mp hr]
   have:=wV h.goal h.ok.gsm
   rw[xI];show 5+_<=_;omega
theorem qHx (h:ShW W):((rowsOf W).map (·.length)).sum+(rowsOf W).length * (Yb "\n").length<=1000000:=by
 have h1:=xJn (qBo h)
 have h2:=qHz h
 rw[show(Yb "\n").length=1 from rfl]
 omega
end
theorem qWm:xM ["need"] ["need"] (xA (top 42)):=by constructor <;> first | rfl | wtm_at"d"
def spNeed:Sp:=fun vs H Q _=>∃(t:Th) (v:V),vs=[v]/\t.At H v/\Shw t/\t.dep<=6/\∀H',Same H H'->Q (.str (needS t)) H'
theorem xWl (F:Fd K mg "shown_need" (top 42) ["need"])(ji:Dn P w K mg base "shown_thing" 9 ["thing"] (qXf 8))(jo:Gs K mg "YES" ["yes"]):Dn P w K mg base "shown_need" 10 ["need"] spNeed:=by
 refine F.ok qWm (fun vs H Q E h=>?_) (fun f zx A outer s H vs Q E hr h=>?_)
 .obtain⟨_,_,rfl,_⟩:=h
  rfl
 obtain⟨t,v,rfl,at',sw,h6,q⟩:=h
 refine⟨_,(qJ (qN (vF (qR (qPm (K:=K) hr.units) (pv 0) (qPf jo) (xD _)) qF (xQ jQ qF (qD ji hr (qQ (pv 0) qX)))))),?_⟩
 have l6:=qSx sw h6
 wtm_at"z"
 intro p hp
 have head:∃a k us,v=.ref a/\H a=some (.tup (.str k::us))/\((t=.nul "yes" /\ k = "yes" /\ us=[])\/((decide (k = "yes") && us.isEmpty)=false/\needS t=Yb " if " ++ sh t)):=by
  cases t with
  | num n=>obtain⟨a,e,ea⟩:=at';exact⟨a,_,_,e,ea,.inr ⟨by rw[List.isEmpty_cons,Bool.and_false],rfl⟩⟩
  | box n=>obtain⟨a,e,ea⟩:=at';exact⟨a,_,_,e,ea,.inr ⟨by rw[List.isEmpty_cons,Bool.and_false],rfl⟩⟩
  | nul k=>obtain⟨a,e,ea⟩:=at';cases(show k = "yes" from sw);exact⟨a,_,_,e,ea,.inl ⟨rfl,rfl,rfl⟩⟩
  | un k b=>obtain⟨a,u,e,ea,_⟩:=at';exact⟨a,_,_,e,ea,.inr ⟨by rw[List.isEmpty_cons,Bool.and_false],rfl⟩⟩
  | bin k b c=>obtain⟨a,u,u2,e,ea,_⟩:=at';exact⟨a,_,_,e,ea,.inr ⟨by rw[List.isEmpty_cons,Bool.and_false],rfl⟩⟩
 obtain⟨a,k,us,rfl,ea,hc⟩:=head
 refine⟨a,p,k,us,"yes",rfl,rfl,SqT.of ea,hp,?_⟩
 rcases hc with⟨rfl,rfl,rfl⟩ | ⟨hc,en⟩
 .wtm_at"z"
  refine yB rfl ?_
  wtm_at"z"
  exact q H (Same.refl _)
 .wtm_at"z"
  refine zQ hc ?_
  wtm_at"z"
  refine⟨t,_,rfl,at',sw,by omega,by omega,fun H' S=>?_⟩
  refine⟨_,_,rfl,rfl,xH (by show 4+(sh t).length<=_;omega),?_⟩
  rw[en] at q
  exact q H' S
theorem qBi:xM ["way"] ["way"] (xA (top 43)):=by constructor <;> first | rfl | wtm_at"d"
theorem vM:CompOk (xA (top 43)) ["way"] (scAt (xB (top 43)) [0] [1,1]) ["name","expression"] 2 []:=
 by constructor <;> wtm_at"d"
def spSWay:Sp:=fun vs H Q _=>∃(wy:List (Str×Th)) (v:V),vs=[v]/\WayIn H wy v/\ShWay wy/\∀H',Same H H'->Q (.str (wayS wy)) H'
theorem xWe (F:Fd K mg "shown_way" (top 43) ["way"])(ji:Dn P w K mg base "shown_thing" 9 ["thing"] (qXf 8)):Dn P w K mg base "shown_way" 10 ["way"] spSWay:=by
 refine F.ok qBi (fun vs H Q E h=>?_) (fun f zx A outer s H vs Q E hr h=>?_)
 .obtain⟨_,_,rfl,_⟩:=h
  rfl
 obtain⟨wy,v,rfl,⟨a,us,rfl,ea,pu⟩,sw,q⟩:=h
 refine⟨_,(qJ (qN (xQ jQ qF (zX (K:=K) YU PySem.F.slot_str_join PySem.F.type_str_join qAv qF (qQ (zI rfl vM (qU (K:=K) (pv 0)) (fun cl fp s H=>(jF (K:=K) (n:=2) rfl (qH (qG (i:=0) vM.nd rfl (Or.inl rfl) (.inr rfl)) (qH (qG (i:=1) vM.nd rfl (Or.inl rfl) (.inr rfl)) qI)))) (fun cl fp s H=>zF) (fun cl fp s H=>(xQ jQ (qQg (.cons qF (.cons (qHc (pv 0)) (.cons qF .nil)))) (qD ji hr (qQ (pv 1) qX))))) qX))))),?_⟩
 have lu:=pu.length
 have l6:=sw.le
 wtm_at"z"
 refine qNm ?_
 wtm_at"z"
 refine⟨a,rfl,⟨us,SqL.of ea⟩,?_⟩
 refine zV (xs:=us) (fun D i ys H'=>ys=strsV ((wy.take i).map chS)/\∀b o,H b=some o->H' b=some o) (fun D hD=>⟨rfl,qV hD _⟩) (fun D i ys H' _ hP=>SqL.of (hP.2 _ _ ea)) (fun D i x ys H' N hD hDy ex hP hN=>?_) (fun D ys H3 hD hDy hP=>?_)
 .obtain⟨rfl,hk⟩:=hP
  obtain⟨c,ec⟩:∃c,wy[i]? = some c:=⟨_,yYA (by rw[lu];exact(yYB.mp ex).1)⟩
  obtain⟨ca,cv,rfl,eca,cat⟩:=xK pu ec ex
  obtain⟨k1,k2,k3⟩:=sw.ok c (yYE ec)
  have l3:=qAw k2 k3
  have S3:Same H H':=hk
  refine⟨ca,_,rfl,SqT.of (hk _ _ eca),rfl,_,_,rfl,_,_,rfl,rfl,⟨[some (.str c.1),some cv],rfl,rfl⟩,?_⟩
  have e0:Str.empty.length=0:=rfl
  have e1:(Yb " ").length=1:=rfl
  have e2:(Yb " := ").length=4:=rfl
  refine⟨_,rfl,xH (by (try simp only[xI]);omega),_,rfl,_,rfl,xH (by omega),_,rfl,xH (by (try simp only[xI]);omega),_,rfl,xH (by (try simp only[xI]);omega),xH (by (try simp only[xI]);omega),?_⟩
  refine⟨_,rfl,c.2,cv,rfl,cat.mono (qC S3),k2,by omega,by omega,fun H4 S4=>?_⟩
  refine⟨_,_,rfl,rfl,xH (by (try simp only[xI]);omega),S4 _ _ hDy,small (by rw[xW,yYC,yYF];omega),hN _ _ qW ⟨?_,fun b o e=>?_⟩⟩
  .rw[yYM,ec,yYU,xR,qXq];rfl
  .rw[qA (qB e hD)];exact S4 _ _ (hk _ _ e)
 obtain⟨rfl,hk⟩:=hP
 rw[<- lu,yYJ] at hDy
 wtm_at"z"
 refine⟨_,D,_,rfl,rfl,hDy,yZH (qWw sw) (by decide),?_⟩
 refine⟨_,_,rfl,rfl,xH ?_,q H3 hk⟩
 have h1:=qJd (Yb ",") (wy.map chS)
 have h2:=qWw sw
 show 3+_<=_
 omega
theorem zA:xM ["world","rows","name","price","need","ways","expression"] ["world"] (xA (top 39)):=by constructor <;> first | rfl | wtm_at"d"
theorem kB:CompOk (xA (top 39)) ["world","rows","name","price","need","ways","expression"] (scAt (xB (top 39)) [0] []) ["name","size"] 2 []:=
 by constructor <;> wtm_at"d"
theorem wA:CompOk (xA (top 39)) ["world","rows","name","price","need","ways","expression"] (scAt (xB (top 39)) [1,1] [1]) ["way"] 1 []:=
 by constructor <;> wtm_at"d"
def qGf:Sp:=fun vs H Q _=>∃(W:Wd) (p bx dx lx:Addr) (bv gv:V),vs=[.ref p]/\H p=some (.tup [.ref bx,.ref dx,.ref lx,bv,gv])/\WAt H W bx dx lx bv gv/\ShW W/\∀H',Same H H'->Q (.str (textW W)) H'
theorem qTj (F:Fd K mg "shown_world" (top 39) ["world"])(B:Bl mg)(JY:Dn P w K mg base "shown_need" 10 ["need"] spNeed)(Jv:Dn P w K mg base "shown_way" 10 ["way"] spSWay)
  (ji:Dn P w K mg base "shown_thing" 9 ["thing"] (qXf 8)):Dn P w K mg base "shown_world" 11 ["world"] qGf:=by
 refine F.ok zA (fun vs H Q E h=>?_) (fun f zx A outer s H vs Q E hr h=>?_)
 .obtain⟨_,_,_,_,_,_,_,rfl,_⟩:=h
  rfl
 obtain⟨W,p,bx,dx,lx,bv,gv,rfl,ep,at',sw,q⟩:=h
 obtain⟨bu,ebx,pb⟩:=at'.boxes
 obtain⟨du,edx,pd⟩:=at'.deeds
 obtain⟨lu,elx,pl⟩:=at'.looks
 have b6:=sw.ok.b6
 have d8:=sw.d2
 have l6:=sw.l3
 have e0:Str.empty.length=0:=rfl
 have e1:(Yb " ").length=1:=rfl
 have e2:(Yb "box ").length=4:=rfl
 have e3:(Yb "deed ").length=5:=rfl
 have e4:(Yb "look ").length=5:=rfl
 have e5:(Yb "begin ").length=6:=rfl
 have e6:(Yb "goal ").length=5:=rfl
 refine⟨_,(qZ (yD (i:=1) zA.nd rfl (by wtm_at "zo") rfl kB (qU (K:=K) (xE (qS (K:=K)) (pv 0) qE)) (fun cl fp s H=>(jF (K:=K) (n:=2) rfl (qH (qG (i:=0) kB.nd rfl (Or.inl rfl) (.inr rfl)) (qH (qG (i:=1) kB.nd rfl (Or.inl rfl) (.inr rfl)) qI)))) (fun cl fp s H=>zF) (fun cl fp s H=>(qQg (.cons qF (.cons (qHc (pv 0)) (.cons qF (.cons (qEm (pv 1)) .nil)))))))
  (qZ (zH PassesOwn.never rfl (qU (K:=K) (xE (qS (K:=K)) (pv 0) qE)) (jF (K:=K) (n:=4) rfl (qH (qG (i:=2) zA.nd rfl (by wtm_at "zo")) (qH (qG (i:=3) zA.nd rfl (by wtm_at "zo")) (qH (qG (i:=4) zA.nd rfl (by wtm_at "zo")) (qH (qG (i:=5) zA.nd rfl (by wtm_at "zo")) qI))))) (qZ (qP (zX (K:=K) Yy Yz YT xO (pv 1) (qQ (xQ jQ (qQg (.cons qF (.cons (qHc (pv 2)) (.cons qF (.cons (qEm (pv 3)) .nil))))) (qD JY hr (qQ (pv 4) qX))) qX)))
  (qJ (qP (zX (K:=K) Yy PySem.F.slot_list_extend PySem.F.type_list_extend qKj (pv 1) (qQ (zI rfl wA (qU (K:=K) (pv 5)) (fun cl fp s H=>(qG (i:=0) wA.nd rfl (Or.inl rfl) (.inr rfl))) (fun cl fp s H=>zF) (fun cl fp s H=>(qD Jv hr (qQ (pv 0) qX)))) qX))))))
  (qZ (zH PassesOwn.never rfl (qU (K:=K) (xE (qS (K:=K)) (pv 0) qE)) (jF (K:=K) (n:=3) rfl (qH (qG (i:=2) zA.nd rfl (by wtm_at "zo")) (qH (qG (i:=3) zA.nd rfl (by wtm_at "zo")) (qH (qG (i:=6) zA.nd rfl (by wtm_at "zo")) qI)))) (qJ (qP (zX (K:=K) Yy Yz YT xO (pv 1) (qQ (xQ jQ (qQg (.cons qF (.cons (qHc (pv 2)) (.cons qF (.cons (qEm (pv 3)) (.cons qF .nil)))))) (qD ji hr (qQ (pv 6) qX))) qX)))))
  (qZ (qP (zX (K:=K) Yy Yz YT xO (pv 1) (qQ (xQ jQ qF (qD ji hr (qQ (xE (qS (K:=K)) (pv 0) qE) qX))) qX)))
  (qZ (qP (zX (K:=K) Yy Yz YT xO (pv 1) (qQ (xQ jQ qF (qD ji hr (qQ (xE (qS (K:=K)) (pv 0) qE) qX))) qX)))
  (qJ (qN (zX (K:=K) YU PySem.F.slot_str_join PySem.F.type_str_join qAv qF (qQ (pv 1) qX))))))))),?_⟩
 wtm_at "zf"
 refine⟨bx,rfl,⟨bu,SqL.of ebx⟩,?_⟩
 refine zV (xs:=bu) (fun D i ys H'=>ys=strsV ((W.bs.take i).map boxS)/\∀b o,H b=some o->H' b=some o) (fun D hD=>⟨rfl,qV hD _⟩) (fun D i ys H' _ hP=>SqL.of (hP.2 _ _ ebx)) (fun D i x ys H' N hD hDy ex hP hN=>?_) (fun D ys H1 nD eD hP=>?_)
 .obtain⟨rfl,hk⟩:=hP
  obtain⟨c,ec⟩:∃c,W.bs[i]? = some c:=⟨_,yYA (by rw[pb.length];exact(yYB.mp ex).1)⟩
  obtain⟨ca,rfl,eca⟩:=xK pb ec ex
  have hm:=yYE ec
  have k1:=sw.bname hm
  have k2:=sw.size hm
  have k3:=k2.1
  unfold intS at k3
  refine⟨ca,_,rfl,SqT.of (hk _ _ eca),rfl,_,_,rfl,_,_,rfl,rfl,⟨[some (.str c.1),some (.int c.2)],rfl,rfl⟩,?_⟩
  refine⟨_,rfl,xH (by (try simp only[xI]);omega),_,rfl,_,rfl,xH (by omega),_,rfl,xH (by (try simp only[xI]);omega),_,rfl,xH (by (try simp only[xI]);omega),_,rfl,_,rfl,k2.2,_,rfl,xH (by (try simp only[xI]);omega),xH (by (try simp only[xI]);omega),hDy,small (by rw[xW,yYC,yYF];omega),hN _ _ qW ⟨?_,fun b o e=>?_⟩⟩
  .rw[yYM,ec,yYU,xR,qXq];rfl
  .rw[qA (qB e hD)];exact hk _ _ e
 obtain⟨rfl,hk1⟩:=hP
 have S1:Same H H1:=hk1
 rw[<- pb.length,yYJ] at eD
 wtm_at "zf"
 refine⟨dx,rfl,⟨du,SqL.of (S1 _ _ edx)⟩,?_⟩
 refine zN (xs:=du) (fun i σ' H'=>∃z2 z3 z4 z5:Option V,σ'=[some (.ref p),some (.ref D),z2,z3,z4,z5,none]/\H' D=some (.lst (strsV (W.bs.map boxS++(W.ds.take i).flatMap xG)))/\Same H H') ⟨none,none,none,none,rfl,by rw[List.take_zero,List.flatMap_nil,Yr];exact eD,S1⟩
  (fun i σ' H' _ hP=>?_) (fun N rt bk i x σ' H' ex hP hN=>?_) (fun σ' H2 hP=>?_)
 .obtain⟨_,_,_,_,_,_,S⟩:=hP
  exact SqL.of (S _ _ edx)
 .obtain⟨z2,z3,z4,z5,rfl,eD',S'⟩:=hP
  obtain⟨d,ed⟩:∃c,W.ds[i]? = some c:=⟨_,yYA (by rw[pd.length];exact(yYB.mp ex).1)⟩
  have hm:=yYE ed
  have dok:=sw.ok.deeds d hm
  obtain⟨da,nv,wa,wu,rfl,eda0,nat0,ewa0,pw⟩:=xK pd ed ex
  have eda:=S' _ _ eda0
  have nat:=nat0.mono (qC S')
  have k1:=sw.dname hm
  have k2:=sw.dprice hm
  have k3:=k2.1
  have k4:=qCc (sw.need hm) dok.sm
  have w4:=dok.w4
  have fl:=qAe (ds:=W.ds.take i) fun d hd=>(sw.ok.deeds d (Yt hd)).w4
  have fl2:(W.ds.take i).length<=8:=by rw[yYF];omega
  have cl:(strsV (W.bs.map boxS++(W.ds.take i).flatMap xG)).length<=50:=by rw[xW,yYI,yYC];omega
  unfold intS at k3
  wtm_at"z"
  refine kP (SqL.of eD') ?_
  wtm_at"z"
  refine⟨_,rfl,xH (by (try simp only[xI]);omega),_,rfl,_,rfl,xH (by omega),_,rfl,xH (by (try simp only[xI]);omega),_,rfl,xH (by (try simp only[xI]);omega),_,rfl,_,rfl,k2.2,_,rfl,xH (by (try simp only[xI]);omega),xH (by (try simp only[xI]);omega),?_⟩
  wtm_at"z"
  refine⟨d.need,nv,rfl,nat,sw.need hm,dok.sm,fun H3 S3=>?_⟩
  refine⟨_,_,rfl,rfl,xH (by (try simp only[xI]);omega),?_⟩
  wtm_at"z"
  refine jG (S3 _ _ eD') (small (by omega)) ?_
  have S4:Same H (upd H3 D (.lst (strsV (W.bs.map boxS++(W.ds.take i).flatMap xG)++[V.str (Str.empty++Yb "deed " ++ d.name++Yb " " ++ Yb (toString d.price)++needS d.need)]))):=(S'.trans S3).set nD
  have eD4:upd H3 D (.lst (strsV (W.bs.map boxS++(W.ds.take i).flatMap xG)++[V.str (Str.empty++Yb "deed " ++ d.name++Yb " " ++ Yb (toString d.price)++needS d.need)])) D=some (.lst (strsV (W.bs.map boxS++(W.ds.take i).flatMap xG++[deedS d]))):=by
   rw[qW,vT,qXq];rfl
  generalize upd H3 D (.lst (strsV (W.bs.map boxS++(W.ds.take i).flatMap xG)++[V.str (Str.empty++Yb "deed " ++ d.name++Yb " " ++ Yb (toString d.price)++needS d.need)]))=H4 at S4 eD4 ⊢
  wtm_at"z"
  refine kP (SqL.of eD4) ?_
  wtm_at"z"
  refine qNm ?_
  wtm_at"z"
  refine⟨wa,rfl,⟨wu,SqL.of (S4 _ _ ewa0)⟩,?_⟩
  refine zV (xs:=wu) (fun D2 i ys H'=>ys=strsV ((d.ways.take i).map wayS)/\∀b o,H4 b=some o->H' b=some o) (fun D hD=>⟨rfl,qV hD _⟩) (fun D2 i ys H' _ hP=>SqL.of (hP.2 _ _ (S4 _ _ ewa0))) (fun D2 j x ys H' N hD hDy ex2 hP hN=>?_) (fun D2 ys H5 nD2 eD2 hP=>?_)
  .obtain⟨rfl,hk⟩:=hP
   obtain⟨wy,ew⟩:∃c,d.ways[j]? = some c:=⟨_,yYA (by rw[pw.length];exact(yYB.mp ex2).1)⟩
   have Sk:Same H4 H':=hk
   have wi:=(xK pw ew ex2).same (S4.trans Sk)
   refine⟨⟨[some x],rfl,rfl⟩,?_⟩
   refine⟨_,rfl,wy,x,rfl,wi,sw.way hm (yYE ew),fun H6 S6=>?_⟩
   refine⟨S6 _ _ hDy,small (by rw[xW,yYC,yYF];omega),hN _ _ qW ⟨?_,fun b o e=>?_⟩⟩
   .rw[yYM,ew,yYU,xR];rfl
   .rw[qA (qB e hD)];exact S6 _ _ (hk _ _ e)
  obtain⟨rfl,hk⟩:=hP
  rw[<- pw.length,yYJ] at eD2
  wtm_at"z"
  refine⟨D,D2,_,_,rfl,rfl,hk _ _ eD4,eD2,?_,?_⟩
  .rw[xW,xW,yYC,yYI]
   rw[xW] at cl
   show _+1+_<=Yc
   exact xH (by omega)
  .refine hN _ _ ⟨_,_,_,_,rfl,?_,(S4.trans (show Same H4 H5 from hk)).set nD⟩
   rw[qW,<- xR,yYM,ed,List.flatMap_append,yYQ,yYQ]
   show some (HO.lst (strsV (W.bs.map boxS++((W.ds.take i).flatMap xG++([deedS d]++d.ways.map wayS)))))=some (HO.lst (strsV (W.bs.map boxS++((W.ds.take i).flatMap xG++(xG d++[])))))
   rw[Yr];rfl
 obtain⟨z2,z3,z4,z5,rfl,eD2,S2⟩:=hP
 rw[<- pd.length,yYJ] at eD2
 have fl:=qAe (ds:=W.ds) fun d hd=>(sw.ok.deeds d hd).w4
 wtm_at "zf"
 refine⟨lx,rfl,⟨lu,SqL.of (S2 _ _ elx)⟩,?_⟩
 refine zN (xs:=lu) (fun i σ' H'=>∃z2 z3 z4 z5 z6:Option V,σ'=[some (.ref p),some (.ref D),z2,z3,z4,z5,z6]/\H' D=some (.lst (strsV (W.bs.map boxS++W.ds.flatMap xG++(W.ls.take i).map lookS)))/\Same H H') ⟨z2,z3,z4,z5,none,rfl,by rw[List.take_zero,List.map_nil,Yr];exact eD2,S2⟩
  (fun i σ' H' _ hP=>?_) (fun N rt bk i x σ' H' ex hP hN=>?_) (fun σ' H3 hP=>?_)
 .obtain⟨_,_,_,_,_,_,_,S⟩:=hP
  exact SqL.of (S _ _ elx)
 .obtain⟨z2,z3,z4,z5,z6,rfl,eD',S'⟩:=hP
  obtain⟨d,ed⟩:∃c,W.ls[i]? = some c:=⟨_,yYA (by rw[pl.length];exact(yYB.mp ex).1)⟩
  have hm:=yYE ed
  have dok:=sw.ok.looks d hm
  obtain⟨da,nv,rfl,eda0,nat0⟩:=xK pl ed ex
  have eda:=S' _ _ eda0
  have nat:=nat0.mono (qC S')
  have k1:=sw.lname hm
  have k2:=sw.lprice hm
  have k3:=k2.1
  have k4:=qAw (sw.part hm) dok.sm
  have k5:=dok.sm
  have cl:(strsV (W.bs.map boxS++W.ds.flatMap xG++(W.ls.take i).map lookS)).length<=60:=by rw[xW,yYI,yYI,yYC,yYC,yYF];omega
  unfold intS at k3
  wtm_at"z"
  refine kP (SqL.of eD') ?_
  wtm_at"z"
  refine⟨_,rfl,xH (by (try simp only[xI]);omega),_,rfl,_,rfl,xH (by omega),_,rfl,xH (by (try simp only[xI]);omega),_,rfl,xH (by (try simp only[xI]);omega),_,rfl,_,rfl,k2.2,_,rfl,xH (by (try simp only[xI]);omega),_,rfl,xH (by (try simp only[xI]);omega),xH (by (try simp only[xI]);omega),?_⟩
  wtm_at"z"
  refine⟨d.part,nv,rfl,nat,sw.part hm,by omega,by omega,fun H4 S4=>?_⟩
  refine⟨_,_,rfl,rfl,xH (by (try simp only[xI]);omega),?_⟩
  wtm_at"z"
  refine jG (S4 _ _ eD') (small (by omega)) ?_
  refine hN _ _ ⟨_,_,_,_,_,rfl,?_,(S'.trans S4).set nD⟩
  rw[qW,vT,qXq,yYM,ed,yYU,<- yYQ]
  rfl
 obtain⟨z2,z3,z4,z5,z6,rfl,eD3,S3⟩:=hP
 rw[<- pl.length,yYJ] at eD3
 have cl:(strsV (W.bs.map boxS++W.ds.flatMap xG++W.ls.map lookS)).length<=60:=by rw[xW,yYI,yYI,yYC,yYC];omega
 have ep3:=S3 _ _ ep
 have l7:=wV sw.beg sw.ok.bsm
 have l8:=wV sw.goal sw.ok.gsm
 have bs6:=sw.ok.bsm
 have gs6:=sw.ok.gsm
 wtm_at"z"
 refine kP (SqL.of eD3) ?_
 wtm_at"z"
 refine⟨W.bt,bv,rfl,at'.beg.mono (qC S3),sw.beg,by omega,by omega,fun H4 S4=>?_⟩
 refine⟨_,_,rfl,rfl,xH (by omega),?_⟩
 wtm_at"z"
 refine jG (S4 _ _ eD3) (small (by omega)) ?_
 have S5:Same H (upd H4 D (.lst (strsV (W.bs.map boxS++W.ds.flatMap xG++W.ls.map lookS)++[V.str (Yb "begin " ++ sh W.bt)]))):=(S3.trans S4).set nD
 have eD5:upd H4 D (.lst (strsV (W.bs.map boxS++W.ds.flatMap xG++W.ls.map lookS)++[V.str (Yb "begin " ++ sh W.bt)])) D=some (.lst (strsV (W.bs.map boxS++W.ds.flatMap xG++W.ls.map lookS++[Yb "begin " ++ sh W.bt]))):=by rw[qW,vT]
 generalize upd H4 D (.lst (strsV (W.bs.map boxS++W.ds.flatMap xG++W.ls.map lookS)++[V.str (Yb "begin " ++ sh W.bt)]))=H5 at S5 eD5 ⊢
 have ep5:=S5 _ _ ep
 wtm_at"z"
 refine kP (SqL.of eD5) ?_
 wtm_at"z"
 refine⟨W.gt,gv,rfl,at'.goal.mono (qC S5),sw.goal,by omega,by omega,fun H6 S6=>?_⟩
 refine⟨_,_,rfl,rfl,xH (by omega),?_⟩
 wtm_at"z"
 refine jG (S6 _ _ eD5) (small (by rw[xW,yYI,<- xW];show _+1<=_;omega)) ?_
 have S7:Same H (upd H6 D (.lst (strsV (W.bs.map boxS++W.ds.flatMap xG++W.ls.map lookS++[Yb "begin " ++ sh W.bt])++[V.str (Yb "goal " ++ sh W.gt)]))):=(S5.trans S6).set nD
 have eD7:upd H6 D (.lst (strsV (W.bs.map boxS++W.ds.flatMap xG++W.ls.map lookS++[Yb "begin " ++ sh W.bt])++[V.str (Yb "goal " ++ sh W.gt)])) D=some (.lst (strsV (rowsOf W))):=by
  unfold rowsOf
  rw[qW,vT,yYQ]
  rfl
 generalize upd H6 D (.lst (strsV (W.bs.map boxS++W.ds.flatMap xG++W.ls.map lookS++[Yb "begin " ++ sh W.bt])++[V.str (Yb "goal " ++ sh W.gt)]))=H7 at S7 eD7 ⊢
 wtm_at"z"
 exact⟨_,D,_,rfl,rfl,eD7,qHx sw,q H7 S7⟩
def But1 (p:Addr)(H H':Hp):Prop:=∀b o,b≠p->H b=some o->H' b=some o
def wrap (l:Str)(a:List Str)(m:Str)(b:List Str)(r:Str):List Str:=l::(a++m::(b++[r]))
def midw (a:List Str)(m:Str)(b:List Str):List Str:=a++m::b
def wds:Th->List Str
 | .num n=>[numS n]
 | .box x=>[x]
 | .nul _=>["yes"]
 | .un _ a => "not" :: wds a
 | .bin k a b=>
  if k = "plus" then wrap "(" (wds a) "+" (wds b) ")"
  else if k = "less" then wrap "(" (wds a) "-" (wds b) ")"
  else if k = "same" then midw (wds a) "=" (wds b)
  else if k = "under" then midw (wds a) "<" (wds b)
  else wrap "(" (wds a) "and" (wds b) ")"
def forms81:List (Str×Str×List Str):=[("plus","E",["(","E","+","E",")"]),("less","E",["(","E","-","E",")"]),("same","C",["E","=","E"]),("under","C",["E","<","E"]),("not","C",["not","C"]),("both","C",["(","C","and","C",")"])]
def signs81:List Str:=["(",")","+","-","=","<","not","and"]
abbrev Itm:=Str×Option Th
def kindR (sg:List Str):Option Str:=(forms81.find? fun e=>e.2.2.reverse.isPrefixOf sg).map (·.1)
def mkT (k:Str):List Th->Th
 | [a]=>.un k a
 | [a,b]=>.bin k a b
 | _=>.nul k
inductive Red:List Itm->List Itm->Prop
 | stop {S:List Itm} (h:kindR (S.map (·.1))=none):Red S S
 | step {S its:List Itm} {k c:Str} {ws:List Str} {S':List Itm} (h:kindR ((its++S).map (·.1))=some k) (hf:(k,c,ws)∈forms81) (he:its.map (·.1)=ws.reverse) (ht:its.filterMap (·.2)≠[]/\(its.filterMap (·.2)).length<=2) (r:Red ((c,some (mkT k (its.filterMap (·.2)).reverse))::S) S'):Red (its++S) S'
inductive Leaf:Str->Itm->Prop
 | yes:Leaf "yes" ("C",some (.nul "yes"))
 | sign {x:Str} (h:x∈signs81):Leaf x (x,none)
 | box {x:Str} (h:Word x) (h1:x ≠ "not") (h2:x ≠ "and") (h3:x ≠ "yes"):Leaf x ("E",some (.box x))
 | num {n:Int} (h0:0<=n) (h1:n<10):Leaf (numS n) ("E",some (.num n))
inductive Run:List Str->List Itm->List Itm->Prop
 | nil {S:List Itm}:Run [] S S
 | cons {x:Str} {ws:List Str} {i:Itm} {S S1 S2:List Itm} (l:Leaf x i) (r:Red (i::S) S1) (h:Run ws S1 S2):Run (x::ws) S S2
def Nam (x:Str):Prop:=Word x/\x ≠ "not" /\ x ≠ "and" /\ x ≠ "yes"
theorem Run.sg {x:Str}{ws:List Str}{S S2:List Itm}(h:x∈signs81)(k:kindR (x::S.map (·.1))=none)(r:Run ws ((x,none)::S) S2):Run (x::ws) S S2:=.cons (.sign h) (.stop k) r
theorem qQd {nm:List Str}(hn:∀x∈nm,Nam x){t:Th}(ht:Expr' nm t):∀{S S1 S2:List Itm} {ws:List Str},Red (("E",some t)::S) S1->Run ws S1 S2->Run (wds t++ws) S S2:=by
 induction t with
 | num n=>exact fun r h=>.cons (.num ht.1 ht.2) r h
 | box x=>exact fun r h=>.cons (.box (hn x ht).1 (hn x ht).2.1 (hn x ht).2.2.1 (hn x ht).2.2.2) r h
 | nul k=>exact ht.elim
 | un k a _=>exact ht.elim
 | bin k a b ha hb=>
  obtain⟨hk,h1,h2⟩:=ht
  intro S S1 S2 ws r h
  rcases hk with rfl | rfl
  .show Run (wrap "(" (wds a) "+" (wds b) ")" ++ ws) S S2
   simp only[wrap,List.cons_append,yYQ,List.nil_append]
   refine .sg (by decide) rfl (ha h1 (.stop rfl) (.sg (by decide) rfl (hb h2 (.stop rfl) (.cons (.sign (by decide)) ?_ h))))
   exact Red.step (its:=[((")" : Str),none),("E",some b),("+",none),("E",some a),("(",none)]) (k := "plus") (c := "E") (ws:=["(","E","+","E",")"]) rfl (by decide) rfl ⟨Ye _ _,by simp⟩ r
  .show Run (wrap "(" (wds a) "-" (wds b) ")" ++ ws) S S2
   simp only[wrap,List.cons_append,yYQ,List.nil_append]
   refine .sg (by decide) rfl (ha h1 (.stop rfl) (.sg (by decide) rfl (hb h2 (.stop rfl) (.cons (.sign (by decide)) ?_ h))))
   exact Red.step (its:=[((")" : Str),none),("E",some b),("-",none),("E",some a),("(",none)]) (k := "less") (c := "E") (ws:=["(","E","-","E",")"]) rfl (by decide) rfl ⟨Ye _ _,by simp⟩ r
def NoRel (S:List Itm):Prop:=kindR ("E" :: S.map (·.1))=none
theorem xXq {nm:List Str}(hn:∀x∈nm,Nam x){t:Th}(ht:Cond' nm t):∀{S S1 S2:List Itm} {ws:List Str},NoRel S->Red (("C",some t)::S) S1->Run ws S1 S2->Run (wds t++ws) S S2:=by
 induction t with
 | num n=>exact ht.elim
 | box x=>exact ht.elim
 | nul k=>
  have e:k = "yes" := ht
  subst e
  intro S S1 S2 ws _ r h
  exact .cons .yes r h
 | un k a ha=>
  obtain⟨rfl,h1⟩:=ht
  intro S S1 S2 ws _ r h
  exact .sg (by decide) rfl (ha h1 rfl (Red.step (its:=[(("C" : Str),some a),("not",none)]) (k := "not") (c := "C") (ws:=["not","C"]) rfl (by decide) rfl ⟨Ye _ _,by simp⟩ r) h)
 | bin k a b ha hb=>
  intro S S1 S2 ws nr r h
  rcases ht with⟨hk,h1,h2⟩ | ⟨rfl,h1,h2⟩
  .rcases hk with rfl | rfl
   .show Run (midw (wds a) "=" (wds b)++ws) S S2
    simp only[midw,List.cons_append,yYQ]
    refine qQd hn h1 (.stop nr) (.sg (by decide) rfl (qQd hn h2 ?_ h))
    exact Red.step (its:=[(("E" : Str),some b),("=",none),("E",some a)]) (k := "same") (c := "C") (ws:=["E","=","E"]) rfl (by decide) rfl ⟨Ye _ _,by simp⟩ r
   .show Run (midw (wds a) "<" (wds b)++ws) S S2
    simp only[midw,List.cons_append,yYQ]
    refine qQd hn h1 (.stop nr) (.sg (by decide) rfl (qQd hn h2 ?_ h))
    exact Red.step (its:=[(("E" : Str),some b),("<",none),("E",some a)]) (k := "under") (c := "C") (ws:=["E","<","E"]) rfl (by decide) rfl ⟨Ye _ _,by simp⟩ r
  .show Run (wrap "(" (wds a) "and" (wds b) ")" ++ ws) S S2
   simp only[wrap,List.cons_append,yYQ,List.nil_append]
   refine .sg (by decide) rfl (ha h1 rfl (.stop rfl) (.sg (by decide) rfl (hb h2 rfl (.stop rfl) (.cons (.sign (by decide)) ?_ h))))
   exact Red.step (its:=[((")" : Str),none),("C",some b),("and",none),("C",some a),("(",none)]) (k := "both") (c := "C") (ws:=["(","C","and","C",")"]) rfl (by decide) rfl ⟨Ye _ _,by simp⟩ r
theorem xXx {nm:List Str}(hn:∀x∈nm,Nam x){t:Th}(ht:Expr' nm t):Run (wds t) [] [("E",some t)]:=by
 have:=qQd hn ht (S:=[]) (S2:=[("E",some t)]) (ws:=[]) (.stop rfl) .nil
 rwa [Yr] at this
theorem qMj {nm:List Str}(hn:∀x∈nm,Nam x){t:Th}(ht:Cond' nm t):Run (wds t) [] [("C",some t)]:=by
 have:=xXq hn ht (S:=[]) (S2:=[("C",some t)]) (ws:=[]) rfl (.stop rfl) .nil
 rwa [Yr] at this
theorem vR (t:Th):wds t≠[]:=by
 cases t with
 | num n=>exact Ye _ _
 | box x=>exact Ye _ _
 | nul k=>exact Ye _ _
 | un k a=>exact Ye _ _
 | bin k a b=>
  unfold wds
  repeat' split
  all_goals first | exact Ye _ _ | exact fun z=>absurd (List.append_eq_nil_iff.mp z).2 (Ye _ _)
theorem jc {c:Nat}:∀{l m:List Str},l≠[]->m≠[]->(Txt.join ⟨#[c]⟩ (l++m)).cps.toList=(Txt.join ⟨#[c]⟩ l).cps.toList++c::(Txt.join ⟨#[c]⟩ m).cps.toList
 | [],_,h,_=>absurd rfl h
 | _,[],_,h=>absurd rfl h
 | [a],b::m,_,_=>by
  show(Txt.join ⟨#[c]⟩ (a::b::m)).cps.toList=_
  rw[tjoin,jC,tjoin ⟨#[c]⟩ (b::m)]
  rfl
 | a::d::l,b::m,_,_=>by
  show(Txt.join ⟨#[c]⟩ (a::d::(l++b::m))).cps.toList=_
  have ih:=jc (c:=c) (l:=d::l) (m:=b::m) (Ye _ _) (Ye _ _)
  rw[tjoin] at ih
  rw[tjoin,jC]
  have e:d::(l++b::m)=(d::l)++(b::m):=rfl
  rw[e,ih,tjoin ⟨#[c]⟩ (a::d::l),jC,tjoin ⟨#[c]⟩ (d::l),yYQ]
  rfl
theorem kW {c:Nat}:∀{L:List (List Str)},(∀l∈L,l≠[])->L≠[]->Txt.join ⟨#[c]⟩ (L.map (Txt.join ⟨#[c]⟩))=Txt.join ⟨#[c]⟩ L.flatten
 | [],_,h=>absurd rfl h
 | [A],_,_=>by
  show Txt.join ⟨#[c]⟩ [Txt.join ⟨#[c]⟩ A]=Txt.join ⟨#[c]⟩ (A++[])
  rw[Yr]
  rfl
 | A::B::L,hL,_=>by
  have ih:=kW (c:=c) (L:=B::L) (fun l hl=>hL l (yYH _ hl)) (Ye _ _)
  refine yP ?_
  show(Txt.join ⟨#[c]⟩ ([Txt.join ⟨#[c]⟩ A]++(B::L).map (Txt.join ⟨#[c]⟩))).cps.toList=(Txt.join ⟨#[c]⟩ (A++(B::L).flatten)).cps.toList
  have hB:(B::L).flatten≠[]:=fun z=>hL B (yYH _ (yYG ..)) (List.append_eq_nil_iff.mp z).1
  rw[jc (l:=[Txt.join ⟨#[c]⟩ A]) (m:=(B::L).map (Txt.join ⟨#[c]⟩)) (Ye _ _) (Ye _ _),ih,jc (hL A (yYG ..)) hB]
  rfl
theorem vA:∀{t:Th},Shw t->sh t=Txt.join ⟨#[32]⟩ (wds t):=by
 intro t
 induction t with
 | num n=>exact fun _=>rfl
 | box x=>exact fun _=>rfl
 | nul k=>exact fun _=>rfl
 | un k a ha=>
  rintro⟨rfl,h⟩
  show Txt.join (Yb " ") (fillW (formOf "not") [sh a])=_
  rw[xDj,yG,ha h]
  exact kW (c:=32) (L:=[(["not"]:List Str),wds a]) (by intro l hl;simp at hl;rcases hl with rfl | rfl;exact Ye _ _;exact vR _) (Ye _ _) |>.trans (congrArg _ (show [(["not"]:List Str),wds a].flatten=wds (.un "not" a) from by simp[wds]))
 | bin k a b ha hb=>
  rintro⟨hk,h1,h2⟩
  show Txt.join (Yb " ") (fillW (formOf k) [sh a,sh b])=_
  rw[yG,ha h1,hb h2]
  have ne:∀{x y z:Str} (l:List Str),l∈[[x],wds a,[y],wds b,[z]]->l≠[]:=fun l hl=>by
   simp at hl
   rcases hl with rfl | rfl | rfl | rfl | rfl
   all_goals first | exact Ye _ _ | exact vR _
  have ne3:∀{y:Str} (l:List Str),l∈[wds a,[y],wds b]->l≠[]:=fun l hl=>by
   simp at hl
   rcases hl with rfl | rfl | rfl
   all_goals first | exact Ye _ _ | exact vR _
  rcases hk with rfl | rfl | rfl | rfl | rfl
  .rw[xYd]
   exact(kW (c:=32) (L:=[(["("]:List Str),wds a,["+"],wds b,[")"]]) ne (Ye _ _)).trans (congrArg _ (show [(["("]:List Str),wds a,["+"],wds b,[")"]].flatten=wds (.bin "plus" a b) from by show _=wrap _ _ _ _ _;simp[wrap]))
  .rw[xYe]
   exact(kW (c:=32) (L:=[(["("]:List Str),wds a,["-"],wds b,[")"]]) ne (Ye _ _)).trans (congrArg _ (show [(["("]:List Str),wds a,["-"],wds b,[")"]].flatten=wds (.bin "less" a b) from by show _=wrap _ _ _ _ _;simp[wrap]))
  .rw[xYc]
   exact(kW (c:=32) (L:=[wds a,["="],wds b]) ne3 (Ye _ _)).trans (congrArg _ (show [wds a,(["="]:List Str),wds b].flatten=wds (.bin "same" a b) from by show _=midw _ _ _;simp[midw]))
  .rw[qTq]
   exact(kW (c:=32) (L:=[wds a,["<"],wds b]) ne3 (Ye _ _)).trans (congrArg _ (show [wds a,(["<"]:List Str),wds b].flatten=wds (.bin "under" a b) from by show _=midw _ _ _;simp[midw]))
  .rw[xYf]
   exact(kW (c:=32) (L:=[(["("]:List Str),wds a,["and"],wds b,[")"]]) ne (Ye _ _)).trans (congrArg _ (show [(["("]:List Str),wds a,["and"],wds b,[")"]].flatten=wds (.bin "both" a b) from by show _=wrap _ _ _ _ _;simp[wrap]))
theorem xKd (a b:List Nat):Y8 (a++b)=Y8 a * 10 ^ b.length+Y8 b:=by
 have key:∀(b:List Nat) (n:Nat),b.foldl (fun acc c=>acc * 10+(c - 48)) n=n * 10 ^ b.length+b.foldl (fun acc c=>acc * 10+(c - 48)) 0:=by
  intro b
  induction b with
  | nil=>intro n;simp
  | cons c b ih=>
   intro n
   rw[List.foldl_cons,List.foldl_cons,ih (n * 10+(c - 48)),ih (0 * 10+(c - 48)),yYS,Nat.pow_succ,Nat.add_mul,Nat.zero_mul,Nat.zero_add,Nat.add_assoc]
   congr 1
   rw[Nat.mul_assoc,Nat.mul_comm 10]
 unfold Y8
 rw[List.foldl_append,key b]
theorem qXx (n:Nat):(dec n).cps.toList=(Nat.toDigits 10 n).map Char.toNat:=by
 unfold dec
 rw[List.toList_toArray]
theorem qFi (n:Nat):Y8 (dec n).cps.toList=n:=by
 rw[qXx];exact PySem.W.KIN.val_back n
theorem qZx (n:Nat):PySem.NumText.AllDigits (dec n).cps.toList:=by
 intro c hc
 rw[qXx] at hc
 obtain⟨ch,hch,e⟩:=yYP.mp hc
 have r:=PyProof.Rows.digit_range (Nat.isDigit_of_mem_toDigits (by decide) (by decide) hch)
 rw[<- e]
 exact r
theorem qKe {n:Nat}(h:10<=n):Nat.toDigits 10 n=Nat.toDigits 10 (n / 10)++[Nat.digitChar (n % 10)]:=by
 have hm:n % 10<10:=Nat.mod_lt n (by decide)
 have t:Nat.toDigits 10 (n / 10)++Nat.toDigits 10 (n % 10)=Nat.toDigits 10 (10 * (n / 10)+n % 10):=Nat.toDigits_append_toDigits (by decide) (by omega) hm
 rw[Nat.div_add_mod] at t
 rw[<- t,Nat.toDigits_of_lt_base hm]
theorem qTe (n:Nat):1<=(Nat.toDigits 10 n).length:=by
 by_cases h:n<10
 .rw[Nat.toDigits_of_lt_base h];exact yZB 1
 .rw[qKe (by omega),yYI];show 1<=_+1;omega
theorem qTf:∀(k:Nat) {n:Nat},n<10 ^ (k+1)->(Nat.toDigits 10 n).length<=k+1
 | 0,n,h=>by
  rw[Nat.toDigits_of_lt_base (by simpa using h)]
  exact yZB 1
 | k+1,n,h=>by
  by_cases z:n<10
  .rw[Nat.toDigits_of_lt_base z]
   show 1<=k+1+1
   omega
  .rw[qKe (by omega),yYI]
   have:=qTf k (n:=n / 10) (by rw[Nat.div_lt_iff_lt_mul (by decide)];rw[Nat.pow_succ] at h;exact h)
   show _+1<=_
   omega
theorem qTg:∀{n:Nat},n≠0->(Nat.toDigits 10 n).head? ≠ some '0' := by
 intro n
 induction n using Nat.strongRecOn with
 | _ n ih=>
  intro h0
  by_cases z:n<10
  .rw[Nat.toDigits_of_lt_base z]
   have:∀m:Fin 10,m.val≠0->([Nat.digitChar m.val]:List Char).head? ≠ some '0' := by decide
   exact this ⟨n,z⟩ h0
  .rw[qKe (by omega)]
   have h1:=ih (n / 10) (by omega) (by omega)
   have l:=qTe (n / 10)
   cases e:Nat.toDigits 10 (n / 10) with
   | nil=>rw[e] at l;exact absurd l (by decide)
   | cons c r=>
    rw[e] at h1
    exact h1
theorem qTn (n:Nat):(dec n).length=(Nat.toDigits 10 n).length:=by
 rw[zR,qXx,yYC]
theorem xJw:dec 0=⟨#[48]⟩:=by wtm_at"d"
theorem xJa {n:Nat}(h:n≠0):(dec n).cps.toList.head? ≠ some 48:=by
 rw[qXx,List.head?_map]
 intro z
 obtain⟨c,hc,e⟩:=Zd.mp z
 refine qTg h (hc.trans (congrArg some ?_))
 have:c = '0' := Char.ext (UInt32.toNat_inj.mp e)
 exact this
structure FigsL (n:Nat):Prop where
 fig:∀c∈(dec n).cps.toList,48<=c/\c<=57
 lo:1<=(dec n).length
 hi:(dec n).length<=30
 zero:n≠0->(dec n).cps.toList.head? ≠ some 48
theorem figsL {n:Nat}(h:n<10 ^ 30):FigsL n:=⟨qZx n,by rw[qTn];exact qTe n,by rw[qTn];exact qTf 29 h,xJa⟩
theorem qSl {x:Str}{l:List Nat}(e:x.cps.toList=l)(h:PySem.NumText.AllDigits l)(h1:l≠[])(h2:l.length<=640):PySem.intText? x=some ((Y8 l:Nat):Int):=by
 subst e
 exact PySem.intText_digits h h1 (by rw[zR];omega)
theorem qZn:xM ["fits","reason"] ["fits","reason"] (xA (top 48)):=by constructor <;> first | rfl | wtm_at"d"
def jS:Sp:=fun vs H Q _=>∃r:Str,vs=[.bl true,.str r]/\Q .non H
theorem qTx (F:Fd K mg "refuse_unless" (top 48) ["fits","reason"]):Dn P w K mg base "refuse_unless" 1 ["fits","reason"] jS:=by
 refine F.ok qZn (fun vs H Q E h=>?_) (fun f zx A outer s H vs Q E hr h=>?_)
 .obtain⟨_,rfl,_⟩:=h
  rfl
 obtain⟨r,rfl,q⟩:=h
 refine⟨_,(qJ (zD (qQe (kH (pv 0))) (qJ yX) qY)),?_⟩
 wtm_at"z"
 exact q
theorem qMz:xM ["text"] ["text"] (xA (top 41)):=by constructor <;> first | rfl | wtm_at"d"
theorem qKi:CompOk (xA (top 41)) ["text"] (scAt (xB (top 41)) [0] [2,1]) ["sign"] 1 []:=
 by constructor <;> wtm_at"d"
def spWord:Sp:=fun vs H Q _=>∃x:Str,vs=[.str x]/\x.length<=10000/\((Word x/\∀H',Same H H'->Q (.bl true) H')\/(¬Word x/\∀H',Same H H'->Q (.bl false) H'))
theorem xWc (F:Fd K mg "is_word" (top 41) ["text"])(B:Bl mg)(vb:mg "all" = none)(yn:Gt mg "LETTERS" "abcdefghijklmnopqrstuvwxyz")(ky:Gi mg "MOST_LETTERS" 8):Dn P w K mg base "is_word" 1 ["text"] spWord:=by
 refine F.ok qMz (fun vs H Q E h=>?_) (fun f zx A outer s H vs Q E hr h=>?_)
 .obtain⟨_,rfl,_⟩:=h
  rfl
 obtain⟨x,rfl,lx,hx⟩:=h
 refine⟨_,(qJ (qN (qZa (zJ qMg (pv 0) qF (xD _)) (qZa (zJ xCb (xZ yO rfl B.len' jO (qQ (pv 0) qX)) (qXn ky) (xD _)) (qQf (xZ (qXa (K:=K) rfl) rfl vb qId (qQ (zI rfl qKi (xYq (pv 0)) (fun cl fp s H=>(qG (i:=0) qKi.nd rfl (Or.inl rfl) (.inr rfl))) (fun cl fp s H=>zF) (fun cl fp s H=>(zJ qCv (pv 0) (xBm yn) (by with_unfolding_all rfl)))) qX))))))),?_⟩
 wtm_at"z"
 by_cases n0:1<=x.length
 .rw[decide_eq_false (qRf n0)]
  refine iteNF ?_
  wtm_at"z"
  refine⟨x,rfl,xH (by omega),?_⟩
  wtm_at"z"
  by_cases n8:x.length<=8
  .rw[decide_eq_true (show((x.length:Nat):Int)<=8 by omega)]
   refine iteT ?_
   wtm_at "zf"
   refine⟨x,rfl,xJd (K:=K) lx fun D H2 S e=>?_⟩
   wtm_at"z"
   refine⟨D,_,rfl,SqL.of e,?_⟩
   rcases hx with⟨wx,q⟩ | ⟨wx,q⟩
   .rw[xKq.mpr (show∀c∈x.cps.toList,c∈(Yb "abcdefghijklmnopqrstuvwxyz").cps.toList from wx.abc)]
    exact q H2 S
   .have:(x.cps.toList.map fun c=>decide (c∈(Yb "abcdefghijklmnopqrstuvwxyz").cps.toList)).all id=false:=by
     rw[<- Bool.not_eq_true,xKq]
     exact fun z=>wx ⟨n0,n8,z⟩
    rw[this]
    exact q H2 S
  .rw[decide_eq_false (show¬(((x.length:Nat):Int)<=8) by omega)]
   refine iteF ?_
   rcases hx with⟨wx,q⟩ | ⟨wx,q⟩
   .exact absurd wx.hi n8
   .exact q H (Same.refl _)
 .have e:V.str x=V.str (Yb ""):=congrArg V.str (yP (by
   rw[qDl]
   exact List.length_eq_zero_iff.mp (by rw[<- zR];omega)))
  rw[decide_eq_true e]
  refine iteNT ?_
  rcases hx with⟨wx,q⟩ | ⟨wx,q⟩
  .exact absurd wx.lo n0
  .exact q H (Same.refl _)
theorem qBl:xM ["word"] ["word"] (xA (top 56)):=by constructor <;> first | rfl | wtm_at"d"
def spName:Sp:=fun vs H Q _=>∃x:Str,vs=[.str x]/\Word x/\∀H',Same H H'->Q (.str x) H'
theorem xWm (F:Fd K mg "read_name" (top 56) ["word"])(uA:Dn P w K mg base "is_word" 1 ["text"] spWord)(jL:Dn P w K mg base "refuse_unless" 1 ["fits","reason"] jS):Dn P w K mg base "read_name" 2 ["word"] spName:=by
 refine F.ok qBl (fun vs H Q E h=>?_) (fun f zx A outer s H vs Q E hr h=>?_)
 .obtain⟨_,rfl,_⟩:=h
  rfl
 obtain⟨x,rfl,hx,q⟩:=h
 refine⟨_,(qZ (qP (qD jL hr (qQ (qD uA hr (qQ (pv 0) qX)) (qQ qF qX))))
  (qJ (qN (pv 0)))),?_⟩
 wtm_at"z"
 refine⟨x,rfl,(by have:=hx.hi;omega),.inl ⟨hx,fun H' S=>?_⟩⟩
 wtm_at"z"
 refine⟨_,rfl,?_⟩
 wtm_at"z"
 exact q H' S
theorem qPq {z:Str}{i j:Nat}(h:i<=j)(hj:j<=z.length):(Txt.slice z (some (i:Int)) (some (j:Int))).cps.toList=(z.cps.toList.drop i).take (j - i):=by
 have lz:=zR z
 rw[qXi (a:=i) (b:=j) ?_ h hj]
 unfold Builtin.Str.strSliceIndices sliceRange
 have e1:¬((i:Int)<0):=by omega
 have e1':¬((j:Int)<0):=by omega
 simp only[show(1:Int)>0 by decide,if_true,if_neg e1,if_neg e1',Int.one_mul]
 have e2:max 0 (min (i:Int) (z.length:Int))=(i:Int):=by omega
 have e2':max 0 (min (j:Int) (z.length:Int))=(j:Int):=by omega
 rw[e2,e2']
 have e3:(if (i:Int)<(j:Int) then ((j:Int) - i+1 - 1) / 1 else 0).toNat=j - i:=by split <;> omega
 rw[e3]
 exact List.map_congr_left fun k _=>by omega
theorem jN:xM ["figures","first","number","start"] ["figures"] (xA (top 58)):=by constructor <;> first | rfl | wtm_at"d"
theorem wC:CompOk (xA (top 58)) ["figures","first","number","start"] (scAt (xB (top 58)) [0] [1,1,1]) ["sign"] 1 []:=
 by constructor <;> wtm_at"d"
def spRNum:Sp:=fun vs H Q _=>∃n:Nat,vs=[.str (dec n)]/\n<10 ^ 30/\∀H',Same H H'->Q (.int n) H'
theorem xWg (F:Fd K mg "read_number" (top 58) ["figures"])(B:Bl mg)(vb:mg "all" = none)(yo:Gt mg "FIGURES" "0123456789")(jj:Gi mg "FIGURES_OF_A_BLOCK" 18)(va:Gi mg "BLOCK" 1000000000000000000)
  (jL:Dn P w K mg base "refuse_unless" 1 ["fits","reason"] jS):Dn P w K mg base "read_number" 2 ["figures"] spRNum:=by
 refine F.ok jN (fun vs H Q E h=>?_) (fun f zx A outer s H vs Q E hr h=>?_)
 .obtain⟨_,rfl,_⟩:=h
  rfl
 obtain⟨n,rfl,hn,q⟩:=h
 have fg:=figsL hn
 have lc:=zR (dec n)
 have hv:=qFi n
 have hd:=qZx n
 refine⟨_,(qZ (qP (qD jL hr (qQ (qZa (zJ qMg (pv 0) qF (xD _)) (qQf (xZ (qXa (K:=K) rfl) rfl vb qId (qQ (zI rfl wC (xYq (pv 0)) (fun cl fp s H=>(qG (i:=0) wC.nd rfl (Or.inl rfl) (.inr rfl))) (fun cl fp s H=>zF) (fun cl fp s H=>(zJ qCv (pv 0) (xBm yo) (by with_unfolding_all rfl)))) qX)))) (qQ qF qX))))
  (qZ (qP (qD jL hr (qQ (xBl (zJ zM (pv 0) qF (xD _)) (qQf (qHw (zX (K:=K) YU PySem.F.slot_str_startswith PySem.F.type_str_startswith qAk (pv 0) (qQ qF qX))))) (qQ qF qX))))
  (qZ (xF (i:=1) jN.nd rfl (xQ kY (xZ yO rfl B.len' jO (qQ (pv 0) qX)) (qXn jj)))
  (qZ (xF (i:=2) jN.nd rfl (xX qDf rfl B.int' qDm (qQ (xQ jQ qF (zK qPx (pv 0) zC (zB (pv 1)))) qX)))
  (qZ (zH PassesOwn.never rfl (qPd rfl B.range' (qQ (pv 1) (qQ (xZ yO rfl B.len' jO (qQ (pv 0) qX)) (qQ (qXn jj) qX)))) (qG (i:=3) jN.nd rfl (by wtm_at "zo")) (qJ (xF (i:=2) jN.nd rfl (xQ jJ (xQ yE (pv 2) (qXn va)) (xX qDf rfl B.int' qDm (qQ (zK qPx (pv 0) (zB (pv 3)) (zB (xQ jJ (pv 3) (qXn jj)))) qX))))))
  (qJ (qN (pv 2)))))))),?_⟩
 wtm_at"z"
 rw[decide_eq_false (qRf fg.lo)]
 refine iteNF ?_
 wtm_at "zf"
 refine⟨_,rfl,xAj (K:=K) (fun c hc=>?_) (by have:=fg.hi;omega) fun D H2 S e=>?_⟩
 .have:=fg.fig c hc
  rw[xDf]
  simp only[yYK,Yq,or_false]
  omega
 wtm_at"z"
 refine⟨D,_,rfl,SqL.of e,?_⟩
 rw[all_rep]
 wtm_at"z"
 refine⟨_,rfl,?_⟩
 wtm_at"z"
 have z0:¬(V.str (dec n)=V.str (Yb "0"))->Txt.startswith (dec n) (Yb "0")=false:=fun hc=>by
  rw[qDi,qEc]
  refine decide_eq_false fun z=>?_
  refine fg.zero (fun h0=>hc ?_) z
  rw[h0,xJw,qDi]
 obtain⟨L,eL⟩:∃L,(dec n).length=L:=⟨_,rfl⟩
 have l1:=fg.lo
 have l30:=fg.hi
 rw[eL] at l1 l30 lc
 obtain⟨f0,g,hf,hg,m18⟩:∃f0 g:Nat,L=f0+18 * g/\g<=1/\(L:Int) % 18=(f0:Int):=by
  by_cases c:L<18
  .exact⟨L,0,by omega,by omega,by omega⟩
  .exact⟨L - 18,1,by omega,by omega,by omega⟩
 have f18:f0<18:=by omega
 have cn:cnt3 (f0:Int) (L:Int) 18=g:=by
  unfold cnt3
  split <;> omega
 have v1:PySem.intText? (⟨#[48]⟩++Txt.slice (dec n) none (some (f0:Int)))=some ((Y8 ((dec n).cps.toList.take f0):Nat):Int):=by
  have ec:(⟨#[48]⟩++Txt.slice (dec n) none (some (f0:Int))).cps.toList=48::(dec n).cps.toList.take f0:=by
   rw[zY,qGo (by omega)]
   rfl
  rw[qSl ec (fun c hc=>?_) (Ye _ _) (by rw[yYS,yYF];omega)]
  .rfl
  .rcases yYK.mp hc with rfl | hc
   .exact⟨by decide,by decide⟩
   .exact hd c (Yt hc)
 have l0:(Txt.slice (dec n) none (some (f0:Int))).length=f0:=by
  rw[zR,qGo (by omega),yYF]
  omega
 by_cases hc:V.str (dec n)=V.str (Yb "0")
 case' pos=>
  rw[decide_eq_true hc]
  refine iteT ?_
 case' neg=>
  rw[decide_eq_false hc]
  refine iteF ?_
  wtm_at"z"
  rw[z0 hc]
 all_goals
  wtm_at"z"
  refine⟨_,rfl,?_⟩
  wtm_at"z"
  refine⟨_,rfl,xH (by omega),?_⟩
  wtm_at"z"
  refine w_I (show(0:Int)<18 by decide) ?_
  wtm_at"z"
  rw[eL,m18]
  refine⟨_,rfl,(by omega),?_⟩
  wtm_at"z"
  refine⟨_,_,rfl,rfl,xH (by rw[qDi,l0];show 1+f0<=1000000;omega),?_⟩
  wtm_at"z"
  refine⟨_,_,rfl,(by rw[qDi];exact v1),(by rw[xI,qDi,l0];show 1+f0<=640;omega),?_⟩
  wtm_at "zf"
  refine xKa ?_
  wtm_at"z"
  refine⟨_,rfl,xH (by omega),?_⟩
  wtm_at"z"
  rw[eL]
  refine⟨_,_,_,rfl,by decide,by decide,by omega,by omega,by omega,by omega,?_⟩
  rw[cn]
  refine qNz (fun i σ' H'=>H'=H2/\∃z3:Option V,σ'=[some (.str (dec n)),some (.int (f0:Int)),some (.int ((Y8 ((dec n).cps.toList.take (f0+18 * i)):Nat):Int)),z3]) ⟨rfl,none,rfl⟩ (fun i σ' H' hi hP=>?_) (fun σ' H' hP=>?_)
  .obtain⟨rfl,z3,rfl⟩:=hP
   have i0:i=0:=by omega
   subst i0
   have eA:=xKd ((dec n).cps.toList.take f0) ((dec n).cps.toList.drop f0)
   rw[List.take_append_drop,hv,Yp,<- lc] at eA
   have lA:Y8 ((dec n).cps.toList.take f0)<=n:=by
    have:=Nat.le_mul_of_pos_right (Y8 ((dec n).cps.toList.take f0)) (Nat.pow_pos (n:=L - f0) (show 0<10 by decide))
    omega
   wtm_at"z"
   refine w_I ⟨yZG (show _<=10 ^ 30 from by rw[Nat.mul_zero,Nat.add_zero];show((Y8 _:Nat):Int).natAbs<=_;omega) (by wtm_at"d"),by wtm_at"d"⟩ ?_
   wtm_at"z"
   have e0:(f0:Int)+((0:Nat):Int) * 18=(f0:Int):=by omega
   have g1:g=1:=by omega
   subst g1
   have e1:(f0:Int)+18=((L:Nat):Int):=by omega
   have ec:(Txt.slice (dec n) (some (f0:Int)) (some (L:Int))).cps.toList=(dec n).cps.toList.drop f0:=by
    rw[qPq (by omega) (by omega),lc,<- Yp,yYJ]
   have ld:((dec n).cps.toList.drop f0).length=18:=by rw[Yp];omega
   rw[e0,e1]
   refine⟨_,rfl,(by omega),?_⟩
   wtm_at"z"
   refine⟨_,_,rfl,qSl ec (fun c hc=>hd c (List.mem_of_mem_drop hc)) (fun z=>by rw[z] at ld;cases ld) (by omega),(by rw[zR,ec];omega),?_⟩
   wtm_at"z"
   refine⟨rfl,some (.int (f0:Int)),?_⟩
   rw[show L - f0=18 by omega] at eA
   have e18:Y8 ((dec n).cps.toList.take (f0+18 * (0+1)))=n:=by
    rw[show f0+18 * (0+1)=L by omega,lc,yYJ,hv]
   rw[e18]
   show [_,_,some (V.int (((Y8 ((dec n).cps.toList.take f0):Nat):Int) * 1000000000000000000+((Y8 ((dec n).cps.toList.drop f0):Nat):Int))),_]=_
   rw[show((Y8 ((dec n).cps.toList.take f0):Nat):Int) * 1000000000000000000+((Y8 ((dec n).cps.toList.drop f0):Nat):Int)=(n:Int) by omega]
  .obtain⟨rfl,z3,rfl⟩:=hP
   wtm_at"z"
   rw[<- hf,lc,yYJ,hv]
   exact q _ S
theorem wN:xM ["figures","most"] ["figures","most"] (xA (top 57)):=by constructor <;> first | rfl | wtm_at"d"
def qYv:Sp:=fun vs H Q _=>∃(n:Nat) (m:Int),vs=[.str (dec n),.int m]/\n<10 ^ 30/\((dec n).length:Int)<=m/\∀H',Same H H'->Q (.int n) H'
theorem xZh (F:Fd K mg "read_short_number" (top 57) ["figures","most"])(B:Bl mg)(jL:Dn P w K mg base "refuse_unless" 1 ["fits","reason"] jS)(JN:Dn P w K mg base "read_number" 2 ["figures"] spRNum):Dn P w K mg base "read_short_number" 3 ["figures","most"] qYv:=by
 refine F.ok wN (fun vs H Q E h=>?_) (fun f zx A outer s H vs Q E hr h=>?_)
 .obtain⟨_,_,rfl,_⟩:=h
  rfl
 obtain⟨n,m,rfl,hn,hm,q⟩:=h
 have fg:=figsL hn
 refine⟨_,(qZ (qP (qD jL hr (qQ (zJ xCb (xZ yO rfl B.len' jO (qQ (pv 0) qX)) (pv 1) (xD _)) (qQ qF qX))))
  (qJ (qN (qD JN hr (qQ (pv 0) qX))))),?_⟩
 wtm_at"z"
 refine⟨_,rfl,xH (by have:=fg.hi;omega),?_⟩
 wtm_at"z"
 rw[decide_eq_true hm]
 refine⟨_,rfl,?_⟩
 wtm_at"z"
 exact⟨n,rfl,hn,q⟩
def ItmAt (H:Hp)(i:Itm)(v:V):Prop:=∃r u,v=.ref r/\H r=some (.tup [.str i.1,u])/\match i.2 with
 | none=>u=.non
 | some t=>t.At H u
theorem ItmAt.tups {H H':Hp}{i:Itm}{v:V}(x:ItmAt H i v)(T:Tups H H'):ItmAt H' i v:=by
 obtain⟨r,u,e,h,k⟩:=x
 refine⟨r,u,e,T _ _ h,?_⟩
 cases e2:i.2 with
 | none=>rw[e2] at k;exact k
 | some t=>rw[e2] at k;exact Th.At.mono T k
theorem qJm {x:Str}(h:Word x)(h1:x ≠ "not")(h2:x ≠ "and"):x∉signs81:=by
 intro hm
 have:∀z∈signs81,z = "not" \/ z = "and" \/ ∃c∈z.cps.toList,c∉(Yb "abcdefghijklmnopqrstuvwxyz").cps.toList:=by wtm_at"d"
 rcases this x hm with e | e | ⟨c,hc,hn⟩
 .exact h1 e
 .exact h2 e
 .exact hn (h.abc c hc)
theorem qAg:∀m:Fin 10,dec m.val ≠ "yes" /\ dec m.val∉signs81/\(dec m.val).length=1/\∃c∈(dec m.val).cps.toList,c∉(Yb "abcdefghijklmnopqrstuvwxyz").cps.toList:=by wtm_at"d"
theorem qBm:xM ["word"] ["word"] (xA (top 60)):=by constructor <;> first | rfl | wtm_at"d"
def spLeaf (y:Addr):Sp:=fun vs H Q _=>∃(x:Str) (i:Itm),vs=[.str x]/\Leaf x i/\H y=some (.tup [.str "yes"])/\∀(r:Addr) (H':Hp),Same H H'->H r=none->ItmAt H' i (.ref r)->Q (.ref r) H'
theorem xWn {y:Addr}(F:Fd K mg "read_leaf" (top 60) ["word"])(B:Bl mg)(jo:Gr mg "YES" y)(uD:Gs K mg "SIGNS" ["(",")","+","-","=","<","not","and"])(uA:Dn P w K mg base "is_word" 1 ["text"] spWord)
  (jg:Dn P w K mg base "read_short_number" 3 ["figures","most"] qYv):Dn P w K mg base "read_leaf" 4 ["word"] (spLeaf y):=by
 refine F.ok qBm (fun vs H Q E h=>?_) (fun f zx A outer s H vs Q E hr h=>?_)
 .obtain⟨_,_,rfl,_⟩:=h
  rfl
 obtain⟨x,i,rfl,lf,hy,q⟩:=h
 refine⟨_,(qZ (zD (qR zM (pv 0) qF (xD _)) (qJ (qN (xN (qQ qF (qQ (xBn jo) qX))))) qY)
  (qZ (zD (qR (qHf (K:=K)) (pv 0) (qPf uD) (by with_unfolding_all rfl)) (qJ (qN (xN (qQ (pv 0) (qQ qHa qX))))) qY)
  (qZ (zD (kH (qD uA hr (qQ (pv 0) qX))) (qJ (qN (xN (qQ qF (qQ (xN (qQ qF (qQ (pv 0) qX))) qX))))) qY)
  (qJ (qN (xN (qQ qF (qQ (xN (qQ qF (qQ (qD jg hr (qQ (pv 0) (qQ qE qX))) qX))) qX)))))))),?_⟩
 have nyes:x ≠ "yes" -> ¬(V.str x=V.str (Yb "yes")):=fun h z=>h (V.str.inj z)
 cases lf with
 | yes=>
  wtm_at"z"
  refine⟨xH (show 2<=1000000 by decide),fun r hr'=>?_⟩
  exact q r _ (qV hr' _) hr' ⟨r,.ref y,rfl,qW,⟨y,rfl,qV hr' _ _ _ hy⟩⟩
 | sign hm=>
  wtm_at"z"
  rw[decide_eq_false (nyes ((show∀z∈signs81,z ≠ "yes" by wtm_at"d") x hm))]
  refine iteF ?_
  wtm_at"z"
  intro p hp
  refine⟨p,_,rfl,.inr hp,rfl,flat_strs signs81,?_⟩
  show∃k,V.bl (inV (.str x) (strsV signs81))=.bl k/\_
  rw[kM]
  refine⟨_,rfl,yB (decide_eq_true hm) ?_⟩
  wtm_at"z"
  refine⟨xH (show 2<=1000000 by decide),fun r hr'=>?_⟩
  exact q r _ (qV hr' _) hr' ⟨r,.non,rfl,qW,rfl⟩
 | box hw h1 h2 h3=>
  wtm_at"z"
  intro p hp
  refine⟨p,_,rfl,.inr hp,rfl,flat_strs signs81,?_⟩
  show∃k,V.bl (inV (.str x) (strsV signs81))=.bl k/\_
  rw[kM]
  refine⟨_,rfl,zQ (decide_eq_false (qJm hw h1 h2)) ?_⟩
  wtm_at"z"
  refine⟨x,rfl,(by have:=hw.hi;omega),.inl ⟨hw,fun H1 S1=>?_⟩⟩
  wtm_at"z"
  refine⟨xH (show 2<=1000000 by decide),fun a ha=>?_⟩
  wtm_at"z"
  refine⟨xH (show 2<=1000000 by decide),fun r hr'=>?_⟩
  have S2:=S1.trans (qV ha (.tup [V.str "box",V.str x]))
  exact q r _ (S2.trans (qV hr' _)) (S2.free hr') ⟨r,.ref a,rfl,qW,⟨a,rfl,qV hr' _ _ _ qW⟩⟩
 | @num n h0 h1=>
  obtain⟨m,rfl⟩:=Int.eq_ofNat_of_zero_le h0
  have en:numS (m:Int)=dec m:=by unfold numS;rw[if_neg (by omega)];rfl
  have m10:m<10:=by omega
  obtain⟨f1,f2,f3,c,fc,f4⟩:=qAg ⟨m,m10⟩
  have f3:(dec m).length=1:=f3
  rw[en]
  wtm_at"z"
  intro p hp
  refine⟨p,_,rfl,.inr hp,rfl,flat_strs signs81,?_⟩
  show∃k,V.bl (inV (.str (dec m)) (strsV signs81))=.bl k/\_
  rw[kM]
  refine⟨_,rfl,zQ (decide_eq_false f2) ?_⟩
  wtm_at"z"
  refine⟨dec m,rfl,(by omega),.inr ⟨fun hw=>f4 (hw.abc c fc),fun H1 S1=>?_⟩⟩
  wtm_at"z"
  refine⟨m,1,rfl,Nat.lt_trans m10 (by decide),by omega,fun H2 S2=>?_⟩
  wtm_at"z"
  refine⟨xH (show 2<=1000000 by decide),fun a ha=>?_⟩
  wtm_at"z"
  refine⟨xH (show 2<=1000000 by decide),fun r hr'=>?_⟩
  have S3:=(S1.trans S2).trans (qV ha (.tup [V.str "number",V.int m]))
  exact q r _ (S3.trans (qV hr' _)) (S3.free hr') ⟨r,.ref a,rfl,qW,⟨a,rfl,qV hr' _ _ _ qW⟩⟩
theorem qHk (R:List Str)(n:Nat):R.reverse.drop (R.length - n)=(R.take n).reverse:=by
 rw[List.drop_reverse]
 congr 1
 by_cases h:n<=R.length
 .rw[show R.length - (R.length - n)=n by omega]
 .rw[show R.length - (R.length - n)=R.length by omega,yYJ,Yl (by omega)]
theorem qSv {R ws:List Str}(h:ws.length<=5):((R.take 5).reverse.drop ((R.take 5).length - ws.length)=ws)↔ws.reverse.isPrefixOf R=true:=by
 rw[qHk,List.take_take,Nat.min_eq_left h,List.isPrefixOf_iff_prefix,List.prefix_iff_eq_take,Yh]
 constructor
 .intro e
  have e':=congrArg List.reverse e
  rw[List.reverse_reverse] at e'
  exact e'.symm
 .intro e;rw[<- e,List.reverse_reverse]
theorem xWa {es:List Fe}{g:TG}{tb:TS}{D:Ends}{σ:St}{H:Hp}(Pv:Nat->St->Hp->Prop)(h0:Pv 0 σ H)
  (hs:∀i σ H e T,es[i]? = some e->H T=none->Pv i σ H->g (.ref T) σ (upd H T (.tup [.str e.k,.ref e.a])) fun σ2 H2=>tb { D with nx:=Pv (i+1),ct:=Pv (i+1),bk:=D.nx } σ2 H2) (hd:∀σ H,Pv es.length σ H->D.nx σ H):forK g tb D σ (Itf es) H:=by
 refine⟨fun i m σ H=>m=es.length - i/\i<=es.length/\Pv i σ H,⟨es.length,by simp,yZE _,h0⟩,?_⟩
 rintro i m σ H ⟨rfl,hi,p⟩
 by_cases hlt:i<es.length
 .refine .inr ⟨hlt,Pv (i+1),fun σ' H' p'=>⟨es.length - (i+1),by omega,rfl,hlt,p'⟩,fun x H' y=>?_⟩
  obtain⟨T,e,rfl,hT,rfl,he⟩:=y
  exact hs i σ _ e T he hT p
 .have e:i=es.length:=by omega
  subst e
  exact .inl ⟨yZB _,hd σ H p⟩
theorem yM:xM ["row","signs","kind","form"] ["row"] (xA (top 61)):=by constructor <;> first | rfl | wtm_at"d"
theorem kE:CompOk (xA (top 61)) ["row","signs","kind","form"] (scAt (xB (top 61)) [0] [1]) ["sign","thing"] 2 []:=
 by constructor <;> wtm_at"d"
def kV81:Option Str->V
 | none=>.non
 | some k=>.str k
def spKind:Sp:=fun vs H Q _=>∃(l:Addr) (us:List V) (S:List Itm),vs=[.ref l]/\H l=some (.lst us)/\Paired (ItmAt H) S.reverse us/\us.length<=10000/\∀H',Same H H'->Q (kV81 (kindR (S.map (·.1)))) H'
theorem xWo (F:Fd K mg "kind_at_end" (top 61) ["row"])(B:Bl mg)(kz:Gi mg "LONGEST_FORM" 5)(jk:Gg w K mg "FORMS" forms81):Dn P w K mg base "kind_at_end" 1 ["row"] spKind:=by
 refine F.ok yM (fun vs H Q E h=>?_) (fun f zx A outer s H vs Q E hr h=>?_)
 .obtain⟨_,_,_,rfl,_⟩:=h
  rfl
 obtain⟨l,us,S,rfl,hl,hp,len,q⟩:=h
 refine⟨_,(qZ (xF (i:=1) yM.nd rfl (xX (qKl (K:=K)) rfl B.tuple' qBq (qQ (zI rfl kE (qU (K:=K) (zK (zT (K:=K)) (pv 0) (zB (qYi vS (qXn kz))) zC)) (fun cl fp s H=>(jF (K:=K) (n:=2) rfl (qH (qG (i:=0) kE.nd rfl (Or.inl rfl) (.inr rfl)) (qH (qG (i:=1) kE.nd rfl (Or.inl rfl) (.inr rfl)) qI)))) (fun cl fp s H=>zF) (fun cl fp s H=>(pv 0))) qX)))
  (qZ (zH PassesOwn.never rfl (xXa jk) (jF (K:=K) (n:=2) rfl (qH (qG (i:=2) yM.nd rfl (by wtm_at "zo")) (qH (qG (i:=3) yM.nd rfl (by wtm_at "zo")) qI))) (qJ (zD (qR (xXd (K:=K) hr.units) (zK (xQg (K:=K)) (pv 1) (zB (qYi vS (xZ (jX (K:=K)) rfl B.len' jO (qQ (xE (qS (K:=K)) (pv 3) qE) qX)))) zC) (xE (qS (K:=K)) (pv 3) qE) (xD _)) (qJ (qN (pv 2))) qY)))
  (qJ (qN qHa)))),?_⟩
 obtain⟨R,eR⟩:∃R,S.map (·.1)=R:=⟨_,rfl⟩
 have lp:=hp.length
 rw[Yh] at lp
 have lR:R.length=us.length:=by rw[<- eR,yYC];exact lp
 obtain⟨G,eG⟩:∃G,(R.take 5).reverse=G:=⟨_,rfl⟩
 have lG:G.length=(us.drop (us.length - 5)).length:=by rw[<- eG,Yh,yYF,Yp,lR];omega
 have l5:G.length<=5:=by rw[<- eG,Yh,yYF];omega
 wtm_at "zf"
 refine⟨l,us,rfl,SqL.of hl,fun p hpn=>?_⟩
 rw[show((-5:Int)) = -((5:Nat):Int) from rfl,qAi us (by decide)]
 have S1:=qV hpn (.lst (us.drop (us.length - 5)))
 have e1:upd H p (.lst (us.drop (us.length - 5))) p=some _:=qW
 generalize upd H p (.lst (us.drop (us.length - 5)))=H1 at S1 e1 ⊢
 refine⟨p,rfl,⟨_,SqL.of e1⟩,?_⟩
 refine zV (xs:=us.drop (us.length - 5)) (fun D i ys H'=>ys=strsV (G.take i)/\Same H1 H') (fun D hD=>⟨rfl,qV hD _⟩) (fun D i ys H' _ hP=>SqL.of (hP.2 _ _ e1)) (fun D i x ys H' N hD hDy ex hP hN=>?_) (fun D ys H2 hD hDy hP=>?_)
 .obtain⟨rfl,hk⟩:=hP
  rw[List.getElem?_drop] at ex
  obtain⟨it,ei⟩:∃it,S.reverse[us.length - 5+i]? = some it:=⟨_,yYA (by rw[Yh,lp];exact(yYB.mp ex).1)⟩
  obtain⟨r,u,rfl,hr',_⟩:=xK hp ei ex
  have es:G[i]? = some it.1:=by
   rw[<- eG,<- qHk,List.getElem?_drop,lR,<- eR,<- List.map_reverse,yYO,ei]
   rfl
  refine⟨r,_,rfl,SqT.of (hk _ _ (S1 _ _ hr')),rfl,_,_,rfl,_,_,rfl,rfl,⟨[some (.str it.1),some u],rfl,rfl⟩,?_⟩
  refine⟨_,rfl,hDy,?_,hN _ _ qW ⟨?_,fun b o e=>?_⟩⟩
  .rw[xW,yYF];exact small (by omega)
  .rw[yYM,es,xR];rfl
  .rw[qA (qB e hD)];exact hk _ _ e
 .obtain⟨rfl,S2⟩:=hP
  rw[<- lG,yYJ] at hDy
  wtm_at"z"
  refine⟨D,_,rfl,SqL.of hDy,fun tp htp=>?_⟩
  have S3:=(S1.trans S2).trans (qV htp (.tup (strsV G)))
  have etp:upd H2 tp (.tup (strsV G)) tp=some (.tup (strsV G)):=qW
  generalize upd H2 tp (.tup (strsV G))=H3 at S3 etp ⊢
  wtm_at "zf"
  intro es v o hv ees tb
  refine xWa (es:=es) (fun i σ' H'=>∃z2 z3:Option V,σ'=[some (.ref l),some (.ref tp),z2,z3]/\Same H3 H'/\forms81.find? (fun e=>e.2.2.reverse.isPrefixOf R)=(forms81.drop i).find? fun e=>e.2.2.reverse.isPrefixOf R) ⟨none,none,rfl,qV hv _,rfl⟩ (fun i σ' H' e T he hT hP=>?_) (fun σ' H' hP=>?_)
  .obtain⟨z2,z3,rfl,S4,ef⟩:=hP
   have S5:=S4.trans (qV hT (.tup [V.str e.k,V.ref e.a]))
   have eT:upd H' T (.tup [V.str e.k,V.ref e.a]) T=some _:=qW
   generalize upd H' T (.tup [V.str e.k,V.ref e.a])=H5 at S5 eT ⊢
   obtain⟨ta,tb2⟩:=tb e (yYE he)
   have a5:=ta H5
   have b5:=tb2 H5
   have fe:forms81[i]? = some (e.k,e.c,e.ws):=by rw[<- ees,yYO,he];rfl
   have fm:(e.k,e.c,e.ws)∈forms81:=yYE fe
   have w5:0<e.ws.length/\e.ws.length<=5:=(show∀z∈forms81,0<z.2.2.length/\z.2.2.length<=5 by wtm_at"d") _ fm
   have ed:forms81.drop i=(e.k,e.c,e.ws)::forms81.drop (i+1):=by
    obtain⟨hi,e2⟩:=yYB.mp fe
    rw[List.drop_eq_getElem_cons hi,e2]
   have cl:cutV (strsV G) (some (-(((e.ws.map V.str).length:Nat):Int))) none=strsV (G.drop (G.length - e.ws.length)):=by
    rw[yYC,qAi _ w5.1,xW]
    exact List.map_drop.symm
   have lf:(G.drop (G.length - e.ws.length)=e.ws)↔e.ws.reverse.isPrefixOf R=true:=by
    rw[<- qSv w5.2,eG,<- eG,Yh]
   wtm_at"z"
   refine⟨tp,_,rfl,SqT.of (S5 _ _ etp),?_⟩
   by_cases hw:HT.sIx (strsV G).length 0 (some (-(((e.ws.map V.str).length:Nat):Int)))=0/\HT.sIx (strsV G).length (strsV G).length none=(strsV G).length
   case' pos=>
    refine .inl ⟨hw.1,hw.2,?_⟩
    have S6:=Same.refl H5
    have hx:SqT K H5 tp (strsV (G.drop (G.length - e.ws.length))):=by
     rw[<- cl]
     unfold cutV
     rw[hw.1,hw.2,List.drop_zero,Nat.sub_zero,yYJ]
     exact SqT.of (S5 _ _ etp)
   case' neg=>
    refine .inr ⟨hw,fun p2 hp2=>?_⟩
    rw[cl]
    have S6:=qV hp2 (.tup (strsV (G.drop (G.length - e.ws.length))))
    have hx:SqT K (upd H5 p2 (.tup (strsV (G.drop (G.length - e.ws.length))))) p2 (strsV (G.drop (G.length - e.ws.length))):=SqT.of qW
    generalize upd H5 p2 (.tup (strsV (G.drop (G.length - e.ws.length))))=H6 at S6 hx ⊢
    have a6:=ta H6
    have b6:=tb2 H6
   all_goals
    wtm_at"z"
    refine⟨_,_,G.drop (G.length - e.ws.length),e.ws,rfl,rfl,hx,by assumption,?_⟩
    refine⟨_,rfl,?_⟩
    by_cases hm:G.drop (G.length - e.ws.length)=e.ws
    .refine yB (decide_eq_true hm) ?_
     wtm_at"z"
     have kk:kindR R=some e.k:=by
      unfold kindR
      rw[ef,ed,List.find?_cons_of_pos (p:=fun e:Str×Str×List Str=>e.2.2.reverse.isPrefixOf R) (a:=(e.k,e.c,e.ws)) (lf.mp hm)]
      rfl
     rw[eR,kk] at q
     exact q _ (S3.trans (S5.trans S6))
    .refine zQ (decide_eq_false hm) ?_
     wtm_at"z"
     refine⟨_,_,rfl,S5.trans S6,?_⟩
     rw[ef,ed,List.find?_cons_of_neg (p:=fun e:Str×Str×List Str=>e.2.2.reverse.isPrefixOf R) (a:=(e.k,e.c,e.ws)) (fun z=>hm (lf.mpr z))]
  .obtain⟨z2,z3,rfl,S4,ef⟩:=hP
   have l6:es.length=6:=by rw[<- yYC (f:=fun e:Fe=>(e.k,e.c,e.ws)),ees];rfl
   wtm_at"z"
   have kn:kindR R=none:=by
    unfold kindR
    rw[ef,l6]
    rfl
   rw[eR,kn] at q
   exact q _ (S3.trans S4)
theorem paired_app {α β:Type}{F:α->β->Prop}{a b:List α}{a' b':List β}(x:Paired F a a')(y:Paired F b b'):Paired F (a++b) (a'++b'):=by
 induction x with
 | nil=>exact y
 | cons h _ ih=>exact .cons h ih
theorem qVd {α β:Type}{F:α->β->Prop}:∀{a b:List α} {l:List β},Paired F (a++b) l->∃l1 l2,l=l1++l2/\Paired F a l1/\Paired F b l2
 | [],b,l,h=>⟨[],l,rfl,.nil,h⟩
 | x::a,b,[],h=>nomatch h
 | x::a,b,y::l,h=>by
  cases h with
  | cons h1 h2=>
   obtain⟨l1,l2,e,p1,p2⟩:=qVd h2
   exact⟨y::l1,l2,by rw[e];rfl,.cons h1 p1,p2⟩
theorem kT {α β:Type}{F:α->β->Prop}{a:List α}{b:List β}(x:Paired F a b):Paired F a.reverse b.reverse:=by
 induction x with
 | nil=>exact .nil
 | cons h _ ih=>
  rw[List.reverse_cons,List.reverse_cons]
  exact paired_app ih (.cons h .nil)
def ThV (H:Hp)(i:Itm)(u:V):Prop:=match i.2 with
 | none=>u=.non
 | some t=>t.At H u
theorem qMv {H:Hp}{its:List Itm}{vs:List V}(p:Paired (ItmAt H) its vs):∃ux,Paired (ThV H) its ux/\ux.length=vs.length/\∀(j:Nat) (x:V),vs[j]? = some x->∃(r:Addr) (u:V) (s:Str),x=.ref r/\H r=some (.tup [.str s,u])/\ux[j]? = some u:=by
 induction p with
 | nil=>exact⟨[],.nil,rfl,fun j x e=>nomatch e⟩
 | cons h _ ih=>
  obtain⟨r,u,rfl,hr,k⟩:=h
  obtain⟨ux,p1,l1,g1⟩:=ih
  refine⟨u::ux,.cons k p1,by rw[yYS,yYS,l1],fun j x e=>?_⟩
  cases j with
  | zero=>cases e;exact⟨r,u,_,rfl,hr,rfl⟩
  | succ j=>exact g1 j x e
theorem xEx {H:Hp}{t:Th}{u:V}(h:t.At H u):∃a,u=.ref a:=by
 cases t with
 | num n=>obtain⟨a,e,_⟩:=h;exact⟨a,e⟩
 | box x=>obtain⟨a,e,_⟩:=h;exact⟨a,e⟩
 | nul k=>obtain⟨a,e,_⟩:=h;exact⟨a,e⟩
 | un k t=>obtain⟨a,_,e,_⟩:=h;exact⟨a,e⟩
 | bin k t r=>obtain⟨a,_,_,e,_⟩:=h;exact⟨a,e⟩
theorem qBc {H:Hp}{its:List Itm}{ux:List V}(p:Paired (ThV H) its ux):Paired (Th.At H) (its.filterMap (·.2)) (ux.filter fun u=>!decide (u=.non)):=by
 induction p with
 | nil=>exact .nil
 | @cons i u _ _ h _ ih=>
  unfold ThV at h
  cases e:i.2 with
  | none=>
   rw[e] at h
   have h:u=.non:=h
   subst h
   rw[List.filterMap_cons_none e,List.filter_cons_of_neg (by simp)]
   exact ih
  | some t=>
   rw[e] at h
   have h:t.At H u:=h
   obtain⟨a,rfl⟩:=xEx h
   rw[List.filterMap_cons_some e,List.filter_cons_of_pos (by simp)]
   exact .cons h ih
theorem xFk {H:Hp}{k:Str}{ts:List Th}{us:List V}{a:Addr}(p:Paired (Th.At H) ts us)(n0:ts≠[])(n2:ts.length<=2)(h:H a=some (.tup (.str k::us))):(mkT k ts).At H (.ref a):=by
 cases p with
 | nil=>exact absurd rfl n0
 | cons h1 p=>
  cases p with
  | nil=>exact⟨a,_,rfl,h,h1⟩
  | cons h2 p=>
   cases p with
   | nil=>exact⟨a,_,_,rfl,h,h1,h2⟩
   | cons _ _=>exact absurd n2 (by rw[yYS,yYS,yYS];omega)
theorem qNi {K:yZN}{fs:List (Str×Str×List Str)}{ty:TE}{σ:St}{H:Hp}{Q:VK}(q:ty σ H fun y H1=>∃k c ws,y=.str k/\(k,c,ws)∈fs/\∀a b:Addr,SqT K H1 a [.str c,.ref b]->(∀H,SqT K H b (ws.map V.str))->Q (.ref a) H1):tForm2 K fs ty σ H Q:=q
theorem jE:xM ["row","kind","things","sign"] ["row","kind"] (xA (top 62)):=by constructor <;> first | rfl | wtm_at"d"
theorem yJ:CompOk (xA (top 62)) ["row","kind","things","sign"] (scAt (xB (top 62)) [3] [1,1,1,1]) ["thing"] 1 []:=
 by constructor <;> wtm_at"d"
def spPut:Sp:=fun vs H Q _=>∃(l:Addr) (us:List V) (S its:List Itm) (k c:Str) (ws:List Str),vs=[.ref l,.str k]/\H l=some (.lst us)/\Paired (ItmAt H) (its++S).reverse us/\us.length<=10000/\(k,c,ws)∈forms81/\its.map (·.1)=ws.reverse/\its.filterMap (·.2)≠[]/\(its.filterMap (·.2)).length<=2/\
 ∀(us':List V) (H':Hp),But1 l H H'->H' l=some (.lst us')->Paired (ItmAt H') ((c,some (mkT k (its.filterMap (·.2)).reverse))::S).reverse us'->Q .non H'
theorem xDw (F:Fd K mg "put_together_at_end" (top 62) ["row","kind"])(B:Bl mg)(jk:Gg w K mg "FORMS" forms81):Dn P w K mg base "put_together_at_end" 1 ["row","kind"] spPut:=by
 refine F.ok jE (fun vs H Q E h=>?_) (fun f zx A outer s H vs Q E hr h=>?_)
 .obtain⟨_,_,_,_,_,_,_,rfl,_⟩:=h
  rfl
 obtain⟨l,us,S,its,k,c,ws,rfl,hl,hp,len,hf,he,ht0,ht2,q⟩:=h
 refine⟨_,(qZ (xF (i:=2) jE.nd rfl (xU qX))
  (qZ (zH PassesOwn.never rfl (qYh (K:=K) (xE (qS (K:=K)) (qHb jk (pv 1) (fun _ _=>rfl)) qE)) (qG (i:=3) jE.nd rfl (by wtm_at "zo")) (qJ (qP (zX (K:=K) Yy Yz YT xO (pv 2) (qQ (xE (qS (K:=K)) (qAq (K:=K) Yy PySem.F.slot_list_pop PySem.F.type_list_pop xYk (pv 0)) qE) qX)))))
  (qZ (qP (qAq (K:=K) Yy PySem.F.slot_list_reverse PySem.F.type_list_reverse qVg (pv 2)))
  (qJ (qP (zX (K:=K) Yy Yz YT xO (pv 0) (qQ (xN (qQ (xE (qS (K:=K)) (qHb jk (pv 1) (fun _ _=>rfl)) qE) (qQ (xQ (qAz (K:=K)) (xN (qQ (pv 1) qX)) (xX (qKl (K:=K)) rfl B.tuple' qBq (qQ (zI rfl yJ (qU (K:=K) (pv 2)) (fun cl fp s H=>(qG (i:=0) yJ.nd rfl (Or.inl rfl) (.inr rfl))) (fun cl fp s H=>(qXm (qR qHe (pv 0) qHa (xD _)))) (fun cl fp s H=>(pv 0))) qX))) qX))) qX))))))),?_⟩
 rw[List.reverse_append] at hp
 obtain⟨us0,vs,rfl,pS,pI⟩:=qVd hp
 have pI':=kT pI
 rw[List.reverse_reverse] at pI'
 obtain⟨ux,pU,lu,gu⟩:=qMv pI'
 rw[Yh] at lu
 have lw:vs.length=ws.length:=by
  have:=congrArg List.length he
  rw[yYC,Yh] at this
  rw[<- this,<- pI.length,Yh]
 have w5:ws.length<=5:=(show∀z∈forms81,z.2.2.length<=5 by wtm_at"d") _ hf
 rw[yYI] at len
 wtm_at"z"
 refine⟨xH (yZE _),fun th hth=>?_⟩
 have S1:=qV hth (.lst [])
 have eth:upd H th (.lst []) th=some (.lst []):=qW
 have nlt:l≠th:=qB hl hth
 generalize upd H th (.lst [])=H1 at S1 eth ⊢
 have hl1:=S1 _ _ hl
 wtm_at "zf"
 refine qNi ?_
 wtm_at"z"
 refine⟨k,c,ws,rfl,hf,fun fa fb h1 h2=>?_⟩
 wtm_at"z"
 refine⟨fb,rfl,⟨_,h2 _⟩,?_⟩
 refine qFc (xs:=ws.map V.str) (fun i σ' H'=>∃z:Option V,σ'=[some (.ref l),some (.str k),some (.ref th),z]/\H' l=some (.lst (us0++vs.take (vs.length - i)))/\H' th=some (.lst (ux.take i))/\∀b o,b≠l->b≠th->H1 b=some o->H' b=some o)
  ⟨none,rfl,by rw[Nat.sub_zero,yYJ];exact hl1,eth,fun b o _ _ h=>h⟩ (fun i σ' H' _ _=>h2 H') (fun i x σ' H' ex hP=>?_) (fun σ' H' hP=>?_)
 .obtain⟨z,rfl,eL,eT,kp⟩:=hP
  have hi:i<vs.length:=by rw[lw,<- yYC (f:=V.str)];exact(yYB.mp ex).1
  obtain⟨y,ey⟩:∃y,vs[vs.length - 1 - i]? = some y:=⟨_,yYA (by omega)⟩
  obtain⟨r,u,sg,rfl,hr',eu⟩:=gu i y (by rw[List.getElem?_reverse hi];exact ey)
  have ht:vs.take (vs.length - i)=vs.take (vs.length - (i+1))++[.ref r]:=by
   rw[show vs.length - i=(vs.length - (i+1))+1 by omega,yYM,show vs.length - (i+1)=vs.length - 1 - i by omega,ey]
   rfl
  rw[ht,<- yYQ] at eL
  wtm_at"z"
  refine kP (SqL.of eT) ?_
  wtm_at"z"
  refine kP (SqL.of eL) ?_
  refine⟨l,_,.ref r,rfl,rfl,eL,(by rw[yYI];simp),?_⟩
  rw[List.dropLast_concat]
  have rl:r≠l:=fun z=>by rw[z,hl] at hr';cases hr'
  have rt:r≠th:=qB hr' hth
  have e3:upd H' l (.lst (us0++vs.take (vs.length - (i+1)))) l=some _:=qW
  have e4:upd H' l (.lst (us0++vs.take (vs.length - (i+1)))) th=some (.lst (ux.take i)):=by rw[qA (Ne.symm nlt)];exact eT
  have e5:upd H' l (.lst (us0++vs.take (vs.length - (i+1)))) r=some (.tup [.str sg,u]):=by rw[qA rl];exact kp _ _ rl rt (S1 _ _ hr')
  have k3:∀b o,b≠l->H' b=some o->upd H' l (.lst (us0++vs.take (vs.length - (i+1)))) b=some o:=fun b o hb h=>by rw[qA hb];exact h
  generalize upd H' l (.lst (us0++vs.take (vs.length - (i+1))))=H3 at e3 e4 e5 k3 ⊢
  wtm_at"z"
  refine jG e4 (small (by rw[yYF];omega)) ?_
  refine⟨_,rfl,by rw[qA nlt];exact e3,?_,fun b o b1 b2 h=>by rw[qA b2];exact k3 _ _ b1 (kp _ _ b1 b2 h)⟩
  rw[qW,yYM,eu]
  rfl
 .obtain⟨z,rfl,eL,eT,kp⟩:=hP
  rw[yYC,<- lw,Nat.sub_self,List.take_zero,Yr] at eL
  rw[yYC,<- lw,<- lu,yYJ] at eT
  wtm_at"z"
  refine kP (SqL.of eT) ?_
  refine⟨th,_,rfl,rfl,eT,?_⟩
  have e4:upd H' th (.lst ux.reverse) th=some (.lst ux.reverse):=qW
  have l4:upd H' th (.lst ux.reverse) l=some (.lst us0):=by rw[qA nlt];exact eL
  have k4:∀b o,b≠l->b≠th->H1 b=some o->upd H' th (.lst ux.reverse) b=some o:=fun b o b1 b2 h=>by rw[qA b2];exact kp b o b1 b2 h
  generalize upd H' th (.lst ux.reverse)=H4 at e4 l4 k4 ⊢
  wtm_at"z"
  refine kP (SqL.of l4) ?_
  wtm_at"z"
  refine qNi ?_
  wtm_at"z"
  refine⟨k,c,ws,rfl,hf,fun fa2 fb2 h3 h4=>?_⟩
  wtm_at"z"
  refine⟨xH (show 1<=1000000 by decide),fun tk htk=>?_⟩
  have S5:=qV htk (.tup [V.str k])
  have e5:upd H4 tk (.tup [V.str k]) tk=some (.tup [V.str k]):=qW
  generalize upd H4 tk (.tup [V.str k])=H5 at S5 e5 ⊢
  wtm_at "zf"
  have pT:=qBc (kT pU)
  rw[List.filterMap_reverse] at pT
  obtain⟨ts,ets⟩:∃ts,(its.filterMap (·.2)).reverse=ts:=⟨_,rfl⟩
  rw[ets] at pT q
  have t0:ts≠[]:=fun z=>ht0 (List.reverse_eq_nil_iff.mp (ets.trans z))
  have t2:ts.length<=2:=by rw[<- ets,Yh];exact ht2
  obtain⟨yt,eyt⟩:∃yt,(ux.reverse.filter fun u=>!decide (u=V.non))=yt:=⟨_,rfl⟩
  rw[eyt] at pT
  have ly:=pT.length
  refine⟨th,rfl,⟨_,SqL.of (S5 _ _ e4)⟩,?_⟩
  refine zV (xs:=ux.reverse) (fun D i ys H'=>ys=((ux.reverse.take i).filter fun u=>!decide (u=V.non))/\Same H5 H') (fun D hD=>⟨rfl,qV hD _⟩) (fun D i ys H' _ hP=>SqL.of (hP.2 _ _ (S5 _ _ e4))) (fun D i x ys H' N hD hDy ex hP hN=>?_) (fun D ys H6 hD hDy hP=>?_)
  .obtain⟨rfl,hk⟩:=hP
   have fs:((ux.reverse.take (i+1)).filter fun u=>!decide (u=V.non))=((ux.reverse.take i).filter fun u=>!decide (u=V.non))++([x].filter fun u=>!decide (u=V.non)):=by
    rw[yYM,ex,List.filter_append]
    rfl
   have li:((ux.reverse.take i).filter fun u=>!decide (u=V.non)).length<=5:=yZH (List.length_filter_le _ _) (by rw[yYF,Yh];omega)
   refine⟨⟨[some x],rfl,rfl⟩,?_⟩
   wtm_at"z"
   refine⟨rfl,_,rfl,?_⟩
   by_cases hx:x=V.non
   .refine zQ (by rw[decide_eq_true hx];rfl) (hN _ _ hDy ⟨?_,hk⟩)
    rw[fs,List.filter_cons_of_neg (by rw[decide_eq_true hx];simp),List.filter_nil,Yr]
   .refine yB (by rw[decide_eq_false hx];rfl) ⟨_,rfl,hDy,small (by omega),hN _ _ qW ⟨?_,fun b o h=>by rw[qA (qB h hD)];exact hk _ _ h⟩⟩
    rw[fs,List.filter_cons_of_pos (by rw[decide_eq_false hx];rfl),List.filter_nil]
  obtain⟨rfl,S6⟩:=hP
  rw[yYJ,eyt] at hDy
  wtm_at"z"
  refine⟨D,_,rfl,SqL.of hDy,fun tq htq=>?_⟩
  have S7:=S6.trans (qV htq (.tup yt))
  have e7:upd H6 tq (.tup yt) tq=some (.tup yt):=qW
  generalize upd H6 tq (.tup yt)=H7 at S7 e7 ⊢
  have y0:yt≠[]:=fun z=>t0 (List.length_eq_zero_iff.mp (by rw[ly,z];rfl))
  refine⟨tk,tq,_,_,rfl,rfl,SqT.of (S7 _ _ e5),SqT.of e7,y0,xH (by rw[<- ly];show 1+_<=_;omega),(fun z=>nomatch z),fun _ p hp=>?_⟩
  have S8:=S7.trans (qV hp (.tup ([V.str k]++yt)))
  have e8:upd H7 p (.tup ([V.str k]++yt)) p=some (.tup (V.str k::yt)):=qW
  generalize upd H7 p (.tup ([V.str k]++yt))=H8 at S8 e8 ⊢
  wtm_at"z"
  refine⟨xH (show 2<=1000000 by decide),fun r hr'=>?_⟩
  have S9:=S5.trans (S8.trans (qV hr' (.tup [V.str c,V.ref p])))
  have e9:upd H8 r (.tup [V.str c,V.ref p]) r=some (.tup [V.str c,V.ref p]):=qW
  have p9:=qV hr' (.tup [V.str c,V.ref p]) _ _ e8
  generalize upd H8 r (.tup [V.str c,V.ref p])=H9 at S9 e9 p9 ⊢
  wtm_at"z"
  have l9:=S9 _ _ l4
  refine jG l9 (small (by omega)) ?_
  have bf:But1 l H (upd H9 l (.lst (us0++[V.ref r]))):=fun b o hb h=>by
   rw[qA hb]
   exact S9 _ _ (k4 b o hb (qB h hth) (S1 _ _ h))
  have nl:∀b xs,H b=some (.tup xs)->b≠l:=fun b xs h z=>by rw[z,hl] at h;cases h
  have tp:Tups H (upd H9 l (.lst (us0++[V.ref r]))):=fun b xs h=>bf b _ (nl b xs h) h
  have rl:r≠l:=fun z=>by rw[z,l9] at e9;cases e9
  have pl:p≠l:=fun z=>by rw[z,l9] at p9;cases p9
  refine q _ _ bf qW ?_
  rw[List.reverse_cons]
  refine paired_app (Paired.mapP pS fun _ _ x=>x.tups tp) (.cons ⟨r,.ref p,rfl,by rw[qA rl];exact e9,?_⟩ .nil)
  exact xFk (Paired.mapP pT fun _ _ x=>Th.At.mono tp x) t0 t2 (by rw[qA pl];exact p9)
theorem kS {ws:List Str}{i:Nat}{v:V}(h:(strsV ws)[i]? = some v):∃x,ws[i]? = some x/\v=.str x:=by
 have h':(ws.map V.str)[i]? = some v:=h
 rw[yYO] at h'
 obtain⟨x,e,e2⟩:=Zd.mp h'
 exact⟨x,e,e2.symm⟩
theorem yQ:xM ["sign","words","row","word","kind"] ["sign","words"] (xA (top 59)):=by constructor <;> first | rfl | wtm_at"d"
def spRead (y:Addr):Sp:=fun vs H Q _=>∃(sg:Str) (wl:Addr) (ws:List Str) (t:Th),vs=[.str sg,.ref wl]/\H wl=some (.lst (strsV ws))/\Run ws [] [(sg,some t)]/\ws.length<=2000/\H y=some (.tup [.str "yes"])/\∀(v:V) (H':Hp),Same H H'->t.At H' v->Q v H'
theorem xWh {y:Addr}(F:Fd K mg "read_thing" (top 59) ["sign","words"])(B:Bl mg)(Jw:Dn P w K mg base "read_leaf" 4 ["word"] (spLeaf y))(yx:Dn P w K mg base "kind_at_end" 1 ["row"] spKind)
  (yf:Dn P w K mg base "put_together_at_end" 1 ["row","kind"] spPut) (jL:Dn P w K mg base "refuse_unless" 1 ["fits","reason"] jS):Dn P w K mg base "read_thing" 5 ["sign","words"] (spRead y):=by
 refine F.ok yQ (fun vs H Q E h=>?_) (fun f zx A outer s H vs Q E hr h=>?_)
 .obtain⟨_,_,_,_,rfl,_⟩:=h
  rfl
 obtain⟨sg,wl,ws,t,rfl,hw,run,len,hy,q⟩:=h
 refine⟨_,(qZ (xF (i:=2) yQ.nd rfl (xU qX))
  (qZ (zH PassesOwn.never rfl (qU (K:=K) (pv 1)) (qG (i:=3) yQ.nd rfl (by wtm_at "zo")) (qZ (qP (zX (K:=K) Yy Yz YT xO (pv 2) (qQ (qD Jw hr (qQ (pv 3) qX)) qX)))
  (qZ (xF (i:=4) yQ.nd rfl (qD yx hr (qQ (pv 2) qX)))
  (qJ (qWo PassesOwn.never (qR qHe (pv 4) qHa (xD _)) (qZ (qP (qD yf hr (qQ (pv 2) (qQ (pv 4) qX))))
  (qJ (xF (i:=4) yQ.nd rfl (qD yx hr (qQ (pv 2) qX))))))))))
  (qZ (qP (qD jL hr (qQ (qZa (zJ zM (xZ (jX (K:=K)) rfl B.len' jO (qQ (pv 2) qX)) qE (xD _)) (qQf (zJ zM (xE (qS (K:=K)) (xE (qT (K:=K)) (pv 2) qE) qE) (pv 0) (xD _)))) (qQ qF qX))))
  (qJ (qN (xE (qS (K:=K)) (xE (qT (K:=K)) (pv 2) qE) qE)))))),?_⟩
 wtm_at"z"
 refine⟨xH (yZE _),fun rl hrl=>?_⟩
 have S1:=qV hrl (.lst [])
 have er:upd H rl (.lst []) rl=some (.lst []):=qW
 have nwr:wl≠rl:=qB hw hrl
 generalize upd H rl (.lst [])=H1 at S1 er ⊢
 wtm_at "zf"
 refine⟨wl,rfl,⟨_,SqL.of (S1 _ _ hw)⟩,?_⟩
 refine wM (xs:=strsV ws) (fun i σ' H'=>∃(z3 z4:Option V) (S:List Itm) (us:List V),σ'=[some (.str sg),some (.ref wl),some (.ref rl),z3,z4]/\Run (ws.drop i) S [(sg,some t)]/\H' rl=some (.lst us)/\Paired (ItmAt H') S.reverse us/\us.length<=i/\Same H H')
  ⟨none,none,[],[],rfl,run,er,.nil,yZB _,S1⟩ (fun i σ' H' _ hP=>?_) (fun i x σ' H' ex hP=>?_) (fun σ' H' hP=>?_)
 .obtain⟨z3,z4,S,us,_,_,_,_,_,S2⟩:=hP
  exact SqL.of (S2 _ _ hw)
 .obtain⟨z3,z4,S,us,rfl,rn,eu,pu,lu,S2⟩:=hP
  obtain⟨x,hi,rfl⟩:=kS ex
  have li:=(yYB.mp hi).1
  rw[List.drop_eq_getElem_cons li,(yYB.mp hi).2] at rn
  cases rn with
  | @cons _ _ it _ T1 _ lf rd rn=>
  wtm_at"z"
  refine kP (SqL.of eu) ?_
  wtm_at"z"
  refine⟨x,it,rfl,lf,S2 _ _ hy,fun r H3 S3 nr ia=>?_⟩
  wtm_at"z"
  have nl:∀{Ha:Hp} {vs:List V} {b:Addr} {xs:List V},Ha rl=some (.lst vs)->Ha b=some (.tup xs)->b≠rl:=fun e h z=>by rw[z,e] at h;cases h
  have e3:=S3 _ _ eu
  refine jG e3 (small (by omega)) ?_
  have T4:Tups H' (upd H3 rl (.lst (us++[.ref r]))):=fun b xs h=>by rw[qA (nl eu h)];exact S3 _ _ h
  have T4':Tups H3 (upd H3 rl (.lst (us++[.ref r]))):=fun b xs h=>by rw[qA (nl e3 h)];exact h
  have e4:upd H3 rl (.lst (us++[.ref r])) rl=some (.lst (us++[.ref r])):=qW
  have S4:Same H (upd H3 rl (.lst (us++[.ref r]))):=(S2.trans S3).set hrl
  have p4:Paired (ItmAt (upd H3 rl (.lst (us++[.ref r])))) (it::S).reverse (us++[.ref r]):=by
   rw[List.reverse_cons]
   exact paired_app (Paired.mapP pu fun _ _ x=>x.tups T4) (.cons (ia.tups T4') .nil)
  have l4:(us++[V.ref r]).length<=i+1:=by rw[yYI];show us.length+1<=_;omega
  generalize upd H3 rl (.lst (us++[.ref r]))=H4 at e4 S4 p4 ⊢
  generalize us++[V.ref r]=us4 at e4 p4 l4 ⊢
  generalize it::S=S4' at p4 rd
  wtm_at"z"
  refine⟨rl,us4,S4',rfl,e4,p4,by omega,fun H5 S5=>?_⟩
  wtm_at"z"
  refine⟨fun m σ' H'=>∃(S:List Itm) (us:List V),σ'=[some (.str sg),some (.ref wl),some (.ref rl),some (.str x),some (kV81 (kindR (S.map (·.1))))]/\m=us.length/\Red S T1/\H' rl=some (.lst us)/\Paired (ItmAt H') S.reverse us/\us.length<=i+1/\Same H H',
   ⟨_,S4',us4,rfl,rfl,rd,S5 _ _ e4,Paired.mapP p4 fun _ _ x=>x.tups (qC S5),l4,S4.trans S5⟩,?_⟩
  rintro m σ' H6 ⟨S6',us6,rfl,rfl,rd6,e6,p6,l6,S6⟩
  wtm_at"z"
  refine⟨rfl,_,rfl,?_⟩
  cases rd6 with
  | stop h=>
   rw[h]
   refine zQ (by simp[kV81]) ?_
   exact⟨_,_,_,us6,rfl,rn,e6,p6,l6,S6⟩
  | @step S0 its k c fw _ h hf he ht r=>
   rw[h]
   refine yB (by simp[kV81]) ?_
   refine⟨_,fun σ' H' h=>h,?_⟩
   have w2:2<=fw.length:=(show∀z∈forms81,2<=z.2.2.length by wtm_at"d") _ hf
   have li:its.length=fw.length:=by
    have:=congrArg List.length he
    rwa [yYC,Yh] at this
   have lp6:=p6.length
   rw[Yh,yYI] at lp6
   wtm_at"z"
   refine⟨rl,us6,S0,its,k,c,fw,rfl,e6,p6,by omega,hf,he,ht.1,ht.2,fun us7 H7 b7 e7 p7=>?_⟩
   have lp7:=p7.length
   rw[Yh,yYS] at lp7
   have S7:Same H H7:=fun b o h=>b7 b o (qB h hrl) (S6 _ _ h)
   wtm_at"z"
   refine⟨rl,us7,_,rfl,e7,p7,by omega,fun H8 S8=>?_⟩
   wtm_at"z"
   exact⟨us7.length,by omega,_,us7,rfl,rfl,r,S8 _ _ e7,Paired.mapP p7 fun _ _ x=>x.tups (qC S8),by omega,S7.trans S8⟩
 .obtain⟨z3,z4,S,us,rfl,rn,eu,pu,lu,S2⟩:=hP
  rw[xW,List.drop_length] at rn
  cases rn
  cases pu with
  | cons ia p=>
  cases p
  obtain⟨r,u,rfl,hr',at'⟩:=ia
  wtm_at"z"
  refine yB (decide_eq_true rfl) ?_
  wtm_at"z"
  rw[show decide (V.str (sg,some t).1=V.str sg)=true from decide_eq_true rfl]
  refine⟨_,rfl,?_⟩
  wtm_at"z"
  exact q u H' S2 at'
def Pure (x:Str):Prop:=10∉x.cps.toList/\32∉x.cps.toList/\44∉x.cps.toList
theorem Word.pure {x:Str}(h:Word x):Pure x:=by
 have d:∀c∈(Yb "abcdefghijklmnopqrstuvwxyz").cps.toList,c≠10/\c≠32/\c≠44:=by wtm_at"d"
 exact⟨fun z=>(d _ (h.abc _ z)).1 rfl,fun z=>(d _ (h.abc _ z)).2.1 rfl,fun z=>(d _ (h.abc _ z)).2.2 rfl⟩
theorem qJf (n:Nat):Pure (dec n):=by
 have d:=qZx n
 refine⟨fun z=>?_,fun z=>?_,fun z=>?_⟩ <;> have:=d _ z <;> omega
theorem kR {n:Int}(h:0<=n):numS n=dec n.toNat:=by
 unfold numS
 rw[if_neg (by omega),show n.natAbs=n.toNat by omega]
theorem qPj:∀x∈signs81,Pure x:=by unfold Pure;wtm_at"d"
theorem qZo {nm:List Str}(hn:∀x∈nm,Word x){t:Th}:(Expr' nm t\/Cond' nm t)->∀x∈wds t,Pure x:=by
 have s:∀y∈signs81,∀x,x=y->Pure x:=fun y hy x e=>by rw[e];exact qPj y hy
 induction t with
 | num n=>
  intro h x hx
  rw[yYL.mp hx]
  rcases h with h | h
  .rw[kR h.1];exact qJf _
  .exact h.elim
 | box y=>
  intro h x hx
  rw[yYL.mp hx]
  rcases h with h | h
  .exact(hn y h).pure
  .exact h.elim
 | nul k=>
  intro h x hx
  rw[yYL.mp hx]
  unfold Pure
  wtm_at"d"
 | un k a ha=>
  intro h x hx
  rcases h with h | h
  .exact h.elim
  .rcases yYK.mp hx with e | hx
   .exact s "not" (by decide) x e
   .exact ha (.inr h.2) x hx
 | bin k a b ha hb=>
  intro h
  have wr:∀{m:Str},m∈signs81->(∀x∈wds a,Pure x)->(∀x∈wds b,Pure x)->∀x∈wrap "(" (wds a) m (wds b) ")",Pure x:=fun hm h1 h2 x hx=>by
   unfold wrap at hx
   rcases yYK.mp hx with e | hx
   .exact s "(" (by decide) x e
   rcases yYR.mp hx with hx | hx
   .exact h1 x hx
   rcases yYK.mp hx with e | hx
   .exact s _ hm x e
   rcases yYR.mp hx with hx | hx
   .exact h2 x hx
   .exact s ")" (by decide) x (yYL.mp hx)
  have mi:∀{m:Str},m∈signs81->(∀x∈wds a,Pure x)->(∀x∈wds b,Pure x)->∀x∈midw (wds a) m (wds b),Pure x:=fun hm h1 h2 x hx=>by
   unfold midw at hx
   rcases yYR.mp hx with hx | hx
   .exact h1 x hx
   rcases yYK.mp hx with e | hx
   .exact s _ hm x e
   .exact h2 x hx
  rcases h with⟨hk,h1,h2⟩ | h
  .rcases hk with rfl | rfl
   .exact wr (m := "+") (by decide) (ha (.inl h1)) (hb (.inl h2))
   .exact wr (m := "-") (by decide) (ha (.inl h1)) (hb (.inl h2))
  .rcases h with⟨hk,h1,h2⟩ | ⟨rfl,h1,h2⟩
   .rcases hk with rfl | rfl
    .exact mi (m := "=") (by decide) (ha (.inl h1)) (hb (.inl h2))
    .exact mi (m := "<") (by decide) (ha (.inl h1)) (hb (.inl h2))
   .exact wr (m := "and") (by decide) (ha (.inr h1)) (hb (.inr h2))
abbrev jn (l:List Str):Str:=Txt.join ⟨#[32]⟩ l
theorem jB (a:Str){l:List Str}(h:l≠[]):jn (a::l)=a++(⟨#[32]⟩++jn l):=by
 refine yP ?_
 have:=jc (c:=32) (l:=[a]) (m:=l) (Ye _ _) h
 rw[show [a]++l=a::l from rfl] at this
 rw[this,zY,zY]
 rfl
def needW:Th->List Str
 | .nul _=>[]
 | t => "if" :: wds t
def boxW (b:Str×Int):List Str:=["box",b.1,numS b.2]
def deedW (d:Deed):List Str := "deed" :: d.name::numS d.price::needW d.need
def lookW (l:Look):List Str := "look" :: l.name::numS l.price::wds l.part
def chW (c:Str×Th):List Str := "" :: c.1 :: ":=" :: wds c.2
theorem qFa (n:Int):intS n=numS n:=xXm n
theorem qKm (b:Str×Int):boxS b=jn (boxW b):=by
 unfold boxS boxW
 rw[jB _ (Ye _ _),jB _ (Ye _ _),qFa,show Yb "box " = Yb "box" ++ ⟨#[32]⟩ by wtm_at"d",yG]
 simp only[yV]
 rfl
theorem wI {l:Look}(h:Shw l.part):lookS l=jn (lookW l):=by
 unfold lookS lookW
 rw[jB _ (Ye _ _),jB _ (Ye _ _),jB _ (vR _),qFa,vA h,show Yb "look " = Yb "look" ++ ⟨#[32]⟩ by wtm_at"d",yG]
 simp only[yV]
theorem xJi (x:Str):x++Yb "" = x:=yP (by rw[zY,qDl,Yr])
theorem qMi {t:Th}(h:Shw t)(x:Str):x++needS t=jn (x::needW t):=by
 cases t with
 | nul k=>exact xJi x
 | num n=>show x++(Yb " if " ++ sh _)=jn (x :: "if" :: wds _);rw[jB _ (Ye _ _),jB _ (vR _),vA h,show Yb " if " = ⟨#[32]⟩++(Yb "if" ++ ⟨#[32]⟩) by wtm_at"d"];simp only[yV]
 | box n=>show x++(Yb " if " ++ sh _)=jn (x :: "if" :: wds _);rw[jB _ (Ye _ _),jB _ (vR _),vA h,show Yb " if " = ⟨#[32]⟩++(Yb "if" ++ ⟨#[32]⟩) by wtm_at"d"];simp only[yV]
 | un k a=>show x++(Yb " if " ++ sh _)=jn (x :: "if" :: wds _);rw[jB _ (Ye _ _),jB _ (vR _),vA h,show Yb " if " = ⟨#[32]⟩++(Yb "if" ++ ⟨#[32]⟩) by wtm_at"d"];simp only[yV]
 | bin k a b=>show x++(Yb " if " ++ sh _)=jn (x :: "if" :: wds _);rw[jB _ (Ye _ _),jB _ (vR _),vA h,show Yb " if " = ⟨#[32]⟩++(Yb "if" ++ ⟨#[32]⟩) by wtm_at"d"];simp only[yV]
theorem yT {d:Deed}(h:Shw d.need):deedS d=jn (deedW d):=by
 unfold deedS deedW
 rw[jB _ (Ye _ _),jB _ (Ye _ _),<- qMi h,qFa,show Yb "deed " = Yb "deed" ++ ⟨#[32]⟩ by wtm_at"d",yG]
 simp only[yV]
theorem qJg {c:Str×Th}(h:Shw c.2):chS c=jn (chW c):=by
 unfold chS chW
 rw[jB _ (Ye _ _),jB _ (Ye _ _),jB _ (vR _),vA h,show Yb " := " = ⟨#[32]⟩++(Yb ":=" ++ ⟨#[32]⟩) by wtm_at"d",yG,qHl]
 simp only[yV]
theorem vW {a b:Str}(e:a=b++⟨#[32]⟩){t:Th}(h:Shw t):a++sh t=jn (b::wds t):=by
 rw[jB _ (vR _),e,vA h]
 simp only[yV]
theorem xS {ws:List Str}(h:ws≠[])(p:∀x∈ws,Pure x):Txt.split (jn ws) ⟨#[32]⟩=ws:=qXe h fun x hx=>(p x hx).2.1
theorem qXz (xs:List V){n:Nat}(h:n<=xs.length):cutV xs (some (n:Int)) none=xs.drop n:=by
 unfold cutV
 rw[HT.sIx_none,HT.sIx_nat,Nat.min_eq_left h,Yl (by rw[Yp];omega)]
theorem qUz (xs:List V){n m:Nat}(h:n<=xs.length)(h2:m<=xs.length):cutV xs (some (n:Int)) (some (m:Int))=(xs.drop n).take (m - n):=by
 unfold cutV
 rw[HT.sIx_nat,HT.sIx_nat,Nat.min_eq_left h,Nat.min_eq_left h2]
theorem qMx:xM ["row"] ["row"] (xA (top 46)):=by constructor <;> first | rfl | wtm_at"d"
def spKof:Sp:=fun vs H Q _=>∃(row x:Str) (rest:List Str),vs=[.str row]/\Txt.split row ⟨#[32]⟩=x::rest/\row.length<=1000000/\∀H',Same H H'->Q (.str x) H'
theorem xDb (F:Fd K mg "kind_of" (top 46) ["row"]):Dn P w K mg base "kind_of" 1 ["row"] spKof:=by
 refine F.ok qMx (fun vs H Q E h=>?_) (fun f zx A outer s H vs Q E hr h=>?_)
 .obtain⟨_,_,_,rfl,_⟩:=h
  rfl
 obtain⟨row,x,rest,rfl,hs,len,q⟩:=h
 refine⟨_,(qJ (qN (xE (qT (K:=K)) (zX (K:=K) YU YV YW yS (pv 0) (qQ qF qX)) qE))),?_⟩
 wtm_at"z"
 refine⟨row,_,rfl,rfl,by decide,len,fun l hl=>?_⟩
 rw[yG,hs]
 have S1:=qV hl (.lst ((x::rest).map V.str))
 have e1:upd H l (.lst ((x::rest).map V.str)) l=some (.lst (V.str x::rest.map V.str)):=qW
 generalize upd H l (.lst ((x::rest).map V.str))=H1 at S1 e1 ⊢
 wtm_at"z"
 exact q H1 S1
theorem qEg:xM ["words"] ["words"] (xA (top 49)):=by constructor <;> first | rfl | wtm_at"d"
def spRBox:Sp:=fun vs H Q _=>∃(wl:Addr) (x:Str) (n:Nat),vs=[.ref wl]/\H wl=some (.lst [.str "box",.str x,.str (dec n)])/\Word x/\n<10/\∀(r:Addr) (H':Hp),Same H H'->H' r=some (.tup [.str x,.int n])->Q (.ref r) H'
theorem xWi (F:Fd K mg "read_box" (top 49) ["words"])(B:Bl mg)(jt:Gi mg "MOST_FIGURES_OF_A_SIZE" 1)(jL:Dn P w K mg base "refuse_unless" 1 ["fits","reason"] jS)(jv:Dn P w K mg base "read_name" 2 ["word"] spName)
  (jg:Dn P w K mg base "read_short_number" 3 ["figures","most"] qYv):Dn P w K mg base "read_box" 4 ["words"] spRBox:=by
 refine F.ok qEg (fun vs H Q E h=>?_) (fun f zx A outer s H vs Q E hr h=>?_)
 .obtain⟨_,_,_,rfl,_⟩:=h
  rfl
 obtain⟨wl,x,n,rfl,hw,hx,hn,q⟩:=h
 have f3:(dec n).length=1:=(qAg ⟨n,hn⟩).2.2.1
 refine⟨_,(qZ (qP (qD jL hr (qQ (zJ zM (xZ (jX (K:=K)) rfl B.len' jO (qQ (pv 0) qX)) qE (xD _)) (qQ qF qX))))
  (qJ (qN (xN (qQ (qD jv hr (qQ (xE (qT (K:=K)) (pv 0) qE) qX)) (qQ (qD jg hr (qQ (xE (qT (K:=K)) (pv 0) qE) (qQ (qXn jt) qX))) qX)))))),?_⟩
 wtm_at"z"
 rw[show decide (V.int ((([V.str "box",V.str x,V.str (dec n)]:List V).length:Nat):Int)=V.int 3)=true from decide_eq_true rfl]
 refine⟨_,rfl,?_⟩
 wtm_at"z"
 refine⟨x,rfl,hx,fun H1 S1=>?_⟩
 have hw1:=S1 _ _ hw
 wtm_at"z"
 refine⟨n,1,rfl,Nat.lt_trans hn (by decide),by omega,fun H2 S2=>?_⟩
 wtm_at"z"
 refine⟨xH (show 2<=1000000 by decide),fun r hr'=>?_⟩
 exact q r _ ((S1.trans S2).trans (qV hr' _)) qW
theorem qZv:xM ["words","price"] ["words"] (xA (top 55)):=by constructor <;> first | rfl | wtm_at"d"
def qOd (y:Addr):Sp:=fun vs H Q _=>∃(wl:Addr) (x:Str) (n:Nat) (ws:List Str) (t:Th),vs=[.ref wl]/\H wl=some (.lst (strsV ("look" :: x::dec n::ws)))/\Word x/\n<10 ^ 30/\Run ws [] [("E",some t)]/\ws≠[]/\ws.length<=1000/\H y=some (.tup [.str "yes"])/\
 ∀(r:Addr) (v:V) (H':Hp),Same H H'->H' r=some (.tup [.str x,.int n,v])->t.At H' v->Q (.ref r) H'
theorem xZl {y:Addr}(F:Fd K mg "read_look" (top 55) ["words"])(B:Bl mg)(jd:Gi mg "MOST_FIGURES_OF_A_PRICE" 30)(jL:Dn P w K mg base "refuse_unless" 1 ["fits","reason"] jS)(jv:Dn P w K mg base "read_name" 2 ["word"] spName)
  (jg:Dn P w K mg base "read_short_number" 3 ["figures","most"] qYv) (jl:Dn P w K mg base "read_thing" 5 ["sign","words"] (spRead y)):Dn P w K mg base "read_look" 6 ["words"] (qOd y):=by
 refine F.ok qZv (fun vs H Q E h=>?_) (fun f zx A outer s H vs Q E hr h=>?_)
 .obtain⟨_,_,_,_,_,rfl,_⟩:=h
  rfl
 obtain⟨wl,x,n,ws,t,rfl,hw,hx,hn,run,w0,len,hy,q⟩:=h
 have fg:=figsL hn
 refine⟨_,(qZ (qP (qD jL hr (qQ (zJ xXc (xZ (jX (K:=K)) rfl B.len' jO (qQ (pv 0) qX)) qE (xD _)) (qQ qF qX))))
  (qZ (xF (i:=1) qZv.nd rfl (qD jg hr (qQ (xE (qT (K:=K)) (pv 0) qE) (qQ (qXn jd) qX))))
  (qJ (qN (xN (qQ (qD jv hr (qQ (xE (qT (K:=K)) (pv 0) qE) qX)) (qQ (pv 1) (qQ (qD jl hr (qQ qF (qQ (zK (zT (K:=K)) (pv 0) (zB qE) zC) qX))) qX)))))))),?_⟩
 have hw:H wl=some (.lst (V.str "look" :: V.str x::V.str (dec n)::strsV ws)):=hw
 have i1:atI (V.str "look" :: V.str x::V.str (dec n)::strsV ws) 1=some (V.str x):=jM (j:=1) rfl
 have i2:atI (V.str "look" :: V.str x::V.str (dec n)::strsV ws) 2=some (V.str (dec n)):=jM (j:=2) rfl
 have l4:3<(V.str "look" :: V.str x::V.str (dec n)::strsV ws).length:=by
  show 3<(strsV ws).length+3
  rw[xW]
  have:=List.length_pos_iff.mpr w0
  omega
 wtm_at"z"
 rw[decide_eq_true (show(3:Int)<(((V.str "look" :: V.str x::V.str (dec n)::strsV ws).length:Nat):Int) by omega)]
 refine⟨_,rfl,?_⟩
 wtm_at"z"
 refine⟨n,30,rfl,hn,by have:=fg.hi;omega,fun H1 S1=>?_⟩
 have hw1:=S1 _ _ hw
 wtm_at"z"
 refine⟨x,rfl,hx,fun H2 S2=>?_⟩
 have hw2:=S2 _ _ hw1
 wtm_at"z"
 refine⟨wl,_,rfl,SqL.of hw2,fun p hp=>?_⟩
 have S3:=(S1.trans S2).trans (qV hp (.lst (cutV (V.str "look" :: V.str x::V.str (dec n)::strsV ws) (some 3) none)))
 have e3:upd H2 p (.lst (cutV (V.str "look" :: V.str x::V.str (dec n)::strsV ws) (some 3) none)) p=some (.lst (strsV ws)):=by
  rw[qW,show(3:Int)=((3:Nat):Int) from rfl,qXz _ (by omega)]
  rfl
 generalize upd H2 p (.lst (cutV (V.str "look" :: V.str x::V.str (dec n)::strsV ws) (some 3) none))=H3 at S3 e3 ⊢
 wtm_at"z"
 refine⟨"E",p,ws,t,rfl,e3,run,by omega,S3 _ _ hy,fun v H4 S4 at'=>?_⟩
 wtm_at"z"
 refine⟨xH (show 3<=1000000 by decide),fun r hr'=>?_⟩
 have S5:=qV hr' (.tup [V.str x,V.int n,v])
 exact q r v _ ((S3.trans S4).trans S5) qW (at'.mono (qC S5))
theorem qKo:xM ["words"] ["words"] (xA (top 54)):=by constructor <;> first | rfl | wtm_at"d"
def qBg (y:Addr):Sp:=fun vs H Q _=>∃(wl:Addr) (x:Str) (ws:List Str) (t:Th),vs=[.ref wl]/\H wl=some (.lst (strsV ("" :: x :: ":=" :: ws)))/\Word x/\Run ws [] [("E",some t)]/\ws.length<=1000/\H y=some (.tup [.str "yes"])/\
 ∀(r:Addr) (v:V) (H':Hp),Same H H'->H' r=some (.tup [.str x,v])->t.At H' v->Q (.ref r) H'
theorem qNw {y:Addr}(F:Fd K mg "read_change" (top 54) ["words"])(B:Bl mg)(jL:Dn P w K mg base "refuse_unless" 1 ["fits","reason"] jS)(jv:Dn P w K mg base "read_name" 2 ["word"] spName)
  (jl:Dn P w K mg base "read_thing" 5 ["sign","words"] (spRead y)):Dn P w K mg base "read_change" 6 ["words"] (qBg y):=by
 refine F.ok qKo (fun vs H Q E h=>?_) (fun f zx A outer s H vs Q E hr h=>?_)
 .obtain⟨_,_,_,_,rfl,_⟩:=h
  rfl
 obtain⟨wl,x,ws,t,rfl,hw,hx,run,len,hy,q⟩:=h
 refine⟨_,(qZ (qP (qD jL hr (qQ (qZa (zJ zM (xE (qT (K:=K)) (pv 0) qE) qF (xD _)) (qQf (zJ (qFj (K:=K) hr.units) (zK (zT (K:=K)) (pv 0) (zB qE) (zB qE)) (xU (qQ qF qX)) (xD _)))) (qQ qF qX))))
  (qJ (qN (xN (qQ (qD jv hr (qQ (xE (qT (K:=K)) (pv 0) qE) qX)) (qQ (qD jl hr (qQ qF (qQ (zK (zT (K:=K)) (pv 0) (zB qE) zC) qX))) qX)))))),?_⟩
 have hw:H wl=some (.lst (V.str "" :: V.str x::V.str ":=" :: strsV ws)):=hw
 have i1:atI (V.str "" :: V.str x::V.str ":=" :: strsV ws) 1=some (V.str x):=jM (j:=1) rfl
 have l3:(V.str "" :: V.str x::V.str ":=" :: strsV ws).length=ws.length+3:=by show(strsV ws).length+3=_;rw[xW]
 wtm_at"z"
 refine⟨wl,_,rfl,SqL.of hw,fun p hp=>?_⟩
 have S1:=qV hp (.lst (cutV (V.str "" :: V.str x::V.str ":=" :: strsV ws) (some 2) (some 3)))
 have e1:upd H p (.lst (cutV (V.str "" :: V.str x::V.str ":=" :: strsV ws) (some 2) (some 3))) p=some (.lst ([(":=" : Str)].map V.str)):=by
  rw[qW,show(2:Int)=((2:Nat):Int) from rfl,show(3:Int)=((3:Nat):Int) from rfl,qUz _ (by omega) (by omega)]
  rfl
 generalize upd H p (.lst (cutV (V.str "" :: V.str x::V.str ":=" :: strsV ws) (some 2) (some 3)))=H1 at S1 e1 ⊢
 wtm_at"z"
 refine⟨xH (show 1<=1000000 by decide),fun p2 hp2=>?_⟩
 have S2:=S1.trans (qV hp2 (.lst [V.str ":="]))
 have e2:=qV hp2 (.lst [V.str ":="]) _ _ e1
 have e2':upd H1 p2 (.lst [V.str ":="]) p2=some (.lst ([(":=" : Str)].map V.str)):=qW
 generalize upd H1 p2 (.lst [V.str ":="])=H2 at S2 e2 e2' ⊢
 refine⟨p,p2,[":="],[":="],rfl,rfl,SqL.of e2,SqL.of e2',?_⟩
 have hw2:=S2 _ _ hw
 wtm_at"z"
 refine⟨_,rfl,?_⟩
 wtm_at"z"
 refine⟨x,rfl,hx,fun H3 S3=>?_⟩
 have hw3:=S3 _ _ hw2
 wtm_at"z"
 refine⟨wl,_,rfl,SqL.of hw3,fun p3 hp3=>?_⟩
 have S4:=(S2.trans S3).trans (qV hp3 (.lst (cutV (V.str "" :: V.str x::V.str ":=" :: strsV ws) (some 3) none)))
 have e4:upd H3 p3 (.lst (cutV (V.str "" :: V.str x::V.str ":=" :: strsV ws) (some 3) none)) p3=some (.lst (strsV ws)):=by
  rw[qW,show(3:Int)=((3:Nat):Int) from rfl,qXz _ (by omega)]
  rfl
 generalize upd H3 p3 (.lst (cutV (V.str "" :: V.str x::V.str ":=" :: strsV ws) (some 3) none))=H4 at S4 e4 ⊢
 wtm_at"z"
 refine⟨"E",p3,ws,t,rfl,e4,run,by omega,S4 _ _ hy,fun v H5 S5 at'=>?_⟩
 wtm_at"z"
 refine⟨xH (show 2<=1000000 by decide),fun r hr'=>?_⟩
 have S6:=qV hr' (.tup [V.str x,v])
 exact q r v _ ((S4.trans S5).trans S6) qW (at'.mono (qC S6))
theorem qJn (t:Th):(wds t).length+3<=4 * 2 ^ t.dep:=by
 induction t with
 | num n=>show 1+3<=4 * 2 ^ _;have:=Nat.pow_pos (n:=(Th.num n).dep) (show 0<2 by decide);omega
 | box x=>show 1+3<=4 * 2 ^ _;have:=Nat.pow_pos (n:=(Th.box x).dep) (show 0<2 by decide);omega
 | nul k=>show 1+3<=4 * 2 ^ _;have:=Nat.pow_pos (n:=(Th.nul k).dep) (show 0<2 by decide);omega
 | un k a ha=>
  show(wds a).length+1+3<=4 * 2 ^ (a.dep+1)
  rw[Nat.pow_succ]
  omega
 | bin k a b ha hb=>
  show _<=4 * 2 ^ (max a.dep b.dep+1)
  have h1:2 ^ a.dep<=2 ^ max a.dep b.dep:=Y9 (by decide) (Nat.le_max_left _ _)
  have h2:2 ^ b.dep<=2 ^ max a.dep b.dep:=Y9 (by decide) (Nat.le_max_right _ _)
  have w:∀l m r:Str,(wrap l (wds a) m (wds b) r).length=(wds a).length+(wds b).length+3:=fun l m r=>by simp[wrap];omega
  have d:∀m:Str,(midw (wds a) m (wds b)).length=(wds a).length+(wds b).length+1:=fun m=>by simp[midw];omega
  rw[Nat.pow_succ]
  unfold wds
  repeat' split
  all_goals first | rw[w] | rw[d]
  all_goals omega
theorem xJh {H:Hp}{t:Th}{v:V}(h:t.At H v)(n:∀k,t≠.nul k):∃a k us,v=.ref a/\H a=some (.tup (.str k::us))/\us.isEmpty=false:=by
 cases t with
 | num i=>obtain⟨a,e,q⟩:=h;exact⟨a,_,_,e,q,rfl⟩
 | box x=>obtain⟨a,e,q⟩:=h;exact⟨a,_,_,e,q,rfl⟩
 | nul k=>exact absurd rfl (n k)
 | un k t=>obtain⟨a,u,e,q,_⟩:=h;exact⟨a,_,_,e,q,rfl⟩
 | bin k t r=>obtain⟨a,u,w,e,q,_⟩:=h;exact⟨a,_,_,e,q,rfl⟩
theorem qZk:xM ["words","need"] ["words"] (xA (top 52)):=by constructor <;> first | rfl | wtm_at"d"
def qOc (y:Addr):Sp:=fun vs H Q _=>∃(wl:Addr) (ws:List Str) (t:Th),vs=[.ref wl]/\H wl=some (.lst (strsV ws))/\Run ws [] [("C",some t)]/\(∀k,t≠.nul k)/\ws.length<=1000/\H y=some (.tup [.str "yes"])/\∀(v:V) (H':Hp),Same H H'->t.At H' v->Q v H'
theorem xZi {y:Addr}(F:Fd K mg "read_need" (top 52) ["words"])(jo:Gs K mg "YES" ["yes"])(jL:Dn P w K mg base "refuse_unless" 1 ["fits","reason"] jS)
  (jl:Dn P w K mg base "read_thing" 5 ["sign","words"] (spRead y)):Dn P w K mg base "read_need" 6 ["words"] (qOc y):=by
 refine F.ok qZk (fun vs H Q E h=>?_) (fun f zx A outer s H vs Q E hr h=>?_)
 .obtain⟨_,_,_,rfl,_⟩:=h
  rfl
 obtain⟨wl,ws,t,rfl,hw,run,nn,len,hy,q⟩:=h
 refine⟨_,(qZ (xF (i:=1) qZk.nd rfl (qD jl hr (qQ qF (qQ (pv 0) qX))))
  (qZ (qP (qD jL hr (qQ (zJ (xVa (K:=K) hr.units) (pv 1) (qPf jo) (xD _)) (qQ qF qX))))
  (qJ (qN (pv 1))))),?_⟩
 wtm_at"z"
 refine⟨"C",wl,ws,t,rfl,hw,run,by omega,hy,fun v H1 S1 at'=>?_⟩
 obtain⟨a,k,us,rfl,ha,ue⟩:=xJh at' nn
 wtm_at"z"
 intro p hp
 refine⟨a,p,k,us,"yes",rfl,rfl,SqT.of ha,hp,?_⟩
 rw[ue,Bool.and_false]
 wtm_at"z"
 refine⟨_,rfl,?_⟩
 wtm_at"z"
 exact q _ H1 S1 at'
theorem wQ:xM ["words","name","price"] ["words"] (xA (top 51)):=by constructor <;> first | rfl | wtm_at"d"
def qOe (y:Addr):Sp:=fun vs H Q _=>∃(wl:Addr) (x:Str) (n:Nat) (t:Th),vs=[.ref wl]/\H wl=some (.lst (strsV ("deed" :: x::dec n::needW t)))/\Word x/\n<10 ^ 30/\(t=.nul "yes" \/ (∀k,t≠.nul k)/\Run (wds t) [] [("C",some t)])/\(wds t).length<=1000/\H y=some (.tup [.str "yes"])/\
 ∀(r wa:Addr) (v:V) (H':Hp),Same H H'->H r=none->H wa=none->H' r=some (.tup [.str x,.int n,v,.ref wa])->t.At H' v->H' wa=some (.lst [])->Q (.ref r) H'
theorem xZm {y:Addr}(F:Fd K mg "read_deed" (top 51) ["words"])(B:Bl mg)(jo:Gr mg "YES" y)(jd:Gi mg "MOST_FIGURES_OF_A_PRICE" 30)(jL:Dn P w K mg base "refuse_unless" 1 ["fits","reason"] jS)(jv:Dn P w K mg base "read_name" 2 ["word"] spName)
  (jg:Dn P w K mg base "read_short_number" 3 ["figures","most"] qYv) (Jx:Dn P w K mg base "read_need" 6 ["words"] (qOc y)):Dn P w K mg base "read_deed" 7 ["words"] (qOe y):=by
 refine F.ok wQ (fun vs H Q E h=>?_) (fun f zx A outer s H vs Q E hr h=>?_)
 .obtain⟨_,_,_,_,rfl,_⟩:=h
  rfl
 obtain⟨wl,x,n,t,rfl,hw,hx,hn,ht,len,hy,q⟩:=h
 have fg:=figsL hn
 have hw:H wl=some (.lst (V.str "deed" :: V.str x::V.str (dec n)::strsV (needW t))):=hw
 have i1:atI (V.str "deed" :: V.str x::V.str (dec n)::strsV (needW t)) 1=some (V.str x):=jM (j:=1) rfl
 have i2:atI (V.str "deed" :: V.str x::V.str (dec n)::strsV (needW t)) 2=some (V.str (dec n)):=jM (j:=2) rfl
 have l3:(V.str "deed" :: V.str x::V.str (dec n)::strsV (needW t)).length=(needW t).length+3:=by show(strsV _).length+3=_;rw[xW]
 refine⟨_,(qZ (qP (qD jL hr (qQ (xBl (zJ zM (xZ (jX (K:=K)) rfl B.len' jO (qQ (pv 0) qX)) qE (xD _)) (qQf (zJ (qFj (K:=K) hr.units) (zK (zT (K:=K)) (pv 0) (zB qE) (zB qE)) (xU (qQ qF qX)) (xD _)))) (qQ qF qX))))
  (qZ (xF (i:=1) wQ.nd rfl (qD jv hr (qQ (xE (qT (K:=K)) (pv 0) qE) qX)))
  (qZ (xF (i:=2) wQ.nd rfl (qD jg hr (qQ (xE (qT (K:=K)) (pv 0) qE) (qQ (qXn jd) qX))))
  (qJ (qN (xN (qQ (pv 1) (qQ (pv 2) (qQ (vF (qR zM (xZ (jX (K:=K)) rfl B.len' jO (qQ (pv 0) qX)) qE (xD _)) (xBn jo) (qD Jx hr (qQ (zK (zT (K:=K)) (pv 0) (zB qE) zC) qX))) (qQ (xU qX) qX)))))))))),?_⟩
 rcases ht with rfl | ⟨nn,run⟩
 .have hw:H wl=some (.lst [V.str "deed",V.str x,V.str (dec n)]):=hw
  wtm_at"z"
  refine yB (decide_eq_true rfl) ?_
  wtm_at"z"
  refine⟨_,rfl,?_⟩
  wtm_at"z"
  refine⟨x,rfl,hx,fun H1 S1=>?_⟩
  have hw1:=S1 _ _ hw
  wtm_at"z"
  refine⟨n,30,rfl,hn,by have:=fg.hi;omega,fun H2 S2=>?_⟩
  have hw2:=S2 _ _ hw1
  wtm_at"z"
  refine yB (decide_eq_true rfl) ?_
  wtm_at"z"
  refine⟨xH (yZE _),fun wa hwa=>?_⟩
  have S3:=(S1.trans S2).trans (qV hwa (.lst []))
  wtm_at"z"
  refine⟨xH (show 4<=1000000 by decide),fun r hr'=>?_⟩
  have S4:=S3.trans (qV hr' (.tup [V.str x,V.int n,V.ref y,V.ref wa]))
  exact q r wa (.ref y) _ S4 (S3.free hr') ((S1.trans S2).free hwa) qW ⟨y,rfl,S4 _ _ hy⟩ (qV hr' _ _ _ qW)
 .have eN:needW t=("if" : Str)::wds t:=by
   cases t with
   | nul k=>exact absurd rfl (nn k)
   | num i=>rfl
   | box i=>rfl
   | un k a=>rfl
   | bin k a b=>rfl
  rw[eN] at hw i1 i2 l3
  have l4:(V.str "deed" :: V.str x::V.str (dec n)::strsV (("if" : Str)::wds t)).length=(wds t).length+4:=l3
  have n3:¬(V.int ((((V.str "deed" :: V.str x::V.str (dec n)::strsV (("if" : Str)::wds t)).length:Nat)):Int)=V.int 3):=fun z=>by
   have:=V.int.inj z
   omega
  wtm_at"z"
  refine zQ (decide_eq_false n3) ?_
  wtm_at"z"
  refine⟨wl,_,rfl,SqL.of hw,fun p hp=>?_⟩
  have S1:=qV hp (.lst (cutV (V.str "deed" :: V.str x::V.str (dec n)::strsV (("if" : Str)::wds t)) (some 3) (some 4)))
  have e1:upd H p (.lst (cutV (V.str "deed" :: V.str x::V.str (dec n)::strsV (("if" : Str)::wds t)) (some 3) (some 4))) p=some (.lst ([("if" : Str)].map V.str)):=by
   rw[qW,show(3:Int)=((3:Nat):Int) from rfl,show(4:Int)=((4:Nat):Int) from rfl,qUz _ (by omega) (by omega)]
   rfl
  generalize upd H p (.lst (cutV (V.str "deed" :: V.str x::V.str (dec n)::strsV (("if" : Str)::wds t)) (some 3) (some 4)))=H1 at S1 e1 ⊢
  wtm_at"z"
  refine⟨xH (show 1<=1000000 by decide),fun p2 hp2=>?_⟩
  have S2:=S1.trans (qV hp2 (.lst [V.str "if"]))
  have e2:=qV hp2 (.lst [V.str "if"]) _ _ e1
  have e2':upd H1 p2 (.lst [V.str "if"]) p2=some (.lst ([("if" : Str)].map V.str)):=qW
  generalize upd H1 p2 (.lst [V.str "if"])=H2 at S2 e2 e2' ⊢
  refine⟨p,p2,["if"],["if"],rfl,rfl,SqL.of e2,SqL.of e2',?_⟩
  have hw2:=S2 _ _ hw
  wtm_at"z"
  refine⟨_,rfl,?_⟩
  wtm_at"z"
  refine⟨x,rfl,hx,fun H3 S3=>?_⟩
  have hw3:=S3 _ _ hw2
  wtm_at"z"
  refine⟨n,30,rfl,hn,by have:=fg.hi;omega,fun H4 S4=>?_⟩
  have hw4:=S4 _ _ hw3
  wtm_at"z"
  refine zQ (decide_eq_false n3) ?_
  wtm_at"z"
  refine⟨wl,_,rfl,SqL.of hw4,fun p3 hp3=>?_⟩
  have S5:=((S2.trans S3).trans S4).trans (qV hp3 (.lst (cutV (V.str "deed" :: V.str x::V.str (dec n)::strsV (("if" : Str)::wds t)) (some 4) none)))
  have e5:upd H4 p3 (.lst (cutV (V.str "deed" :: V.str x::V.str (dec n)::strsV (("if" : Str)::wds t)) (some 4) none)) p3=some (.lst (strsV (wds t))):=by
   rw[qW,show(4:Int)=((4:Nat):Int) from rfl,qXz _ (by omega)]
   rfl
  generalize upd H4 p3 (.lst (cutV (V.str "deed" :: V.str x::V.str (dec n)::strsV (("if" : Str)::wds t)) (some 4) none))=H5 at S5 e5 ⊢
  wtm_at"z"
  refine⟨p3,wds t,t,rfl,e5,run,nn,len,S5 _ _ hy,fun v H6 S6 at'=>?_⟩
  wtm_at"z"
  refine⟨xH (yZE _),fun wa hwa=>?_⟩
  have S7:=(S5.trans S6).trans (qV hwa (.lst []))
  have T7:=qV hwa (.lst [])
  wtm_at"z"
  refine⟨xH (show 4<=1000000 by decide),fun r hr'=>?_⟩
  have S8:=qV hr' (.tup [V.str x,V.int n,v,V.ref wa])
  exact q r wa v _ (S7.trans S8) (S7.free hr') ((S5.trans S6).free hwa) qW ((at'.mono (qC T7)).mono (qC S8)) (qV hr' _ _ _ qW)
theorem qEk (wy:List (Str×Th)):Txt.slice (wayS wy) (some 3) none=Txt.join (Yb ",") (wy.map chS):=by
 refine yP ?_
 have l:(wayS wy).length=3+(Txt.join (Yb ",") (wy.map chS)).length:=by unfold wayS;rw[xI];rfl
 have:=qMq (z:=wayS wy) (i:=3) (by omega)
 rw[show(3:Int)=((3:Nat):Int) from rfl,this]
 unfold wayS
 rw[zY,List.drop_append_of_le_length (by decide)]
 rfl
def ChOk (nm:List Str)(c:Str×Th):Prop:=Word c.1/\Expr' nm c.2/\c.2.dep<=6/\Shw c.2
theorem ChOk.pure {nm:List Str}(hn:∀x∈nm,Nam x){c:Str×Th}(h:ChOk nm c):∀x∈chW c,Pure x:=fun x hx=>by
 unfold chW at hx
 rcases yYK.mp hx with rfl | hx
 .unfold Pure;wtm_at"d"
 rcases yYK.mp hx with rfl | hx
 .exact h.1.pure
 rcases yYK.mp hx with rfl | hx
 .unfold Pure;wtm_at"d"
 .exact qZo (fun y hy=>(hn y hy).1) (.inl h.2.1) x hx
theorem qFn:Yb "," = ⟨#[44]⟩:=by wtm_at"d"
theorem qUk {nm:List Str}(hn:∀x∈nm,Nam x){c:Str×Th}(h:ChOk nm c):44∉(chS c).cps.toList/\10∉(chS c).cps.toList:=by
 rw[qJg h.2.2.2]
 refine⟨fun z=>?_,fun z=>?_⟩
 .rcases qJc z with e | ⟨x,hx,e⟩
  .cases e
  .exact(h.pure hn x hx).2.2 e
 .rcases qJc z with e | ⟨x,hx,e⟩
  .cases e
  .exact(h.pure hn x hx).1 e
theorem qQw {nm:List Str}(hn:∀x∈nm,Nam x){wy:List (Str×Th)}(h:∀c∈wy,ChOk nm c)(ne:wy≠[]):Txt.split (Txt.join (Yb ",") (wy.map chS)) (Yb ",")=wy.map chS:=by
 rw[qFn]
 refine qXe (fun z=>ne (List.map_eq_nil_iff.mp z)) fun x hx=>?_
 obtain⟨c,hc,rfl⟩:=yYP.mp hx
 exact(qUk hn (h c hc)).1
theorem xJe {c:Str×Th}(h1:Word c.1)(h:Shw c.2)(d:c.2.dep<=6):(chS c).length<=100000:=by
 have l:=wV h (by omega)
 have:=h1.hi
 unfold chS
 rw[xI,xI,xI,show(Yb " ").length=1 from rfl,show(Yb " := ").length=4 from rfl]
 omega
theorem zZ.tups {H H':Hp}(T:Tups H H'){c:Str×Th}{u:V}(x:zZ H c u):zZ H' c u:=let ⟨a,v,e,q,r⟩:=x;⟨a,v,e,T _ _ q,r.mono T⟩
theorem qYb:xM ["row","changes"] ["row"] (xA (top 53)):=by constructor <;> first | rfl | wtm_at"d"
theorem qZf:CompOk (xA (top 53)) ["row","changes"] (scAt (xB (top 53)) [1] [1]) ["change"] 1 []:=
 by constructor <;> wtm_at"d"
def spRWay (y:Addr):Sp:=fun vs H Q _=>∃(nm:List Str) (wy:List (Str×Th)),vs=[.str (wayS wy)]/\(∀x∈nm,Nam x)/\(∀c∈wy,ChOk nm c)/\wy.length<=100/\(wayS wy).length<=9000/\H y=some (.tup [.str "yes"])/\
 ∀(la:Addr) (us:List V) (H':Hp),Same H H'->H la=none->H' la=some (.lst us)->Paired (zZ H') wy us->Q (.ref la) H'
theorem xWf {y:Addr}(F:Fd K mg "read_way" (top 53) ["row"])(B:Bl mg)(JO:Dn P w K mg base "read_change" 6 ["words"] (qBg y)):Dn P w K mg base "read_way" 7 ["row"] (spRWay y):=by
 refine F.ok qYb (fun vs H Q E h=>?_) (fun f zx A outer s H vs Q E hr h=>?_)
 .obtain⟨_,_,rfl,_⟩:=h
  rfl
 obtain⟨nm,wy,rfl,hn,ok,l100,len,hy,q⟩:=h
 refine⟨_,(qZ (xF (i:=1) qYb.nd rfl (zK qPx (pv 0) (zB (xZ yO rfl B.len' jO (qQ qF qX))) zC))
  (qJ (qN (vF (qR qMg (pv 1) qF (xD _)) (zI rfl qZf (qU (K:=K) (zX (K:=K) YU YV YW yS (pv 1) (qQ qF qX))) (fun cl fp s H=>(qG (i:=0) qZf.nd rfl (Or.inl rfl) (.inr rfl))) (fun cl fp s H=>zF) (fun cl fp s H=>(qD JO hr (qQ (zX (K:=K) YU YV YW yS (pv 0) (qQ qF qX)) qX)))) (xU qX))))),?_⟩
 wtm_at"z"
 refine⟨_,rfl,xH (by decide),_,rfl,?_⟩
 wtm_at"z"
 refine⟨_,rfl,(by omega),?_⟩
 rw[show(((Yb "way" : Str).length:Nat):Int)=3 from rfl,qEk]
 wtm_at"z"
 by_cases ne:wy=[]
 .subst ne
  have je:Txt.join (Yb ",") (List.map chS [])=Yb "" := by wtm_at"d"
  refine zQ (by rw[decide_eq_true (congrArg V.str je)];rfl) ?_
  wtm_at"z"
  refine⟨xH (yZE _),fun la hla=>?_⟩
  exact q la [] _ (qV hla _) hla qW .nil
 .have hs:=qQw hn ok ne
  have jn0:Txt.join (Yb ",") (wy.map chS)≠Yb "" := fun z=>by
   rw[z,show Txt.split (Yb "") (Yb ",")=[Yb ""] by wtm_at"d"] at hs
   cases wy with
   | nil=>exact ne rfl
   | cons c r=>
    have h3:=(List.cons.inj hs).1
    have h4:=congrArg Str.length h3
    unfold chS at h4
    rw[xI,xI,xI,show(Yb "").length=0 from rfl,show(Yb " ").length=1 from rfl] at h4
    omega
  have lj:(Txt.join (Yb ",") (wy.map chS)).length<=1000000:=by
   have:(wayS wy).length=3+(Txt.join (Yb ",") (wy.map chS)).length:=by unfold wayS;rw[xI];rfl
   omega
  refine yB (by rw[decide_eq_false (fun z=>jn0 (V.str.inj z))];rfl) ?_
  wtm_at "zf"
  refine⟨_,_,rfl,rfl,by decide,lj,fun l hl=>?_⟩
  rw[hs]
  have S1:=qV hl (.lst ((wy.map chS).map V.str))
  have e1:upd H l (.lst ((wy.map chS).map V.str)) l=some _:=qW
  generalize upd H l (.lst ((wy.map chS).map V.str))=H1 at S1 e1 ⊢
  refine⟨l,rfl,⟨_,SqL.of e1⟩,?_⟩
  refine zV (xs:=(wy.map chS).map V.str) (fun D i ys H'=>Paired (zZ H') (wy.take i) ys/\Same H1 H') (fun D hD=>⟨.nil,qV hD _⟩) (fun D i ys H' _ hP=>SqL.of (hP.2 _ _ e1)) (fun D i x ys H' N hD hDy ex hP hN=>?_) (fun D ys H2 hD hDy hP=>?_)
  .obtain⟨pl,hk⟩:=hP
   rw[yYO,yYO] at ex
   obtain⟨z,ez,rfl⟩:=Zd.mp ex
   obtain⟨c,ec,rfl⟩:=Zd.mp ez
   obtain⟨c1,c2,c3,c4⟩:=ok c (yYE ec)
   have ll:=pl.length
   rw[yYF] at ll
   have lc:(chS c).length<=1000000:=by
    have h1:=xJe c1 c4 c3
    omega
   refine⟨⟨[some (.str (chS c))],rfl,rfl⟩,?_⟩
   wtm_at"z"
   refine⟨_,_,rfl,rfl,by decide,lc,fun l2 hl2=>?_⟩
   rw[yG,qJg c4,xS (ws:=chW c) (Ye _ _) (ChOk.pure hn ⟨c1,c2,c3,c4⟩)]
   have S2:=qV hl2 (.lst ((chW c).map V.str))
   have e2:upd H' l2 (.lst ((chW c).map V.str)) l2=some (.lst (strsV (("" : Str)::c.1 :: ":=" :: wds c.2))):=qW
   generalize upd H' l2 (.lst ((chW c).map V.str))=H3 at S2 e2 ⊢
   wtm_at"z"
   have wl:=qJn c.2
   have p2:2 ^ c.2.dep<=2 ^ 6:=Y9 (by decide) c3
   refine⟨l2,c.1,wds c.2,c.2,rfl,e2,c1,xXx hn c2,by omega,S2 _ _ (hk _ _ (S1 _ _ hy)),fun r v H4 S4 er at'=>?_⟩
   wtm_at"z"
   have eD:=S4 _ _ (S2 _ _ hDy)
   have nD:∀{b:Addr} {xs:List V},H4 b=some (.tup xs)->b≠D:=fun h z=>by rw[z,eD] at h;cases h
   have T5:Tups H4 (upd H4 D (.lst (ys++[.ref r]))):=fun b xs h=>by rw[qA (nD h)];exact h
   have T6:Tups H' (upd H4 D (.lst (ys++[.ref r]))):=fun b xs h=>T5 b xs (S4 _ _ (S2 _ _ h))
   refine⟨eD,small (by omega),hN _ _ qW ⟨?_,fun b o h=>by rw[qA (qB h hD)];exact S4 _ _ (S2 _ _ (hk _ _ h))⟩⟩
   rw[yYM,ec]
   refine paired_app (Paired.mapP pl fun _ _ x=>zZ.tups T6 x) (.cons ⟨r,v,rfl,T5 _ _ er,at'.mono T5⟩ .nil)
  .obtain⟨pl,S2⟩:=hP
   rw[yYC,yYC,yYJ] at pl
   exact q D ys H2 (S1.trans S2) (S1.free hD) hDy pl
def hid2 (a b:Addr)(H:Hp):Hp:=fun c=>if c=a\/c=b then none else H c
theorem kN {a b c:Addr}{H:Hp}(h1:c≠a)(h2:c≠b):hid2 a b H c=H c:=if_neg (fun z=>z.elim h1 h2)
theorem qQo {a b c:Addr}{H:Hp}{o:HO}(h:hid2 a b H c=some o):c≠a/\c≠b/\H c=some o:=by
 unfold hid2 at h
 by_cases z:c=a\/c=b
 .rw[if_pos z] at h;cases h
 .rw[if_neg z] at h
  exact⟨fun e=>z (.inl e),fun e=>z (.inr e),h⟩
theorem xWw {a b:Addr}{H:Hp}:Same (hid2 a b H) H:=fun c o h=>(qQo h).2.2
def DdOk (nm:List Str)(d:Deed):Prop:=Word d.name/\0<=d.price/\d.price<10 ^ 30/\Cond' nm d.need/\d.need.dep<=6/\Shw d.need/\∀wy∈d.ways,(∀c∈wy,ChOk nm c)/\wy.length<=100/\(wayS wy).length<=9000
theorem vZ {nm:List Str}(hn:∀x∈nm,Nam x){d:Deed}(h:DdOk nm d):∀x∈deedW d,Pure x:=fun x hx=>by
 obtain⟨k1,k2,k3,k4,k5,k6,k7⟩:=h
 unfold deedW at hx
 rcases yYK.mp hx with rfl | hx
 .unfold Pure;wtm_at"d"
 rcases yYK.mp hx with rfl | hx
 .exact k1.pure
 rcases yYK.mp hx with rfl | hx
 .rw[kR k2];exact qJf _
 have key:∀z∈("if" : Str)::wds d.need,Pure z:=fun z hz=>by
  rcases yYK.mp hz with rfl | hz
  .unfold Pure;wtm_at"d"
  .exact qZo (fun y hy=>(hn y hy).1) (.inr k4) z hz
 cases e:d.need with
 | nul k=>rw[e] at hx;exact absurd hx Yq
 | num i=>rw[e] at hx key;exact key x hx
 | box i=>rw[e] at hx key;exact key x hx
 | un k a=>rw[e] at hx key;exact key x hx
 | bin k a b=>rw[e] at hx key;exact key x hx
theorem qJw {nm:List Str}(hn:∀x∈nm,Nam x){t:Th}(h:Cond' nm t):t=.nul "yes" \/ (∀k,t≠.nul k)/\Run (wds t) [] [("C",some t)]:=by
 cases t with
 | nul k=>
  have e:k = "yes" := h
  rw[e];exact .inl rfl
 | num i=>exact h.elim
 | box i=>exact h.elim
 | un k a=>exact .inr ⟨(fun k z=>nomatch z),qMj hn h⟩
 | bin k a b=>exact .inr ⟨(fun k z=>nomatch z),qMj hn h⟩
def AllI (H':Hp)(dl:Addr)(ds:List Deed)(i:Nat)(R:List Str):Prop:=∃(Ds td:List Deed) (us:List V),ds=Ds++td/\R=td.flatMap xG/\H' dl=some (.lst us)/\Paired (DeedIn (hid2 dl dl H')) Ds us/\us.length<=i
def ParI (H H':Hp)(dl:Addr)(ds:List Deed)(i:Nat)(R:List Str)(tw:List (List (Str×Th))):Prop:=∃(D0:List Deed) (d:Deed) (td:List Deed) (us0:List V) (r wa:Addr) (nv:V) (wus:List V),
 ds=D0++{ d with ways:=d.ways++tw }::td/\R=tw.map wayS++td.flatMap xG/\H' dl=some (.lst (us0++[.ref r]))/\us0.length<i/\wus.length<=i/\H wa=none/\wa≠dl/\H' wa=some (.lst wus)/\
  H' r=some (.tup [.str d.name,.int d.price,nv,.ref wa])/\d.need.At H' nv/\Paired (DeedIn (hid2 dl wa H')) D0 us0/\Paired (WayIn (hid2 dl wa H')) d.ways wus
theorem qDq {a b:Addr}{H:Hp}:Same (hid2 a b H) (hid2 a a H):=fun c o h=>by
 obtain⟨h1,h2,h3⟩:=qQo h
 rw[kN h1 h1];exact h3
theorem At.hid {H:Hp}{a b:Addr}{xs ys:List V}(ha:H a=some (.lst xs))(hb:H b=some (.lst ys)):Tups H (hid2 a b H):=fun c zs h=>by
 rw[kN (fun z=>by rw[z,ha] at h;cases h) (fun z=>by rw[z,hb] at h;cases h)]
 exact h
theorem ParI.norm {H H':Hp}{dl:Addr}{ds:List Deed}{i:Nat}{R:List Str}{tw:List (List (Str×Th))}(h:ParI H H' dl ds i R tw):AllI H' dl ds i R\/∃wy tw',ParI H H' dl ds i R (wy::tw'):=by
 cases tw with
 | cons wy tw'=>exact .inr ⟨wy,tw',h⟩
 | nil=>
  obtain⟨D0,d,td,us0,r,wa,nv,wus,e,eR,el,l0,lw,nwa,wd,ew,er,at',p0,pw⟩:=h
  refine .inl ⟨D0++[d],td,us0++[.ref r],?_,eR,el,?_,by rw[yYI];exact l0⟩
  .rw[e,Yr,yYQ];rfl
  .have rd:r≠dl:=fun z=>by rw[z,el] at er;cases er
   refine paired_app (Paired.mapP p0 fun _ _ x=>x.same qDq) (.cons ⟨r,nv,wa,wus,rfl,?_,at'.mono (At.hid el el),?_,Paired.mapP pw fun _ _ x=>x.same qDq⟩ .nil)
   .rw[kN rd rd];exact er
   .rw[kN wd wd];exact ew
theorem qJq (wy:List (Str×Th)):∃rest,Txt.split (wayS wy) ⟨#[32]⟩=Yb "way" :: rest:=by
 have key:∀l,(wayS wy).cps.toList=119::97::121::32::l->∃rest,Txt.split (wayS wy) ⟨#[32]⟩=Yb "way" :: rest:=fun l e=>by
  rw[qOa,e]
  refine⟨(spl 32 l).map mkS,?_⟩
  have:spl 32 (119::97::121::32::l)=[119,97,121]::spl 32 l:=by simp[spl]
  rw[this,Ym,show mkS [119,97,121]=Yb "way" by wtm_at"d"]
 have cw:(Yb "way").cps.toList=[119,97,121]:=by wtm_at"d"
 have cc:∀c:Str×Th,∃l,(chS c).cps.toList=32::l:=fun c=>by
  unfold chS
  rw[zY,zY,zY,yG]
  exact⟨_,rfl⟩
 cases wy with
 | nil=>exact⟨[],by wtm_at"d"⟩
 | cons c r=>
  obtain⟨l,el⟩:=cc c
  cases r with
  | nil=>
   refine key l ?_
   unfold wayS
   rw[zY,cw,show Txt.join (Yb ",") ([c].map chS)=chS c from rfl,el]
   rfl
  | cons c2 r=>
   have:∃l2,(Txt.join (Yb ",") ((c::c2::r).map chS)).cps.toList=32::l2:=by
    rw[qFn,tjoin,Ym,Ym,jC,el]
    exact⟨_,rfl⟩
   obtain⟨l2,e2⟩:=this
   refine key l2 ?_
   unfold wayS
   rw[zY,cw,e2]
   rfl
theorem qUg (us:List V)(v:V):atI (us++[v]) (-1)=some v:=by
 unfold atI ixN
 rw[if_neg (by decide)]
 have l:(us++[v]).length=us.length+1:=by rw[yYI];rfl
 rw[l,if_pos (by omega)]
 show(us++[v])[((-1:Int)+((us.length+1:Nat):Int)).toNat]? = some v
 rw[show((-1:Int)+((us.length+1:Nat):Int)).toNat=us.length by omega,Yj (yZB _),Nat.sub_self]
 rfl
theorem vC:xM ["rows","deeds","row"] ["rows"] (xA (top 50)):=by constructor <;> first | rfl | wtm_at"d"
def qGh (y:Addr):Sp:=fun vs H Q _=>∃(rl:Addr) (nm:List Str) (ds:List Deed),vs=[.ref rl]/\H rl=some (.lst (strsV (ds.flatMap xG)))/\(∀x∈nm,Nam x)/\(∀d∈ds,DdOk nm d)/\(ds.flatMap xG).length<=1000/\(∀x∈ds.flatMap xG,x.length<=9000)/\H y=some (.tup [.str "yes"])/\
 ∀(la:Addr) (us:List V) (H':Hp),Same H H'->H la=none->H' la=some (.lst us)->Paired (DeedIn H') ds us->Q (.ref la) H'
theorem qTv {y:Addr}(F:Fd K mg "read_deeds" (top 50) ["rows"])(kh:Dn P w K mg base "kind_of" 1 ["row"] spKof)(Jy:Dn P w K mg base "read_deed" 7 ["words"] (qOe y))(VV:Dn P w K mg base "read_way" 7 ["row"] (spRWay y)):Dn P w K mg base "read_deeds" 8 ["rows"] (qGh y):=by
 refine F.ok vC (fun vs H Q E h=>?_) (fun f zx A outer s H vs Q E hr h=>?_)
 .obtain⟨_,_,_,rfl,_⟩:=h
  rfl
 obtain⟨rl,nm,ds,rfl,hl,hn,ok,lr,l9,hy,q⟩:=h
 refine⟨_,(qZ (xF (i:=1) vC.nd rfl (xU qX))
  (qZ (zH PassesOwn.never rfl (qU (K:=K) (pv 0)) (qG (i:=2) vC.nd rfl (by wtm_at "zo")) (qJ (zD (qR zM (qD kh hr (qQ (pv 2) qX)) qF (xD _)) (qJ (qP (zX (K:=K) Yy Yz YT xO (pv 1) (qQ (qD Jy hr (qQ (zX (K:=K) YU YV YW yS (pv 2) (qQ qF qX)) qX)) qX)))) (qJ (qP (zX (K:=K) Yy Yz YT xO (xE (qS (K:=K)) (xE (qT (K:=K)) (pv 1) (qYi vS qE)) qE) (qQ (qD VV hr (qQ (pv 2) qX)) qX)))))))
  (qJ (qN (pv 1))))),?_⟩
 wtm_at"z"
 refine⟨xH (yZE _),fun dl hdl=>?_⟩
 have S1:=qV hdl (.lst [])
 have e1:upd H dl (.lst []) dl=some (.lst []):=qW
 generalize upd H dl (.lst [])=H1 at S1 e1 ⊢
 wtm_at "zf"
 refine⟨rl,rfl,⟨_,SqL.of (S1 _ _ hl)⟩,?_⟩
 refine wM (xs:=strsV (ds.flatMap xG)) (fun i σ' H'=>∃z:Option V,σ'=[some (.ref rl),some (.ref dl),z]/\Same H H'/\(AllI H' dl ds i ((ds.flatMap xG).drop i)\/∃wy tw',ParI H H' dl ds i ((ds.flatMap xG).drop i) (wy::tw')))
  ⟨none,rfl,S1,.inl ⟨[],ds,[],rfl,rfl,e1,.nil,yZB _⟩⟩ (fun i σ' H' _ hP=>?_) (fun i x σ' H' ex hP=>?_) (fun σ' H' hP=>?_)
 .obtain⟨z,_,S2,_⟩:=hP
  exact SqL.of (S2 _ _ hl)
 .obtain⟨z,rfl,S2,I⟩:=hP
  obtain⟨x,hx,rfl⟩:=kS ex
  have li:=(yYB.mp hx).1
  have ed:(ds.flatMap xG).drop i=x::(ds.flatMap xG).drop (i+1):=by
   rw[List.drop_eq_getElem_cons li,(yYB.mp hx).2]
  have lx:=l9 x (yYE hx)
  rw[ed] at I
  rcases I with⟨Ds,td,us,e,eR,el,pD,lu⟩ | ⟨wy,tw',D0,d,td,us0,r,wa,nv,wus,e,eR,el,l0,lw,nwa,wd,ew,er,at',p0,pw⟩
  .cases td with
   | nil=>cases eR
   | cons d td=>
    have dk:=ok d (by rw[e];exact yYN _ (yYG ..))
    obtain⟨k1,k2,k3,k4,k5,k6,k7⟩:=dk
    have e2:x::(ds.flatMap xG).drop (i+1)=deedS d::(d.ways.map wayS++td.flatMap xG):=eR
    obtain⟨rfl,eR2⟩:=List.cons.inj e2
    obtain⟨n,en⟩:=Int.eq_ofNat_of_zero_le k2
    have pu:∀z∈deedW d,Pure z:=vZ hn ⟨k1,k2,k3,k4,k5,k6,k7⟩
    have sp:Txt.split (deedS d) ⟨#[32]⟩=deedW d:=by rw[yT k6];exact xS (Ye _ _) pu
    wtm_at"z"
    refine⟨deedS d,"deed",_,rfl,sp,by omega,fun H3 S3=>?_⟩
    have el3:=S3 _ _ el
    wtm_at"z"
    refine kP (SqL.of el3) ?_
    wtm_at"z"
    refine⟨_,_,rfl,rfl,by decide,by omega,fun l hl'=>?_⟩
    rw[yG,sp]
    have S4:=S3.trans (qV hl' (.lst ((deedW d).map V.str)))
    have e4:upd H3 l (.lst ((deedW d).map V.str)) l=some (.lst (strsV (("deed" : Str)::d.name::dec n::needW d.need))):=by
     rw[qW]
     show some (HO.lst (strsV (("deed" : Str)::d.name::numS d.price::needW d.need)))=_
     rw[kR k2,en]
     rfl
    generalize upd H3 l (.lst ((deedW d).map V.str))=H4 at S4 e4 ⊢
    wtm_at"z"
    refine⟨l,d.name,n,d.need,rfl,e4,k1,by omega,qJw hn k4,by have:=qJn d.need;have p2:2 ^ d.need.dep<=2 ^ 6:=Y9 (by decide) k5;omega,S4 _ _ (S2 _ _ hy),fun r wa v H5 S5 nr nw er at' ew=>?_⟩
    wtm_at"z"
    have el5:=S5 _ _ (S4 _ _ el)
    refine jG el5 (small (by omega)) ?_
    have S6:Same H (upd H5 dl (.lst (us++[.ref r]))):=((S2.trans S4).trans S5).set hdl
    have wd:wa≠dl:=fun z=>by rw[z,el5] at ew;cases ew;exact absurd (S4 _ _ el) (by rw[<- z,nw];exact fun h=>nomatch h)
    have rd:r≠dl:=fun z=>by rw[z,el5] at er;cases er
    refine⟨_,rfl,S6,?_⟩
    rw[eR2]
    refine ParI.norm (tw:=d.ways) ⟨Ds,{ d with ways:=[] },td,us,r,wa,v,[],e,rfl,qW,by omega,yZE _,(S2.trans S4).free nw,wd,?_,?_,?_,?_,.nil⟩
    .rw[qA wd];exact ew
    .rw[qA rd,er,en]
    .exact at'.mono fun b xs h=>by rw[qA (fun z=>by rw[z,el5] at h;cases h)];exact h
    .refine Paired.mapP pD fun _ _ x=>x.same fun c o h=>?_
     obtain⟨h1,_,h3⟩:=qQo h
     have h4:=S4 _ _ h3
     have hc:c≠wa:=fun z=>by rw[z,nw] at h4;cases h4
     rw[kN h1 hc,qA h1]
     exact S5 _ _ h4
  .have e2:x::(ds.flatMap xG).drop (i+1)=wayS wy::(tw'.map wayS++td.flatMap xG):=eR
   obtain⟨rfl,eR2⟩:=List.cons.inj e2
   obtain⟨rest,hk⟩:=qJq wy
   have dk:=ok { d with ways:=d.ways++wy::tw' } (by rw[e];exact yYN _ (yYG ..))
   obtain⟨w1,w2,w3⟩:=dk.2.2.2.2.2.2 wy (yYN _ (yYG ..))
   have im:atI (us0++[V.ref r]) (-1)=some (V.ref r):=qUg us0 _
   wtm_at"z"
   refine⟨wayS wy,"way",rest,rfl,hk,by omega,fun H3 S3=>?_⟩
   have el3:=S3 _ _ el
   have er3:=S3 _ _ er
   have ew3:=S3 _ _ ew
   wtm_at"z"
   refine kP (SqL.of ew3) ?_
   wtm_at"z"
   refine⟨nm,wy,rfl,hn,w1,w2,w3,S3 _ _ (S2 _ _ hy),fun la us H4 S4 nla ela pl=>?_⟩
   wtm_at"z"
   have S34:=S3.trans S4
   have ew4:=S4 _ _ ew3
   have el4:=S4 _ _ el3
   have lw4:la≠wa:=fun z=>by rw[z,ew3] at nla;cases nla
   have ld4:la≠dl:=fun z=>by rw[z,el3] at nla;cases nla
   refine jG ew4 (small (by omega)) ?_
   refine⟨_,rfl,(S2.trans S34).set nwa,?_⟩
   rw[eR2]
   have hs:Same (hid2 dl wa H') (hid2 dl wa (upd H4 wa (.lst (wus++[.ref la])))):=fun c o h=>by
    obtain⟨h1,h2,h3⟩:=qQo h
    rw[kN h1 h2,qA h2];exact S34 _ _ h3
   have rw':r≠wa:=fun z=>by rw[z,ew] at er;cases er
   have T5:Tups H4 (upd H4 wa (.lst (wus++[.ref la]))):=fun b xs h=>by rw[qA (fun z=>by rw[z,ew4] at h;cases h)];exact h
   have T6:Tups H' (upd H4 wa (.lst (wus++[.ref la]))):=fun b xs h=>T5 b xs (S34 _ _ h)
   refine ParI.norm (tw:=tw') ⟨D0,{ d with ways:=d.ways++[wy] },td,us0,r,wa,nv,wus++[.ref la],?_,rfl,?_,by omega,by rw[yYI];show wus.length+1<=_;omega,nwa,wd,qW,?_,at'.mono T6,Paired.mapP p0 fun _ _ x=>x.same hs,?_⟩
   .rw[e]
    show _=D0++{ d with ways:=(d.ways++[wy])++tw' }::td
    rw[yYQ];rfl
   .rw[qA (Ne.symm wd)];exact el4
   .exact T6 _ _ er
   .refine paired_app (Paired.mapP pw fun _ _ x=>x.same hs) (.cons ⟨la,us,rfl,?_,?_⟩ .nil)
    .rw[kN ld4 lw4,qA lw4];exact ela
    .refine Paired.mapP pl fun _ _ x=>zZ.tups (fun b xs h=>?_) x
     have h5:=T5 b xs h
     rw[kN (fun z=>by rw[z,el4] at h;cases h) (fun z=>by rw[z,ew4] at h;cases h)]
     exact h5
 .obtain⟨z,rfl,S2,I⟩:=hP
  rw[xW,List.drop_length] at I
  rcases I with⟨Ds,td,us,e,eR,el,pD,lu⟩ | ⟨wy,tw',D0,d,td,us0,r,wa,nv,wus,e,eR,_⟩
  .cases td with
   | cons d td=>cases eR
   | nil=>
    rw[Yr] at e
    subst e
    wtm_at"z"
    exact q dl us H' S2 hdl el (Paired.mapP pD fun _ _ x=>x.same xWw)
  .cases eR
def stages81:List (Str×Int):=[("box",0),("deed",1),("way",1),("look",2),("begin",3),("goal",4)]
theorem xEg {fs:List (Str×Int)}{ty:TE}{σ:St}{H:Hp}{Q:VK}(q:ty σ H fun y H1=>∃k n,y=.str k/\(k,n)∈fs/\Q (.bl true) H1):tGin fs ty σ H Q:=q
theorem w_gn {fs:List (Str×Int)}{ty:TE}{σ:St}{H:Hp}{Q:VK}(q:ty σ H fun y H1=>∃k n,y=.str k/\(k,n)∈fs/\Q (.int n) H1):tGn fs ty σ H Q:=q
theorem xAz (xs:List V){n:Nat}(h:0<n):cutV xs none (some (-(n:Int)))=xs.take (xs.length - n):=by
 unfold cutV
 rw[HT.sIx_none]
 have e:HT.sIx xs.length xs.length (some (-(n:Int)))=xs.length - n:=by
  show(if (-(n:Int))<0 then (-(n:Int)+(xs.length:Int)).toNat else _)=_
  rw[if_pos (by omega)]
  omega
 rw[e,List.drop_zero,Nat.sub_zero]
theorem kX:xM ["kinds","kind","stages"] ["kinds"] (xA (top 47)):=by constructor <;> first | rfl | wtm_at"d"
theorem vO:CompOk (xA (top 47)) ["kinds","kind","stages"] (scAt (xB (top 47)) [1] []) ["kind"] 1 []:=
 by constructor <;> wtm_at"d"
def qOh:Sp:=fun vs H Q _=>∃(kl:Addr) (k0:List Str) (ks:List (Str×Int)) (k:Str),vs=[.ref kl]/\H kl=some (.lst (strsV (ks.map (·.1))))/\(∀e∈ks,e∈stages81)/\(ks.map (·.2)).Pairwise (·<=·)/\ks.length<64/\ks.map (·.1)=k0++[("begin" : Str),"goal"]/\("begin" : Str)∉k0/\(ks.map (·.1))[(ks.map (·.2)).countP (· == 0)]? = some k/\k ≠ "way" /\
 ∀H',Same H H'->Q .non H'
theorem xJq (F:Fd K mg "refuse_order" (top 47) ["kinds"])(B:Bl mg)(uE:mg "sorted" = none)(vm:Gn w K mg "STAGES" stages81)(jL:Dn P w K mg base "refuse_unless" 1 ["fits","reason"] jS):Dn P w K mg base "refuse_order" 2 ["kinds"] qOh:=by
 refine F.ok kX (fun vs H Q E h=>?_) (fun f zx A outer s H vs Q E hr h=>?_)
 .obtain⟨_,_,_,_,rfl,_⟩:=h
  rfl
 obtain⟨kl,k0,ks,k,rfl,hk,mem,srt,len,ek,nb,ki,kw,q⟩:=h
 refine⟨_,(qZ (zH PassesOwn.never rfl (qU (K:=K) (pv 0)) (qG (i:=1) kX.nd rfl (by wtm_at "zo")) (qJ (qP (qD jL hr (qQ (xBo (xCx vm (pv 1)) (by with_unfolding_all rfl)) (qQ qF qX))))))
  (qZ (yD (i:=2) kX.nd rfl (by wtm_at "zo") rfl vO (qU (K:=K) (pv 0)) (fun cl fp s H=>(qG (i:=0) vO.nd rfl (Or.inl rfl) (.inr rfl))) (fun cl fp s H=>zF) (fun cl fp s H=>(xFq vm (pv 0) (fun _ _=>rfl))))
  (qZ (qP (qD jL hr (qQ (zJ (xVe (K:=K) hr.units) (pv 2) (xZ (qNf (K:=K)) rfl uE qUc (qQ (pv 2) qX)) (xD _)) (qQ qF qX))))
  (qZ (qP (qD jL hr (qQ (qZa (zJ (qFj (K:=K) hr.units) (zK (zT (K:=K)) (pv 0) (zB (qYi vS qE)) zC) (xU (qQ qF (qQ qF qX))) (xD _)) (qQf (zJ (qCk (K:=K)) qF (zK (zT (K:=K)) (pv 0) zC (zB (qYi vS qE))) (by with_unfolding_all rfl)))) (qQ qF qX))))
  (qJ (qP (qD jL hr (qQ (zJ qMg (xE (qT (K:=K)) (pv 0) (zX (K:=K) Yy PySem.F.slot_list_count PySem.F.type_list_count (xZz (K:=K)) (pv 2) (qQ qE qX))) qF (xD _)) (qQ qF qX))))))))),?_⟩
 wtm_at "zf"
 refine⟨kl,rfl,⟨_,SqL.of hk⟩,?_⟩
 refine wM (xs:=strsV (ks.map (·.1))) (fun i σ' H'=>∃z1:Option V,σ'=[some (.ref kl),z1,none]/\H'=H) ⟨none,rfl,rfl⟩ (fun i σ' H' _ hP=>?_) (fun i x σ' H' ex hP=>?_) (fun σ' H' hP=>?_)
 .obtain⟨z1,_,rfl⟩:=hP
  exact SqL.of hk
 .obtain⟨z1,rfl,rfl⟩:=hP
  obtain⟨x,hx,rfl⟩:=kS ex
  rw[yYO] at hx
  obtain⟨e,ee,rfl⟩:=Zd.mp hx
  wtm_at"z"
  refine xEg ?_
  wtm_at"z"
  refine⟨e.1,e.2,rfl,mem e (yYE ee),?_⟩
  wtm_at"z"
  refine⟨_,rfl,?_⟩
  wtm_at"z"
  exact⟨_,rfl,rfl⟩
 obtain⟨z1,rfl,rfl⟩:=hP
 wtm_at "zf"
 refine⟨kl,rfl,⟨_,SqL.of hk⟩,?_⟩
 refine zV (xs:=strsV (ks.map (·.1))) (fun D i ys H2=>ys=((ks.take i).map fun e=>V.int e.2)/\Same H' H2) (fun D hD=>⟨rfl,qV hD _⟩) (fun D i ys H2 _ hP=>SqL.of (hP.2 _ _ hk)) (fun D i x ys H2 N hD hDy ex hP hN=>?_) (fun D ys H2 hD hDy hP=>?_)
 .obtain⟨rfl,hs⟩:=hP
  obtain⟨x,hx,rfl⟩:=kS ex
  rw[yYO] at hx
  obtain⟨e,ee,rfl⟩:=Zd.mp hx
  refine⟨⟨[some (.str e.1)],rfl,rfl⟩,?_⟩
  wtm_at"z"
  refine w_gn ?_
  wtm_at"z"
  refine⟨e.1,e.2,rfl,mem e (yYE ee),?_⟩
  refine⟨hDy,small (by rw[yYC,yYF];omega),hN _ _ qW ⟨?_,fun b o h=>by rw[qA (qB h hD)];exact hs _ _ h⟩⟩
  rw[yYM,ee,yYU]
  rfl
 obtain⟨rfl,S2⟩:=hP
 rw[xW,yYC,yYJ] at hDy
 have hDy:H2 D=some (.lst ((ks.map (·.2)).map V.int)):=by rw[Yo];exact hDy
 have hk2:=S2 _ _ hk
 wtm_at"z"
 refine⟨D,ks.map (·.2),rfl,SqL.of hDy,by rw[yYC];exact len,fun p ms hp perm st=>?_⟩
 have ems:ms=ks.map (·.2):=List.Perm.eq_of_pairwise (fun a b _ _ h1 h2=>Int.le_antisymm h1 h2) st srt perm
 rw[ems]
 have S3:=S2.trans (qV hp (.lst ((ks.map (·.2)).map V.int)))
 have e3:upd H2 p (.lst ((ks.map (·.2)).map V.int)) p=some _:=qW
 have d3:=qV hp (.lst ((ks.map (·.2)).map V.int)) _ _ hDy
 generalize upd H2 p (.lst ((ks.map (·.2)).map V.int))=H3 at S3 e3 d3 ⊢
 refine⟨0,D,p,_,_,by decide,rfl,rfl,SqL.of d3,SqL.of e3,rfl,fun j x y h1 h2=>?_,?_⟩
 .rw[h1] at h2
  cases h2
  rw[yYO] at h1
  obtain⟨z,_,rfl⟩:=Zd.mp h1
  exact .int _
 have hk3:=S3 _ _ hk
 have lk:(strsV (ks.map (·.1))).length=k0.length+2:=by rw[xW,ek,yYI];rfl
 have c1:cutV (strsV (ks.map (·.1))) (some (-2)) none=([("begin" : Str),"goal"].map V.str):=by
  rw[show(-2:Int) = -((2:Nat):Int) from rfl,qAi _ (by decide),lk,ek,xR,show k0.length+2 - 2=(strsV k0).length by rw[xW];omega,List.drop_left]
 have c2:cutV (strsV (ks.map (·.1))) none (some (-2))=strsV k0:=by
  rw[show(-2:Int) = -((2:Nat):Int) from rfl,xAz _ (by decide),lk,ek,xR,show k0.length+2 - 2=(strsV k0).length by rw[xW];omega,List.take_left]
 wtm_at"z"
 refine⟨_,rfl,?_⟩
 wtm_at"z"
 refine⟨kl,_,rfl,SqL.of hk3,fun p4 hp4=>?_⟩
 rw[c1]
 have S4:=S3.trans (qV hp4 (.lst ([("begin" : Str),"goal"].map V.str)))
 have e4:upd H3 p4 (.lst ([("begin" : Str),"goal"].map V.str)) p4=some _:=qW
 have d4:=qV hp4 (.lst ([("begin" : Str),"goal"].map V.str)) _ _ d3
 generalize upd H3 p4 (.lst ([("begin" : Str),"goal"].map V.str))=H4 at S4 e4 d4 ⊢
 wtm_at"z"
 refine⟨xH (show 2<=1000000 by decide),fun p5 hp5=>?_⟩
 have S5:=S4.trans (qV hp5 (.lst [V.str "begin",V.str "goal"]))
 have e5:=qV hp5 (.lst [V.str "begin",V.str "goal"]) _ _ e4
 have d5:=qV hp5 (.lst [V.str "begin",V.str "goal"]) _ _ d4
 have e5':upd H4 p5 (.lst [V.str "begin",V.str "goal"]) p5=some (.lst ([("begin" : Str),"goal"].map V.str)):=qW
 generalize upd H4 p5 (.lst [V.str "begin",V.str "goal"])=H5 at S5 e5 d5 e5' ⊢
 refine⟨p4,p5,_,_,rfl,rfl,SqL.of e5,SqL.of e5',?_⟩
 have hk5:=S5 _ _ hk
 refine⟨_,rfl,?_⟩
 refine yB (decide_eq_true rfl) ?_
 wtm_at"z"
 refine⟨kl,_,rfl,SqL.of hk5,fun p6 hp6=>?_⟩
 rw[c2]
 have S6:=S5.trans (qV hp6 (.lst (strsV k0)))
 have e6:upd H5 p6 (.lst (strsV k0)) p6=some (.lst (strsV k0)):=qW
 have d6:=qV hp6 (.lst (strsV k0)) _ _ d5
 generalize upd H5 p6 (.lst (strsV k0))=H6 at S6 e6 d6 ⊢
 refine⟨p6,_,rfl,.inl (SqL.of e6),rfl,flat_strs k0,?_⟩
 rw[kM,decide_eq_false nb]
 have hk6:=S6 _ _ hk
 wtm_at"z"
 refine⟨_,rfl,?_⟩
 wtm_at"z"
 refine kP (SqL.of d6) ?_
 wtm_at"z"
 refine⟨D,ks.map (·.2),0,rfl,rfl,SqL.of d6,?_⟩
 have ix:atI (strsV (ks.map (·.1))) (((ks.map (·.2)).countP (· == 0):Nat):Int)=some (.str k):=jM (by show((ks.map (·.1)).map V.str)[_]? = _;rw[yYO,ki];rfl)
 wtm_at"z"
 have nw:decide (V.str k=V.str (Yb "way"))=false:=decide_eq_false fun z=>kw (V.str.inj z)
 rw[nw]
 refine⟨_,rfl,?_⟩
 wtm_at"z"
 exact q H6 S6
abbrev RK:=Str×Str×Int
abbrev rk (x k:Str)(n:Int):RK:=(x,k,n)
def rowsK (W:Wd):List RK:=W.bs.map (fun b=>rk (boxS b) "box" 0)++(W.ds.flatMap (fun d=>rk (deedS d) "deed" 1::d.ways.map fun wy=>rk (wayS wy) "way" 1)++(W.ls.map (fun l=>rk (lookS l) "look" 2)++[rk (Yb "begin " ++ sh W.bt) "begin" 3,rk (Yb "goal " ++ sh W.gt) "goal" 4]))
theorem wX (W:Wd):(rowsK W).map (·.1)=rowsOf W:=by
 unfold rowsK rowsOf
 simp only[yYU,Yo,List.map_flatMap,Ym,List.map_nil,yYQ]
 rfl
structure TxOk (W:Wd):Prop where
 ok:ShW W
 bw:∀b∈W.bs,Nam b.1
 dd:∀d∈W.ds,DdOk W.ws d
 lk:∀l∈W.ls,Word l.name/\0<=l.price/\l.price<10 ^ 30
theorem TxOk.nm {W:Wd}(h:TxOk W):∀x∈W.ws,Nam x:=fun x hx=>by
 obtain⟨b,hb,rfl⟩:=yYP.mp hx
 exact h.bw b hb
theorem qJh {b:Str×Int}(h:Nam b.1)(h0:0<=b.2):∀x∈boxW b,Pure x:=fun x hx=>by
 unfold boxW at hx
 rcases yYK.mp hx with rfl | hx
 .unfold Pure;wtm_at"d"
 rcases yYK.mp hx with rfl | hx
 .exact h.1.pure
 rw[yYL.mp hx,kR h0];exact qJf _
theorem qQi {nm:List Str}(hn:∀x∈nm,Nam x){l:Look}(h:Word l.name)(h0:0<=l.price)(he:Expr' nm l.part):∀x∈lookW l,Pure x:=fun x hx=>by
 unfold lookW at hx
 rcases yYK.mp hx with rfl | hx
 .unfold Pure;wtm_at"d"
 rcases yYK.mp hx with rfl | hx
 .exact h.pure
 rcases yYK.mp hx with rfl | hx
 .rw[kR h0];exact qJf _
 .exact qZo (fun y hy=>(hn y hy).1) (.inl he) x hx
theorem wE {nm:List Str}(hn:∀x∈nm,Nam x){t:Th}(h:Cond' nm t){b:Str}(hb:Pure b):∀x∈b::wds t,Pure x:=fun x hx=>by
 rcases yYK.mp hx with rfl | hx
 .exact hb
 .exact qZo (fun y hy=>(hn y hy).1) (.inr h) x hx
theorem qUf:Yb "begin " = Yb "begin" ++ ⟨#[32]⟩:=by wtm_at"d"
theorem xYo:Yb "goal " = Yb "goal" ++ ⟨#[32]⟩:=by wtm_at"d"
theorem TxOk.cut {W:Wd}(h:TxOk W):∀e∈rowsK W,(∃rest,Txt.split e.1 ⟨#[32]⟩=e.2.1::rest)/\e.2∈stages81/\10∉e.1.cps.toList:=fun e he=>by
 have fin:∀{x:Str} {k:Str} {ws:List Str},x=jn (k::ws)->(∀z∈k::ws,Pure z)->(∃rest,Txt.split x ⟨#[32]⟩=k::rest)/\10∉x.cps.toList:=fun e p=>by
  rw[e]
  refine⟨⟨_,xS (Ye _ _) p⟩,fun z=>?_⟩
  rcases qJc z with e | ⟨x,hx,e⟩
  .cases e
  .exact(p x hx).1 e
 unfold rowsK at he
 rcases yYR.mp he with he | he
 .obtain⟨b,hb,rfl⟩:=yYP.mp he
  have:=fin (qKm b) (qJh (h.bw b hb) (by have:=(h.ok.ok.b25 b hb).1;omega))
  exact⟨this.1,by dsimp only[rk];decide,this.2⟩
 rcases yYR.mp he with he | he
 .obtain⟨d,hd,he⟩:=List.mem_flatMap.mp he
  rcases yYK.mp he with rfl | he
  .have:=fin (yT (h.dd d hd).2.2.2.2.2.1) (vZ h.nm (h.dd d hd))
   exact⟨this.1,by dsimp only[rk];decide,this.2⟩
  .obtain⟨wy,hw,rfl⟩:=yYP.mp he
   refine⟨qJq wy,by dsimp only[rk];decide,fun z=>?_⟩
   have ok:=((h.dd d hd).2.2.2.2.2.2 wy hw).1
   have z:10∈(Yb "way" ++ Txt.join (Yb ",") (wy.map chS)).cps.toList:=z
   rw[zY,qFn] at z
   rcases yYR.mp z with z | z
   .exact absurd z (by wtm_at"d")
   .rcases qJc z with e | ⟨x,hx,e⟩
    .cases e
    .obtain⟨c,hc,rfl⟩:=yYP.mp hx
     exact(qUk h.nm (ok c hc)).2 e
 rcases yYR.mp he with he | he
 .obtain⟨l,hl,rfl⟩:=yYP.mp he
  have:=fin (wI (h.ok.part hl)) (qQi h.nm (h.lk l hl).1 (h.lk l hl).2.1 (h.ok.ok.looks l hl).part)
  exact⟨this.1,by dsimp only[rk];decide,this.2⟩
 rcases yYK.mp he with rfl | he
 .have:=fin (vW qUf h.ok.beg) (wE h.nm h.ok.ok.beg (by unfold Pure;wtm_at"d"))
  exact⟨this.1,by dsimp only[rk];decide,this.2⟩
 .rw[yYL.mp he]
  have:=fin (vW xYo h.ok.goal) (wE h.nm h.ok.ok.goal (by unfold Pure;wtm_at"d"))
  exact⟨this.1,by dsimp only[rk];decide,this.2⟩
theorem xKm (W:Wd):rowsOf W≠[]:=fun z=>by
 have:=congrArg List.length z
 unfold rowsOf at this
 rw[yYI] at this
 exact absurd this (by show _+2≠0;omega)
theorem TxOk.split {W:Wd}(h:TxOk W):Txt.split (textW W) (Yb "\n")=rowsOf W:=by
 unfold textW
 rw[xDg]
 refine qXe (xKm W) fun x hx=>?_
 rw[<- wX] at hx
 obtain⟨e,he,rfl⟩:=yYP.mp hx
 exact(h.cut e he).2.2
theorem qHn {W:Wd}:∀e∈W.ds.flatMap (fun d=>rk (deedS d) "deed" 1::d.ways.map fun wy=>rk (wayS wy) "way" 1),e.2=(("deed" : Str),(1:Int))\/e.2=(("way" : Str),(1:Int)):=fun e he=>by
 obtain⟨d,hd,he⟩:=List.mem_flatMap.mp he
 rcases yYK.mp he with rfl | he
 .exact .inl rfl
 .obtain⟨wy,hw,rfl⟩:=yYP.mp he
  exact .inr rfl
theorem xXz (W:Wd):(((rowsK W).map (·.2)).map (·.2)).Pairwise (·<=·):=by
 rw[Yo]
 unfold rowsK
 rw[List.pairwise_map,List.pairwise_append]
 have hb:∀e∈W.bs.map (fun b=>rk (boxS b) "box" 0),e.2.2=0:=fun e he=>by obtain⟨b,_,rfl⟩:=yYP.mp he;rfl
 have hd:∀e∈W.ds.flatMap (fun d=>rk (deedS d) "deed" 1::d.ways.map fun wy=>rk (wayS wy) "way" 1),e.2.2=1:=fun e he=>by rcases qHn e he with h | h <;> rw[h]
 have hl:∀e∈W.ls.map (fun l=>rk (lookS l) "look" 2),e.2.2=2:=fun e he=>by obtain⟨b,_,rfl⟩:=yYP.mp he;rfl
 have hz:∀e∈[rk (Yb "begin " ++ sh W.bt) "begin" 3,rk (Yb "goal " ++ sh W.gt) "goal" 4],3<=e.2.2:=fun e he=>by
  rcases yYK.mp he with rfl | he
  .exact Int.le_refl 3
  .rw[yYL.mp he];show(3:Int)<=4;decide
 have flat:∀{l:List RK} {n:Int},(∀e∈l,e.2.2=n)->l.Pairwise fun a b=>((fun e:Str×Int=>e.2)∘fun e:RK=>e.2) a<=((fun e:Str×Int=>e.2)∘fun e:RK=>e.2) b:=fun{l n} h=>by
  refine List.Pairwise.imp_of_mem (R:=fun _ _=>True) (fun{a b} ha hb _=>?_) (List.pairwise_of_forall fun _ _=>trivial)
  show a.2.2<=b.2.2
  rw[h a ha,h b hb]
  exact Int.le_refl _
 refine⟨flat hb,List.pairwise_append.mpr ⟨flat hd,List.pairwise_append.mpr ⟨flat hl,?_,fun a ha b hb'=>?_⟩,fun a ha b hb'=>?_⟩,fun a ha b hb'=>?_⟩
 .refine List.Pairwise.cons (fun b hb=>?_) (List.pairwise_singleton _ _)
  rw[yYL.mp hb]
  show(3:Int)<=4
  decide
 .show a.2.2<=b.2.2
  have:=hl a ha;have:=hz b hb';omega
 .show a.2.2<=b.2.2
  have:=hd a ha
  rcases yYR.mp hb' with h | h
  .have:=hl b h;omega
  .have:=hz b h;omega
 .show a.2.2<=b.2.2
  have:=hb a ha
  rcases yYR.mp hb' with h | h
  .have:=hd b h;omega
  rcases yYR.mp h with h | h
  .have:=hl b h;omega
  .have:=hz b h;omega
theorem qAf {α:Type}{F:Hp->α->V->Prop}(mono:∀{H H':Hp},Tups H H'->∀x u,F H x u->F H' x u){σ:St}{H:Hp}{Q:VK}{js:List Nat}{tt:TT}{te:TE}{a:Addr}{A C:List Str}{l:List α}{txt:α->Str}
  (ea:H a=some (.lst (strsV (A++(l.map txt++C))))) (len:(A++(l.map txt++C)).length<=1000)
  (no:∀x,x∈A\/x∈C->∀(H':Hp) (R:Bool->Hp->Prop),Same H H'->(∀H'',Same H' H''->R false H'')->tt ([some (.str x)]++frees js σ) H' R)
  (yes:∀b∈l,∀(H':Hp) (R:Bool->Hp->Prop),Same H H'->(∀H'',Same H' H''->R true H'')->tt ([some (.str (txt b))]++frees js σ) H' R)
  (el:∀b∈l,∀(H':Hp) (Q':VK),Same H H'->(∀v H'',Same H' H''->F H'' b v->Q' v H'')->te ([some (.str (txt b))]++frees js σ) H' Q')
  (q:∀(D:Addr) (ys:List V) (H':Hp),H D=none->Same H H'->H' D=some (.lst ys)->Paired (F H') l ys->Q (.ref D) H'):
  rdC 1 js (gName 0) tt te (Itl K a) σ H Q:=by
 refine zV (xs:=strsV (A++(l.map txt++C))) (fun D i ys H'=>Paired (F H') (l.take (i - A.length)) ys/\Same H H') (fun D hD=>⟨by rw[Nat.zero_sub];exact .nil,qV hD _⟩)
  (fun D i ys H' _ hP=>SqL.of (hP.2 _ _ ea)) (fun D i x ys H' N hD hDy ex hP hN=>?_) (fun D ys H5 hD hDy hP=>?_)
 .obtain⟨pl,hk⟩:=hP
  obtain⟨x,hx,rfl⟩:=kS ex
  have ll:=pl.length
  rw[yYF] at ll
  have li:=(yYB.mp hx).1
  refine⟨⟨[some (.str x)],rfl,rfl⟩,?_⟩
  by_cases h1:i<A.length
  .rw[Ys h1] at hx
   refine no x (.inl (yYE hx)) H' _ hk fun H4 S4=>iteF (hN _ _ (S4 _ _ hDy) ⟨?_,hk.trans S4⟩)
   rw[show i+1 - A.length=i - A.length by omega]
   exact Paired.mapP pl (mono (qC S4))
  .rw[Yj (by omega)] at hx
   by_cases h2:i - A.length<l.length
   .rw[Ys (by rw[yYC];exact h2),yYO] at hx
    obtain⟨b,eb,rfl⟩:=Zd.mp hx
    have hb:=yYE eb
    refine yes b hb H' _ hk fun H4 S4=>iteT ?_
    refine el b hb H4 _ (hk.trans S4) fun v H6 S6 fv=>?_
    have eD:=S6 _ _ (S4 _ _ hDy)
    have T7:Tups H6 (upd H6 D (.lst (ys++[v]))):=fun c xs z=>by rw[qA (fun e=>by rw[e,eD] at z;cases z)];exact z
    have T8:Tups H' (upd H6 D (.lst (ys++[v]))):=fun c xs z=>T7 c xs (S6 _ _ (S4 _ _ z))
    refine⟨eD,small (by omega),hN _ _ qW ⟨?_,fun c o z=>by rw[qA (qB z hD)];exact S6 _ _ (S4 _ _ (hk _ _ z))⟩⟩
    rw[show i+1 - A.length=(i - A.length)+1 by omega,yYM,eb]
    exact paired_app (Paired.mapP pl (mono T8)) (.cons (mono T7 _ _ fv) .nil)
   .rw[Yj (by rw[yYC];omega)] at hx
    refine no x (.inr (yYE hx)) H' _ hk fun H4 S4=>iteF (hN _ _ (S4 _ _ hDy) ⟨?_,hk.trans S4⟩)
    rw[Yl (by omega)] at pl ⊢
    exact Paired.mapP pl (mono (qC S4))
 .obtain⟨pl,hk⟩:=hP
  rw[xW,yYI,yYI,yYC,Yl (by omega)] at pl
  exact q D ys H5 hD hk hDy pl
theorem qFz (W:Wd):∃(k0:List Str) (k:Str),((rowsK W).map (·.2)).map (·.1)=k0++[("begin" : Str),"goal"]/\("begin" : Str)∉k0/\(((rowsK W).map (·.2)).map (·.1))[(((rowsK W).map (·.2)).map (·.2)).countP (· == 0)]? = some k/\k ≠ "way" := by
 obtain⟨bx,ebx⟩:∃l,W.bs.map (fun b=>rk (boxS b) "box" 0)=l:=⟨_,rfl⟩
 obtain⟨md,emd⟩:∃l,W.ds.flatMap (fun d=>rk (deedS d) "deed" 1::d.ways.map fun wy=>rk (wayS wy) "way" 1)=l:=⟨_,rfl⟩
 obtain⟨lk,elk⟩:∃l,W.ls.map (fun l=>rk (lookS l) "look" 2)=l:=⟨_,rfl⟩
 have hb:∀e∈bx,e.2=(("box" : Str),(0:Int)):=fun e he=>by rw[<- ebx] at he;obtain⟨b,_,rfl⟩:=yYP.mp he;rfl
 have hd:∀e∈md,e.2=(("deed" : Str),(1:Int))\/e.2=(("way" : Str),(1:Int)):=fun e he=>qHn e (by rw[emd];exact he)
 have hl:∀e∈lk,e.2=(("look" : Str),(2:Int)):=fun e he=>by rw[<- elk] at he;obtain⟨b,_,rfl⟩:=yYP.mp he;rfl
 have eR:rowsK W=bx++(md++(lk++[rk (Yb "begin " ++ sh W.bt) "begin" 3,rk (Yb "goal " ++ sh W.gt) "goal" 4])):=by unfold rowsK;rw[ebx,emd,elk]
 have cn:(((rowsK W).map (·.2)).map (·.2)).countP (· == 0)=bx.length:=by
  rw[eR,Yo,List.countP_map,List.countP_append]
  have c1:bx.countP ((fun x:Int=>x == 0)∘((fun e:Str×Int=>e.2)∘fun e:RK=>e.2))=bx.length:=List.countP_eq_length.mpr fun e he=>by
   show(e.2.2 == 0)=true
   rw[hb e he];rfl
  rw[c1]
  have c2:(md++(lk++[rk (Yb "begin " ++ sh W.bt) "begin" 3,rk (Yb "goal " ++ sh W.gt) "goal" 4])).countP ((fun x:Int=>x == 0)∘((fun e:Str×Int=>e.2)∘fun e:RK=>e.2))=0:=List.countP_eq_zero.mpr fun e he=>by
   show¬(e.2.2 == 0)=true
   rcases yYR.mp he with h | h
   .rcases hd e h with h | h <;> rw[h] <;> decide
   rcases yYR.mp h with h | h
   .rw[hl e h];decide
   rcases yYK.mp h with rfl | h
   .show¬((3:Int) == 0)=true;decide
   .rw[yYL.mp h];show¬((4:Int) == 0)=true;decide
  rw[c2,Nat.add_zero]
 refine⟨((bx++(md++lk)).map (·.2)).map (·.1),?_⟩
 have e1:((rowsK W).map (·.2)).map (·.1)=((bx++(md++lk)).map (·.2)).map (·.1)++[("begin" : Str),"goal"]:=by
  rw[eR]
  simp only[yYU,yYQ]
  rfl
 have nb:("begin" : Str)∉((bx++(md++lk)).map (·.2)).map (·.1):=fun h=>by
  rw[Yo] at h
  obtain⟨e,he,ee⟩:=yYP.mp h
  have ee:e.2.1 = "begin" := ee
  rcases yYR.mp he with h | h
  .rw[hb e h] at ee;exact absurd ee (by decide)
  rcases yYR.mp h with h | h
  .rcases hd e h with h | h <;> rw[h] at ee <;> exact absurd ee (by decide)
  .rw[hl e h] at ee;exact absurd ee (by decide)
 have e3:((rowsK W).map (·.2)).map (·.1)=(bx.map (·.2.1))++((md++(lk++[rk (Yb "begin " ++ sh W.bt) "begin" 3,rk (Yb "goal " ++ sh W.gt) "goal" 4])).map (·.2.1)):=by
  rw[eR,Yo,yYU];rfl
 rw[cn]
 have fin:∀(z:RK) (r:List RK),md++(lk++[rk (Yb "begin " ++ sh W.bt) "begin" 3,rk (Yb "goal " ++ sh W.gt) "goal" 4])=z::r->z.2.1 ≠ "way" -> ∃k:Str,((rowsK W).map (·.2)).map (·.1)=((bx++(md++lk)).map (·.2)).map (·.1)++[("begin" : Str),"goal"]/\("begin" : Str)∉((bx++(md++lk)).map (·.2)).map (·.1)/\(((rowsK W).map (·.2)).map (·.1))[bx.length]? = some k/\k ≠ "way" := fun z r ez hz=>by
  refine⟨z.2.1,e1,nb,?_,hz⟩
  rw[e3,ez,Yj (by rw[yYC];exact yZB _),yYC,Nat.sub_self]
  rfl
 cases hds:W.ds with
 | cons d r=>
  rw[hds] at emd
  refine fin (rk (deedS d) "deed" 1) _ (by rw[<- emd];rfl) (by show("deed" : Str) ≠ "way";decide)
 | nil=>
  rw[hds] at emd
  have em:md=[]:=emd.symm
  cases hls:W.ls with
  | cons l r=>
   rw[hls] at elk
   refine fin (rk (lookS l) "look" 2) _ (by rw[em,<- elk];rfl) (by show("look" : Str) ≠ "way";decide)
  | nil=>
   rw[hls] at elk
   have el:lk=[]:=elk.symm
   refine fin (rk (Yb "begin " ++ sh W.bt) "begin" 3) _ (by rw[em,el];rfl) (by show("begin" : Str) ≠ "way";decide)
theorem qJa {W:Wd}(h:TxOk W):∀x∈W.ds.flatMap xG,∃k rest,Txt.split x ⟨#[32]⟩=k::rest/\(k = "deed" \/ k = "way"):=fun x hx=>by
 obtain⟨d,hd,hx⟩:=List.mem_flatMap.mp hx
 rcases yYK.mp hx with rfl | hx
 .exact⟨_,_,by rw[yT (h.dd d hd).2.2.2.2.2.1];exact xS (Ye _ _) (vZ h.nm (h.dd d hd)),.inl rfl⟩
 .obtain⟨wy,hw,rfl⟩:=yYP.mp hx
  obtain⟨rest,e⟩:=qJq wy
  exact⟨_,rest,e,.inr rfl⟩
theorem qCm {W:Wd}(h:TxOk W){b:Str×Int}(hb:b∈W.bs):Txt.split (boxS b) ⟨#[32]⟩=boxW b:=by
 rw[qKm]
 exact xS (Ye _ _) (qJh (h.bw b hb) (by have:=(h.ok.ok.b25 b hb).1;omega))
theorem qKa {W:Wd}(h:TxOk W){l:Look}(hl:l∈W.ls):Txt.split (lookS l) ⟨#[32]⟩=lookW l:=by
 rw[wI (h.ok.part hl)]
 exact xS (Ye _ _) (qQi h.nm (h.lk l hl).1 (h.lk l hl).2.1 (h.ok.ok.looks l hl).part)
theorem qJb {W:Wd}(h:TxOk W):Txt.split (Yb "begin " ++ sh W.bt) ⟨#[32]⟩=Yb "begin" :: wds W.bt:=by
 rw[vW qUf h.ok.beg]
 exact xS (Ye _ _) (wE h.nm h.ok.ok.beg (by unfold Pure;wtm_at"d"))
theorem qAc {W:Wd}(h:TxOk W):Txt.split (Yb "goal " ++ sh W.gt) ⟨#[32]⟩=Yb "goal" :: wds W.gt:=by
 rw[vW xYo h.ok.goal]
 exact xS (Ye _ _) (wE h.nm h.ok.ok.goal (by unfold Pure;wtm_at"d"))
theorem qAb {W:Wd}(h:TxOk W):∀x∈[Yb "begin " ++ sh W.bt,Yb "goal " ++ sh W.gt],∃k rest,Txt.split x ⟨#[32]⟩=k::rest/\(k = "begin" \/ k = "goal"):=fun x hx=>by
 rcases yYK.mp hx with rfl | hx
 .exact⟨_,_,qJb h,.inl rfl⟩
 .rw[yYL.mp hx];exact⟨_,_,qAc h,.inr rfl⟩
theorem qQa {σ:St}{js:List Nat}{x k kd:Str}{rest:List Str}{H':Hp}{R:Bool->Hp->Prop}(hs:Txt.split x ⟨#[32]⟩=k::rest)(len:x.length<=9000)(hR:∀H'',Same H' H''->R (decide (V.str k=V.str kd)) H''):
  tTest (tOp rEq (tCall spKof [] E0 (tCons (tVar 0) tNil)) (tC (.str kd))) ([some (.str x)]++frees js σ) H' R:=by
 wtm_at"z"
 refine⟨x,k,rest,rfl,hs,by omega,fun H2 S2=>?_⟩
 wtm_at"z"
 exact hR H2 S2
theorem qOk {K:yZN}{σ:St}{js:List Nat}{x k:Str}{rest:List Str}{H':Hp}{R:Bool->Hp->Prop}(hs:Txt.split x ⟨#[32]⟩=k::rest)(len:x.length<=9000)(hR:∀H'',Same H' H''->R (decide (k∈[("deed" : Str),"way"])) H''):
  tTest (tOp (rIn K false) (tCall spKof [] E0 (tCons (tVar 0) tNil)) (tTup (tCons (tC (.str "deed")) (tCons (tC (.str "way")) tNil)))) ([some (.str x)]++frees js σ) H' R:=by
 wtm_at"z"
 refine⟨x,k,rest,rfl,hs,by omega,fun H2 S2=>?_⟩
 wtm_at"z"
 refine⟨xH (show 2<=1000000 by decide),fun p hp=>?_⟩
 have S3:=S2.trans (qV hp (.tup [V.str "deed",V.str "way"]))
 refine⟨p,_,rfl,.inr (SqT.of qW),rfl,rfl,?_⟩
 show∃b,V.bl (inV (.str k) (strsV [("deed" : Str),"way"]))=.bl b/\_
 rw[kM]
 exact⟨_,rfl,hR _ S3⟩
theorem qFq {l:List Str}{ys:List V}(p:Paired (fun(x:Str) (v:V)=>v=.str x) l ys):ys=strsV l:=by
 induction p with
 | nil=>rfl
 | cons h _ ih=>rw[h,ih];rfl
theorem xEq (us:List V)(a b:V):atI (us++[a,b]) (-2)=some a:=by
 unfold atI ixN
 rw[if_neg (by decide)]
 have l:(us++[a,b]).length=us.length+2:=by rw[yYI];rfl
 rw[l,if_pos (by omega)]
 show(us++[a,b])[((-2:Int)+((us.length+2:Nat):Int)).toNat]? = some a
 rw[show((-2:Int)+((us.length+2:Nat):Int)).toNat=us.length by omega,Yj (yZB _),Nat.sub_self]
 rfl
theorem jV:xM ["text","rows","boxes","deeds","looks","begin","goal"] ["text"] (xA (top 40)):=by constructor <;> first | rfl | wtm_at"d"
theorem wU:CompOk (xA (top 40)) ["text","rows","boxes","deeds","looks","begin","goal"] (scAt (xB (top 40)) [1] [1]) ["row"] 1 []:=
 by constructor <;> wtm_at"d"
theorem wT:CompOk (xA (top 40)) ["text","rows","boxes","deeds","looks","begin","goal"] (scAt (xB (top 40)) [2] []) ["row"] 1 []:=
 by constructor <;> wtm_at"d"
theorem wS:CompOk (xA (top 40)) ["text","rows","boxes","deeds","looks","begin","goal"] (scAt (xB (top 40)) [3] [1]) ["row"] 1 []:=
 by constructor <;> wtm_at"d"
theorem wR:CompOk (xA (top 40)) ["text","rows","boxes","deeds","looks","begin","goal"] (scAt (xB (top 40)) [4] []) ["row"] 1 []:=
 by constructor <;> wtm_at"d"
def qGg (y:Addr):Sp:=fun vs H Q _=>∃(W:Wd),vs=[.str (textW W)]/\TxOk W/\H y=some (.tup [.str "yes"])/\∀(p:Addr) (H':Hp),Same H H'->WF (fun b=>H b=none) H' W p->Q (.ref p) H'
theorem qTk {y:Addr}(F:Fd K mg "read_world" (top 40) ["text"])(B:Bl mg)(kh:Dn P w K mg base "kind_of" 1 ["row"] spKof)(uj:Dn P w K mg base "refuse_order" 2 ["kinds"] qOh)(VW:Dn P w K mg base "read_box" 4 ["words"] spRBox)
  (JZ:Dn P w K mg base "read_deeds" 8 ["rows"] (qGh y)) (Jz:Dn P w K mg base "read_look" 6 ["words"] (qOd y)) (jl:Dn P w K mg base "read_thing" 5 ["sign","words"] (spRead y)) (yp:Dn P w K mg base "world_of" 28 ["boxes","deeds","looks","begin","goal"] qYj):Dn P w K mg base "read_world" 29 ["text"] (qGg y):=by
 refine F.ok jV (fun vs H Q E h=>?_) (fun f zx A outer s H vs Q E hr h=>?_)
 .obtain⟨_,rfl,_⟩:=h
  rfl
 obtain⟨W,rfl,tx,hy,q⟩:=h
 have rl:=qHz tx.ok
 have re:=qBo tx.ok
 have tl:(textW W).length<=1000000:=yZH (qJd _ _) (qHx tx.ok)
 refine⟨_,(qZ (xF (i:=1) jV.nd rfl (zX (K:=K) YU YV YW yS (pv 0) (qQ qF qX)))
  (qZ (qP (qD uj hr (qQ (zI rfl wU (qU (K:=K) (pv 1)) (fun cl fp s H=>(qG (i:=0) wU.nd rfl (Or.inl rfl) (.inr rfl))) (fun cl fp s H=>zF) (fun cl fp s H=>(qD kh hr (qQ (pv 0) qX)))) qX)))
  (qZ (yD (i:=2) jV.nd rfl (by wtm_at "zo") rfl wT (qU (K:=K) (pv 1)) (fun cl fp s H=>(qG (i:=0) wT.nd rfl (Or.inl rfl) (.inr rfl))) (fun cl fp s H=>(qXm (qR zM (qD kh hr (qQ (pv 0) qX)) qF (xD _)))) (fun cl fp s H=>(qD VW hr (qQ (zX (K:=K) YU YV YW yS (pv 0) (qQ qF qX)) qX))))
  (qZ (xF (i:=3) jV.nd rfl (qD JZ hr (qQ (zI rfl wS (qU (K:=K) (pv 1)) (fun cl fp s H=>(qG (i:=0) wS.nd rfl (Or.inl rfl) (.inr rfl))) (fun cl fp s H=>(qXm (qR (qHf (K:=K)) (qD kh hr (qQ (pv 0) qX)) (xN (qQ qF (qQ qF qX))) (by with_unfolding_all rfl)))) (fun cl fp s H=>(pv 0))) qX)))
  (qZ (yD (i:=4) jV.nd rfl (by wtm_at "zo") rfl wR (qU (K:=K) (pv 1)) (fun cl fp s H=>(qG (i:=0) wR.nd rfl (Or.inl rfl) (.inr rfl))) (fun cl fp s H=>(qXm (qR zM (qD kh hr (qQ (pv 0) qX)) qF (xD _)))) (fun cl fp s H=>(qD Jz hr (qQ (zX (K:=K) YU YV YW yS (pv 0) (qQ qF qX)) qX))))
  (qZ (xF (i:=5) jV.nd rfl (qD jl hr (qQ qF (qQ (zK (zT (K:=K)) (zX (K:=K) YU YV YW yS (xE (qT (K:=K)) (pv 1) (qYi vS qE)) (qQ qF qX)) (zB qE) zC) qX))))
  (qZ (xF (i:=6) jV.nd rfl (qD jl hr (qQ qF (qQ (zK (zT (K:=K)) (zX (K:=K) YU YV YW yS (xE (qT (K:=K)) (pv 1) (qYi vS qE)) (qQ qF qX)) (zB qE) zC) qX))))
  (qJ (qN (qD yp hr (qQ (pv 2) (qQ (pv 3) (qQ (pv 4) (qQ (pv 5) (qQ (pv 6) qX))))))))))))))),?_⟩
 wtm_at"z"
 refine⟨_,_,rfl,rfl,by decide,tl,fun rw' hrw=>?_⟩
 rw[tx.split]
 have S1:=qV hrw (.lst ((rowsOf W).map V.str))
 have e1:upd H rw' (.lst ((rowsOf W).map V.str)) rw'=some (.lst (strsV (rowsOf W))):=qW
 generalize upd H rw' (.lst ((rowsOf W).map V.str))=H1 at S1 e1 ⊢
 wtm_at "zf"
 refine⟨rw',rfl,⟨_,SqL.of e1⟩,?_⟩
 refine zV (xs:=strsV (rowsOf W)) (fun D i ys H'=>ys=strsV ((((rowsK W).take i).map (·.2)).map (·.1))/\Same H1 H') (fun D hD=>⟨rfl,qV hD _⟩) (fun D i ys H' _ hP=>SqL.of (hP.2 _ _ e1)) (fun D i x ys H' N hD hDy ex hP hN=>?_) (fun D ys H2 hD hDy hP=>?_)
 .obtain⟨rfl,hs⟩:=hP
  obtain⟨x,hx,rfl⟩:=kS ex
  rw[<- wX,yYO] at hx
  obtain⟨e,ee,rfl⟩:=Zd.mp hx
  have me:=yYE ee
  obtain⟨⟨rest,hc⟩,_⟩:=tx.cut e me
  have le:=re e.1 (by rw[<- wX];exact yYP.mpr ⟨e,me,rfl⟩)
  refine⟨⟨[some (.str e.1)],rfl,rfl⟩,?_⟩
  wtm_at"z"
  refine⟨e.1,e.2.1,rest,rfl,hc,by omega,fun H3 S3=>?_⟩
  refine⟨S3 _ _ hDy,small (by rw[xW,yYC,yYC,yYF];have:=congrArg List.length (wX W);rw[yYC] at this;omega),hN _ _ qW ⟨?_,fun b o h=>by rw[qA (qB h hD)];exact S3 _ _ (hs _ _ h)⟩⟩
  rw[yYM,ee,yYU,yYU,xR]
  rfl
 obtain⟨rfl,S2⟩:=hP
 have lK:(rowsK W).length=(rowsOf W).length:=by rw[<- wX,yYC]
 rw[xW,<- lK,yYJ] at hDy
 obtain⟨k0,k,o1,o2,o3,o4⟩:=qFz W
 wtm_at"z"
 refine⟨D,k0,(rowsK W).map (·.2),k,rfl,hDy,(fun e he=>by obtain⟨z,hz,rfl⟩:=yYP.mp he;exact(tx.cut z hz).2.1),xXz W,by rw[yYC];omega,o1,o2,o3,o4,fun H3 S3=>?_⟩
 have e3:=S3 _ _ (S2 _ _ e1)
 have S13:=(S1.trans S2).trans S3
 have lr:(rowsOf W).length<=1000:=by omega
 have er:rowsOf W=[]++(W.bs.map boxS++(W.ds.flatMap xG++(W.ls.map lookS++[Yb "begin " ++ sh W.bt,Yb "goal " ++ sh W.gt]))):=by unfold rowsOf;simp only[yYQ,List.nil_append]
 have rin:∀x∈rowsOf W,x.length<=9000:=re
 wtm_at "zf"
 refine⟨rw',rfl,⟨_,SqL.of e3⟩,?_⟩
 refine qAf (F:=BoxIn) (fun T x u h=>?_) (A:=[]) (l:=W.bs) (txt:=boxS) (C:=W.ds.flatMap xG++(W.ls.map lookS++[Yb "begin " ++ sh W.bt,Yb "goal " ++ sh W.gt])) (by rw[<- er];exact e3) (by rw[<- er];exact lr) (fun x hx H' R S' hR=>?_) (fun b hb H' R S' hR=>?_) (fun b hb H' Q' S' hQ=>?_) (fun bx us H4 nb S4 eb pb=>?_)
 .obtain⟨a,e,h⟩:=h
  exact⟨a,e,T _ _ h⟩
 .have hx:x∈W.ds.flatMap xG++(W.ls.map lookS++[Yb "begin " ++ sh W.bt,Yb "goal " ++ sh W.gt]):=hx.elim (fun z=>absurd z Yq) id
  have lx:=rin x (by rw[er];exact yYN _ (yYN _ hx))
  obtain⟨k,rest,hs,hk⟩:∃k rest,Txt.split x ⟨#[32]⟩=k::rest/\k ≠ "box" := by
   rcases yYR.mp hx with h | h
   .obtain⟨k,rest,hs,hk⟩:=qJa tx x h
    exact⟨k,rest,hs,by rcases hk with rfl | rfl <;> decide⟩
   rcases yYR.mp h with h | h
   .obtain⟨l,hl,rfl⟩:=yYP.mp h
    exact⟨_,_,qKa tx hl,by decide⟩
   .obtain⟨k,rest,hs,hk⟩:=qAb tx x h
    exact⟨k,rest,hs,by rcases hk with rfl | rfl <;> decide⟩
  exact qQa hs lx fun H2 S2=>by rw[decide_eq_false (fun z=>hk (V.str.inj z))];exact hR H2 S2
 .have lx:=rin (boxS b) (by rw[er];exact yYN _ (Yn _ (yYP.mpr ⟨b,hb,rfl⟩)))
  exact qQa (qCm tx hb) lx fun H2 S2=>by rw[decide_eq_true rfl];exact hR H2 S2
 .have lx:=rin (boxS b) (by rw[er];exact yYN _ (Yn _ (yYP.mpr ⟨b,hb,rfl⟩)))
  have b25:=tx.ok.ok.b25 b hb
  wtm_at"z"
  refine⟨_,_,rfl,rfl,by decide,by omega,fun l hl=>?_⟩
  rw[yG,qCm tx hb]
  have S5:=qV hl (.lst ((boxW b).map V.str))
  have e5:upd H' l (.lst ((boxW b).map V.str)) l=some (.lst [.str "box",.str b.1,.str (dec b.2.toNat)]):=by
   rw[qW,<- kR (by omega)]
   rfl
  generalize upd H' l (.lst ((boxW b).map V.str))=H5 at S5 e5 ⊢
  wtm_at"z"
  refine⟨l,b.1,b.2.toNat,rfl,e5,(tx.bw b hb).1,by omega,fun r H6 S6 er=>?_⟩
  exact hQ _ H6 (S5.trans S6) ⟨r,rfl,by rw[er,Int.toNat_of_nonneg (by omega)]⟩
 have S14:=S13.trans S4
 have e4:=S4 _ _ e3
 have er2:rowsOf W=W.bs.map boxS++((W.ds.flatMap xG).map (fun x=>x)++(W.ls.map lookS++[Yb "begin " ++ sh W.bt,Yb "goal " ++ sh W.gt])):=by rw[er,List.map_id',List.nil_append]
 wtm_at "zf"
 refine⟨rw',rfl,⟨_,SqL.of e4⟩,?_⟩
 refine qAf (F:=fun _ (x:Str) (v:V)=>v=.str x) (fun T x u h=>h) (A:=W.bs.map boxS) (l:=W.ds.flatMap xG) (txt:=fun x=>x) (C:=W.ls.map lookS++[Yb "begin " ++ sh W.bt,Yb "goal " ++ sh W.gt]) (by rw[<- er2];exact e4) (by rw[<- er2];exact lr) (fun x hx H' R S' hR=>?_) (fun b hb H' R S' hR=>?_) (fun b hb H' Q' S' hQ=>?_) (fun rd ys H5 nd S5 ed pd=>?_)
 .have lx:=rin x (by rw[er2];exact hx.elim (fun h=>Yn _ h) fun h=>yYN _ (yYN _ h))
  obtain⟨k,rest,hs,hk⟩:∃k rest,Txt.split x ⟨#[32]⟩=k::rest/\k∉[("deed" : Str),"way"]:=by
   rcases hx with h | h
   .obtain⟨b,hb,rfl⟩:=yYP.mp h
    exact⟨_,_,qCm tx hb,by decide⟩
   rcases yYR.mp h with h | h
   .obtain⟨l,hl,rfl⟩:=yYP.mp h
    exact⟨_,_,qKa tx hl,by decide⟩
   .obtain⟨k,rest,hs,hk⟩:=qAb tx x h
    exact⟨k,rest,hs,by rcases hk with rfl | rfl <;> decide⟩
  exact qOk hs lx fun H2 S2=>by rw[decide_eq_false hk];exact hR H2 S2
 .have lx:=rin b (by rw[er];exact yYN _ (yYN _ (Yn _ hb)))
  obtain⟨k,rest,hs,hk⟩:=qJa tx b hb
  exact qOk hs lx fun H2 S2=>by rw[decide_eq_true (show k∈[("deed" : Str),"way"] by rcases hk with rfl | rfl <;> decide)];exact hR H2 S2
 .wtm_at"z"
  exact hQ _ H' (Same.refl _) rfl
 have eys:=qFq pd
 subst eys
 have S15:=S14.trans S5
 have e5:=S5 _ _ e4
 wtm_at"z"
 refine⟨rd,W.ws,W.ds,rfl,ed,tx.nm,tx.dd,(by have:=congrArg List.length er2;rw[yYI,yYI,yYC,yYC] at this;omega),(fun x hx=>rin x (by rw[er];exact yYN _ (yYN _ (Yn _ hx)))),S15 _ _ hy,fun dx dus H6 S6 ndx edx pdx=>?_⟩
 have S16:=S15.trans S6
 have e6:=S6 _ _ e5
 have er3:rowsOf W=(W.bs.map boxS++W.ds.flatMap xG)++(W.ls.map lookS++[Yb "begin " ++ sh W.bt,Yb "goal " ++ sh W.gt]):=by rw[er,List.nil_append,yYQ]
 wtm_at "zf"
 refine⟨rw',rfl,⟨_,SqL.of e6⟩,?_⟩
 refine qAf (F:=LookIn) (fun T x u h=>?_) (A:=W.bs.map boxS++W.ds.flatMap xG) (l:=W.ls) (txt:=lookS) (C:=[Yb "begin " ++ sh W.bt,Yb "goal " ++ sh W.gt]) (by rw[<- er3];exact e6) (by rw[<- er3];exact lr) (fun x hx H' R S' hR=>?_) (fun b hb H' R S' hR=>?_) (fun b hb H' Q' S' hQ=>?_) (fun lx lus H7 nlx S7 elx plx=>?_)
 .obtain⟨a,v,e,h,h2⟩:=h
  exact⟨a,v,e,T _ _ h,h2.mono T⟩
 .have lx:=rin x (by rw[er3];exact hx.elim (fun h=>Yn _ h) fun h=>yYN _ (yYN _ h))
  obtain⟨k,rest,hs,hk⟩:∃k rest,Txt.split x ⟨#[32]⟩=k::rest/\k ≠ "look" := by
   rcases hx with h | h
   .rcases yYR.mp h with h | h
    .obtain⟨b,hb,rfl⟩:=yYP.mp h
     exact⟨_,_,qCm tx hb,by decide⟩
    .obtain⟨k,rest,hs,hk⟩:=qJa tx x h
     exact⟨k,rest,hs,by rcases hk with rfl | rfl <;> decide⟩
   .obtain⟨k,rest,hs,hk⟩:=qAb tx x h
    exact⟨k,rest,hs,by rcases hk with rfl | rfl <;> decide⟩
  exact qQa hs lx fun H2 S2=>by rw[decide_eq_false (fun z=>hk (V.str.inj z))];exact hR H2 S2
 .have lx:=rin (lookS b) (by rw[er3];exact yYN _ (Yn _ (yYP.mpr ⟨b,hb,rfl⟩)))
  exact qQa (qKa tx hb) lx fun H2 S2=>by rw[decide_eq_true rfl];exact hR H2 S2
 .have lx:=rin (lookS b) (by rw[er3];exact yYN _ (Yn _ (yYP.mpr ⟨b,hb,rfl⟩)))
  obtain⟨k1,k2,k3⟩:=tx.lk b hb
  have lo:=tx.ok.ok.looks b hb
  wtm_at"z"
  refine⟨_,_,rfl,rfl,by decide,by omega,fun l hl=>?_⟩
  rw[yG,qKa tx hb]
  have S8:=qV hl (.lst ((lookW b).map V.str))
  have e8:upd H' l (.lst ((lookW b).map V.str)) l=some (.lst (strsV (("look" : Str)::b.name::dec b.price.toNat::wds b.part))):=by
   rw[qW,<- kR k2]
   rfl
  generalize upd H' l (.lst ((lookW b).map V.str))=H8 at S8 e8 ⊢
  wtm_at"z"
  have wl:=qJn b.part
  have p2:2 ^ b.part.dep<=2 ^ 3:=Y9 (by decide) lo.sm
  refine⟨l,b.name,b.price.toNat,wds b.part,b.part,rfl,e8,k1,by omega,xXx tx.nm lo.part,vR _,by omega,S8 _ _ (S' _ _ (S16 _ _ hy)),fun r v H9 S9 er at'=>?_⟩
  exact hQ _ H9 (S8.trans S9) ⟨r,v,rfl,by rw[er,Int.toNat_of_nonneg k2],at'⟩
 have S17:=S16.trans S7
 have e7:=S7 _ _ e6
 obtain⟨ra,era⟩:∃ra,strsV (rowsOf W)=ra++[V.str (Yb "begin " ++ sh W.bt),V.str (Yb "goal " ++ sh W.gt)]:=⟨_,by rw[er3,<- yYQ,xR];rfl⟩
 rw[era] at e7
 have i2:atI (ra++[V.str (Yb "begin " ++ sh W.bt),V.str (Yb "goal " ++ sh W.gt)]) (-2)=some (V.str (Yb "begin " ++ sh W.bt)):=xEq _ _ _
 have i1:atI (ra++[V.str (Yb "begin " ++ sh W.bt),V.str (Yb "goal " ++ sh W.gt)]) (-1)=some (V.str (Yb "goal " ++ sh W.gt)):=by
  have:=qUg (ra++[V.str (Yb "begin " ++ sh W.bt)]) (V.str (Yb "goal " ++ sh W.gt))
  rwa [yYQ] at this
 wtm_at"z"
 refine⟨_,_,rfl,rfl,by decide,by have:=rin _ (by rw[er3];exact yYN _ (yYN _ (yYG ..)));omega,fun l1 hl1=>?_⟩
 rw[yG,qJb tx]
 have T1a:=qV hl1 (.lst ((Yb "begin" :: wds W.bt).map V.str))
 have u1a:upd H7 l1 (.lst ((Yb "begin" :: wds W.bt).map V.str)) l1=some (.lst (V.str "begin" :: strsV (wds W.bt))):=qW
 generalize upd H7 l1 (.lst ((Yb "begin" :: wds W.bt).map V.str))=G1 at T1a u1a ⊢
 wtm_at"z"
 refine⟨l1,_,rfl,SqL.of u1a,fun p1 hp1=>?_⟩
 have T1b:=T1a.trans (qV hp1 (.lst (cutV (V.str "begin" :: strsV (wds W.bt)) (some 1) none)))
 have u1b:upd G1 p1 (.lst (cutV (V.str "begin" :: strsV (wds W.bt)) (some 1) none)) p1=some (.lst (strsV (wds W.bt))):=by
  rw[qW,show(1:Int)=((1:Nat):Int) from rfl,qXz _ (by show 1<=_+1;omega)]
  rfl
 generalize upd G1 p1 (.lst (cutV (V.str "begin" :: strsV (wds W.bt)) (some 1) none))=K1 at T1b u1b ⊢
 wtm_at"z"
 have wb:=qJn W.bt
 have pb2:2 ^ W.bt.dep<=2 ^ 8:=Y9 (by decide) tx.ok.ok.bsm
 have wg:=qJn W.gt
 have pg2:2 ^ W.gt.dep<=2 ^ 8:=Y9 (by decide) tx.ok.ok.gsm
 refine⟨"C",p1,wds W.bt,W.bt,rfl,u1b,qMj tx.nm tx.ok.ok.beg,by omega,T1b _ _ (S17 _ _ hy),fun bv H8 S8 atb=>?_⟩
 have S18:=(S17.trans T1b).trans S8
 have e8:=S8 _ _ (T1b _ _ e7)
 wtm_at"z"
 refine⟨_,_,rfl,rfl,by decide,by have:=rin _ (by rw[er3];exact yYN _ (yYN _ (yYH _ (yYG ..))));omega,fun l2 hl2=>?_⟩
 rw[qAc tx]
 have T2a:=qV hl2 (.lst ((Yb "goal" :: wds W.gt).map V.str))
 have u2a:upd H8 l2 (.lst ((Yb "goal" :: wds W.gt).map V.str)) l2=some (.lst (V.str "goal" :: strsV (wds W.gt))):=qW
 generalize upd H8 l2 (.lst ((Yb "goal" :: wds W.gt).map V.str))=G2 at T2a u2a ⊢
 wtm_at"z"
 refine⟨l2,_,rfl,SqL.of u2a,fun p2 hp2=>?_⟩
 have T2b:=T2a.trans (qV hp2 (.lst (cutV (V.str "goal" :: strsV (wds W.gt)) (some 1) none)))
 have u2b:upd G2 p2 (.lst (cutV (V.str "goal" :: strsV (wds W.gt)) (some 1) none)) p2=some (.lst (strsV (wds W.gt))):=by
  rw[qW,show(1:Int)=((1:Nat):Int) from rfl,qXz _ (by show 1<=_+1;omega)]
  rfl
 generalize upd G2 p2 (.lst (cutV (V.str "goal" :: strsV (wds W.gt)) (some 1) none))=K2 at T2b u2b ⊢
 wtm_at"z"
 refine⟨"C",p2,wds W.gt,W.gt,rfl,u2b,qMj tx.nm tx.ok.ok.goal,by omega,T2b _ _ (S18 _ _ hy),fun gv H9 S9 atg=>?_⟩
 have S89:=T2b.trans S9
 have S79:=(T1b.trans S8).trans S89
 have S19:=S17.trans S79
 wtm_at"z"
 refine⟨W,bx,dx,lx,bv,gv,rfl,⟨⟨us,?_,?_⟩,⟨dus,?_,?_⟩,⟨lus,?_,?_⟩,?_,atg⟩,tx.ok.ok,fun p H' S' wf=>?_⟩
 .exact S79 _ _ (S7 _ _ (S6 _ _ (S5 _ _ eb)))
 .exact Paired.mapP pb fun _ _ ⟨a,e,h⟩=>⟨a,e,S79 _ _ (S7 _ _ (S6 _ _ (S5 _ _ h)))⟩
 .exact S79 _ _ (S7 _ _ edx)
 .exact Paired.mapP pdx fun _ _ x=>x.same (S7.trans S79)
 .exact S79 _ _ elx
 .exact Paired.mapP plx fun _ _ x=>x.same S79
 .exact atb.mono (qC S89)
 .exact q p H' (S19.trans S') (wf.move (fun _ _ _ h=>h) (fun _ _ h=>h) fun b h=>S19.free h)
def hdT:Th->Str
 | .num _ => "number"
 | .box _ => "box"
 | .nul k=>k
 | .un k _=>k
 | .bin k _ _=>k
inductive ItsT (H:Hp):Th->List V->Prop
 | num (n:Int):ItsT H (.num n) [.int n]
 | box (x:Str):ItsT H (.box x) [.str x]
 | nul (k:Str):ItsT H (.nul k) []
 | un {k:Str} {a:Th} {u:V} (h:a.At H u):ItsT H (.un k a) [u]
 | bin {k:Str} {a b:Th} {u w:V} (h:a.At H u) (h2:b.At H w):ItsT H (.bin k a b) [u,w]
theorem qZm {H:Hp}{t:Th}{v:V}(h:t.At H v):∃a us,v=.ref a/\H a=some (.tup (.str (hdT t)::us))/\ItsT H t us:=by
 cases t with
 | num n=>obtain⟨a,e,q⟩:=h;exact⟨a,_,e,q,.num n⟩
 | box x=>obtain⟨a,e,q⟩:=h;exact⟨a,_,e,q,.box x⟩
 | nul k=>obtain⟨a,e,q⟩:=h;exact⟨a,_,e,q,.nul k⟩
 | un k t=>obtain⟨a,u,e,q,h⟩:=h;exact⟨a,_,e,q,.un h⟩
 | bin k t r=>obtain⟨a,u,w,e,q,h,h2⟩:=h;exact⟨a,_,e,q,.bin h h2⟩
theorem qJo {K:yZN}{H:Hp}{n:Nat}{a b:Addr}{k k':Str}{us ws:List V}(ne:a≠b)(ha:H a=some (.tup (.str k::us)))(hb:H b=some (.tup (.str k'::ws)))
  (e:Nat->Bool) (h:∀(j:Nat) x y,us[j]? = some x->ws[j]? = some y->DCmp K H n x y (e j)):
  DCmp K H (n+1) (.ref a) (.ref b) ((k == k') && ((List.range (min us.length ws.length)).all e && us.length == ws.length)):=by
 refine .tup (e:=fun j=>match j with | 0=>k == k' | j+1=>e j) (SqT.of ha) (SqT.of hb) (fun z=>absurd z ne) ?_ fun j x y h1 h2=>?_
 .rw[yYS,yYS,show min (us.length+1) (ws.length+1)=min us.length ws.length+1 by omega,List.range_succ_eq_map,List.all_cons,List.all_map]
  show(k == k' && (List.range (min us.length ws.length)).all e && (us.length+1 == ws.length+1))=_
  rw[Bool.and_assoc,show(us.length+1 == ws.length+1)=(us.length == ws.length) by simp]
 .cases j with
  | zero=>cases h1;cases h2;exact .str k k'
  | succ j=>exact h j x y h1 h2
theorem qWj {H:Hp}:∀{t r:Th} {v:V},t.At H v->r.At H v->t.Ok->r.Ok->t=r:=by
 intro t
 induction t with
 | num n=>
  intro r v h1 h2 o1 o2
  obtain⟨a,rfl,q⟩:=h1
  obtain⟨b,ws,e,q2,i2⟩:=qZm h2
  cases e
  rw[q] at q2
  cases i2 with
  | num m=>cases q2;rfl
  | box x=>cases q2
  | nul k=>cases q2
  | un h=>injection q2 with q2;injection q2 with q2;injection q2 with q3 q4;exact absurd (V.str.inj q3).symm o2.1.2
  | bin h h'=>cases q2
 | box n=>
  intro r v h1 h2 o1 o2
  obtain⟨a,rfl,q⟩:=h1
  obtain⟨b,ws,e,q2,i2⟩:=qZm h2
  cases e
  rw[q] at q2
  cases i2 with
  | num m=>cases q2
  | box x=>cases q2;rfl
  | nul k=>cases q2
  | un h=>injection q2 with q2;injection q2 with q2;injection q2 with q3 q4;exact absurd (V.str.inj q3).symm o2.1.1
  | bin h h'=>cases q2
 | nul k=>
  intro r v h1 h2 o1 o2
  obtain⟨a,rfl,q⟩:=h1
  obtain⟨b,ws,e,q2,i2⟩:=qZm h2
  cases e
  rw[q] at q2
  cases i2 with
  | num m=>cases q2
  | box x=>cases q2
  | nul k=>cases q2;rfl
  | un h=>cases q2
  | bin h h'=>cases q2
 | un k t ih=>
  intro r v h1 h2 o1 o2
  obtain⟨a,u,rfl,q,hu⟩:=h1
  obtain⟨b,ws,e,q2,i2⟩:=qZm h2
  cases e
  rw[q] at q2
  cases i2 with
  | num m=>injection q2 with q2;injection q2 with q2;injection q2 with q3 q4;exact absurd (V.str.inj q3) o1.1.2
  | box x=>injection q2 with q2;injection q2 with q2;injection q2 with q3 q4;exact absurd (V.str.inj q3) o1.1.1
  | nul k=>cases q2
  | un h=>cases q2;rw[ih hu h o1.2 o2.2];rfl
  | bin h h'=>cases q2
 | bin k t1 t2 ih1 ih2=>
  intro r v h1 h2 o1 o2
  obtain⟨a,u,w,rfl,q,hu,hw⟩:=h1
  obtain⟨b,ws,e,q2,i2⟩:=qZm h2
  cases e
  rw[q] at q2
  cases i2 with
  | num m=>cases q2
  | box x=>cases q2
  | nul k=>cases q2
  | un h=>cases q2
  | bin h h'=>cases q2;rw[ih1 hu h o1.2.1 o2.2.1,ih2 hw h' o1.2.2 o2.2.2];rfl
theorem yY {K:yZN}{H:Hp}{n:Nat}{x y:V}{k:Bool}{ws:List V}(d:DCmp K H n x y k):∀(j:Nat) x' y',[x][j]? = some x'->(y::ws)[j]? = some y'->DCmp K H n x' y' ((fun _=>k) j):=fun j x' y' h1 h2=>by
 cases j with
 | zero=>cases h1;cases h2;exact d
 | succ j=>cases h1
theorem cmp_one' {K:yZN}{H:Hp}{n:Nat}{x y:V}{k:Bool}{us:List V}(d:DCmp K H n x y k):∀(j:Nat) x' y',(x::us)[j]? = some x'->[y][j]? = some y'->DCmp K H n x' y' ((fun _=>k) j):=fun j x' y' h1 h2=>by
 cases j with
 | zero=>cases h1;cases h2;exact d
 | succ j=>cases h2
theorem qDb {K:yZN}{H:Hp}{n:Nat}{ws:List V}:∀(j:Nat) x' y',([]:List V)[j]? = some x'->ws[j]? = some y'->DCmp K H n x' y' ((fun _=>true) j):=fun j x' y' h1 _=>by cases h1
theorem cmp_no' {K:yZN}{H:Hp}{n:Nat}{us:List V}:∀(j:Nat) x' y',us[j]? = some x'->([]:List V)[j]? = some y'->DCmp K H n x' y' ((fun _=>true) j):=fun j x' y' _ h2=>by cases h2
theorem qEz {K:yZN}{H:Hp}{t:Th}{v:V}(h:t.At H v):∃a xs,v=.ref a/\SqT K H a xs:=by
 obtain⟨a,us,e,q,_⟩:=qZm h
 exact⟨a,_,e,SqT.of q⟩
theorem qBd {K:yZN}{H:Hp}:∀{t r:Th} {v u:V} (n:Nat),t.dep<=n->t.At H v->r.At H u->t.Ok->r.Ok->∃k,DCmp K H n v u k/\(k=true↔t=r):=by
 intro t
 have start:∀{t r:Th} {v u:V} (n:Nat),t.At H v->r.At H u->t.Ok->r.Ok->
   (∀{us ws:List V},ItsT H t us->ItsT H r ws->∃e:Nat->Bool,(∀(j:Nat) x y,us[j]? = some x->ws[j]? = some y->DCmp K H n x y (e j))/\(((hdT t == hdT r) && ((List.range (min us.length ws.length)).all e && us.length == ws.length))=true↔t=r))->∃k,DCmp K H (n+1) v u k/\(k=true↔t=r):=fun{t r v u} n h1 h2 o1 o2 go=>by
  obtain⟨a,us,rfl,ha,it⟩:=qZm h1
  obtain⟨b,ws,rfl,hb,iw⟩:=qZm h2
  by_cases ab:a=b
  .subst ab
   exact⟨true,.same a,fun _=>qWj h1 h2 o1 o2,fun _=>rfl⟩
  .obtain⟨e,h,hk⟩:=go it iw
   exact⟨_,qJo ab ha hb e h,hk⟩
 induction t with
 | num i=>
  intro r v u n hn h1 h2 o1 o2
  obtain⟨m,rfl⟩:∃m,n=m+1:=⟨n - 1,by have:1<=n:=hn;omega⟩
  refine start m h1 h2 o1 o2 fun{us ws} it iw=>?_
  cases it
  cases iw with
  | num j=>exact⟨_,yY (.int i j),by simp[hdT]⟩
  | box x=>exact⟨_,yY (.intStr i x),by simp[hdT]⟩
  | nul k=>exact⟨_,cmp_no',by simp[hdT]⟩
  | un h=>
   obtain⟨a,xs,rfl,sq⟩:=qEz (K:=K) h
   exact⟨_,yY (.intTup i sq),by simp[hdT]⟩
  | bin h h'=>
   obtain⟨a,xs,rfl,sq⟩:=qEz (K:=K) h
   exact⟨_,yY (.intTup i sq),by simp[hdT]⟩
 | box x=>
  intro r v u n hn h1 h2 o1 o2
  obtain⟨m,rfl⟩:∃m,n=m+1:=⟨n - 1,by have:1<=n:=hn;omega⟩
  refine start m h1 h2 o1 o2 fun{us ws} it iw=>?_
  cases it
  cases iw with
  | num j=>exact⟨_,yY (.strInt x j),by simp[hdT]⟩
  | box y=>exact⟨_,yY (.str x y),by simp[hdT]⟩
  | nul k=>exact⟨_,cmp_no',by simp[hdT]⟩
  | un h=>
   obtain⟨a,xs,rfl,sq⟩:=qEz (K:=K) h
   exact⟨_,yY (.strTup x sq),by simp[hdT]⟩
  | bin h h'=>
   obtain⟨a,xs,rfl,sq⟩:=qEz (K:=K) h
   exact⟨_,yY (.strTup x sq),by simp[hdT]⟩
 | nul k=>
  intro r v u n hn h1 h2 o1 o2
  obtain⟨m,rfl⟩:∃m,n=m+1:=⟨n - 1,by have:1<=n:=hn;omega⟩
  refine start m h1 h2 o1 o2 fun{us ws} it iw=>?_
  cases it
  cases iw with
  | num j=>exact⟨_,qDb,by simp[hdT]⟩
  | box y=>exact⟨_,qDb,by simp[hdT]⟩
  | nul k=>exact⟨_,qDb,by simp[hdT]⟩
  | un h=>exact⟨_,qDb,by simp[hdT]⟩
  | bin h h'=>exact⟨_,qDb,by simp[hdT]⟩
 | un k a ih=>
  intro r v u n hn h1 h2 o1 o2
  obtain⟨m,rfl⟩:∃m,n=m+1:=⟨n - 1,by have:a.dep+1<=n:=hn;omega⟩
  have hm:a.dep<=m:=Nat.le_of_succ_le_succ hn
  refine start m h1 h2 o1 o2 fun{us ws} it iw=>?_
  cases it with
  | un hu=>
  cases iw with
  | num j=>
   obtain⟨b,xs,rfl,sq⟩:=qEz (K:=K) hu
   exact⟨_,yY (.tupInt j sq),by simp[hdT]⟩
  | box y=>
   obtain⟨b,xs,rfl,sq⟩:=qEz (K:=K) hu
   exact⟨_,yY (.tupStr y sq),by simp[hdT]⟩
  | nul k=>exact⟨_,cmp_no',by simp[hdT]⟩
  | un h=>
   obtain⟨c,d,hc⟩:=ih m hm hu h o1.2 o2.2
   exact⟨_,yY d,by simp[hdT,hc]⟩
  | bin h h'=>
   obtain⟨c,d,hc⟩:=ih m hm hu h o1.2 o2.2.1
   exact⟨_,yY d,by simp[hdT]⟩
 | bin k a b iha ihb=>
  intro r v u n hn h1 h2 o1 o2
  have hn:max a.dep b.dep+1<=n:=hn
  obtain⟨m,rfl⟩:∃m,n=m+1:=⟨n - 1,by omega⟩
  refine start m h1 h2 o1 o2 fun{us ws} it iw=>?_
  cases it with
  | bin hu hw=>
  cases iw with
  | num j=>
   obtain⟨b,xs,rfl,sq⟩:=qEz (K:=K) hu
   exact⟨_,cmp_one' (.tupInt j sq),by simp[hdT]⟩
  | box y=>
   obtain⟨b,xs,rfl,sq⟩:=qEz (K:=K) hu
   exact⟨_,cmp_one' (.tupStr y sq),by simp[hdT]⟩
  | nul k=>exact⟨_,cmp_no',by simp[hdT]⟩
  | un h=>
   obtain⟨c,d,hc⟩:=iha m (by omega) hu h o1.2.1 o2.2
   exact⟨_,cmp_one' d,by simp[hdT]⟩
  | bin h h'=>
   obtain⟨c,d,hc⟩:=iha m (by omega) hu h o1.2.1 o2.2.1
   obtain⟨c',d',hc'⟩:=ihb m (by omega) hw h' o1.2.2 o2.2.2
   refine⟨fun j=>if j=0 then c else c',fun j x y h1 h2=>?_,?_⟩
   .cases j with
    | zero=>cases h1;cases h2;exact d
    | succ j=>
     cases j with
     | zero=>cases h1;cases h2;exact d'
     | succ j=>cases h1
   .simp[hdT,Yx,hc,hc']
open Classical in
theorem qQl {α:Type}{K:yZN}{H:Hp}{F:α->V->Prop}{n:Nat}{a b:Addr}{us ws:List V}{l l':List α}(ha:H a=some (.lst us))(hb:H b=some (.lst ws))(p:Paired F l us)(p':Paired F l' ws)
  (c:∀x∈l,∀y∈l',∀u w,F x u->F y w->∃k,DCmp K H n u w k/\(k=true↔x=y)) (fn:∀x∈l,∀y∈l',∀u,F x u->F y u->x=y):∃k,DCmp K H (n+1) (.ref a) (.ref b) k/\(k=true↔l=l'):=by
 have l1:=p.length
 have l2:=p'.length
 by_cases len:l.length=l'.length
 case neg=>exact⟨false,.lstLen (SqL.of ha) (SqL.of hb) (by omega),fun z=>absurd z yZJ,fun z=>absurd (congrArg List.length z) len⟩
 have get:∀j x y,us[j]? = some x->ws[j]? = some y->∃d e,l[j]? = some d/\l'[j]? = some e/\F d x/\F e y:=fun j x y h1 h2=>by
  obtain⟨d,hd⟩:∃d,l[j]? = some d:=⟨_,yYA (by rw[l1];exact(yYB.mp h1).1)⟩
  obtain⟨e,he⟩:∃e,l'[j]? = some e:=⟨_,yYA (by rw[l2];exact(yYB.mp h2).1)⟩
  exact⟨d,e,hd,he,xK p hd h1,xK p' he h2⟩
 have all:(∀j,l[j]? = l'[j]?)->l=l':=fun h=>List.ext_getElem? h
 have key:((List.range us.length).all fun j=>decide (l[j]? = l'[j]?))=true↔l=l':=by
  rw[List.all_eq_true]
  constructor
  .intro h
   refine all fun j=>?_
   by_cases hj:j<us.length
   .exact of_decide_eq_true (h j (List.mem_range.mpr hj))
   .rw[List.getElem?_eq_none (by omega),List.getElem?_eq_none (by omega)]
  .intro h j _
   rw[h]
   exact decide_eq_true rfl
 refine⟨_,.lst (SqL.of ha) (SqL.of hb) (by omega) (fun z=>?_) rfl (fun j x y h1 h2=>?_),key⟩
 .rw[key]
  subst z
  rw[ha] at hb
  cases hb
  refine all fun j=>?_
  by_cases hj:j<us.length
  .obtain⟨x,hx⟩:∃x,us[j]? = some x:=⟨_,yYA hj⟩
   obtain⟨d,e,hd,he,f1,f2⟩:=get j x x hx hx
   rw[hd,he,fn d (yYE hd) e (yYE he) x f1 f2]
  .rw[List.getElem?_eq_none (by omega),List.getElem?_eq_none (by omega)]
 .obtain⟨d,e,hd,he,f1,f2⟩:=get j x y h1 h2
  obtain⟨k,dk,hk⟩:=c d (yYE hd) e (yYE he) x y f1 f2
  have:k=decide (l[j]? = l'[j]?):=by
   rw[hd,he]
   cases k with
   | true=>rw[hk.mp rfl];exact(decide_eq_true rfl).symm
   | false=>exact(decide_eq_false (fun z=>yZJ (hk.mpr (Option.some.inj z)))).symm
  rw[<- this]
  exact dk
theorem xAw {K:yZN}{H:Hp}{n:Nat}{b b':Str×Int}{u u':V}(h:BoxIn H b u)(h':BoxIn H b' u'):∃k,DCmp K H (n+1) u u' k/\(k=true↔b=b'):=by
 obtain⟨a,rfl,e⟩:=h
 obtain⟨a',rfl,e'⟩:=h'
 by_cases z:a=a'
 .subst z
  rw[e] at e'
  refine⟨true,.same a,fun _=>?_,fun _=>rfl⟩
  cases b;cases b';cases e';rfl
 .refine⟨_,qJo z e e' _ (yY (.int b.2 b'.2)),?_⟩
  cases b;cases b'
  simp
theorem xDo {H:Hp}{b b':Str×Int}{u:V}(h:BoxIn H b u)(h':BoxIn H b' u):b=b':=by
 obtain⟨a,rfl,e⟩:=h
 obtain⟨a',z,e'⟩:=h'
 cases z
 rw[e] at e'
 cases b;cases b';cases e';rfl
theorem qNe {K:yZN}{H:Hp}{n:Nat}{c c':Str×Th}{u u':V}(hd:c.2.dep<=n)(o:c.2.Ok)(o':c'.2.Ok)(h:zZ H c u)(h':zZ H c' u'):∃k,DCmp K H (n+1) u u' k/\(k=true↔c=c'):=by
 obtain⟨a,v,rfl,e,at1⟩:=h
 obtain⟨a',v',rfl,e',at2⟩:=h'
 by_cases z:a=a'
 .subst z
  rw[e] at e'
  refine⟨true,.same a,fun _=>?_,fun _=>rfl⟩
  obtain⟨x,t⟩:=c
  obtain⟨x',t'⟩:=c'
  cases e'
  rw[show t=t' from qWj at1 at2 o o']
 .obtain⟨k,d,hk⟩:=qBd (K:=K) n hd at1 at2 o o'
  refine⟨_,qJo z e e' _ (yY d),?_⟩
  obtain⟨x,t⟩:=c
  obtain⟨x',t'⟩:=c'
  simp[hk]
theorem qDc {H:Hp}{c c':Str×Th}{u:V}(o:c.2.Ok)(o':c'.2.Ok)(h:zZ H c u)(h':zZ H c' u):c=c':=by
 obtain⟨a,v,rfl,e,at1⟩:=h
 obtain⟨a',v',z,e',at2⟩:=h'
 cases z
 rw[e] at e'
 obtain⟨x,t⟩:=c
 obtain⟨x',t'⟩:=c'
 cases e'
 rw[show t=t' from qWj at1 at2 o o']
theorem xZv {K:yZN}{H:Hp}{n:Nat}{l l':Look}{u u':V}(hd:l.part.dep<=n)(o:l.part.Ok)(o':l'.part.Ok)(h:LookIn H l u)(h':LookIn H l' u'):∃k,DCmp K H (n+1) u u' k/\(k=true↔l=l'):=by
 obtain⟨a,v,rfl,e,at1⟩:=h
 obtain⟨a',v',rfl,e',at2⟩:=h'
 by_cases z:a=a'
 .subst z
  rw[e] at e'
  refine⟨true,.same a,fun _=>?_,fun _=>rfl⟩
  obtain⟨x,p,t⟩:=l
  obtain⟨x',p',t'⟩:=l'
  cases e'
  rw[show t=t' from qWj at1 at2 o o']
 .obtain⟨k,d,hk⟩:=qBd (K:=K) n hd at1 at2 o o'
  refine⟨_,qJo z e e' (fun j=>if j=0 then l.price == l'.price else k) fun j x y h1 h2=>?_,?_⟩
  .cases j with
   | zero=>cases h1;cases h2;exact .int _ _
   | succ j=>
    cases j with
    | zero=>cases h1;cases h2;exact d
    | succ j=>cases h1
  .obtain⟨x,p,t⟩:=l
   obtain⟨x',p',t'⟩:=l'
   simp[Yx,hk]
theorem xWx {H:Hp}{l l':Look}{u:V}(o:l.part.Ok)(o':l'.part.Ok)(h:LookIn H l u)(h':LookIn H l' u):l=l':=by
 obtain⟨a,v,rfl,e,at1⟩:=h
 obtain⟨a',v',z,e',at2⟩:=h'
 cases z
 rw[e] at e'
 obtain⟨x,p,t⟩:=l
 obtain⟨x',p',t'⟩:=l'
 cases e'
 rw[show t=t' from qWj at1 at2 o o']
theorem xKv {K:yZN}{H:Hp}{n:Nat}{wy wy':List (Str×Th)}{u u':V}(hd:∀c∈wy,c.2.dep<=n/\c.2.Ok)(hd':∀c∈wy',c.2.Ok)(h:WayIn H wy u)(h':WayIn H wy' u'):∃k,DCmp K H (n+2) u u' k/\(k=true↔wy=wy'):=by
 obtain⟨a,us,rfl,e,p⟩:=h
 obtain⟨a',us',rfl,e',p'⟩:=h'
 exact qQl e e' p p' (fun x hx y hy u w f1 f2=>qNe (hd x hx).1 (hd x hx).2 (hd' y hy) f1 f2) fun x hx y hy u f1 f2=>qDc (hd x hx).2 (hd' y hy) f1 f2
theorem xJl {H:Hp}{wy wy':List (Str×Th)}{u:V}(hd:∀c∈wy,c.2.Ok)(hd':∀c∈wy',c.2.Ok)(h:WayIn H wy u)(h':WayIn H wy' u):wy=wy':=by
 obtain⟨a,us,rfl,e,p⟩:=h
 obtain⟨a',us',z,e',p'⟩:=h'
 cases z
 rw[e] at e'
 cases e'
 clear e
 induction p generalizing wy' with
 | nil=>cases p';rfl
 | cons f _ ih=>
  cases p' with
  | cons f' p'=>
   rw[qDc (hd _ (yYG ..)) (hd' _ (yYG ..)) f f',ih (fun c hc=>hd c (yYH _ hc)) (fun c hc=>hd' c (yYH _ hc)) p']
def DOk (n:Nat)(d:Deed):Prop:=d.need.dep<=n/\d.need.Ok/\∀wy∈d.ways,∀c∈wy,c.2.dep<=n/\c.2.Ok
theorem xKj {H:Hp}{ws ws':List (List (Str×Th))}{us:List V}(hd:∀wy∈ws,∀c∈wy,c.2.Ok)(hd':∀wy∈ws',∀c∈wy,c.2.Ok)(p:Paired (WayIn H) ws us)(p':Paired (WayIn H) ws' us):ws=ws':=by
 induction p generalizing ws' with
 | nil=>cases p';rfl
 | cons f _ ih=>
  cases p' with
  | cons f' p'=>
   rw[xJl (hd _ (yYG ..)) (hd' _ (yYG ..)) f f',ih (fun c hc=>hd c (yYH _ hc)) (fun c hc=>hd' c (yYH _ hc)) p']
theorem qTi {H:Hp}{n:Nat}{d d':Deed}{u:V}(o:DOk n d)(o':DOk n d')(h:DeedIn H d u)(h':DeedIn H d' u):d=d':=by
 obtain⟨a,nv,wa,us,rfl,e,at1,ew,p⟩:=h
 obtain⟨a',nv',wa',us',z,e',at2,ew',p'⟩:=h'
 cases z
 rw[e] at e'
 obtain⟨x,pr,t,ws⟩:=d
 obtain⟨x',pr',t',ws'⟩:=d'
 cases e'
 rw[ew] at ew'
 cases ew'
 rw[show t=t' from qWj at1 at2 o.2.1 o'.2.1,show ws=ws' from xKj (fun wy hw c hc=>(o.2.2 wy hw c hc).2) (fun wy hw c hc=>(o'.2.2 wy hw c hc).2) p p']
theorem xJv {K:yZN}{H:Hp}{n:Nat}{d d':Deed}{u u':V}(o:DOk n d)(o':DOk n d')(h:DeedIn H d u)(h':DeedIn H d' u'):∃k,DCmp K H (n+4) u u' k/\(k=true↔d=d'):=by
 by_cases z:u=u'
 .subst z
  obtain⟨a,nv,wa,us,rfl,_⟩:=id h
  exact⟨true,.same a,fun _=>qTi o o' h h',fun _=>rfl⟩
 obtain⟨a,nv,wa,us,rfl,e,at1,ew,p⟩:=h
 obtain⟨a',nv',wa',us',rfl,e',at2,ew',p'⟩:=h'
 obtain⟨k,dk,hk⟩:=qBd (K:=K) (n+3) (by have:=o.1;omega) at1 at2 o.2.1 o'.2.1
 obtain⟨k',dk',hk'⟩:=qQl (K:=K) (n:=n+2) ew ew' p p' (fun x hx y hy u w f1 f2=>xKv (fun c hc=>o.2.2 x hx c hc) (fun c hc=>(o'.2.2 y hy c hc).2) f1 f2) fun x hx y hy u f1 f2=>xJl (fun c hc=>(o.2.2 x hx c hc).2) (fun c hc=>(o'.2.2 y hy c hc).2) f1 f2
 refine⟨_,qJo (fun q=>z (by rw[q])) e e' (fun j=>if j=0 then d.price == d'.price else if j=1 then k else k') fun j x y h1 h2=>?_,?_⟩
 .cases j with
  | zero=>cases h1;cases h2;exact .int _ _
  | succ j=>
   cases j with
   | zero=>cases h1;cases h2;exact dk
   | succ j=>
    cases j with
    | zero=>cases h1;cases h2;exact dk'
    | succ j=>cases h1
 .obtain⟨x,pr,t,ws⟩:=d
  obtain⟨x',pr',t',ws'⟩:=d'
  simp[Yx,hk,hk',and_assoc]
theorem qQv {nm:List Str}{t:Th}(h:Expr' nm t):t.Ok:=by
 induction t with
 | num n=>exact trivial
 | box x=>exact trivial
 | nul k=>exact h.elim
 | un k a _=>exact h.elim
 | bin k a b ha hb=>
  obtain⟨hk,h1,h2⟩:=h
  refine⟨?_,ha h1,hb h2⟩
  rcases hk with rfl | rfl <;> exact⟨by decide,by decide⟩
theorem qKh {nm:List Str}{t:Th}(h:Cond' nm t):t.Ok:=by
 induction t with
 | num n=>exact h.elim
 | box x=>exact h.elim
 | nul k=>
  have e:k = "yes" := h
  subst e
  exact⟨by decide,by decide⟩
 | un k a ha=>
  obtain⟨rfl,h⟩:=h
  exact⟨⟨by decide,by decide⟩,ha h⟩
 | bin k a b ha hb=>
  rcases h with⟨hk,h1,h2⟩ | ⟨rfl,h1,h2⟩
  .refine⟨?_,qQv h1,qQv h2⟩
   rcases hk with rfl | rfl <;> exact⟨by decide,by decide⟩
  .exact⟨⟨by decide,by decide⟩,ha h1,hb h2⟩
theorem qBv {K:yZN}{H:Hp}{W W':Wd}{bx dx lx bx' dx' lx':Addr}{bv gv bv' gv':V}(o:WOk W)(o':WOk W')(h:WAt H W bx dx lx bv gv)(h':WAt H W' bx' dx' lx' bv' gv'):
  ∃e:Nat->Bool,(∀(j:Nat) x y,[V.ref bx,.ref dx,.ref lx,bv,gv][j]? = some x->[V.ref bx',.ref dx',.ref lx',bv',gv'][j]? = some y->DCmp K H 20 x y (e j))/\(((List.range (min 5 5)).all e && 5 == 5)=true↔W=W'):=by
 have dk:∀{W:Wd},WOk W->∀d∈W.ds,DOk 15 d:=fun o d hd=>by
  have k:=o.deeds d hd
  refine⟨yZH k.dep (by decide),qKh k.need,fun wy hw c hc=>?_⟩
  obtain⟨_,h1,h2⟩:=(k.ways wy hw).ok c hc
  exact⟨yZH h2 (by decide),qQv h1⟩
 obtain⟨u1,e1,p1⟩:=h.boxes
 obtain⟨u2,e2,p2⟩:=h.deeds
 obtain⟨u3,e3,p3⟩:=h.looks
 obtain⟨u1',e1',p1'⟩:=h'.boxes
 obtain⟨u2',e2',p2'⟩:=h'.deeds
 obtain⟨u3',e3',p3'⟩:=h'.looks
 obtain⟨k1,d1,h1⟩:=qQl (K:=K) (n:=19) e1 e1' p1 p1' (fun x hx y hy u w f1 f2=>xAw f1 f2) fun x hx y hy u f1 f2=>xDo f1 f2
 obtain⟨k2,d2,h2⟩:=qQl (K:=K) (n:=19) e2 e2' p2 p2' (fun x hx y hy u w f1 f2=>xJv (n:=15) (dk o x hx) (dk o' y hy) f1 f2) fun x hx y hy u f1 f2=>qTi (dk o x hx) (dk o' y hy) f1 f2
 obtain⟨k3,d3,h3⟩:=qQl (K:=K) (n:=19) e3 e3' p3 p3' (fun x hx y hy u w f1 f2=>xZv (n:=18) (yZH (o.looks x hx).dep (by decide)) (qQv (o.looks x hx).part) (qQv (o'.looks y hy).part) f1 f2) fun x hx y hy u f1 f2=>xWx (qQv (o.looks x hx).part) (qQv (o'.looks y hy).part) f1 f2
 obtain⟨k4,d4,h4⟩:=qBd (K:=K) 20 (yZH o.begd (by decide)) h.beg h'.beg (qKh o.beg) (qKh o'.beg)
 obtain⟨k5,d5,h5⟩:=qBd (K:=K) 20 (yZH o.goald (by decide)) h.goal h'.goal (qKh o.goal) (qKh o'.goal)
 refine⟨fun j=>if j=0 then k1 else if j=1 then k2 else if j=2 then k3 else if j=3 then k4 else k5,fun j x y g1 g2=>?_,?_⟩
 .cases j with
  | zero=>cases g1;cases g2;exact d1
  | succ j=>
   cases j with
   | zero=>cases g1;cases g2;exact d2
   | succ j=>
    cases j with
    | zero=>cases g1;cases g2;exact d3
    | succ j=>
     cases j with
     | zero=>cases g1;cases g2;exact d4
     | succ j=>
      cases j with
      | zero=>cases g1;cases g2;exact d5
      | succ j=>cases g1
 .obtain⟨bs,ds,ls,bt,gt⟩:=W
  obtain⟨bs',ds',ls',bt',gt'⟩:=W'
  simp[Yx,h1,h2,h3,h4,h5,and_assoc]
theorem qXo {n:Int}(h0:0<=n)(h1:n<10):numS n ≠ "yes" /\ numS n∉signs81/\¬Word (numS n):=by
 rw[kR h0]
 obtain⟨f1,f2,f3,c,fc,f4⟩:=qAg ⟨n.toNat,by omega⟩
 exact⟨f1,f2,fun hw=>f4 (hw.abc c fc)⟩
theorem xAx {n m:Nat}(h:dec n=dec m):n=m:=by rw[<- qFi n,<- qFi m,h]
theorem qAj {n m:Int}(h0:0<=n)(h1:0<=m)(h:numS n=numS m):n=m:=by
 rw[kR h0,kR h1] at h
 have:=xAx h
 omega
theorem Leaf.det {x:Str}{i j:Itm}(a:Leaf x i)(b:Leaf x j):i=j:=by
 cases a with
 | yes=>
  generalize ex:Yb "yes" = x at b
  cases b with
  | yes=>rfl
  | sign h=>subst ex;exact absurd h (by decide)
  | box h h1 h2 h3=>exact absurd ex.symm h3
  | num h0 h1=>exact absurd ex.symm (qXo h0 h1).1
 | sign h=>
  cases b with
  | yes=>exact absurd h (by decide)
  | sign h'=>rfl
  | box h' h1 h2 h3=>exact absurd h (qJm h' h1 h2)
  | num h0 h1=>exact absurd h (qXo h0 h1).2.1
 | box h h1 h2 h3=>
  cases b with
  | yes=>exact absurd rfl h3
  | sign h'=>exact absurd h' (qJm h h1 h2)
  | box _ _ _ _=>rfl
  | num g0 g1=>exact absurd h (qXo g0 g1).2.2
 | @num n h0 h1=>
  generalize ex:numS n=x at b
  cases b with
  | yes=>exact absurd ex (qXo h0 h1).1
  | sign h=>subst ex;exact absurd h (qXo h0 h1).2.1
  | box h _ _ _=>subst ex;exact absurd h (qXo h0 h1).2.2
  | @num m g0 g1=>rw[qAj h0 g0 ex]
theorem xZc {k c c':Str}{ws ws':List Str}(h:(k,c,ws)∈forms81)(h':(k,c',ws')∈forms81):c=c'/\ws=ws':=by
 have:∀e∈forms81,∀e'∈forms81,e.1=e'.1->e.2=e'.2:=by wtm_at"d"
 have:=this _ h _ h' rfl
 cases this
 exact⟨rfl,rfl⟩
theorem Red.det {S S1:List Itm}(a:Red S S1):∀{S2:List Itm},Red S S2->S1=S2:=by
 induction a with
 | stop h=>
  intro S2 b
  cases b with
  | stop _=>rfl
  | step h'=>rw[h] at h';cases h'
 | @step S its k c ws S' h hf he ht r ih=>
  intro S2 b
  generalize eS:its++S=S0 at b h
  cases b with
  | stop h'=>rw[h] at h';cases h'
  | @step T its' k' c' ws' _ h' hf' he' ht' r'=>
   rw[h] at h'
   cases h'
   obtain⟨rfl,rfl⟩:=xZc hf hf'
   have l:its.length=its'.length:=by
    have:=congrArg List.length (he.trans he'.symm)
    rwa [yYC,yYC] at this
   obtain⟨rfl,rfl⟩:=List.append_inj eS l
   exact ih r'
theorem Run.det {ws:List Str}{S S1:List Itm}(a:Run ws S S1):∀{S2:List Itm},Run ws S S2->S1=S2:=by
 induction a with
 | nil=>intro S2 b;cases b;rfl
 | cons l r _ ih=>
  intro S2 b
  cases b with
  | cons l' r' b=>
   cases l.det l'
   cases r.det r'
   exact ih b
theorem qIz {nm nm':List Str}(hn:∀x∈nm,Nam x)(hn':∀x∈nm',Nam x){t r:Th}(h:Expr' nm t)(h':Expr' nm' r)(e:wds t=wds r):t=r:=by
 have a:=xXx hn h
 rw[e] at a
 have:=a.det (xXx hn' h')
 cases this
 rfl
theorem qAl {nm nm':List Str}(hn:∀x∈nm,Nam x)(hn':∀x∈nm',Nam x){t r:Th}(h:Cond' nm t)(h':Cond' nm' r)(e:wds t=wds r):t=r:=by
 have a:=qMj hn h
 rw[e] at a
 have:=a.det (qMj hn' h')
 cases this
 rfl
theorem xAv {b b':Str×Int}(h:Nam b.1)(h':Nam b'.1)(h0:0<=b.2)(h0':0<=b'.2)(e:boxS b=boxS b'):b=b':=by
 have:=congrArg (Txt.split · ⟨#[32]⟩) e
 simp only[qKm] at this
 rw[xS (ws:=boxW b) (Ye _ _) (qJh h h0),xS (ws:=boxW b') (Ye _ _) (qJh h' h0')] at this
 obtain⟨x,n⟩:=b
 obtain⟨x',n'⟩:=b'
 unfold boxW at this
 simp only[List.cons.injEq,and_true,true_and] at this
 rw[this.1,show n=n' from qAj h0 h0' this.2]
theorem xZk {nm nm':List Str}(hn:∀x∈nm,Nam x)(hn':∀x∈nm',Nam x){l l':Look}(h:Word l.name)(h':Word l'.name)(h0:0<=l.price)(h0':0<=l'.price)(g:Expr' nm l.part)(g':Expr' nm' l'.part)(s:Shw l.part)(s':Shw l'.part)(e:lookS l=lookS l'):l=l':=by
 have:=congrArg (Txt.split · ⟨#[32]⟩) e
 simp only[wI s,wI s'] at this
 rw[xS (ws:=lookW l) (Ye _ _) (qQi hn h h0 g),xS (ws:=lookW l') (Ye _ _) (qQi hn' h' h0' g')] at this
 obtain⟨x,n,t⟩:=l
 obtain⟨x',n',t'⟩:=l'
 unfold lookW at this
 simp only[List.cons.injEq,true_and] at this
 rw[this.1,show n=n' from qAj h0 h0' this.2.1,show t=t' from qIz hn hn' g g' this.2.2]
theorem xDe {nm nm':List Str}(hn:∀x∈nm,Nam x)(hn':∀x∈nm',Nam x){c c':Str×Th}(h:ChOk nm c)(h':ChOk nm' c')(e:chS c=chS c'):c=c':=by
 have:=congrArg (Txt.split · ⟨#[32]⟩) e
 simp only[qJg h.2.2.2,qJg h'.2.2.2] at this
 rw[xS (ws:=chW c) (Ye _ _) (h.pure hn),xS (ws:=chW c') (Ye _ _) (h'.pure hn')] at this
 obtain⟨x,t⟩:=c
 obtain⟨x',t'⟩:=c'
 unfold chW at this
 simp only[List.cons.injEq,true_and] at this
 rw[this.1,show t=t' from qIz hn hn' h.2.1 h'.2.1 this.2]
theorem xZq {nm nm':List Str}(hn:∀x∈nm,Nam x)(hn':∀x∈nm',Nam x){t r:Th}(h:Cond' nm t)(h':Cond' nm' r)(e:needW t=needW r):t=r:=by
 have key:∀{t:Th},(∀k,t≠.nul k)->needW t=("if" : Str)::wds t:=fun{t} n=>by
  cases t with
  | nul k=>exact absurd rfl (n k)
  | num i=>rfl
  | box i=>rfl
  | un k a=>rfl
  | bin k a b=>rfl
 rcases qJw hn h with rfl | ⟨n,_⟩
 .rcases qJw hn' h' with rfl | ⟨n',_⟩
  .rfl
  .rw[key n'] at e;cases e
 .rcases qJw hn' h' with rfl | ⟨n',_⟩
  .rw[key n] at e;cases e
  .rw[key n,key n'] at e
   exact qAl hn hn' h h' (List.cons.inj e).2
theorem qCh {α:Type}{f:α->Str}:∀{l l':List α},(∀a∈l,∀b∈l',f a=f b->a=b)->l.map f=l'.map f->l=l'
 | [],[],_,_=>rfl
 | [],_::_,_,h=>nomatch h
 | _::_,[],_,h=>nomatch h
 | a::l,b::l',c,h=>by
  obtain⟨h1,h2⟩:=List.cons.inj h
  rw[c a (yYG ..) b (yYG ..) h1,qCh (fun x hx y hy=>c x (yYH _ hx) y (yYH _ hy)) h2]
theorem qGv {nm:List Str}(hn:∀x∈nm,Nam x){wy:List (Str×Th)}(ok:∀c∈wy,ChOk nm c)(z:Txt.join (Yb ",") (wy.map chS)=Yb ""):wy=[]:=by
 cases wy with
 | nil=>rfl
 | cons c r=>
  have hs:=qQw hn ok (Ye _ _)
  rw[z,show Txt.split (Yb "") (Yb ",")=[Yb ""] by wtm_at"d"] at hs
  have h4:=congrArg Str.length (List.cons.inj hs).1
  unfold chS at h4
  rw[xI,xI,xI,show(Yb "").length=0 from rfl,show(Yb " ").length=1 from rfl] at h4
  omega
theorem xKk {nm nm':List Str}(hn:∀x∈nm,Nam x)(hn':∀x∈nm',Nam x){wy wy':List (Str×Th)}(ok:∀c∈wy,ChOk nm c)(ok':∀c∈wy',ChOk nm' c)(e:wayS wy=wayS wy'):wy=wy':=by
 have j:Txt.join (Yb ",") (wy.map chS)=Txt.join (Yb ",") (wy'.map chS):=by rw[<- qEk,<- qEk,e]
 have je:Txt.join (Yb ",") (List.map chS [])=Yb "" := by wtm_at"d"
 by_cases n:wy=[]
 .subst n
  rw[je] at j
  exact(qGv hn' ok' j.symm).symm
 by_cases n':wy'=[]
 .subst n'
  rw[je] at j
  exact qGv hn ok j
 have h1:=qQw hn ok n
 rw[j,qQw hn' ok' n'] at h1
 exact qCh (fun a ha b hb h=>xDe hn hn' (ok a ha) (ok' b hb) h) h1.symm
theorem xJk {nm:List Str}(hn:∀x∈nm,Nam x){d:Deed}(h:DdOk nm d)(wy:List (Str×Th)):deedS d≠wayS wy:=fun z=>by
 obtain⟨rest,e⟩:=qJq wy
 rw[<- z,yT h.2.2.2.2.2.1,xS (ws:=deedW d) (Ye _ _) (vZ hn h)] at e
 exact absurd (List.cons.inj e).1 (by decide)
theorem qOb:∀{ws ws':List (List (Str×Th))} {R R':List Str},ws.map wayS++R=ws'.map wayS++R'->(∀x r,R=x::r->∀wy,x≠wayS wy)->(∀x r,R'=x::r->∀wy,x≠wayS wy)->ws.map wayS=ws'.map wayS/\R=R'
 | [],[],R,R',h,_,_=>⟨rfl,h⟩
 | [],w'::ws',R,R',h,n,_=>absurd rfl (n _ _ h w')
 | w::ws,[],R,R',h,_,n'=>absurd rfl (n' _ _ h.symm w)
 | w::ws,w'::ws',R,R',h,n,n'=>by
  obtain⟨h1,h2⟩:=List.cons.inj h
  obtain⟨h3,h4⟩:=qOb h2 n n'
  exact⟨by rw[Ym,Ym,h1,h3],h4⟩
theorem qDa {nm nm':List Str}(hn:∀x∈nm,Nam x)(hn':∀x∈nm',Nam x):∀{ds ds':List Deed},(∀d∈ds,DdOk nm d)->(∀d∈ds',DdOk nm' d)->ds.flatMap xG=ds'.flatMap xG->ds=ds'
 | [],[],_,_,_=>rfl
 | [],d'::ds',_,_,h=>nomatch h
 | d::ds,[],_,_,h=>nomatch h
 | d::ds,d'::ds',ok,ok',h=>by
  have o:=ok d (yYG ..)
  have o':=ok' d' (yYG ..)
  have h:deedS d::(d.ways.map wayS++ds.flatMap xG)=deedS d'::(d'.ways.map wayS++ds'.flatMap xG):=h
  obtain⟨h1,h2⟩:=List.cons.inj h
  have nw:∀{nm:List Str} {ds:List Deed},(∀x∈nm,Nam x)->(∀d∈ds,DdOk nm d)->∀x r,ds.flatMap xG=x::r->∀wy,x≠wayS wy:=fun{nm ds} hn ok x r e wy=>by
   cases ds with
   | nil=>cases e
   | cons d ds=>
    have e:deedS d::(d.ways.map wayS++ds.flatMap xG)=x::r:=e
    rw[<- (List.cons.inj e).1]
    exact xJk hn (ok d (yYG ..)) wy
  obtain⟨h3,h4⟩:=qOb h2 (nw hn fun x hx=>ok x (yYH _ hx)) (nw hn' fun x hx=>ok' x (yYH _ hx))
  have h5:=qDa hn hn' (fun x hx=>ok x (yYH _ hx)) (fun x hx=>ok' x (yYH _ hx)) h4
  have h6:d.ways=d'.ways:=qCh (fun a ha b hb e=>xKk hn hn' (o.2.2.2.2.2.2 a ha).1 (o'.2.2.2.2.2.2 b hb).1 e) h3
  have h7:=congrArg (Txt.split · ⟨#[32]⟩) h1
  simp only[yT o.2.2.2.2.2.1,yT o'.2.2.2.2.2.1] at h7
  rw[xS (ws:=deedW d) (Ye _ _) (vZ hn o),xS (ws:=deedW d') (Ye _ _) (vZ hn' o')] at h7
  rw[h5]
  obtain⟨x,p,t,ws⟩:=d
  obtain⟨x',p',t',ws'⟩:=d'
  unfold deedW at h7
  simp only[List.cons.injEq,true_and] at h7
  rw[h7.1,show p=p' from qAj o.2.1 o'.2.1 h7.2.1,show t=t' from xZq hn hn' o.2.2.2.1 o'.2.2.2.1 h7.2.2,show ws=ws' from h6]
theorem filt3 {p:Str->Bool}{A M C:List Str}(h1:∀x∈A,p x=false)(h2:∀x∈M,p x=true)(h3:∀x∈C,p x=false):(A++(M++C)).filter p=M:=by
 rw[List.filter_append,List.filter_append,List.filter_eq_nil_iff.mpr (fun x hx=>by rw[h1 x hx];exact yZJ),List.filter_eq_self.mpr h2,List.filter_eq_nil_iff.mpr (fun x hx=>by rw[h3 x hx];exact yZJ),List.nil_append,Yr]
def kdB (ks:List Str)(x:Str):Bool:=decide ((Txt.split x ⟨#[32]⟩).headD "" ∈ ks)
theorem qIq {ks:List Str}{x k:Str}{rest:List Str}(h:Txt.split x ⟨#[32]⟩=k::rest):kdB ks x=decide (k∈ks):=by unfold kdB;rw[h];rfl
theorem qVb {W:Wd}(h:TxOk W):(rowsOf W).filter (kdB ["box"])=W.bs.map boxS/\(rowsOf W).filter (kdB ["deed","way"])=W.ds.flatMap xG/\(rowsOf W).filter (kdB ["look"])=W.ls.map lookS:=by
 have kb:∀(ks:List Str),∀x∈W.bs.map boxS,kdB ks x=decide (("box" : Str)∈ks):=fun ks x hx=>by
  obtain⟨b,hb,rfl⟩:=yYP.mp hx
  exact qIq (qCm h hb)
 have kl:∀(ks:List Str),∀x∈W.ls.map lookS,kdB ks x=decide (("look" : Str)∈ks):=fun ks x hx=>by
  obtain⟨l,hl,rfl⟩:=yYP.mp hx
  exact qIq (qKa h hl)
 have kd:∀(ks:List Str),∀x∈W.ds.flatMap xG,kdB ks x=decide (("deed" : Str)∈ks)\/kdB ks x=decide (("way" : Str)∈ks):=fun ks x hx=>by
  obtain⟨k,rest,e,hk⟩:=qJa h x hx
  rw[qIq e]
  rcases hk with rfl | rfl
  .exact .inl rfl
  .exact .inr rfl
 have kt:∀(ks:List Str),∀x∈[Yb "begin " ++ sh W.bt,Yb "goal " ++ sh W.gt],kdB ks x=decide (("begin" : Str)∈ks)\/kdB ks x=decide (("goal" : Str)∈ks):=fun ks x hx=>by
  obtain⟨k,rest,e,hk⟩:=qAb h x hx
  rw[qIq e]
  rcases hk with rfl | rfl
  .exact .inl rfl
  .exact .inr rfl
 refine⟨?_,?_,?_⟩
 .have er:rowsOf W=[]++(W.bs.map boxS++(W.ds.flatMap xG++(W.ls.map lookS++[Yb "begin " ++ sh W.bt,Yb "goal " ++ sh W.gt]))):=by unfold rowsOf;simp only[yYQ,List.nil_append]
  rw[er]
  refine filt3 (fun x hx=>nomatch hx) (fun x hx=>(kb _ x hx).trans (by decide)) fun x hx=>?_
  rcases yYR.mp hx with hx | hx
  .rcases kd ["box"] x hx with e | e <;> exact e.trans (by decide)
  rcases yYR.mp hx with hx | hx
  .exact(kl _ x hx).trans (by decide)
  .rcases kt ["box"] x hx with e | e <;> exact e.trans (by decide)
 .have er:rowsOf W=W.bs.map boxS++(W.ds.flatMap xG++(W.ls.map lookS++[Yb "begin " ++ sh W.bt,Yb "goal " ++ sh W.gt])):=by unfold rowsOf;simp only[yYQ]
  rw[er]
  refine filt3 (fun x hx=>(kb _ x hx).trans (by decide)) (fun x hx=>?_) fun x hx=>?_
  .rcases kd ["deed","way"] x hx with e | e <;> exact e.trans (by decide)
  rcases yYR.mp hx with hx | hx
  .exact(kl _ x hx).trans (by decide)
  .rcases kt ["deed","way"] x hx with e | e <;> exact e.trans (by decide)
 .have er:rowsOf W=(W.bs.map boxS++W.ds.flatMap xG)++(W.ls.map lookS++[Yb "begin " ++ sh W.bt,Yb "goal " ++ sh W.gt]):=by unfold rowsOf;simp only[yYQ]
  rw[er]
  refine filt3 (fun x hx=>?_) (fun x hx=>(kl _ x hx).trans (by decide)) fun x hx=>?_
  .rcases yYR.mp hx with hx | hx
   .exact(kb _ x hx).trans (by decide)
   .rcases kd ["look"] x hx with e | e <;> exact e.trans (by decide)
  .rcases kt ["look"] x hx with e | e <;> exact e.trans (by decide)
theorem xQa {W W':Wd}(h:TxOk W)(h':TxOk W')(e:textW W=textW W'):W=W':=by
 have er:rowsOf W=rowsOf W':=by rw[<- h.split,<- h'.split,e]
 obtain⟨b1,d1,l1⟩:=qVb h
 obtain⟨b2,d2,l2⟩:=qVb h'
 rw[er] at b1 d1 l1
 have eb:W.bs=W'.bs:=qCh (fun a ha b hb z=>xAv (h.bw a ha) (h'.bw b hb) (by have:=(h.ok.ok.b25 a ha).1;omega) (by have:=(h'.ok.ok.b25 b hb).1;omega) z) (b1.symm.trans b2)
 have ed:W.ds=W'.ds:=qDa h.nm h'.nm h.dd h'.dd (d1.symm.trans d2)
 have el:W.ls=W'.ls:=qCh (fun a ha b hb z=>xZk h.nm h'.nm (h.lk a ha).1 (h'.lk b hb).1 (h.lk a ha).2.1 (h'.lk b hb).2.1 (h.ok.ok.looks a ha).part (h'.ok.ok.looks b hb).part (h.ok.part ha) (h'.ok.part hb) z) (l1.symm.trans l2)
 have tl:=List.append_inj' (show(W.bs.map boxS++W.ds.flatMap xG++W.ls.map lookS)++[Yb "begin " ++ sh W.bt,Yb "goal " ++ sh W.gt]=(W'.bs.map boxS++W'.ds.flatMap xG++W'.ls.map lookS)++[Yb "begin " ++ sh W'.bt,Yb "goal " ++ sh W'.gt] from er) rfl
 obtain⟨t1,t2⟩:=List.cons.inj tl.2
 have t2:=(List.cons.inj t2).1
 have eb2:W.bt=W'.bt:=qAl h.nm h'.nm h.ok.ok.beg h'.ok.ok.beg (by
  have:=congrArg (Txt.split · ⟨#[32]⟩) t1
  simp only[qJb h,qJb h'] at this
  exact(List.cons.inj this).2)
 have eg2:W.gt=W'.gt:=qAl h.nm h'.nm h.ok.ok.goal h'.ok.ok.goal (by
  have:=congrArg (Txt.split · ⟨#[32]⟩) t2
  simp only[qAc h,qAc h'] at this
  exact(List.cons.inj this).2)
 obtain⟨bs,ds,ls,bt,gt⟩:=W
 obtain⟨bs',ds',ls',bt',gt'⟩:=W'
 cases eb;cases ed;cases el;cases eb2;cases eg2
 rfl
theorem xYj {W:Wd}(o:WOk W){x:Str}(hx:x∈W.ws):Nam x:=by
 have hn:=o.named.no x hx
 refine⟨(o.named.sh x hx).2,fun z=>hn ?_,fun z=>hn ?_,fun z=>hn ?_⟩ <;> rw[z] <;> decide
theorem xKe {W:Wd}(h:ShW W):TxOk W:=by
 have o:=h.ok
 refine⟨h,fun b hb=>xYj o (yYP.mpr ⟨b,hb,rfl⟩),fun d hd=>?_,fun l hl=>?_⟩
 .have k:=o.deeds d hd
  refine⟨(o.sh _ (Yn _ (yYP.mpr ⟨d,hd,rfl⟩))).2,by have:=k.price;omega,k.hi,k.need,k.sm,h.need hd,fun wy hw=>?_⟩
  have kw:=k.ways wy hw
  have sw:=h.way hd hw
  refine⟨fun c hc=>?_,kw.le,yZH (qGw sw) (by decide)⟩
  obtain⟨c1,c2,c3⟩:=kw.ok c hc
  exact⟨(xYj o c1).1,c2,yZH (kw.sm c hc) (by decide),Shw.ofE h.names c2⟩
 .have k:=o.looks l hl
  exact⟨(o.sh _ (yYN _ (yYP.mpr ⟨l,hl,rfl⟩))).2,by have:=k.price;omega,k.hi⟩
theorem qSw {bs:List (Str×Int)}{vals:List Int}{i:Nat}{b:Str×Int}{v:Int}(nd:(bs.map (·.1)).Nodup)(hl:vals.length=bs.length)(eb:bs[i]? = some b)(ev:vals[i]? = some v):valV (kvsOf bs vals) (Sum.inr b.1)=some (.int v):=by
 have e:((bs.map (fun b:Str×Int=>b.1)).zip (intsV vals)).map (·.1)=bs.map (·.1):=List.map_fst_zip (by rw[yYC,kA,hl];exact yZB _)
 show valV (mergeK [] (pairK ((bs.map (fun b:Str×Int=>b.1)).zip (intsV vals)))) (Sum.inr b.1)=_
 rw[qCe _ _ (by rw[e];exact nd)]
 have ez:((bs.map (fun b:Str×Int=>b.1)).zip (intsV vals))[i]? = some (b.1,.int v):=List.getElem?_zip_eq_some.mpr ⟨by rw[yYO,eb];rfl,by rw[yYO,ev];rfl⟩
 rw[qRn (by rw[e];exact nd) ez]
section
variable {bs:List (Str×Int)}{vals:List Int}
theorem qPv {b:Str×Int}{v:Int}{j:Nat}(hl:vals.length=bs.length)(eb:bs.reverse[j]? = some b)(ev:vals.reverse[j]? = some v):∃i:Nat,bs[i]? = some b/\vals[i]? = some v:=by
 have h1:=(yYB.mp eb).1
 rw[Yh] at h1
 rw[List.getElem?_reverse h1] at eb
 rw[List.getElem?_reverse (by omega),hl] at ev
 exact⟨_,eb,ev⟩
theorem xXj (f:Fits bs vals):Fits bs.reverse vals.reverse:=by
 refine⟨by rw[Yh,Yh];exact f.1,fun j b v eb ev=>?_⟩
 obtain⟨i,e1,e2⟩:=qPv f.1 eb ev
 exact f.2 i b v e1 e2
theorem xBd (nd:(bs.map (·.1)).Nodup):(bs.reverse.map (·.1)).Nodup:=((List.reverse_perm bs).map _).nodup_iff.mpr nd
theorem xWb (nd:(bs.map (·.1)).Nodup)(hl:vals.length=bs.length){x:Str}(hx:x∈bs.map (·.1)):envOf (kvsOf bs.reverse vals.reverse) x=envOf (kvsOf bs vals) x:=by
 have hx':x∈bs.reverse.map (·.1):=((List.reverse_perm bs).map _).mem_iff.mpr hx
 obtain⟨b,hb,rfl⟩:=yYP.mp hx'
 obtain⟨j,eb⟩:=List.mem_iff_getElem?.mp hb
 have hl':vals.reverse.length=bs.reverse.length:=by rw[Yh,Yh];exact hl
 obtain⟨v,ev⟩:∃v,vals.reverse[j]? = some v:=⟨_,yYA (by rw[hl'];exact(yYB.mp eb).1)⟩
 obtain⟨i,e1,e2⟩:=qPv hl eb ev
 unfold envOf
 rw[qSw (xBd nd) hl' eb ev,qSw nd hl e1 e2]
end
section
variable {ρ ρ':Str->Int}{ws:List Str}
theorem vK (h:∀x∈ws,ρ x=ρ' x):∀{t:Th},Expr' ws t->t.worth ρ=t.worth ρ'
 | .num _,_=>rfl
 | .box x,hx=>h x hx
 | .nul _,hx=>hx.elim
 | .un _ _,hx=>hx.elim
 | .bin k a b,hx=>by
  unfold Th.worth
  rw[vK h hx.2.1,vK h hx.2.2]
theorem vV (h:∀x∈ws,ρ x=ρ' x):∀{t:Th},Cond' ws t->t.truth ρ=t.truth ρ'
 | .num _,hx=>hx.elim
 | .box _,hx=>hx.elim
 | .nul _,_=>rfl
 | .un _ a,hx=>by
  unfold Th.truth
  rw[vV h hx.2]
 | .bin k a b,hx=>by
  unfold Th.truth
  rcases hx with⟨hk,ha,hb⟩ | ⟨rfl,ha,hb⟩
  .have nb:¬k = "both" := by
    rcases hk with rfl | rfl
    .wtm_at"d"
    .wtm_at"d"
   rw[if_neg nb,if_neg nb,vK h ha,vK h hb]
  .rw[if_pos rfl,if_pos rfl,vV h ha,vV h hb]
end
theorem qNo {vals:List Int}{i:Nat}(h:i<vals.length):vals[i]? = some (vals.getD i 0):=by
 rw[Yi,yYA h];rfl
theorem qIf {bs:List (Str×Int)}:∀i:Nat,i<=bs.length->∀r,Fits (bs.take i) r->r∈allV (bs.take i)
 | 0,_=>fun r f=>by
  have:r=[]:=List.length_eq_zero_iff.mp (by rw[f.1];rfl)
  subst this
  exact yYL.mpr rfl
 | i+1,hi=>fun r f=>by
  have hb:bs[i]? = some (bs[i]'(by omega)):=yYA (by omega)
  have lr:r.length=i+1:=by rw[f.1,yYF];omega
  have er:r=r.take i++[r.getD i 0]:=by
   have e:=qNo (vals:=r) (i:=i) (by omega)
   have:r.take (i+1)=r.take i++[r.getD i 0]:=by rw[yYM,e];rfl
   rw[<- this,Yl (by omega)]
  have ft:Fits (bs.take i) (r.take i):=by
   refine⟨by rw[yYF,yYF];omega,fun j b v eb ev=>?_⟩
   have hj:j<i:=by
    have:=(yYB.mp ev).1
    rw[yYF] at this
    omega
   rw[List.getElem?_take_of_lt hj] at eb ev
   exact f.2 j b v (by rw[List.getElem?_take_of_lt (by omega)];exact eb) ev
  have fi:=f.2 i (bs[i]'(by omega)) (r.getD i 0) (by rw[List.getElem?_take_of_lt (by omega)];exact hb) (qNo (by omega))
  rw[kF hb]
  unfold rowsBy
  refine List.mem_flatMap.mpr ⟨r.take i,qIf i (by omega) _ ft,yYP.mpr ⟨(r.getD i 0).toNat,List.mem_range.mpr (by omega),?_⟩⟩
  rw[Int.toNat_of_nonneg fi.1]
  exact er.symm
theorem xZj {bs:List (Str×Int)}{r:List Int}(f:Fits bs r):r∈allV bs:=by
 have:=qIf bs.length (yZB _) r
 rw[yYJ] at this
 exact this f
theorem qPa {l1 l2:List Int}(p:l1.Perm l2):l1.foldl (· * ·) 1=l2.foldl (· * ·) 1:=
 p.foldl_eq' (fun x _ y _ z=>by rw[Int.mul_assoc,Int.mul_assoc,Int.mul_comm x y]) 1
section
variable {ws ws':List Str}
theorem Expr'.up (h:∀x∈ws,x∈ws'):∀{t:Th},Expr' ws t->Expr' ws' t
 | .num _,e=>e
 | .box x,e=>h x e
 | .nul _,e=>e.elim
 | .un _ _,e=>e.elim
 | .bin _ _ _,e=>⟨e.1,Expr'.up h e.2.1,Expr'.up h e.2.2⟩
theorem Cond'.up (h:∀x∈ws,x∈ws'):∀{t:Th},Cond' ws t->Cond' ws' t
 | .num _,e=>e.elim
 | .box _,e=>e.elim
 | .nul _,e=>e
 | .un _ _,e=>⟨e.1,Cond'.up h e.2⟩
 | .bin _ _ _,.inl e=>.inl ⟨e.1,e.2.1.up h,e.2.2.up h⟩
 | .bin _ _ _,.inr e=>.inr ⟨e.1,Cond'.up h e.2.1,Cond'.up h e.2.2⟩
end
theorem xKx {W:Wd}(ok:WOk W):WOk ⟨W.bs.reverse,W.ds,W.ls,W.bt,W.gt⟩:=by
 have p:=List.reverse_perm W.bs
 have ps:(W.bs.reverse.map (·.1)).Perm W.ws:=p.map _
 have sub:∀x∈W.ws,x∈W.bs.reverse.map (·.1):=fun x hx=>ps.mem_iff.mpr hx
 refine⟨?_,?_,fun b hb=>ok.b25 b (p.mem_iff.mp hb),?_,⟨ps.nodup_iff.mpr ok.named.nd,fun x hx=>ok.named.no x (ps.mem_iff.mp hx),fun x hx=>ok.named.sh x (ps.mem_iff.mp hx)⟩,ok.dl,ok.ll,ok.nd,fun d hd=>?_,fun l hl=>?_,ok.beg.up sub,ok.begd,ok.goal.up sub,ok.goald,?_,ok.sh,ok.bsm,ok.gsm⟩
 .show 1<=W.bs.reverse.length
  rw[Yh];exact ok.b1
 .show W.bs.reverse.length<=6
  rw[Yh];exact ok.b6
 .show(W.bs.reverse.map (·.2)).foldl (· * ·) 1<=200
  rw[qPa (p.map (·.2))];exact ok.b200
 .have o:=ok.deeds d hd
  exact{ o with need:=o.need.up sub,ways:=fun wy hwy=>{ o.ways wy hwy with ok:=fun c hc=>⟨sub _ ((o.ways wy hwy).ok c hc).1,((o.ways wy hwy).ok c hc).2.1.up sub,((o.ways wy hwy).ok c hc).2.2⟩ } }
 .have o:=ok.looks l hl
  exact{ o with part:=o.part.up sub }
 .obtain⟨vals,hv,e⟩:=ok.some'
  refine⟨vals.reverse,xZj (xXj (qBj hv)),?_⟩
  rw[<- e]
  exact vV (fun x hx=>xWb ok.named.nd (qBj hv).1 hx) ok.beg
theorem xQq {W:Wd}(ok:WOk W):WOk ⟨W.bs,W.ds.reverse,W.ls,W.bt,W.gt⟩:=by
 have p:(W.ds.reverse.map Deed.name++W.ls.map Look.name).Perm (W.ds.map Deed.name++W.ls.map Look.name):=((List.reverse_perm W.ds).map _).append_right _
 exact{ ok with dl:=by show W.ds.reverse.length<=100;rw[Yh];exact ok.dl,nd:=p.nodup_iff.mpr ok.nd,deeds:=fun d hd=>ok.deeds d (List.mem_reverse.mp hd),sh:=fun x hx=>ok.sh x (p.mem_iff.mp hx) }
theorem qUo {W:Wd}(ok:WOk W):WOk ⟨W.bs,W.ds,W.ls.reverse,W.bt,W.gt⟩:=by
 have p:(W.ds.map Deed.name++W.ls.reverse.map Look.name).Perm (W.ds.map Deed.name++W.ls.map Look.name):=((List.reverse_perm W.ls).map _).append_left _
 exact{ ok with ll:=by show W.ls.reverse.length<=100;rw[Yh];exact ok.ll,nd:=p.nodup_iff.mpr ok.nd,looks:=fun d hd=>ok.looks d (List.mem_reverse.mp hd),sh:=fun x hx=>ok.sh x (p.mem_iff.mp hx) }
abbrev begT (n:Int)(t:Th):Th:=.un "not" (.bin "both" (.bin "under" (.num n) (.num 0)) t)
abbrev goalT (t:Th):Th:=.bin "both" (.un "not" t) t
theorem xKz {W:Wd}{n:Int}(h0:0<=n)(h1:n<10)(b6:W.bt.dep<=6)(ok:WOk W):WOk ⟨W.bs,W.ds,W.ls,begT n W.bt,W.gt⟩:=by
 have d:(begT n W.bt).dep<=8:=by show max (max 1 1+1) W.bt.dep+1+1<=8;omega
 refine{ ok with beg:=⟨rfl,.inr ⟨rfl,.inl ⟨.inr rfl,⟨h0,h1⟩,by decide,by decide⟩,ok.beg⟩⟩,begd:=yZH d (by decide),some':=?_,bsm:=d }
 obtain⟨vals,hv,_⟩:=ok.some'
 refine⟨vals,hv,?_⟩
 show(!(Th.bin "both" (.bin "under" (.num n) (.num 0)) W.bt).truth _)=true
 rw[qXc]
 have e:(Th.bin "under" (.num n) (.num 0)).truth (envOf (kvsOf W.bs vals))=false:=by
  show(if ("under" : Str) = "both" then _ else if ("under" : Str) = "same" then _ else decide (n<0))=false
  rw[if_neg (by wtm_at"d"),if_neg (by wtm_at"d")]
  exact decide_eq_false (by omega)
 rw[e];rfl
theorem xQx {W:Wd}(g6:W.gt.dep<=6)(ok:WOk W):WOk ⟨W.bs,W.ds,W.ls,W.bt,goalT W.gt⟩:=by
 have d:(goalT W.gt).dep<=8:=by show max (W.gt.dep+1) W.gt.dep+1<=8;omega
 exact{ ok with goal:=.inr ⟨rfl,⟨rfl,ok.goal⟩,ok.goal⟩,goald:=yZH d (by decide),gsm:=d }
theorem qBn:xM ["world"] ["world"] (xA (top 81)):=by constructor <;> first | rfl | wtm_at"d"
def qGm:Sp:=fun vs H Q _=>∃(W:Wd) (p bx dx lx:Addr) (bv gv:V),vs=[.ref p]/\H p=some (.tup [.ref bx,.ref dx,.ref lx,bv,gv])/\WAt H W bx dx lx bv gv/\WOk W/\W.bt.dep<=6/\W.gt.dep<=6/\
 ∀(W':Wd) (p' dx' lx':Addr) (H':Hp),Same H H'->H' p'=some (.tup [.ref bx,.ref dx',.ref lx',bv,gv])->WAt H' W' bx dx' lx' bv gv->ShW W'->W'.bt.dep<=6->W'.gt.dep<=6->Q (.ref p') H'
theorem qIk (xs:List V)(k:Nat):cutV xs none (some (k:Int))=xs.take k:=by
 unfold cutV
 rw[HT.sIx_none,HT.sIx_nat,List.drop_zero,Nat.sub_zero]
 by_cases h:k<=xs.length
 .rw[Nat.min_eq_left h]
 .rw[Nat.min_eq_right (by omega),Yl (yZB _),Yl (by omega)]
theorem qYm {α β:Type}{R:α->β->Prop}{xs:List α}{ys:List β}(p:Paired R xs ys)(n:Nat):Paired R (xs.take n) (ys.take n):=by
 induction p generalizing n with
 | nil=>rw[List.take_nil,List.take_nil];exact .nil
 | cons h _ ih=>
  cases n with
  | zero=>exact .nil
  | succ n=>exact .cons h (ih n)
theorem xQi {W:Wd}(ok:WOk W):ShW ⟨W.bs,W.ds.take 2,W.ls.take 3,W.bt,W.gt⟩:=by
 have sub:List.Sublist ((W.ds.take 2).map Deed.name++(W.ls.take 3).map Look.name) (W.ds.map Deed.name++W.ls.map Look.name):=List.Sublist.append ((Yw _ _).map _) ((Yw _ _).map _)
 refine⟨⟨ok.b1,ok.b6,ok.b25,ok.b200,ok.named,?_,?_,sub.nodup ok.nd,fun d hd=>ok.deeds d (Yt hd),fun l hl=>ok.looks l (Yt hl),ok.beg,ok.begd,ok.goal,ok.goald,ok.some',fun x hx=>ok.sh x (sub.subset hx),ok.bsm,ok.gsm⟩,?_,?_⟩
 .show(W.ds.take 2).length<=100;rw[yYF];omega
 .show(W.ls.take 3).length<=100;rw[yYF];omega
 .show(W.ds.take 2).length<=8;rw[yYF];omega
 .show(W.ls.take 3).length<=6;rw[yYF];omega
theorem qTc (F:Fd K mg "_law_short" (top 81) ["world"]):Dn P w K mg base "_law_short" 1 ["world"] qGm:=by
 refine F.ok qBn (fun vs H Q E h=>?_) (fun f zx A outer s H vs Q E hr h=>?_)
 .obtain⟨_,_,_,_,_,_,_,rfl,_⟩:=h
  rfl
 obtain⟨W,p,bx,dx,lx,bv,gv,rfl,ep,at',ok,b6,g6,q⟩:=h
 obtain⟨du,edx,pd⟩:=at'.deeds
 obtain⟨lu,elx,pl⟩:=at'.looks
 refine⟨_,(qJ (qN (xN (qQ (xE (qS (K:=K)) (pv 0) qE) (qQ (zK (zT (K:=K)) (xE (qS (K:=K)) (pv 0) qE) zC (zB qE)) (qQ (zK (zT (K:=K)) (xE (qS (K:=K)) (pv 0) qE) zC (zB qE)) (qQ (xE (qS (K:=K)) (pv 0) qE) (qQ (xE (qS (K:=K)) (pv 0) qE) qX)))))))),?_⟩
 wtm_at"z"
 refine⟨dx,_,rfl,SqL.of edx,fun l1 hl1=>?_⟩
 rw[show(2:Int)=((2:Nat):Int) from rfl,qIk]
 have S1:=qV hl1 (.lst (du.take 2))
 have el1:upd H l1 (.lst (du.take 2)) l1=some (.lst (du.take 2)):=qW
 generalize upd H l1 (.lst (du.take 2))=H1 at S1 el1 ⊢
 have ep1:=S1 _ _ ep
 wtm_at"z"
 refine⟨lx,_,rfl,SqL.of (S1 _ _ elx),fun l2 hl2=>?_⟩
 rw[show(3:Int)=((3:Nat):Int) from rfl,qIk]
 have S2:=qV hl2 (.lst (lu.take 3))
 have el2:upd H1 l2 (.lst (lu.take 3)) l2=some (.lst (lu.take 3)):=qW
 generalize upd H1 l2 (.lst (lu.take 3))=H2 at S2 el2 ⊢
 have ep2:=S2 _ _ ep1
 wtm_at"z"
 refine⟨xH (show 5<=1000000 by decide),fun t ht=>?_⟩
 have S3:=qV ht (.tup [.ref bx,.ref l1,.ref l2,bv,gv])
 have SA:=S1.trans (S2.trans S3)
 have A:=at'.same SA
 refine q ⟨W.bs,W.ds.take 2,W.ls.take 3,W.bt,W.gt⟩ t l1 l2 _ SA qW ⟨A.boxes,⟨_,S3 _ _ (S2 _ _ el1),?_⟩,⟨_,S3 _ _ el2,?_⟩,A.beg,A.goal⟩ (xQi ok) b6 g6
 .exact qYm (Paired.mapP pd fun _ _ y=>y.same SA) 2
 .exact qYm (Paired.mapP pl fun _ _ y=>y.same SA) 3
theorem jZ:xM ["world","cell","boxes","deeds","looks","begin","goal","way","at"] ["world","cell"] (xA (top 79)):=by constructor <;> first | rfl | wtm_at"d"
def qOg:Sp:=fun vs H Q _=>∃(W:Wd) (p bx dx lx:Addr) (bv gv:V) (c:Int),vs=[.ref p,.int c]/\H p=some (.tup [.ref bx,.ref dx,.ref lx,bv,gv])/\WAt H W bx dx lx bv gv/\ShW W/\W.bt.dep<=6/\W.gt.dep<=6/\
 ∀(W':Wd) (p' bx' dx' lx':Addr) (bv' gv':V) (H':Hp),Same H H'->H' p'=some (.tup [.ref bx',.ref dx',.ref lx',bv',gv'])->WAt H' W' bx' dx' lx' bv' gv'->ShW W'->Q (.ref p') H'
theorem kK {a b:Int}(h:a≠b):decide (V.int a=V.int b)=false:=decide_eq_false fun z=>h (V.int.inj z)
theorem xZo (F:Fd K mg "_law_other" (top 79) ["world","cell"])(vo:Dn P w K mg base "_law_drawn" 2 ["cell","sizes"] qWh):Dn P w K mg base "_law_other" 3 ["world","cell"] qOg:=by
 refine F.ok jZ (fun vs H Q E h=>?_) (fun f zx A outer s H vs Q E hr h=>?_)
 .obtain⟨_,_,_,_,_,_,_,_,rfl,_⟩:=h
  rfl
 obtain⟨W,p,bx,dx,lx,bv,gv,c,rfl,ep,at',sw,b6,g6,q⟩:=h
 have ok:=sw.ok
 have hd2:=sw.d2
 have hl3:=sw.l3
 refine⟨_,(qZ (qO (pv 0) (jF (K:=K) (n:=5) rfl (qH (qG (i:=2) jZ.nd rfl (by wtm_at "zo")) (qH (qG (i:=3) jZ.nd rfl (by wtm_at "zo")) (qH (qG (i:=4) jZ.nd rfl (by wtm_at "zo")) (qH (qG (i:=5) jZ.nd rfl (by wtm_at "zo")) (qH (qG (i:=6) jZ.nd rfl (by wtm_at "zo")) qI)))))))
  (qZ (qO (qD vo hr (qQ (pv 1) (qQ (xU (qQ qE (qQ qE qX))) qX))) (xVx (K:=K) (n:=2) rfl (qH (qG (i:=7) jZ.nd rfl (by wtm_at "zo")) (qH (qG (i:=8) jZ.nd rfl (by wtm_at "zo")) qI))))
  (qZ (zD (qR zM (pv 7) qE (xD _)) (qJ (qN (xN (qQ (pv 2) (qQ (pv 3) (qQ (pv 4) (qQ (xN (qQ qF (qQ (xN (qQ qF (qQ (xN (qQ qF (qQ (xN (qQ qF (qQ (pv 8) qX))) (qQ (xN (qQ qF (qQ qE qX))) qX)))) (qQ (pv 5) qX)))) qX))) (qQ (pv 6) qX)))))))) qY)
  (qZ (zD (qR zM (pv 7) qE (xD _)) (qJ (qN (xN (qQ (pv 2) (qQ (pv 3) (qQ (pv 4) (qQ (pv 5) (qQ (xN (qQ qF (qQ (xN (qQ qF (qQ (pv 6) qX))) (qQ (pv 6) qX)))) qX)))))))) qY)
  (qZ (zD (qR zM (pv 7) qE (xD _)) (qJ (qN (xN (qQ (qYl (K:=K) (pv 2) zC zC (qYi vS qE)) (qQ (pv 3) (qQ (pv 4) (qQ (pv 5) (qQ (pv 6) qX)))))))) qY)
  (qZ (zD (qR zM (pv 7) qE (xD _)) (qJ (qN (xN (qQ (pv 2) (qQ (qYl (K:=K) (pv 3) zC zC (qYi vS qE)) (qQ (pv 4) (qQ (pv 5) (qQ (pv 6) qX)))))))) qY)
  (qZ (zD (qR zM (pv 7) qE (xD _)) (qJ (qN (xN (qQ (pv 2) (qQ (pv 3) (qQ (qYl (K:=K) (pv 4) zC zC (qYi vS qE)) (qQ (pv 5) (qQ (pv 6) qX)))))))) qY)
  (qJ (qN (xN (qQ (pv 2) (qQ (pv 3) (qQ (pv 4) (qQ (pv 5) (qQ (pv 6) qX))))))))))))))),?_⟩
 wtm_at"z"
 refine⟨ll2,fun lz hlz=>?_⟩
 generalize eQ:upd H lz _=H1
 obtain⟨Slz,elz⟩:=laid hlz eQ
 wtm_at"z"
 refine⟨c,lz,[6,10],rfl,elz,by decide,?_,fun rr xs hrr lxs bel=>?_⟩
 .intro z hz
  simp only[yYK,Yq,or_false] at hz
  rcases hz with rfl | rfl <;> decide
 generalize eQ:upd H1 rr _=H2
 obtain⟨Srr,err⟩:=laid hrr eQ
 match xs,lxs with
 | [x,n],_=>
 obtain⟨x0,x1⟩:=bel 0 x 6 rfl rfl
 obtain⟨n0,n1⟩:=bel 1 n 10 rfl rfl
 have S2:=Slz.trans Srr
 have A2:=at'.same S2
 obtain⟨us,ebx,pb⟩:=A2.boxes
 obtain⟨du,edx,pd⟩:=A2.deeds
 obtain⟨lu,elx,pl⟩:=A2.looks
 refine⟨rr,[.int x,.int n],rfl,SqL.of err,rfl,?_⟩
 have hx:x=0\/x=1\/x=2\/x=3\/x=4\/x=5:=by omega
 rcases hx with rfl | rfl | rfl | rfl | rfl | rfl
 .wtm_at"z"
  refine yB (decide_eq_true rfl) ?_
  wtm_at"z"
  refine⟨ll2,fun t1 ht1=>?_⟩
  generalize eQ:upd H2 t1 _=H3
  obtain⟨St1,et1⟩:=laid ht1 eQ
  wtm_at"z"
  refine⟨ll2,fun t2 ht2=>?_⟩
  generalize eQ:upd H3 t2 _=H4
  obtain⟨St2,et2⟩:=laid ht2 eQ
  wtm_at"z"
  refine⟨ll3,fun t3 ht3=>?_⟩
  generalize eQ:upd H4 t3 _=H5
  obtain⟨St3,et3⟩:=laid ht3 eQ
  wtm_at"z"
  refine⟨ll3,fun t4 ht4=>?_⟩
  generalize eQ:upd H5 t4 _=H6
  obtain⟨St4,et4⟩:=laid ht4 eQ
  wtm_at"z"
  refine⟨ll2,fun t5 ht5=>?_⟩
  generalize eQ:upd H6 t5 _=H7
  obtain⟨St5,et5⟩:=laid ht5 eQ
  wtm_at"z"
  refine⟨ll5,fun t6 ht6=>?_⟩
  generalize eQ:upd H7 t6 _=H8
  obtain⟨St6,et6⟩:=laid ht6 eQ
  have S38:=St1.trans (St2.trans (St3.trans (St4.trans (St5.trans St6))))
  have A8:=A2.same S38
  refine q ⟨W.bs,W.ds,W.ls,begT n W.bt,W.gt⟩ t6 bx dx lx (.ref t5) gv H8 (S2.trans S38) et6 ⟨A8.boxes,A8.deeds,A8.looks,?_,A8.goal⟩ ⟨xKz n0 n1 b6 ok,sw.d2,sw.l3⟩
  have S58:=St4.trans (St5.trans St6)
  exact⟨t5,_,rfl,St6 _ _ et5,t4,_,_,rfl,St5.trans St6 _ _ et4,⟨t3,_,_,rfl,S58 _ _ et3,⟨t1,rfl,(St2.trans (St3.trans S58)) _ _ et1⟩,⟨t2,rfl,(St3.trans S58) _ _ et2⟩⟩,A8.beg⟩
 .wtm_at"z"
  refine zQ (kK (by decide)) ?_
  wtm_at"z"
  refine yB (decide_eq_true rfl) ?_
  wtm_at"z"
  refine⟨ll2,fun t1 ht1=>?_⟩
  generalize eQ:upd H2 t1 _=H3
  obtain⟨St1,et1⟩:=laid ht1 eQ
  wtm_at"z"
  refine⟨ll3,fun t2 ht2=>?_⟩
  generalize eQ:upd H3 t2 _=H4
  obtain⟨St2,et2⟩:=laid ht2 eQ
  wtm_at"z"
  refine⟨ll5,fun t3 ht3=>?_⟩
  generalize eQ:upd H4 t3 _=H5
  obtain⟨St3,et3⟩:=laid ht3 eQ
  have S38:=St1.trans (St2.trans St3)
  have A8:=A2.same S38
  refine q ⟨W.bs,W.ds,W.ls,W.bt,goalT W.gt⟩ t3 bx dx lx bv (.ref t2) H5 (S2.trans S38) et3 ⟨A8.boxes,A8.deeds,A8.looks,A8.beg,?_⟩ ⟨xQx g6 ok,sw.d2,sw.l3⟩
  exact⟨t2,_,_,rfl,St3 _ _ et2,⟨t1,_,rfl,(St2.trans St3) _ _ et1,A8.goal⟩,A8.goal⟩
 .wtm_at"z"
  refine zQ (kK (by decide)) ?_
  wtm_at"z"
  refine zQ (kK (by decide)) ?_
  wtm_at"z"
  refine yB (decide_eq_true rfl) ?_
  wtm_at"z"
  refine w_var rfl ⟨1,rfl,bx,us,rfl,rfl,rfl,rfl,SqL.of ebx,fun t1 ht1=>?_⟩
  generalize eQ:upd H2 t1 _=H3
  obtain⟨St1,et1⟩:=laid ht1 eQ
  wtm_at"z"
  refine⟨ll5,fun t2 ht2=>?_⟩
  generalize eQ:upd H3 t2 _=H4
  obtain⟨St2,et2⟩:=laid ht2 eQ
  have S38:=St1.trans St2
  have A8:=A2.same S38
  refine q ⟨W.bs.reverse,W.ds,W.ls,W.bt,W.gt⟩ t2 t1 dx lx bv gv H4 (S2.trans S38) et2 ⟨⟨_,St2 _ _ et1,kT (xY (qC S38) pb)⟩,A8.deeds,A8.looks,A8.beg,A8.goal⟩ ⟨xKx ok,sw.d2,sw.l3⟩
 .wtm_at"z"
  refine zQ (kK (by decide)) ?_
  wtm_at"z"
  refine zQ (kK (by decide)) ?_
  wtm_at"z"
  refine zQ (kK (by decide)) ?_
  wtm_at"z"
  refine yB (decide_eq_true rfl) ?_
  wtm_at"z"
  refine w_var rfl ⟨1,rfl,dx,du,rfl,rfl,rfl,rfl,SqL.of edx,fun t1 ht1=>?_⟩
  generalize eQ:upd H2 t1 _=H3
  obtain⟨St1,et1⟩:=laid ht1 eQ
  wtm_at"z"
  refine⟨ll5,fun t2 ht2=>?_⟩
  generalize eQ:upd H3 t2 _=H4
  obtain⟨St2,et2⟩:=laid ht2 eQ
  have S38:=St1.trans St2
  have A8:=A2.same S38
  refine q ⟨W.bs,W.ds.reverse,W.ls,W.bt,W.gt⟩ t2 bx t1 lx bv gv H4 (S2.trans S38) et2 ⟨A8.boxes,⟨_,St2 _ _ et1,kT (Paired.mapP pd fun _ _ y=>y.same S38)⟩,A8.looks,A8.beg,A8.goal⟩ ⟨xQq ok,by show W.ds.reverse.length<=8;rw[Yh];exact sw.d2,sw.l3⟩
 .wtm_at"z"
  refine zQ (kK (by decide)) ?_
  wtm_at"z"
  refine zQ (kK (by decide)) ?_
  wtm_at"z"
  refine zQ (kK (by decide)) ?_
  wtm_at"z"
  refine zQ (kK (by decide)) ?_
  wtm_at"z"
  refine yB (decide_eq_true rfl) ?_
  wtm_at"z"
  refine w_var rfl ⟨1,rfl,lx,lu,rfl,rfl,rfl,rfl,SqL.of elx,fun t1 ht1=>?_⟩
  generalize eQ:upd H2 t1 _=H3
  obtain⟨St1,et1⟩:=laid ht1 eQ
  wtm_at"z"
  refine⟨ll5,fun t2 ht2=>?_⟩
  generalize eQ:upd H3 t2 _=H4
  obtain⟨St2,et2⟩:=laid ht2 eQ
  have S38:=St1.trans St2
  have A8:=A2.same S38
  refine q ⟨W.bs,W.ds,W.ls.reverse,W.bt,W.gt⟩ t2 bx dx t1 bv gv H4 (S2.trans S38) et2 ⟨A8.boxes,A8.deeds,⟨_,St2 _ _ et1,kT (Paired.mapP pl fun _ _ y=>y.same S38)⟩,A8.beg,A8.goal⟩ ⟨qUo ok,sw.d2,by show W.ls.reverse.length<=6;rw[Yh];exact sw.l3⟩
 .wtm_at"z"
  refine zQ (kK (by decide)) ?_
  wtm_at"z"
  refine zQ (kK (by decide)) ?_
  wtm_at"z"
  refine zQ (kK (by decide)) ?_
  wtm_at"z"
  refine zQ (kK (by decide)) ?_
  wtm_at"z"
  refine zQ (kK (by decide)) ?_
  wtm_at"z"
  refine⟨ll5,fun t2 ht2=>?_⟩
  generalize eQ:upd H2 t2 _=H4
  obtain⟨St2,et2⟩:=laid ht2 eQ
  exact q W t2 bx dx lx bv gv H4 (S2.trans St2) et2 (A2.same St2) sw
theorem qKw:PySem.W.kitOne K (.type "int") (.type "bool")=some false:=by with_unfolding_all rfl
theorem kJ:xM ["found","world","name","price","need","ways"] ["found","world"] (xA (top 80)):=by constructor <;> first | rfl | wtm_at"d"
theorem qZi:CompOk (xA (top 80)) ["found","world","name","price","need","ways"] (scAt (xB (top 80)) [0] [2,0,1]) ["part"] 1 []:=
 by constructor <;> wtm_at"d"
theorem qZh:CompOk (xA (top 80)) ["found","world","name","price","need","ways"] (scAt (xB (top 80)) [1,0] [2,0,1]) ["way"] 1 []:=
 by constructor <;> wtm_at"d"
theorem qZg:CompOk (xA (top 80)) ["found","world","name","price","need","ways"] (scAt (xB (top 80)) [2] [0]) ["thing"] 1 []:=
 by constructor <;> wtm_at"d"
def Sec (H:Hp)(u:V):Prop:=∃a x n ys,u=.ref a/\H a=some (.tup (x::.int n::ys))
theorem Sec.same {H H':Hp}(s:Same H H'){u:V}(h:Sec H u):Sec H' u:=let ⟨a,x,n,ys,e,q⟩:=h;⟨a,x,n,ys,e,s _ _ q⟩
theorem xZa {σ:St}{H:Hp}{Q:VK}{a:Addr}{xs:List V}(ea:H a=some (.lst xs))(hx:∀x∈xs,∃c zs,x=.ref c/\H c=some (.lst zs))(hl:xs.length<=1000)
  (q:∀(D:Addr) (H':Hp),Same H H'->H' D=some (.lst ((Yg xs.length true).map V.bl))->Q (.ref D) H'):
  rdC 1 [] (gName 0) tYes (tCB (rIsIn K) (tCons (tVar 0) (tCons (tC (.ty "list")) tNil))) (Itl K a) σ H Q:=by
 refine zV (xs:=xs) (fun D i ys H'=>ys=(Yg i true).map V.bl/\∀b o,H b=some o->H' b=some o) (fun D hD=>⟨rfl,qV hD _⟩)
  (fun D i ys H' _ hP=>(show Same H H' from hP.2).seq (SqL.of ea)) (fun D i x ys H' N hD hDy ex hP hN=>?_) (fun D ys H2 hD hDy hP=>?_)
 .obtain⟨rfl,hk⟩:=hP
  obtain⟨c,zs,rfl,ec⟩:=hx x (yYE ex)
  have hi:=(yYB.mp ex).1
  refine⟨⟨[some (.ref c)],rfl,rfl⟩,_,rfl,.ref c,"list",_,true,rfl,.lst (hk _ _ ec),qCl,hDy,by rw[yYC,Yk];exact small (by omega),hN _ _ qW ⟨?_,fun b o e=>?_⟩⟩
  .rw[List.replicate_succ',yYU];rfl
  .rw[qA (qB e hD)];exact hk _ _ e
 .obtain⟨rfl,hk⟩:=hP
  exact q D H2 hk hDy
theorem xWj {σ:St}{H:Hp}{Q:VK}{a:Addr}{xs:List V}(ea:H a=some (.tup xs))(hx:∀x∈xs,∃c zs,x=.ref c/\H c=some (.lst zs))(hl:xs.length<=1000)
  (q:∀(D:Addr) (H':Hp),Same H H'->H' D=some (.lst ((Yg xs.length true).map V.bl))->Q (.ref D) H'):
  rdC 1 [] (gName 0) tYes (tCB (rIsIn K) (tCons (tVar 0) (tCons (tC (.ty "list")) tNil))) (Itt K a) σ H Q:=by
 refine qIw (xs:=xs) (fun D i ys H'=>ys=(Yg i true).map V.bl/\∀b o,H b=some o->H' b=some o) (fun D hD=>⟨rfl,qV hD _⟩)
  (fun D i ys H' _ hP=>SqT.of (hP.2 _ _ ea)) (fun D i x ys H' N hD hDy ex hP hN=>?_) (fun D ys H2 hD hDy hP=>?_)
 .obtain⟨rfl,hk⟩:=hP
  obtain⟨c,zs,rfl,ec⟩:=hx x (yYE ex)
  have hi:=(yYB.mp ex).1
  refine⟨⟨[some (.ref c)],rfl,rfl⟩,_,rfl,.ref c,"list",_,true,rfl,.lst (hk _ _ ec),qCl,hDy,by rw[yYC,Yk];exact small (by omega),hN _ _ qW ⟨?_,fun b o e=>?_⟩⟩
  .rw[List.replicate_succ',yYU];rfl
  .rw[qA (qB e hD)];exact hk _ _ e
 .obtain⟨rfl,hk⟩:=hP
  exact q D H2 hk hDy
theorem xAa (x y:V)(ys:List V):atI (x::y::ys) 1=some y:=jM (j:=1) rfl
theorem all_rep (n:Nat):(Yg n true).all id=true:=List.all_eq_true.mpr fun x hx=>(List.mem_replicate.mp hx).2
theorem qRe {σ:St}{H:Hp}{Q:VK}{a:Addr}{xs:List V}(ea:H a=some (.lst xs))(hx:∀x∈xs,Sec H x)(q:∀(D:Addr) (H':Hp),Same H H'->H' D=some (.lst [])->Q (.ref D) H'):
  rdC 1 [] (gName 0) (tB (tCB (rIsIn K) (tCons (tOp (rIxT K) (tVar 0) (tC (.int 1))) (tCons (tC (.ty "bool")) tNil)))) (tVar 0) (Itl K a) σ H Q:=by
 refine zV (xs:=xs) (fun D i ys H'=>ys=[]/\∀b o,H b=some o->H' b=some o) (fun D hD=>⟨rfl,qV hD _⟩)
  (fun D i ys H' _ hP=>(show Same H H' from hP.2).seq (SqL.of ea)) (fun D i x ys H' N hD hDy ex hP hN=>?_) (fun D ys H2 hD hDy hP=>?_)
 .obtain⟨rfl,hk⟩:=hP
  obtain⟨c,x0,n,zs,rfl,ec⟩:=hx x (yYE ex)
  refine⟨⟨[some (.ref c)],rfl,rfl⟩,_,rfl,c,_,1,.int n,rfl,rfl,SqT.of (hk _ _ ec),xAa _ _ _,.int n,"bool",_,false,rfl,.int n,qKw,_,rfl,iteF ?_⟩
  exact hN _ _ hDy ⟨rfl,hk⟩
 .obtain⟨rfl,hk⟩:=hP
  exact q D H2 hk hDy
def spSame:Sp:=fun vs H Q _=>∃(W:Wd) (p bx dx lx p0 bx0 dx0 lx0:Addr) (bv gv bv0 gv0:V),vs=[.ref p,.ref p0]/\H p=some (.tup [.ref bx,.ref dx,.ref lx,bv,gv])/\H p0=some (.tup [.ref bx0,.ref dx0,.ref lx0,bv0,gv0])/\WAt H W bx dx lx bv gv/\WAt H W bx0 dx0 lx0 bv0 gv0/\ShW W/\∀H',Same H H'->Q (.bl true) H'
theorem xJx (F:Fd K mg "_law_same" (top 80) ["found","world"])(B:Bl mg)(vb:mg "all" = none):Dn P w K mg base "_law_same" 1 ["found","world"] spSame:=by
 refine F.ok kJ (fun vs H Q E h=>?_) (fun f zx A outer s H vs Q E hr h=>?_)
 .obtain⟨_,_,_,_,_,_,_,_,_,_,_,_,_,rfl,_⟩:=h
  rfl
 obtain⟨W,p,bx,dx,lx,p0,bx0,dx0,lx0,bv,gv,bv0,gv0,rfl,ep,ep0,A1,A0,sw,q⟩:=h
 have ok:=sw.ok
 have b6:=ok.b6
 have d8:=sw.d2
 have l6:=sw.l3
 obtain⟨us,ebx,pb⟩:=A1.boxes
 obtain⟨du,edx,pd⟩:=A1.deeds
 obtain⟨lu,elx,pl⟩:=A1.looks
 have lb:=pb.length
 have ld:=pd.length
 have ll:=pl.length
 have su:∀u∈us,Sec H u:=fun u hu=>by
  obtain⟨j,ej⟩:=List.mem_iff_getElem?.mp hu
  obtain⟨b,eb⟩:∃b,W.bs[j]? = some b:=⟨_,yYA (by rw[lb];exact(yYB.mp ej).1)⟩
  obtain⟨a,e,ea⟩:=xK pb eb ej
  exact⟨a,_,_,_,e,ea⟩
 have sl:∀u∈lu,Sec H u:=fun u hu=>by
  obtain⟨j,ej⟩:=List.mem_iff_getElem?.mp hu
  obtain⟨b,eb⟩:∃b,W.ls[j]? = some b:=⟨_,yYA (by rw[ll];exact(yYB.mp ej).1)⟩
  obtain⟨a,v,e,ea,_⟩:=xK pl eb ej
  exact⟨a,_,_,_,e,ea⟩
 refine⟨_,(qZ (zD (PW.pt (qVz (qQe (kH (xZ (jY (K:=K)) rfl B.isinstance' zS (qQ (pv 0) (qQ (qCq rfl B.tuple' qBq) qX))))) (qVz (qR (xVw (K:=K) hr.units) (pv 0) (pv 1) (xD _)) (qYf (qQe (kH (xZ (qXa (K:=K) rfl) rfl vb qId (qQ (zI rfl qZi (qYh (K:=K) (zK (qEe (K:=K)) (pv 0) zC (zB qE))) (fun cl fp s H=>(qG (i:=0) qZi.nd rfl (Or.inl rfl) (.inr rfl))) (fun cl fp s H=>zF) (fun cl fp s H=>(xZ (jY (K:=K)) rfl B.isinstance' zS (qQ (pv 0) (qQ (qCq rfl B.list' qZj) qX))))) qX)))))))) (qJ (qN qCx)) qY)
  (qZ (zH PassesOwn.never rfl (qU (K:=K) (xE (qS (K:=K)) (pv 0) qE)) (jF (K:=K) (n:=4) rfl (qH (qG (i:=2) kJ.nd rfl (by wtm_at "zo")) (qH (qG (i:=3) kJ.nd rfl (by wtm_at "zo")) (qH (qG (i:=4) kJ.nd rfl (by wtm_at "zo")) (qH (qG (i:=5) kJ.nd rfl (by wtm_at "zo")) qI))))) (qJ (zD (PW.pt (qVz (kH (xZ (jY (K:=K)) rfl B.isinstance' zS (qQ (pv 3) (qQ (qCq rfl B.bool' qFo) qX)))) (qVz (qQe (kH (xZ (jY (K:=K)) rfl B.isinstance' zS (qQ (pv 5) (qQ (qCq rfl B.list' qZj) qX))))) (qYf (qQe (kH (xZ (qXa (K:=K) rfl) rfl vb qId (qQ (zI rfl qZh (qU (K:=K) (pv 5)) (fun cl fp s H=>(qG (i:=0) qZh.nd rfl (Or.inl rfl) (.inr rfl))) (fun cl fp s H=>zF) (fun cl fp s H=>(xZ (jY (K:=K)) rfl B.isinstance' zS (qQ (pv 0) (qQ (qCq rfl B.list' qZj) qX))))) qX)))))))) (qJ (qN qCx)) qY)))
  (qJ (qN (zJ (qPo (K:=K) hr.units) (zI rfl qZg (qU (K:=K) (xQ qKq (xE (qS (K:=K)) (pv 0) qE) (xE (qS (K:=K)) (pv 0) qE))) (fun cl fp s H=>(qG (i:=0) qZg.nd rfl (Or.inl rfl) (.inr rfl))) (fun cl fp s H=>(qXm (kH (xZ (jY (K:=K)) rfl B.isinstance' zS (qQ (xE (qS (K:=K)) (pv 0) qE) (qQ (qCq rfl B.bool' qFo) qX)))))) (fun cl fp s H=>(pv 0))) (xU qX) (xD _)))))),?_⟩
 wtm_at"z"
 refine⟨.ref p,"tuple",_,true,rfl,.tup ep,qCl,?_⟩
 wtm_at"z"
 obtain⟨e,de,he⟩:=qBv (K:=K) ok ok A1 A0
 refine⟨20,p,p0,_,_,e,by decide,rfl,rfl,SqT.of ep,SqT.of ep0,de,?_⟩
 rw[show((List.range (min [V.ref bx,.ref dx,.ref lx,bv,gv].length [V.ref bx0,.ref dx0,.ref lx0,bv0,gv0].length)).all e && [V.ref bx,.ref dx,.ref lx,bv,gv].length == [V.ref bx0,.ref dx0,.ref lx0,bv0,gv0].length)=true from he.mpr rfl]
 wtm_at "zf"
 refine⟨p,_,rfl,SqT.of ep,fun z=>absurd (show(3:Nat)=5 from z.2) (by decide),fun s3 hs3=>?_⟩
 have ecut:cutV [V.ref bx,.ref dx,.ref lx,bv,gv] none (some 3)=[.ref bx,.ref dx,.ref lx]:=rfl
 rw[ecut]
 generalize eQ:upd H s3 _=H1
 obtain⟨Ss3,es3⟩:=laid hs3 eQ
 have S1:=Ss3
 refine xEi (SqT.of es3) ?_
 refine xWj es3 (fun x hx=>?_) (by show 3<=1000;decide) fun D H2 S2 eD=>?_
 .simp only[yYK,Yq,or_false] at hx
  rcases hx with rfl | rfl | rfl
  .exact⟨bx,us,rfl,S1 _ _ ebx⟩
  .exact⟨dx,du,rfl,S1 _ _ edx⟩
  .exact⟨lx,lu,rfl,S1 _ _ elx⟩
 have S12:=S1.trans S2
 wtm_at"z"
 refine⟨D,_,rfl,SqL.of eD,?_⟩
 rw[all_rep]
 have ep2:=S12 _ _ ep
 wtm_at "zf"
 refine qNl (SqL.of (S12 _ _ edx)) ?_
 refine zN (xs:=du) (fun i σ' H'=>∃z2 z3 z4 z5:Option V,σ'=[some (.ref p),some (.ref p0),z2,z3,z4,z5]/\Same H H') ⟨none,none,none,none,rfl,S12⟩
  (fun i σ' H' _ hP=>?_) (fun N rt bk i x σ' H' ex hP hN=>?_) (fun σ' H' hP=>?_)
 .obtain⟨_,_,_,_,rfl,S3⟩:=hP
  exact SqL.of (S3 _ _ edx)
 .obtain⟨z2,z3,z4,z5,rfl,S3⟩:=hP
  obtain⟨d,ed⟩:∃b,W.ds[i]? = some b:=⟨_,yYA (by rw[ld];exact(yYB.mp ex).1)⟩
  obtain⟨a,nv,wa,wu,rfl,ea,_,ewa,pw⟩:=(xK pd ed ex).same S3
  have dok:=ok.deeds d (yYE ed)
  have w4:=dok.w4
  have lw:=pw.length
  wtm_at"z"
  refine⟨.int d.price,"bool",_,false,rfl,.int _,qKw,?_⟩
  wtm_at"z"
  refine⟨.ref wa,"list",_,true,rfl,.lst ewa,qCl,?_⟩
  wtm_at "zf"
  refine qNl (SqL.of ewa) ?_
  refine xZa ewa (fun x hx=>?_) (by omega) fun D' H4 S4 eD'=>?_
  .obtain⟨j,ej⟩:=List.mem_iff_getElem?.mp hx
   obtain⟨b,eb⟩:∃b,d.ways[j]? = some b:=⟨_,yYA (by rw[lw];exact(yYB.mp ej).1)⟩
   obtain⟨l,cs,e,el,_⟩:=xK pw eb ej
   exact⟨l,cs,e,el⟩
  wtm_at"z"
  refine⟨D',_,rfl,SqL.of eD',?_⟩
  rw[all_rep]
  wtm_at"z"
  exact hN _ _ ⟨_,_,_,_,rfl,S3.trans S4⟩
 .obtain⟨z2,z3,z4,z5,rfl,S3⟩:=hP
  have ep3:=S3 _ _ ep
  wtm_at "zf"
  refine⟨bx,lx,us,lu,rfl,rfl,S3 _ _ ebx,S3 _ _ elx,smallE (by omega),fun c1 hc1=>?_⟩
  generalize eQ:upd H' c1 _=H4
  obtain⟨Sc1,ec1⟩:=laid hc1 eQ
  have S35:=S3.trans Sc1
  refine qNl (SqL.of ec1) ?_
  refine qRe ec1 (fun x hx=>?_) fun D H6 S6 eD=>?_
  .rcases yYR.mp hx with hx | hx
   .exact(su x hx).same S35
   .exact(sl x hx).same S35
  wtm_at"z"
  refine⟨(by show 0<=Yc;decide),fun l hl=>?_⟩
  generalize eQ:upd H6 l _=H7
  obtain⟨Sl,el⟩:=laid hl eQ
  exact⟨D,l,[],rfl,rfl,SqL.of (Sl _ _ eD),SqL.of el,q _ (S35.trans (S6.trans Sl))⟩
structure Gw (H3 H6 H':Hp)(n:Nat):Prop where
 sm:Same H3 H'
 tp:Tups H6 H'
 ls:∀b l,H6 b=some (.lst l)->l.length<=100->∃l',H' b=some (.lst l')/\l'.length<=100+n
theorem Gw.same {H3 H6 H' H'':Hp}{n:Nat}(S:Same H' H'')(g:Gw H3 H6 H' n):Gw H3 H6 H'' n:=⟨g.sm.trans S,fun b xs e=>S _ _ (g.tp b xs e),fun b l e k=>let ⟨l',e',k'⟩:=g.ls b l e k;⟨l',S _ _ e',k'⟩⟩
theorem Gw.app {H3 H6 H':Hp}{n:Nat}{b:Addr}{l:List V}{v:V}(hb:H3 b=none)(eb:H' b=some (.lst l))(k:l.length<=100+n)(g:Gw H3 H6 H' n):Gw H3 H6 (upd H' b (.lst (l++[v]))) (n+1):=by
 refine⟨g.sm.set hb,fun c xs e=>?_,fun c m e hm=>?_⟩
 .have e':=g.tp c xs e
  rw[qA (wO e' eb (by intro z;cases z))]
  exact e'
 .by_cases z:c=b
  .subst z
   exact⟨_,qW,by rw[yYI];show l.length+1<=_;omega⟩
  .obtain⟨m',e',k'⟩:=g.ls c m e hm
   exact⟨m',by rw[qA z];exact e',by omega⟩
theorem qQc:xM ["script","one","other","texts","some","world","text","found","deed"] ["script"] (xA (top 82)):=by constructor <;> first | rfl | wtm_at"d"
def spLaw (K:yZN):Sp:=fun vs H Q _=>∃(a:Addr) (ns:List Int),vs=[.ref a]/\SqL K H a (ns.map V.int)/\ns.length<=63/\TrkT K H "YES" ["yes"]/\∀H',Q (.bl true) H'
theorem WF.parts {ok:Addr->Prop}{H:Hp}{W:Wd}{p:Addr}(x:WF ok H W p)(sw:ShW W):∃(bx dx lx:Addr) (bv gv:V) (us du lu:List V),H p=some (.tup [.ref bx,.ref dx,.ref lx,bv,gv])/\WAt H W bx dx lx bv gv/\ok bx/\ok dx/\ok lx/\H bx=some (.lst us)/\us.length<=100/\H dx=some (.lst du)/\H lx=some (.lst lu)/\lu.length<=100/\dx≠bx/\du.length<=8/\
  ∀u∈du,∃a x n v wa wl,u=.ref a/\H a=some (.tup [x,n,v,.ref wa])/\ok wa/\H wa=some (.lst wl)/\wl.length<=100/\dx≠wa:=by
 obtain⟨bx,dx,lx,bv,gv,us,du,lu,ps,ep,o1,o2,o3,e1,p1,eps,dat,e2,p2,e3,p3,b,g⟩:=x.ex
 have dj:=qZq dat p2
 rw[eps] at dj
 have l1:=p1.length
 have l2:=dj.length
 have l3:=p3.length
 have b1:=sw.ok.b1
 have b6:=sw.ok.b6
 have d8:=sw.d2
 have l6:=sw.l3
 refine⟨bx,dx,lx,bv,gv,us,du,lu,ep,⟨⟨us,e1,p1⟩,⟨du,e2,dj⟩,⟨lu,e3,p3⟩,b,g⟩,o1,o2,o3,e1,by omega,e2,e3,by omega,fun z=>?_,by omega,fun u hu=>?_⟩
 .subst z
  rw[e1] at e2
  cases e2
  obtain⟨b0,hb0⟩:∃b,W.bs[0]? = some b:=⟨_,yYA (by omega)⟩
  obtain⟨u0,hu0⟩:∃b,us[0]? = some b:=⟨_,yYA (by omega)⟩
  obtain⟨d0,hd0⟩:∃b,W.ds[0]? = some b:=⟨_,yYA (by omega)⟩
  obtain⟨a,rfl,ea⟩:=xK p1 hb0 hu0
  obtain⟨a',_,_,_,e',ea',_⟩:=xK dj hd0 hu0
  cases e'
  rw[ea] at ea'
  exact absurd (congrArg List.length (HO.tup.inj (Option.some.inj ea'))) (show¬(2:Nat)=4 by decide)
 .obtain⟨j,ej⟩:=List.mem_iff_getElem?.mp hu
  have lp:=p2.length
  obtain⟨d,ed⟩:∃b,ps[j]? = some b:=⟨_,yYA (by rw[lp];exact(yYB.mp ej).1)⟩
  have hd:d.1∈W.ds:=by rw[<- eps];exact yYP.mpr ⟨d,yYE ed,rfl⟩
  have dok:=sw.ok.deeds _ hd
  have ne:=dok.ne
  have w4:=dok.w4
  have dt:=(dat d (yYE ed)).2.length
  obtain⟨a,wa,wl,rfl,ea,ow,ew,pw⟩:=xK p2 ed ej
  have lw:=pw.length
  refine⟨a,_,_,_,wa,wl,rfl,ea,ow,ew,by omega,fun z=>?_⟩
  subst z
  rw[e2] at ew
  cases ew
  have n0:0<d.1.ways.length:=List.length_pos_iff.mpr ne
  obtain⟨c0,hc0⟩:∃b,d.2.2[0]? = some b:=⟨_,yYA (by omega)⟩
  obtain⟨u0,hu0⟩:∃b,du[0]? = some b:=⟨_,yYA (by omega)⟩
  obtain⟨d0,hd0⟩:∃b,ps[0]? = some b:=⟨_,yYA (by omega)⟩
  obtain⟨l,rfl,_,el⟩:=xK pw hc0 hu0
  obtain⟨a',_,_,e',ea',_⟩:=xK p2 hd0 hu0
  cases e'
  rw[el] at ea'
  cases ea'
theorem xCc {y:Addr}{f:Addr}{fd:FuncData}(F:Fun K "law" "law" (top 82) f fd)(B:Bl mg)(VA:Dn P w K mg base "_law_world" 14 ["script"] (qGl K))(jm:Dn P w K mg base "_law_cell_at" 1 ["script","k"] (spCell K))(yp:Dn P w K mg base "world_of" 28 ["boxes","deeds","looks","begin","goal"] qYj)
  (yz:Dn P w K mg base "shown_world" 11 ["world"] qGf) (uB:Dn P w K mg base "read_world" 29 ["text"] (qGg y)) (VB:Dn P w K mg base "_law_short" 1 ["world"] qGm) (VC:Dn P w K mg base "_law_other" 3 ["world","cell"] qOg) (uR:Dn P w K mg base "_law_same" 1 ["found","world"] spSame) (gy:YX K Yd "YES" = some (some (.ref y))):FnOk P w K mg base CX0 60 f fd ["script"] (spLaw K):=by
 refine F.ok (k:=59) qQc (fun vs H Q E h=>?_) (fun zx A outer s H vs Q E hr h=>?_)
 .obtain⟨_,_,rfl,_⟩:=h
  rfl
 obtain⟨a,ns,rfl,hS,h63,hT,q⟩:=h
 have hy:H y=some (.tup [.str "yes"]):=hT y gy
 refine⟨_,(qZ (xF (i:=1) qQc.nd rfl (qD VB hr (qQ (qD VA hr (qQ (pv 0) qX)) qX)))
  (qZ (xF (i:=2) qQc.nd rfl (qD VC hr (qQ (pv 1) (qQ (qD jm hr (qQ (pv 0) (qQ qE qX))) qX))))
  (qZ (xF (i:=3) qQc.nd rfl (xU qX))
  (qZ (zH PassesOwn.never rfl (qU (K:=K) (xU (qQ (pv 1) (qQ (pv 2) qX)))) (qG (i:=4) qQc.nd rfl (by wtm_at "zo")) (qZ (xF (i:=5) qQc.nd rfl (qD yp hr (qQ (xE (qS (K:=K)) (pv 4) qE) (qQ (xE (qS (K:=K)) (pv 4) qE) (qQ (xE (qS (K:=K)) (pv 4) qE) (qQ (xE (qS (K:=K)) (pv 4) qE) (qQ (xE (qS (K:=K)) (pv 4) qE) qX)))))))
  (qZ (xF (i:=6) qQc.nd rfl (qD yz hr (qQ (pv 5) qX)))
  (qZ (xF (i:=7) qQc.nd rfl (qD uB hr (qQ (pv 6) qX)))
  (qZ (zD (PW.pt (qVz (qQe (kH (qD uR hr (qQ (pv 7) (qQ (pv 4) qX))))) (qYf (qR qMg (qD yz hr (qQ (pv 7) qX)) (pv 6) (xD _))))) (qJ (qN qCx)) qY)
  (qZ (qP (zX (K:=K) Yy Yz YT xO (xE (qS (K:=K)) (pv 7) qE) (qQ (xN (qQ qF (qQ qE qX))) qX)))
  (qZ (zH PassesOwn.never rfl (qU (K:=K) (xE (qS (K:=K)) (pv 7) qE)) (qG (i:=8) qQc.nd rfl (by wtm_at "zo")) (qJ (qP (zX (K:=K) Yy Yz YT xO (xE (qS (K:=K)) (pv 8) qE) (qQ (xU qX) qX)))))
  (qZ (qP (zX (K:=K) Yy Yz YT xO (xE (qS (K:=K)) (pv 7) qE) (qQ (xN (qQ qF (qQ qE (qQ (xN (qQ qF (qQ qE qX))) qX)))) qX)))
  (qZ (zD (qQe (kH (qD uR hr (qQ (qD uB hr (qQ (pv 6) qX)) (qQ (pv 4) qX))))) (qJ (qN qCx)) qY)
  (qJ (qP (zX (K:=K) Yy Yz YT xO (pv 3) (qQ (pv 6) qX)))))))))))))
  (qJ (qN (zJ zM (zJ zM (xE (qT (K:=K)) (pv 3) qE) (xE (qT (K:=K)) (pv 3) qE) (xD _)) (zJ (xVd (K:=K) hr.units) (pv 1) (pv 2) (xD _)) (xD _)))))))),?_⟩
 wtm_at"z"
 refine⟨a,ns,rfl,hS,h63,fun p0 W0 bx0 dx0 lx0 bv0 gv0 H1 S1 ep0 A0 ok0 b60 g60=>?_⟩
 wtm_at"z"
 refine⟨W0,p0,bx0,dx0,lx0,bv0,gv0,rfl,ep0,A0,ok0,b60,g60,fun W1 p1 dx1 lx1 H2 S2 ep1 A1 sw1 b61 g61=>?_⟩
 wtm_at"z"
 refine⟨a,ns,12,rfl,(S1.trans S2).seq hS,by decide,fun c=>?_⟩
 wtm_at"z"
 refine⟨W1,p1,bx0,dx1,lx1,bv0,gv0,c,rfl,ep1,A1,sw1,b61,g61,fun W2 p2 bx2 dx2 lx2 bv2 gv2 H3 S3 ep2 A2 sw2=>?_⟩
 have hy3:=(S1.trans (S2.trans S3)) _ _ hy
 have ep1':=S3 _ _ ep1
 have A1':=A1.same S3
 clear S1 S2 S3 A0 A1 ep1 ep0 hS hy
 wtm_at"z"
 refine⟨ll0,fun t ht=>?_⟩
 generalize eQ:upd H3 t _=H4
 obtain⟨St,et⟩:=laid ht eQ
 wtm_at "zf"
 refine⟨ll2,fun l hl=>?_⟩
 generalize eQ:upd H4 l _=H5
 obtain⟨Sl,el⟩:=laid hl eQ
 have key:∀(i:Nat) x,[V.ref p1,.ref p2][i]? = some x->∃(W:Wd) (p bx dx lx:Addr) (bv gv:V),x=.ref p/\H3 p=some (.tup [.ref bx,.ref dx,.ref lx,bv,gv])/\WAt H3 W bx dx lx bv gv/\ShW W/\[textW W1,textW W2][i]? = some (textW W):=fun i x ex=>by
  match i with
  | 0=>cases ex;exact⟨W1,p1,_,_,_,_,_,rfl,ep1',A1',sw1,rfl⟩
  | 1=>cases ex;exact⟨W2,p2,_,_,_,_,_,rfl,ep2,A2,sw2,rfl⟩
  | i+2=>cases ex
 have lt:l≠t:=fun z=>by rw[<- z,hl] at et;cases et
 refine qNl (SqL.of el) ?_
 refine zN (xs:=[V.ref p1,.ref p2]) (fun i σ' H'=>∃z:List (Option V),z.length=5/\σ'=[some (.ref a),some (.ref p1),some (.ref p2),some (.ref t)]++z/\H' t=some (.lst (strsV ([textW W1,textW W2].take i)))/\H' l=some (.lst [.ref p1,.ref p2])/\Same H3 H') ⟨[none,none,none,none,none],rfl,rfl,Sl _ _ et,el,St.trans Sl⟩
  (fun i σ' H' _ hP=>?_) (fun N rt bk i x σ' H' ex hP hN=>?_) (fun σ' H' hP=>?_)
 .obtain⟨_,_,_,_,e,_⟩:=hP
  exact SqL.of e
 .obtain⟨z,hz,rfl,et',el',S'⟩:=hP
  match z,hz with
  | [z4,z5,z6,z7,z8],_=>
  obtain⟨W,p,bx,dx,lx,bv,gv,rfl,ep3,A3,sw,etx⟩:=key i x ex
  have tx:=xKe sw
  have ep:=S' _ _ ep3
  have A0:=A3.same S'
  have hy0:=S' _ _ hy3
  wtm_at"z"
  refine⟨W,bx,dx,lx,bv,gv,rfl,A0,sw.ok,fun p' H6 S6 wf=>?_⟩
  obtain⟨bx',dx',lx',bv',gv',ep',A'⟩:=wf.at'
  wtm_at"z"
  refine⟨W,p',bx',dx',lx',bv',gv',rfl,ep',A',sw,fun H7 S7=>?_⟩
  have S67:=S6.trans S7
  wtm_at"z"
  refine⟨W,rfl,tx,S67 _ _ hy0,fun pf H8 S8 wf8=>?_⟩
  obtain⟨fb,fx,fl,fbv,fgv,us,du,lu,epf,AF,ob,od,ol,efb,lus,efx,efl,llu,nfb,ldu,pdu⟩:=wf8.parts sw
  have S68:=S67.trans S8
  wtm_at"z"
  refine⟨W,pf,fb,fx,fl,p,bx,dx,lx,fbv,fgv,bv,gv,rfl,epf,S68 _ _ ep,AF,A0.same S68,sw,fun H9 S9=>?_⟩
  wtm_at"z"
  refine⟨W,pf,fb,fx,fl,fbv,fgv,rfl,S9 _ _ epf,AF.same S9,sw,fun H10 S10=>?_⟩
  have S90:=S9.trans S10
  have g0:Gw H7 H8 H10 0:=⟨S8.trans S90,qC S90,fun b l e k=>⟨l,S90 _ _ e,k⟩⟩
  wtm_at"z"
  rw[decide_eq_true rfl]
  refine iteF ?_
  have epf0:=g0.tp _ _ epf
  have efb0:=S90 _ _ efb
  have efx0:=S90 _ _ efx
  clear S90 S10 S9
  wtm_at"z"
  refine kP (SqL.of efb0) ?_
  wtm_at"z"
  refine⟨ll2,fun tz htz=>?_⟩
  generalize eQ:upd H10 tz _=H11
  obtain⟨Stz,etz⟩:=laid htz eQ
  wtm_at"z"
  refine jG (Stz _ _ efb0) (small (by omega)) ?_
  have g1:=(g0.same Stz).app (v:=.ref tz) ob (Stz _ _ efb0) (by omega)
  have efx1:upd H11 fb (.lst (us++[.ref tz])) fx=some (.lst du):=by rw[qA nfb];exact Stz _ _ efx0
  generalize upd H11 fb (.lst (us++[.ref tz]))=H12 at g1 efx1 ⊢
  have epf1:=g1.tp _ _ epf
  wtm_at "zf"
  refine qNl (SqL.of efx1) ?_
  refine zN (xs:=du) (fun j σ' H'=>∃z:Option V,σ'=[some (.ref a),some (.ref p1),some (.ref p2),some (.ref t),some (.ref p),some (.ref p'),some (.str (textW W)),some (.ref pf),z]/\H' fx=some (.lst du)/\Gw H7 H8 H' (1+j)) ⟨z8,rfl,efx1,g1⟩
   (fun j σ' H' _ hP=>?_) (fun N2 rt2 bk2 j x σ' H' ex2 hP hN2=>?_) (fun σ' H' hP=>?_)
  .obtain⟨_,_,e,_⟩:=hP
   exact SqL.of e
  .obtain⟨z,rfl,ex',g⟩:=hP
   have hj:=(yYB.mp ex2).1
   obtain⟨da,dn,dp,dv,wa,wl,rfl,eda8,owa,ewa8,lwl,nwa⟩:=pdu _ (yYE ex2)
   have eda:=g.tp _ _ eda8
   obtain⟨wl',ewa,lwl'⟩:=g.ls _ _ ewa8 lwl
   wtm_at"z"
   refine kP (SqL.of ewa) ?_
   wtm_at"z"
   refine⟨ll0,fun nl hnl=>?_⟩
   generalize eQ:upd H' nl _=H''
   obtain⟨Snl,enl⟩:=laid hnl eQ
   wtm_at"z"
   refine jG (Snl _ _ ewa) (small (by omega)) ?_
   refine hN2 _ _ ⟨_,rfl,?_,(g.same Snl).app owa (Snl _ _ ewa) lwl'⟩
   rw[qA nwa];exact Snl _ _ ex'
  obtain⟨z,rfl,ex',g2⟩:=hP
  have epf2:=g2.tp _ _ epf
  obtain⟨lu',elu,llu'⟩:=g2.ls _ _ efl llu
  wtm_at"z"
  refine kP (SqL.of elu) ?_
  wtm_at"z"
  refine⟨ll2,fun tn htn=>?_⟩
  generalize eQ:upd H' tn _=H13
  obtain⟨Stn,etn⟩:=laid htn eQ
  wtm_at"z"
  refine⟨ll3,fun tl htl=>?_⟩
  generalize eQ:upd H13 tl _=H14
  obtain⟨Stl,etl⟩:=laid htl eQ
  have Sn:=Stn.trans Stl
  wtm_at"z"
  refine jG (Sn _ _ elu) (small (by omega)) ?_
  have g3:=(g2.same Sn).app (v:=.ref tl) ol (Sn _ _ elu) llu'
  generalize upd H14 fl (.lst (lu'++[.ref tl]))=H15 at g3 ⊢
  have S15:=S67.trans g3.sm
  wtm_at"z"
  refine⟨W,rfl,tx,S15 _ _ hy0,fun pr H16 S16 wf16=>?_⟩
  obtain⟨rb,rx,rl,rbv,rgv,epr,AR⟩:=wf16.at'
  have S16':=S15.trans S16
  wtm_at"z"
  refine⟨W,pr,rb,rx,rl,p,bx,dx,lx,rbv,rgv,bv,gv,rfl,epr,S16' _ _ ep,AR,A0.same S16',sw,fun H17 S17=>?_⟩
  have S17':=S16'.trans S17
  wtm_at"z"
  refine kP (SqL.of (S17' _ _ et')) ?_
  wtm_at"z"
  refine jG (S17' _ _ et') (small (by rw[xW,yYF];show min i 2<=_;omega)) ?_
  refine hN _ _ ⟨[_,_,_,_,_],rfl,rfl,?_,?_,(S'.trans S17').set ht⟩
  .rw[qW,vT,yYM,etx];rfl
  .rw[qA lt];exact S17' _ _ el'
 obtain⟨z,hz,rfl,et',el',S'⟩:=hP
 match z,hz with
 | [z4,z5,z6,z7,z8],_=>
 have et2:H' t=some (.lst [.str (textW W1),.str (textW W2)]):=et'
 wtm_at"z"
 obtain⟨e,de,he⟩:=qBv (K:=K) sw1.ok sw2.ok (A1'.same S') (A2.same S')
 refine⟨20,p1,p2,_,_,e,by decide,rfl,rfl,SqT.of (S' _ _ ep1'),SqT.of (S' _ _ ep2),de,?_⟩
 refine⟨rfl,?_⟩
 have fin:decide (V.str (textW W1)=V.str (textW W2))=((List.range (min 5 5)).all e && 5 == 5):=by
  rw[Zc,he]
  exact⟨fun z=>xQa (xKe sw1) (xKe sw2) (V.str.inj (of_decide_eq_true z)),fun z=>decide_eq_true (by rw[z])⟩
 have e2:decide (V.bl (decide (V.str (textW W1)=V.str (textW W2)))=V.bl ((List.range (min [V.ref bx0,V.ref dx1,V.ref lx1,bv0,gv0].length [V.ref bx2,V.ref dx2,V.ref lx2,bv2,gv2].length)).all e && [V.ref bx0,V.ref dx1,V.ref lx1,bv0,gv0].length == [V.ref bx2,V.ref dx2,V.ref lx2,bv2,gv2].length))=true:=decide_eq_true (congrArg V.bl fin)
 rw[e2]
 exact q _
end
theorem len1 {C:List Value->Prop}(h:∀a0:Value,C [a0])(us:List Value)(e:us.length=1):C us:=by
 cases us with
 | nil=>cases e
 | cons a r=>
  cases r with
  | nil=>exact h a
  | cons _ _=>exact absurd (Nat.succ.inj e) (Nat.succ_ne_zero _)
theorem len2 {C:List Value->Prop}(h:∀a0 a1:Value,C [a0,a1])(us:List Value)(e:us.length=2):C us:=by
 cases us with
 | nil=>cases e
 | cons a r=>exact len1 (C:=fun r=>C (a::r)) (h a) r (Nat.succ.inj e)
theorem len3 {C:List Value->Prop}(h:∀a0 a1 a2:Value,C [a0,a1,a2])(us:List Value)(e:us.length=3):C us:=by
 cases us with
 | nil=>cases e
 | cons a r=>exact len2 (C:=fun r=>C (a::r)) (h a) r (Nat.succ.inj e)
theorem len4 {C:List Value->Prop}(h:∀a0 a1 a2 a3:Value,C [a0,a1,a2,a3])(us:List Value)(e:us.length=4):C us:=by
 cases us with
 | nil=>cases e
 | cons a r=>exact len3 (C:=fun r=>C (a::r)) (h a) r (Nat.succ.inj e)
theorem len5 {C:List Value->Prop}(h:∀a0 a1 a2 a3 a4:Value,C [a0,a1,a2,a3,a4])(us:List Value)(e:us.length=5):C us:=by
 cases us with
 | nil=>cases e
 | cons a r=>exact len4 (C:=fun r=>C (a::r)) (h a) r (Nat.succ.inj e)
def DefIn (K:yZN)(x:Str)(st:Stmt):Prop:=∃f fd,YX K Yd x=some (some (.ref f))/\Fun K x x st f fd
theorem DefIn.mk {K:yZN}{x:Str}{st:Stmt}{f:Addr}{od an:Option Addr}{sl:Array (Option Value)}{oc kV dc pm cd ct:Value}(a:YX K Yd x=some (some (.ref f)))(l:K.lookup f=some ⟨oc,od,.func (Y7 x x (xC st) (xB st) (xA st) .none kV dc pm an cd ct),sl⟩)(c:PySem.W.codeIn K cd x=true)(k:PySem.W.keepIn K (.ref f)=true):DefIn K x st:=⟨f,_,a,xYb l c k⟩
theorem DefIn.fd {K:yZN}{x:Str}{st:Stmt}{h:Heap}{mg:Str->Option Value}{ps:List Str}(d:DefIn K x st)(X:K.In h)(G:h.Ns Yd mg)
  (b:∀(kV doc pm:Value) (an:Option Addr) (zx ct:Value) (us:List Value),us.length=ps.length->bindArgs (Y7 x x (xC st) (xB st) (xA st) .none kV doc pm an zx ct) ⟨us,[]⟩=pure (ps.zip us):=by intro _ _ _ _ _ _;first | exact len1 (fun _=>rfl) | exact len2 (fun _ _=>rfl) | exact len3 (fun _ _ _=>rfl) | exact len5 (fun _ _ _ _ _=>rfl)):Fd K mg x st ps:=let ⟨f,fd,a,F⟩:=d;⟨f,fd,F,YY X G a,F.kp,F.binds b⟩
theorem xEz {l:PySem.W.OpenLaw}{w:World}{K:yZN}{h:Heap}{mg:Str->Option Value}{fa f58:Addr}(X:K.In h)(G:h.Ns Yd mg)(hfa:mg "law" = some (.ref fa))
  {od58 an58:Option Addr} {sl58:Array (Option Value)} {oc58 kV58 dc58 pm58 cd58 ct58:Value}
  (d0:DefIn K "world_of" (top 15))
  (d1:DefIn K "standings_of_boxes" (top 16))
  (d2:DefIn K "copied_deed" (top 17))
  (d3:DefIn K "is_whole" (top 18))
  (d4:DefIn K "refuse_boxes" (top 19))
  (d5:DefIn K "refuse_twice" (top 20))
  (d6:DefIn K "refuse_price" (top 21))
  (d7:DefIn K "refuse_ways" (top 22))
  (d8:DefIn K "refuse_strange_name" (top 23))
  (d9:DefIn K "refuse_strange_names" (top 24))
  (d10:DefIn K "refuse_begin" (top 25))
  (d11:DefIn K "holds" (top 5))
  (d12:DefIn K "names_in" (top 6))
  (d13:DefIn K "values_by_name" (top 7))
  (d14:DefIn K "worth_by" (top 8))
  (d15:DefIn K "holds_by" (top 9))
  (d16:DefIn K "_law_cell_at" (top 64))
  (d17:DefIn K "_law_stir" (top 65))
  (d18:DefIn K "_law_drawn" (top 66))
  (d19:DefIn K "_law_deck" (top 67))
  (d20:DefIn K "_law_take" (top 68))
  (d21:DefIn K "_law_unlike" (top 69))
  (d22:DefIn K "_law_boxes" (top 70))
  (d23:DefIn K "_law_expr" (top 71))
  (d24:DefIn K "_law_cond" (top 72))
  (d25:DefIn K "_law_worth" (top 73))
  (d26:DefIn K "_law_holds" (top 74))
  (d27:DefIn K "_law_values" (top 75))
  (d28:DefIn K "_law_standings" (top 76))
  (d29:DefIn K "_law_deed" (top 77))
  (d30:DefIn K "_law_world" (top 78))
  (d31:DefIn K "shown_world" (top 39))
  (d32:DefIn K "shown_need" (top 42))
  (d33:DefIn K "shown_way" (top 43))
  (d34:DefIn K "shown_thing" (top 44))
  (d35:DefIn K "shown_number" (top 45))
  (d36:DefIn K "_law_short" (top 81))
  (d37:DefIn K "is_word" (top 41))
  (d38:DefIn K "refuse_unless" (top 48))
  (d39:DefIn K "read_name" (top 56))
  (d40:DefIn K "read_number" (top 58))
  (d41:DefIn K "read_short_number" (top 57))
  (d42:DefIn K "read_leaf" (top 60))
  (d43:DefIn K "kind_at_end" (top 61))
  (d44:DefIn K "put_together_at_end" (top 62))
  (d45:DefIn K "read_thing" (top 59))
  (d46:DefIn K "kind_of" (top 46))
  (d47:DefIn K "read_box" (top 49))
  (d48:DefIn K "read_look" (top 55))
  (d49:DefIn K "read_change" (top 54))
  (d50:DefIn K "read_need" (top 52))
  (d51:DefIn K "read_deed" (top 51))
  (d52:DefIn K "read_way" (top 53))
  (d53:DefIn K "read_deeds" (top 50))
  (d54:DefIn K "refuse_order" (top 47))
  (d55:DefIn K "read_world" (top 40))
  (d56:DefIn K "_law_other" (top 79))
  (d57:DefIn K "_law_same" (top 80))
  (a58:YX K Yd "law" = some (some (.ref f58))) (l58:K.lookup f58=some ⟨oc58,od58,.func (Y7 "law" "law" (xC (top 82)) (xB (top 82)) (xA (top 82)) .none kV58 dc58 pm58 an58 cd58 ct58),sl58⟩) (c58:PySem.W.codeIn K cd58 "law" = true) (k58:PySem.W.keepIn K (.ref f58)=true)
  {Ja:Tok} (Jb:YX K Yd "LEAST_SIZE" = some (some (.int 2 Ja)))
  {uS:Tok} (uT:YX K Yd "GREATEST_SIZE" = some (some (.int 5 uS)))
  {JP:Tok} (JQ:YX K Yd "LEAST_PRICE" = some (some (.int 1 JP)))
  {kj:Addr} {yg:Nat} {jy:Obj} {vp vq vt:Tok}
  (yh:YX K Yd "WORDS_OF_CONDITIONS" = some (some (.ref kj))) (vw:K.lookup kj=some jy) (vx:jy.cls=.type "tuple") (vz:jy.data=.seq #[.str "not" vp,.str "and" vq,.str "yes" vt] yg)
  {UX:Tok} (UY:YX K Yd "BLOCK" = some (some (.int 1000000000000000000 UX)))
  {VX:Addr} {YH:Nat} {VY:Obj} {Um:Tok}
  (VZ:YX K Yd "YES" = some (some (.ref VX))) (Uo:K.lookup VX=some VY) (Up:VY.cls=.type "tuple") (Uq:VY.data=.seq #[.str "yes" Um] YH)
  {uk:Addr} {ep_FORMS:Nat}
  {Jc ct_FORMS0:Tok} {a_FORMS0 b_FORMS0:Addr} {uF q_FORMS0:Obj} {Vq m_FORMS0:Nat} {u_FORMS0_0 u_FORMS0_1 u_FORMS0_2 u_FORMS0_3 u_FORMS0_4:Tok}
  {Jd ct_FORMS1:Tok} {a_FORMS1 b_FORMS1:Addr} {uG q_FORMS1:Obj} {Vr m_FORMS1:Nat} {u_FORMS1_0 u_FORMS1_1 u_FORMS1_2 u_FORMS1_3 u_FORMS1_4:Tok}
  {Je ct_FORMS2:Tok} {a_FORMS2 b_FORMS2:Addr} {uH q_FORMS2:Obj} {Vs m_FORMS2:Nat} {u_FORMS2_0 u_FORMS2_1 u_FORMS2_2:Tok}
  {Jf ct_FORMS3:Tok} {a_FORMS3 b_FORMS3:Addr} {uI q_FORMS3:Obj} {Vt m_FORMS3:Nat} {u_FORMS3_0 u_FORMS3_1 u_FORMS3_2:Tok}
  {Jg ct_FORMS4:Tok} {a_FORMS4 b_FORMS4:Addr} {uJ q_FORMS4:Obj} {Vu m_FORMS4:Nat} {u_FORMS4_0 u_FORMS4_1:Tok}
  {Jh ct_FORMS5:Tok} {a_FORMS5 b_FORMS5:Addr} {uK q_FORMS5:Obj} {Vv m_FORMS5:Nat} {u_FORMS5_0 u_FORMS5_1 u_FORMS5_2 u_FORMS5_3 u_FORMS5_4:Tok}
  (UZ:YX K Yd "FORMS" = some (some (.ref uk))) (Vw:K.lookup uk=some ⟨.type "dict",none,.dict #[⟨PyData.keyHash w.params (Yb "plus"),.str "plus" Jc,.ref a_FORMS0⟩,⟨PyData.keyHash w.params (Yb "less"),.str "less" Jd,.ref a_FORMS1⟩,⟨PyData.keyHash w.params (Yb "same"),.str "same" Je,.ref a_FORMS2⟩,⟨PyData.keyHash w.params (Yb "under"),.str "under" Jf,.ref a_FORMS3⟩,⟨PyData.keyHash w.params (Yb "not"),.str "not" Jg,.ref a_FORMS4⟩,⟨PyData.keyHash w.params (Yb "both"),.str "both" Jh,.ref a_FORMS5⟩] ep_FORMS,#[]⟩) (Vx:(uk == sysModules)=false)
  (ha_FORMS0:K.lookup a_FORMS0=some uF) (hb_FORMS0:uF.cls=.type "tuple") (hc_FORMS0:uF.data=.seq #[.str "E" ct_FORMS0,.ref b_FORMS0] Vq) (hd_FORMS0:K.lookup b_FORMS0=some q_FORMS0) (he_FORMS0:q_FORMS0.cls=.type "tuple") (hf_FORMS0:q_FORMS0.data=.seq #[.str "(" u_FORMS0_0,.str "E" u_FORMS0_1,.str "+" u_FORMS0_2,.str "E" u_FORMS0_3,.str ")" u_FORMS0_4] m_FORMS0)
  (ha_FORMS1:K.lookup a_FORMS1=some uG) (hb_FORMS1:uG.cls=.type "tuple") (hc_FORMS1:uG.data=.seq #[.str "E" ct_FORMS1,.ref b_FORMS1] Vr) (hd_FORMS1:K.lookup b_FORMS1=some q_FORMS1) (he_FORMS1:q_FORMS1.cls=.type "tuple") (hf_FORMS1:q_FORMS1.data=.seq #[.str "(" u_FORMS1_0,.str "E" u_FORMS1_1,.str "-" u_FORMS1_2,.str "E" u_FORMS1_3,.str ")" u_FORMS1_4] m_FORMS1)
  (ha_FORMS2:K.lookup a_FORMS2=some uH) (hb_FORMS2:uH.cls=.type "tuple") (hc_FORMS2:uH.data=.seq #[.str "C" ct_FORMS2,.ref b_FORMS2] Vs) (hd_FORMS2:K.lookup b_FORMS2=some q_FORMS2) (he_FORMS2:q_FORMS2.cls=.type "tuple") (hf_FORMS2:q_FORMS2.data=.seq #[.str "E" u_FORMS2_0,.str "=" u_FORMS2_1,.str "E" u_FORMS2_2] m_FORMS2)
  (ha_FORMS3:K.lookup a_FORMS3=some uI) (hb_FORMS3:uI.cls=.type "tuple") (hc_FORMS3:uI.data=.seq #[.str "C" ct_FORMS3,.ref b_FORMS3] Vt) (hd_FORMS3:K.lookup b_FORMS3=some q_FORMS3) (he_FORMS3:q_FORMS3.cls=.type "tuple") (hf_FORMS3:q_FORMS3.data=.seq #[.str "E" u_FORMS3_0,.str "<" u_FORMS3_1,.str "E" u_FORMS3_2] m_FORMS3)
  (ha_FORMS4:K.lookup a_FORMS4=some uJ) (hb_FORMS4:uJ.cls=.type "tuple") (hc_FORMS4:uJ.data=.seq #[.str "C" ct_FORMS4,.ref b_FORMS4] Vu) (hd_FORMS4:K.lookup b_FORMS4=some q_FORMS4) (he_FORMS4:q_FORMS4.cls=.type "tuple") (hf_FORMS4:q_FORMS4.data=.seq #[.str "not" u_FORMS4_0,.str "C" u_FORMS4_1] m_FORMS4)
  (ha_FORMS5:K.lookup a_FORMS5=some uK) (hb_FORMS5:uK.cls=.type "tuple") (hc_FORMS5:uK.data=.seq #[.str "C" ct_FORMS5,.ref b_FORMS5] Vv) (hd_FORMS5:K.lookup b_FORMS5=some q_FORMS5) (he_FORMS5:q_FORMS5.cls=.type "tuple") (hf_FORMS5:q_FORMS5.data=.seq #[.str "(" u_FORMS5_0,.str "C" u_FORMS5_1,.str "and" u_FORMS5_2,.str "C" u_FORMS5_3,.str ")" u_FORMS5_4] m_FORMS5)
  {uL:Addr} {ep_STAGES:Nat} {JE u_STAGES0 JF u_STAGES1 JG u_STAGES2 JH u_STAGES3 JI u_STAGES4 JJ u_STAGES5:Tok}
  (Vy:YX K Yd "STAGES" = some (some (.ref uL))) (Vd:K.lookup uL=some ⟨.type "dict",none,.dict #[⟨PyData.keyHash w.params (Yb "box"),.str "box" JE,.int 0 u_STAGES0⟩,⟨PyData.keyHash w.params (Yb "deed"),.str "deed" JF,.int 1 u_STAGES1⟩,⟨PyData.keyHash w.params (Yb "way"),.str "way" JG,.int 1 u_STAGES2⟩,⟨PyData.keyHash w.params (Yb "look"),.str "look" JH,.int 2 u_STAGES3⟩,⟨PyData.keyHash w.params (Yb "begin"),.str "begin" JI,.int 3 u_STAGES4⟩,⟨PyData.keyHash w.params (Yb "goal"),.str "goal" JJ,.int 4 u_STAGES5⟩] ep_STAGES,#[]⟩) (Ve:(uL == sysModules)=false)
  {Vf:Tok} (Vg:YX K Yd "LETTERS" = some (some (.str "abcdefghijklmnopqrstuvwxyz" Vf)))
  {Vh:Tok} (Vi:YX K Yd "FIGURES" = some (some (.str "0123456789" Vh)))
  {ul:Tok} (um:YX K Yd "MOST_LETTERS" = some (some (.int 8 ul)))
  {yq:Tok} (yu:YX K Yd "FIGURES_OF_A_BLOCK" = some (some (.int 18 yq)))
  {uo:Tok} (uq:YX K Yd "LONGEST_FORM" = some (some (.int 5 uo)))
  {VL:Addr} {Ua:Nat} {ut:Obj} {Vz UA UB UC UD UE UF UG:Tok}
  (Ub:YX K Yd "SIGNS" = some (some (.ref VL))) (UH:K.lookup VL=some ut) (UI:ut.cls=.type "tuple") (UJ:ut.data=.seq #[.str "(" Vz,.str ")" UA,.str "+" UB,.str "-" UC,.str "=" UD,.str "<" UE,.str "not" UF,.str "and" UG] Ua)
  {vi:Tok} (vj:YX K Yd "MOST_FIGURES_OF_A_SIZE" = some (some (.int 1 vi)))
  {vf:Tok} (vg:YX K Yd "MOST_FIGURES_OF_A_PRICE" = some (some (.int 30 vf)))
  (YI:YX K Yd "len" = some none)
  (Uc:YX K Yd "range" = some none)
  (YJ:YX K Yd "min" = some none)
  (Ji:YX K Yd "isinstance" = some none)
  (Ur:YX K Yd "list" = some none)
  (Va:YX K Yd "reversed" = some none)
  (Ud:YX K Yd "tuple" = some none)
  (YL:YX K Yd "int" = some none)
  (Us:YX K Yd "bool" = some none)
  (Ut:YX K Yd "dict" = some none)
  (YM:YX K Yd "zip" = some none)
  (YN:YX K Yd "set" = some none)
  (YO:YX K Yd "abs" = some none)
  (YQ:YX K Yd "str" = some none)
  (YR:YX K Yd "all" = some none)
  (UK:YX K Yd "sorted" = some none):
  ∃fd:FuncData,(∀(s:Shared) (v:Value),BindsTo s fd ⟨[v],[]⟩ [("script",v)])/\∀base:Heap,K.In base->base.Ns Yd mg->FnOk l.prog w K mg base CX0 60 fa fd ["script"] (spLaw K):=by
 have e:=hfa.symm.trans (YY X G a58)
 cases e
 have VD:=d0.fd (ps:=["boxes","deeds","looks","begin","goal"]) X G
 have yi:=d1.fd (ps:=["boxes"]) X G
 have uu:=d2.fd (ps:=["deed"]) X G
 have VE:=d3.fd (ps:=["thing"]) X G
 have uU:=d4.fd (ps:=["boxes"]) X G
 have uV:=d5.fd (ps:=["names","kind"]) X G
 have uW:=d6.fd (ps:=["name","price"]) X G
 have uv:=d7.fd (ps:=["deed_name","ways","names"]) X G
 have yL:=d8.fd (ps:=["name","names"]) X G
 have vk:=d9.fd (ps:=["thing","names"]) X G
 have uX:=d10.fd (ps:=["begin","boxes"]) X G
 have UL:=d11.fd (ps:=["condition","boxes","standing"]) X G
 have YA:=d12.fd (ps:=["thing"]) X G
 obtain⟨f12,fd12,a12,F12⟩:=d12
 have E12:FunE K mg "names_in" f12 _ ["thing"]:=⟨YY X G a12,F12.kp,F12.binds (ps:=["thing"]) fun _ _ _ _ _ _=>len1 (fun _=>rfl)⟩
 have Vp:=d13.fd (ps:=["boxes","standing"]) X G
 obtain⟨f13,fd13,a13,F13⟩:=d13
 have E13:FunE K mg "values_by_name" f13 _ ["boxes","standing"]:=⟨YY X G a13,F13.kp,F13.binds (ps:=["boxes","standing"]) fun _ _ _ _ _ _=>len2 (fun _ _=>rfl)⟩
 have YB:=d14.fd (ps:=["expression","values"]) X G
 obtain⟨f14,fd14,a14,F14⟩:=d14
 have E14:FunE K mg "worth_by" f14 _ ["expression","values"]:=⟨YY X G a14,F14.kp,F14.binds (ps:=["expression","values"]) fun _ _ _ _ _ _=>len2 (fun _ _=>rfl)⟩
 have VF:=d15.fd (ps:=["condition","values"]) X G
 have Ue:=d16.fd (ps:=["script","k"]) X G
 obtain⟨f16,fd16,a16,F16⟩:=d16
 have E16:FunE K mg "_law_cell_at" f16 _ ["script","k"]:=⟨YY X G a16,F16.kp,F16.binds (ps:=["script","k"]) fun _ _ _ _ _ _=>len2 (fun _ _=>rfl)⟩
 have YC:=d17.fd (ps:=["cell","k"]) X G
 obtain⟨f17,fd17,a17,F17⟩:=d17
 have E17:FunE K mg "_law_stir" f17 _ ["cell","k"]:=⟨YY X G a17,F17.kp,F17.binds (ps:=["cell","k"]) fun _ _ _ _ _ _=>len2 (fun _ _=>rfl)⟩
 have Uu:=d18.fd (ps:=["cell","sizes"]) X G
 obtain⟨f18,fd18,a18,F18⟩:=d18
 have E18:FunE K mg "_law_drawn" f18 _ ["cell","sizes"]:=⟨YY X G a18,F18.kp,F18.binds (ps:=["cell","sizes"]) fun _ _ _ _ _ _=>len2 (fun _ _=>rfl)⟩
 have YD:=d19.fd (ps:=["cell"]) X G
 obtain⟨f19,fd19,a19,F19⟩:=d19
 have E19:FunE K mg "_law_deck" f19 _ ["cell"]:=⟨YY X G a19,F19.kp,F19.binds (ps:=["cell"]) fun _ _ _ _ _ _=>len1 (fun _=>rfl)⟩
 have YE:=d20.fd (ps:=["deck","many"]) X G
 obtain⟨f20,fd20,a20,F20⟩:=d20
 have E20:FunE K mg "_law_take" f20 _ ["deck","many"]:=⟨YY X G a20,F20.kp,F20.binds (ps:=["deck","many"]) fun _ _ _ _ _ _=>len2 (fun _ _=>rfl)⟩
 have Uk:=d21.fd (ps:=["number","many"]) X G
 obtain⟨f21,fd21,a21,F21⟩:=d21
 have E21:FunE K mg "_law_unlike" f21 _ ["number","many"]:=⟨YY X G a21,F21.kp,F21.binds (ps:=["number","many"]) fun _ _ _ _ _ _=>len2 (fun _ _=>rfl)⟩
 have Uv:=d22.fd (ps:=["cell"]) X G
 obtain⟨f22,fd22,a22,F22⟩:=d22
 have E22:FunE K mg "_law_boxes" f22 _ ["cell"]:=⟨YY X G a22,F22.kp,F22.binds (ps:=["cell"]) fun _ _ _ _ _ _=>len1 (fun _=>rfl)⟩
 have YF:=d23.fd (ps:=["deck","words","deep"]) X G
 obtain⟨f23,fd23,a23,F23⟩:=d23
 have E23:FunE K mg "_law_expr" f23 _ ["deck","words","deep"]:=⟨YY X G a23,F23.kp,F23.binds (ps:=["deck","words","deep"]) fun _ _ _ _ _ _=>len3 (fun _ _ _=>rfl)⟩
 have YG:=d24.fd (ps:=["deck","words","deep"]) X G
 obtain⟨f24,fd24,a24,F24⟩:=d24
 have E24:FunE K mg "_law_cond" f24 _ ["deck","words","deep"]:=⟨YY X G a24,F24.kp,F24.binds (ps:=["deck","words","deep"]) fun _ _ _ _ _ _=>len3 (fun _ _ _=>rfl)⟩
 have Uw:=d25.fd (ps:=["part","values"]) X G
 obtain⟨f25,fd25,a25,F25⟩:=d25
 have E25:FunE K mg "_law_worth" f25 _ ["part","values"]:=⟨YY X G a25,F25.kp,F25.binds (ps:=["part","values"]) fun _ _ _ _ _ _=>len2 (fun _ _=>rfl)⟩
 have Jj:=d26.fd (ps:=["cond","values"]) X G
 have Ul:=d27.fd (ps:=["boxes","standing"]) X G
 obtain⟨f27,fd27,a27,F27⟩:=d27
 have E27:FunE K mg "_law_values" f27 _ ["boxes","standing"]:=⟨YY X G a27,F27.kp,F27.binds (ps:=["boxes","standing"]) fun _ _ _ _ _ _=>len2 (fun _ _=>rfl)⟩
 have uM:=d28.fd (ps:=["boxes"]) X G
 have VG:=d29.fd (ps:=["deck","name","words"]) X G
 have Jk:=d30.fd (ps:=["script"]) X G
 have uw:=d31.fd (ps:=["world"]) X G
 have JR:=d32.fd (ps:=["need"]) X G
 have Jl:=d33.fd (ps:=["way"]) X G
 have uy:=d34.fd (ps:=["thing"]) X G
 have uY:=d35.fd (ps:=["number"]) X G
 have Jm:=d36.fd (ps:=["world"]) X G
 have Vb:=d37.fd (ps:=["text"]) X G
 have uN:=d38.fd (ps:=["fits","reason"]) X G
 have Jn:=d39.fd (ps:=["word"]) X G
 have uz:=d40.fd (ps:=["figures"]) X G
 have yv:=d41.fd (ps:=["figures","most"]) X G
 have Jo:=d42.fd (ps:=["word"]) X G
 have JA:=d43.fd (ps:=["row"]) X G
 have yb:=d44.fd (ps:=["row","kind"]) X G
 have JS:=d45.fd (ps:=["sign","words"]) X G
 have Vc:=d46.fd (ps:=["row"]) X G
 have VH:=d47.fd (ps:=["words"]) X G
 have Jp:=d48.fd (ps:=["words"]) X G
 have JB:=d49.fd (ps:=["words"]) X G
 have Jq:=d50.fd (ps:=["words"]) X G
 have Jr:=d51.fd (ps:=["words"]) X G
 have VI:=d52.fd (ps:=["row"]) X G
 have JT:=d53.fd (ps:=["rows"]) X G
 have uZ:=d54.fd (ps:=["kinds"]) X G
 have JU:=d55.fd (ps:=["text"]) X G
 have Js:=d56.fd (ps:=["world","cell"]) X G
 have VJ:=d57.fd (ps:=["found","world"]) X G
 have F58:=xYb (st:=top 82) l58 c58 k58
 have vd:Gi mg "LEAST_SIZE" 2:=⟨_,YY X G Jb⟩
 have kg:Gi mg "GREATEST_SIZE" 5:=⟨_,YY X G uT⟩
 have vL:Gi mg "LEAST_PRICE" 1:=⟨_,YY X G JQ⟩
 have ju:Gs K mg "WORDS_OF_CONDITIONS" ["not","and","yes"]:=⟨_,YY X G yh,fun H=>.inr ⟨_,_,_,vw,vx,vz,(by show 3<=Yc;decide),.cons ⟨_,rfl⟩ (.cons ⟨_,rfl⟩ (.cons ⟨_,rfl⟩ (.nil)))⟩⟩
 have va:Gi mg "BLOCK" 1000000000000000000:=⟨_,YY X G UY⟩
 have jo:Gs K mg "YES" ["yes"]:=⟨_,YY X G VZ,fun H=>.inr ⟨_,_,_,Uo,Up,Uq,(by show 1<=Yc;decide),.cons ⟨_,rfl⟩ (.nil)⟩⟩
 have jk:Gg w K mg "FORMS" forms81:=⟨_,_,[⟨"plus",Jc,a_FORMS0,"E",b_FORMS0,["(","E","+","E",")"]⟩,⟨"less",Jd,a_FORMS1,"E",b_FORMS1,["(","E","-","E",")"]⟩,⟨"same",Je,a_FORMS2,"C",b_FORMS2,["E","=","E"]⟩,⟨"under",Jf,a_FORMS3,"C",b_FORMS3,["E","<","E"]⟩,⟨"not",Jg,a_FORMS4,"C",b_FORMS4,["not","C"]⟩,⟨"both",Jh,a_FORMS5,"C",b_FORMS5,["(","C","and","C",")"]⟩],ep_FORMS,YY X G UZ,Vw,⟨rfl,rfl,rfl⟩,rfl,rfl,by wtm_at"d",Vx,fun e he=>by
  rcases yYK.mp he with rfl | he
  .exact⟨fun _=>.inr ⟨_,_,_,ha_FORMS0,hb_FORMS0,hc_FORMS0,(by show 2<=Yc;decide),.cons ⟨_,rfl⟩ (.cons rfl .nil)⟩,fun _=>.inr ⟨_,_,_,hd_FORMS0,he_FORMS0,hf_FORMS0,(by show 5<=Yc;decide),.cons ⟨_,rfl⟩ (.cons ⟨_,rfl⟩ (.cons ⟨_,rfl⟩ (.cons ⟨_,rfl⟩ (.cons ⟨_,rfl⟩ (.nil)))))⟩⟩
  rcases yYK.mp he with rfl | he
  .exact⟨fun _=>.inr ⟨_,_,_,ha_FORMS1,hb_FORMS1,hc_FORMS1,(by show 2<=Yc;decide),.cons ⟨_,rfl⟩ (.cons rfl .nil)⟩,fun _=>.inr ⟨_,_,_,hd_FORMS1,he_FORMS1,hf_FORMS1,(by show 5<=Yc;decide),.cons ⟨_,rfl⟩ (.cons ⟨_,rfl⟩ (.cons ⟨_,rfl⟩ (.cons ⟨_,rfl⟩ (.cons ⟨_,rfl⟩ (.nil)))))⟩⟩
  rcases yYK.mp he with rfl | he
  .exact⟨fun _=>.inr ⟨_,_,_,ha_FORMS2,hb_FORMS2,hc_FORMS2,(by show 2<=Yc;decide),.cons ⟨_,rfl⟩ (.cons rfl .nil)⟩,fun _=>.inr ⟨_,_,_,hd_FORMS2,he_FORMS2,hf_FORMS2,(by show 3<=Yc;decide),.cons ⟨_,rfl⟩ (.cons ⟨_,rfl⟩ (.cons ⟨_,rfl⟩ (.nil)))⟩⟩
  rcases yYK.mp he with rfl | he
  .exact⟨fun _=>.inr ⟨_,_,_,ha_FORMS3,hb_FORMS3,hc_FORMS3,(by show 2<=Yc;decide),.cons ⟨_,rfl⟩ (.cons rfl .nil)⟩,fun _=>.inr ⟨_,_,_,hd_FORMS3,he_FORMS3,hf_FORMS3,(by show 3<=Yc;decide),.cons ⟨_,rfl⟩ (.cons ⟨_,rfl⟩ (.cons ⟨_,rfl⟩ (.nil)))⟩⟩
  rcases yYK.mp he with rfl | he
  .exact⟨fun _=>.inr ⟨_,_,_,ha_FORMS4,hb_FORMS4,hc_FORMS4,(by show 2<=Yc;decide),.cons ⟨_,rfl⟩ (.cons rfl .nil)⟩,fun _=>.inr ⟨_,_,_,hd_FORMS4,he_FORMS4,hf_FORMS4,(by show 2<=Yc;decide),.cons ⟨_,rfl⟩ (.cons ⟨_,rfl⟩ (.nil))⟩⟩
  rcases yYK.mp he with rfl | he
  .exact⟨fun _=>.inr ⟨_,_,_,ha_FORMS5,hb_FORMS5,hc_FORMS5,(by show 2<=Yc;decide),.cons ⟨_,rfl⟩ (.cons rfl .nil)⟩,fun _=>.inr ⟨_,_,_,hd_FORMS5,he_FORMS5,hf_FORMS5,(by show 5<=Yc;decide),.cons ⟨_,rfl⟩ (.cons ⟨_,rfl⟩ (.cons ⟨_,rfl⟩ (.cons ⟨_,rfl⟩ (.cons ⟨_,rfl⟩ (.nil)))))⟩⟩
  .cases he⟩
 have vm:Gn w K mg "STAGES" stages81:=⟨_,_,[⟨"box",JE,0,u_STAGES0⟩,⟨"deed",JF,1,u_STAGES1⟩,⟨"way",JG,1,u_STAGES2⟩,⟨"look",JH,2,u_STAGES3⟩,⟨"begin",JI,3,u_STAGES4⟩,⟨"goal",JJ,4,u_STAGES5⟩],ep_STAGES,YY X G Vy,Vd,⟨rfl,rfl,rfl⟩,rfl,rfl,by wtm_at"d",Ve⟩
 have yn:Gt mg "LETTERS" "abcdefghijklmnopqrstuvwxyz" := ⟨_,YY X G Vg⟩
 have yo:Gt mg "FIGURES" "0123456789" := ⟨_,YY X G Vi⟩
 have ky:Gi mg "MOST_LETTERS" 8:=⟨_,YY X G um⟩
 have jj:Gi mg "FIGURES_OF_A_BLOCK" 18:=⟨_,YY X G yu⟩
 have kz:Gi mg "LONGEST_FORM" 5:=⟨_,YY X G uq⟩
 have uD:Gs K mg "SIGNS" ["(",")","+","-","=","<","not","and"]:=⟨_,YY X G Ub,fun H=>.inr ⟨_,_,_,UH,UI,UJ,(by show 8<=Yc;decide),.cons ⟨_,rfl⟩ (.cons ⟨_,rfl⟩ (.cons ⟨_,rfl⟩ (.cons ⟨_,rfl⟩ (.cons ⟨_,rfl⟩ (.cons ⟨_,rfl⟩ (.cons ⟨_,rfl⟩ (.cons ⟨_,rfl⟩ (.nil))))))))⟩⟩
 have jt:Gi mg "MOST_FIGURES_OF_A_SIZE" 1:=⟨_,YY X G vj⟩
 have jd:Gi mg "MOST_FIGURES_OF_A_PRICE" 30:=⟨_,YY X G vg⟩
 have B:Bl mg:=⟨YZ X G YI,YZ X G Uc,YZ X G YJ,YZ X G Ji,YZ X G Ur,YZ X G Va,YZ X G Ud,YZ X G YL,YZ X G Us,YZ X G Ut,YZ X G YM⟩
 have VR:mg "set" = none:=YZ X G YN
 have VT:mg "abs" = none:=YZ X G YO
 have VU:mg "str" = none:=YZ X G YQ
 have vb:mg "all" = none:=YZ X G YR
 have uE:mg "sorted" = none:=YZ X G UK
 refine⟨Y7 "law" "law" (xC (top 82)) (xB (top 82)) (xA (top 82)) .none kV58 dc58 pm58 an58 cd58 ct58,fun s v=>.of_eq rfl,fun base YK _=>?_⟩
 have GS:=xVi (P:=l.prog) (w:=w) (mg:=mg) (base:=base) F17
 have GT:=xVh (P:=l.prog) (w:=w) (mg:=mg) (base:=base) F20
 have GE:=qRv (P:=l.prog) (w:=w) (base:=base) F23 B E23 GT E20
 have Vj:=Dn.mk (x := "_law_cell_at") ⟨_,_,xVm (P:=l.prog) (w:=w) (base:=base) F16 B,E16.mg,E16.kp,E16.bd⟩
 have Vk:=Dn.mk (x := "_law_take") ⟨_,_,GT,E20.mg,E20.kp,E20.bd⟩
 have Ux:=Dn.mk (x := "_law_deck") ⟨_,_,xVl F19 GS E17,E19.mg,E19.kp,E19.bd⟩
 have GD:=xXg F18 B GS E17
 have GU:=qRx (P:=l.prog) (w:=w) (base:=base) F21 B
 have Uf:=Dn.mk (x := "_law_boxes") ⟨_,_,xXl F22 B GD E18 (GU.mono (by decide)) E21,E22.mg,E22.kp,E22.bd⟩
 have Vl:=Dn.mk (x := "_law_cond") ⟨_,_,qRw F24 B E24 (GE 3) E23 GT E20 3,E24.mg,E24.kp,E24.bd⟩
 have Vm:=Dn.mk (x := "_law_expr") ⟨_,_,GE 3,E23.mg,E23.kp,E23.bd⟩
 have UM:=Dn.mk (x := "_law_worth") ⟨_,_,qRk (P:=l.prog) (w:=w) (base:=base) F25 B,E25.mg,E25.kp,E25.bd⟩
 have Vn:=Dn.mk (x := "_law_values") ⟨_,_,qMh (P:=l.prog) (w:=w) (base:=base) F27 B,E27.mg,E27.kp,E27.bd⟩
 have UN:=Dn.mk (x := "values_by_name") ⟨_,_,qRq (P:=l.prog) (w:=w) (base:=base) F13 B,E13.mg,E13.kp,E13.bd⟩
 have GW:=qKx (P:=l.prog) (w:=w) (base:=base) F14 E14 12
 have D_wb:=Dn.mk (x := "worth_by") ⟨_,_,GW,E14.mg,E14.kp,E14.bd⟩
 have Ug:=Dn.mk (x := "names_in") ⟨_,_,qHg (P:=l.prog) (w:=w) (base:=base) F12 E12 12,E12.mg,E12.kp,E12.bd⟩
 have VM:=Dn.mk (x := "_law_drawn") ⟨_,_,GD,E18.mg,E18.kp,E18.bd⟩
 have UO:=Dn.mk (x := "_law_unlike") ⟨_,_,GU,E21.mg,E21.kp,E21.bd⟩
 have ug:=xJz UL (qKd VF D_wb 12) UN
 have UP:=qDv Jj B UM 12
 have YS:=xDv (P:=l.prog) (w:=w) (base:=base) yi B
 have UQ:=qTb (P:=l.prog) (w:=w) (base:=base) uM B
 have VN:=xZf (P:=l.prog) (w:=w) (base:=base) VE B
 have Uh:=xZn uW VN vL
 have ua:=qFe (P:=l.prog) (w:=w) (base:=base) yL
 have JK:=qNv vk ua Ug
 have JC:=xZg (P:=l.prog) (w:=w) (base:=base) uV B VR
 have UR:=qTw uU B JC VN vd kg ju
 have Uy:=xWd uv B JC ua JK
 have Ui:=xJj uX YS ug
 have US:=qTd (P:=l.prog) (w:=w) (base:=base) uu B
 have VO:=qFd VD B UR JC Uh JK Uy Ui US
 have Uz:=xAq VG B Vk Vl Vm
 have UT:=qTa Jk B Vj Uf Ux Vl Vm Vk UQ UP Vn VM UO Uz
 have GR_YES:Gr mg "YES" VX:=⟨YY X G VZ⟩
 have JD:=qIj uy B (xDa (P:=l.prog) (w:=w) (base:=base) uY VT VU va) jo (show Gf w K mg "FORMS" forms80 from jk.gf) 8
 have UU:=qTj uw B (xWl JR JD jo) (xWe Jl JD) JD
 have vc:=qTx (P:=l.prog) (w:=w) (base:=base) uN
 have Vo:=xWc (P:=l.prog) (w:=w) (base:=base) Vb B vb yn ky
 have uc:=xWm Jn Vo vc
 have ud:=xZh yv B vc (xWg uz B vb yo jj va vc)
 have uf:=xWh JS B (xWn Jo B GR_YES uD Vo ud) (xWo (P:=l.prog) (w:=w) (base:=base) JA B kz jk) (xDw (P:=l.prog) (w:=w) (base:=base) yb B jk) vc
 have UW:=xDb (P:=l.prog) (w:=w) (base:=base) Vc
 have Uj:=qTv JT UW (xZm Jr B GR_YES jd vc uc ud (xZi Jq jo vc uf)) (xWf VI B (qNw JB B vc uc uf))
 have UV:=qTk JU B UW (xJq uZ B uE vm vc) (xWi VH B jt vc uc ud) Uj (xZl Jp B jd vc uc ud uf) uf VO
 exact xCc F58 B UT Vj VO UU UV (qTc (P:=l.prog) (w:=w) (base:=base) Jm) (xZo Js VM) (xJx (P:=l.prog) (w:=w) (base:=base) VJ B vb) VZ
theorem xCz {K:yZN}{y:Addr}{o:Obj}{n:Nat}{t:Tok}(h1:YX K Yd "YES" = some (some (.ref y)))(h2:K.lookup y=some o)(h3:o.cls=.type "tuple")(h4:o.dict=none)(h5:o.data=.seq #[.str "yes" t] n):OwnT K "YES" ["yes"]:=⟨y,o,_,n,h1,h2,h3,h4,h5,.cons ⟨_,rfl⟩ .nil,by decide⟩
theorem walk {l:PySem.W.OpenLaw}{q:Program}{loose:List Str}{XP:(Str->Option Value)->Heap->Prop}{YP:World->Heap->Prop}{d:DefRec}{K:Params->yZN}(hn:l.most=some 63)(hdf:d.params.defaults=[])
  (hY:∀(w:World) (h:Heap),YP w h->(K w.params).In h)
  (F:∀(w:World) (mg:Str->Option Value) (fa:Addr) (h:Heap),(K w.params).In h->h.Ns Yd mg->mg d.name=some (.ref fa)->
   ∃fd:FuncData,(∀(s:Shared) (u:Value),BindsTo s fd ⟨[u],[]⟩ [("script",u)])/\∀base:Heap,(K w.params).In base->base.Ns Yd mg->FnOk l.prog w (K w.params) mg base CX0 60 fa fd ["script"] (spLaw (K w.params)))
  (T:∀w:World,OwnT (K w.params) "YES" ["yes"]):
  PySem.W.WalkO q loose XP YP l.row.toRowW d [] (fun f vs=>PySem.call f vs):=
 L2.xQz (z := "YES") (ws:=["yes"]) (n:=63) (k:=60) (x := "script") (CX:=fun _=>CX0) (sp:=fun w=>spLaw (K w.params)) hn (by decide) hdf ⟨rfl,by decide,by decide⟩ hY T F (fun _ _ a ns hl hT hS=>⟨a,ns,rfl,hS,hl,hT,fun _=>rfl⟩) fun _ _ _ _ _ z=>z
end FP
open PySem PySem.W PyProof.Rows
set_option maxRecDepth 100000 in
set_option maxHeartbeats 0 in
theorem PySem.Challenge.cw_forkplan_k81_whole_worlds_read_back_holds : PySem.Challenge.rw_forkplan_k81_whole_worlds_read_back.Holds := by
 w_on
 refine PySem.W.holds_law FP.saidW fun said=>?_
 refine PySem.W.holds_open (q:=FP.qYx) (loose:=[Yb "FORMS",Yb "STAGES"]) (N:=6312) (YP:=InK FP.qEb) (XP:=XL FP.qYx [])
  (Xt:=fun s=>xlAt FP.qYx [] s && recOk (RowW.records (OpenRow.toRowW (PySem.W.OpenLaw.row PySem.Challenge.rw_forkplan_k81_whole_worlds_read_back))) s)
  (Yf:=Hook.obs FP.qXd) (Ya:=Hook.val FP.qXd) FP.xKh
  (Hook.of FP.qXd) (Hook.keeps FP.qXd) (fun s e=>xl_of s (Bool.and_eq_true_iff.mp e).1)
  XL.keeps (by rfl) (by rfl) (by rfl) (fun s e=>recFacts_of (Bool.and_eq_true_iff.mp e).2)
  (by rfl) (by first | assumption | wtm_at"d") (by wtm_at"d")
  ⟨rfl,rfl,rfl,rfl,rfl,by wtm_at"d"⟩ ?hw ?hc
 case hw=>w_witness2
 k_fill
 refine FP.walk (l:=PySem.Challenge.rw_forkplan_k81_whole_worlds_read_back) (K:=FP.qEb) rfl rfl (fun w h Y=>Y) ?F ?T
 case T=>exact fun w=>by apply FP.xCz <;> first | k_is | rfl
 case F=>
  intro w mg fa h KX G hmg
  apply FP.xEz KX G hmg <;> first | (apply FP.DefIn.mk <;> k_is) | k_is | rfl | decide
