import PyProof.Rows.All
import Wide.All
import OpenK.AllK
import PySem.Challenge.RW_forkplan_k45_rows_that_work
local macro_rules | `(tactic|wtm_at "d")=>`(tactic|decide +kernel)
set_option maxHeartbeats 4000000
set_option Elab.async false
set_option linter.all false
set_option maxRecDepth 100000
set_option maxHeartbeats 0 in
theorem FP.saidW:PySem.Challenge.rw_forkplan_k45_rows_that_work.wellSaid=true:=by wtm_at"d"
open List renaming getElem?_eq_getElem -> yYA, getElem?_eq_some_iff -> yYB, length_map -> yYC, size_toArray -> yYD, mem_of_getElem? -> yYE, length_take -> yYF, mem_cons_self -> yYG, mem_cons_of_mem -> yYH, length_append -> yYI, take_length -> yYJ, mem_cons -> yYK, mem_singleton -> yYL, take_add_one -> yYM, mem_append_right -> yYN, getElem?_map -> yYO, mem_map -> yYP, append_assoc -> yYQ, mem_filter -> yYR, mem_append -> yYS, length_cons -> yYT, length_nil -> yYU, nodup_append -> yYV, map_append -> yYW
open PySem renaming wpAny_bind -> yYX, wpAny_pure -> yYY
open PySem.Heap renaming get?_push_of_some -> yYZ, lt_size -> yZA, get?_push_size -> yZB, size_push -> yZC
open Nat renaming le_refl -> yZD, lt_of_lt_of_le -> yZE, ne_of_lt -> yZF, zero_le -> yZG, ne_of_gt -> yZH, lt_of_le_of_lt -> yZI, le_trans -> yZJ
open Bool renaming false_eq_true -> yZK, false_ne_true -> yZL
open Array renaming length_toList -> yZM, getElem?_toList -> yZN
open Option renaming map_some -> yZO
open PySem.W renaming Frag -> yZP
noncomputable section
namespace L2
open PySem
def xD (s:Stmt):Arguments:=match s with
 | .FunctionDef _ a _ _ _ _ _ _ _ _=>a
 | _=>{ posonlyargs:=[],args:=[],vararg:=none,kwonlyargs:=[],kw_defaults:=[],kwarg:=none,defaults:=[] }
def xC (s:Stmt):List Stmt:=match s with
 | .FunctionDef _ _ b _ _ _ _ _ _ _=>b
 | _=>[]
def xB (s:Stmt):Scope:=match s with
 | .FunctionDef _ _ _ _ _ _ sc _ _ _=>sc
 | _=>{ kind:=.function,names:=[],isGenerator:=false,isCoroutine:=false }
end L2
namespace FP
open PySem
def top (i:Nat):Stmt:=PySem.Challenge.pw_forkplan_k45_rows_that_work.main.body.getD i (.Pass ⟨0,0,0,0⟩)
abbrev oF (x:String)(i:Nat)(m:String)(n c:Nat):Obj:=Obj.mk (.type "function") none (Data.func (PySem.W.fnOf (Str.ofString x) (Str.ofString x) (L2.xD (top i)) (L2.xC (top i)) (L2.xB (top i)) .none .none .none (.str (Str.ofString m) n) none (.ref c) .none)) #[]
abbrev oL (x:String)(i c:Nat):Obj:=oF x i "law_forkplan_k45_rows_that_work" 703 c
abbrev oG (x:String)(i:Nat):Obj:=Obj.mk .none none (Data.func { PySem.W.fnOf (Str.ofString x) (Str.ofString x) (L2.xD (top i)) (L2.xC (top i)) (L2.xB (top i)) .none .none .none .none none .none .none with globals:=0 }) #[]
def mth (i j:Nat):Stmt:=match top i with | .ClassDef _ _ _ b _ _ _ _ _ _ _=>b.getD j (.Pass ⟨0,0,0,0⟩) | s=>s
abbrev oM (x q:String)(i j:Nat)(m:String)(n c:Nat):Obj:=Obj.mk (.type "function") none (Data.func (PySem.W.fnOf (Str.ofString x) (Str.ofString q) (L2.xD (mth i j)) (L2.xC (mth i j)) (L2.xB (mth i j)) .none .none .none (.str (Str.ofString m) n) none (.ref c) .none)) #[]
abbrev oW (x q:String)(i j:Nat):Obj:=Obj.mk .none none (Data.func { PySem.W.fnOf (Str.ofString x) (Str.ofString q) (L2.xD (mth i j)) (L2.xC (mth i j)) (L2.xB (mth i j)) .none .none .none .none none .none .none with globals:=0 }) #[]
abbrev oE (P:Params)(k:String)(n:Nat)(v:Value):DictEntry:=DictEntry.mk (PyData.keyHash P (Str.ofString k)) (.str (Str.ofString k) n) v
abbrev oS (x:String)(n:Nat):Value:=.str (Str.ofString x) n
abbrev oR (n:Nat):Value:=.ref n
abbrev oI (n:Int):Value:=.int n 0
abbrev oN:Obj:=Obj.mk .none none (Data.fields #[]) #[]
abbrev oT (x:Array Value):Obj:=Obj.mk (.type "tuple") none (Data.seq x 0) #[]
abbrev oC (x:Array Value):Obj:=Obj.mk (.type "code") none (Data.fields x) #[]
abbrev oK (x y:String)(a b c:Nat)(L n f:Int)(r q:Nat)(v w u z:Value)(t:Int)(t2:Nat):Obj:=oC #[(oS x a),(oS y b),(oS "/claim/cut.py" c),(oI L),(oI n),(oI 0),(oI 0),(oI f),(oR r),(.bool Bool.true),(oI 181),(oR q),v,w,u,z,(oI t),(oI L),(oS "/claim/cut.py" t2)]
open PySem.W
def Y0(a0)(a1)(a2)(a3)(a4)(a5)(a6)(a7)(a8):=Obj.mk (.type "type") none (Data.cls (ClassData.mk (Str.ofString a0) [(oR 71)] [(oR a1),(oR 71),(.type "ValueError"),(.type "Exception"),(.type "BaseException"),(.type "object")] a2 (Str.ofString a3) Bool.true [] [] Bool.false none Bool.false)) #[(some (oR a4)),none,(some (oS a5 a6)),(some (oS a7 a8)),(some (.builtin "ValueError.__new__")),(some (.bool Bool.true))]
def Y1(a0)(a1)(a2)(a3)(a4)(a5)(a6)(a7)(a8)(a9)(a10):=oC #[(oS a0 a1),(oS a2 a3),(oS "/claim/cut.py" a4),(oI a5),(oI 0),(oI 0),(oI 0),(oI 0),(oR a6),(.bool Bool.false),(oI 181),(oR a7),.none,.none,.none,.none,(oI a8),(oI a9),(oS "/claim/cut.py" a10)]
def Y2(a0)(a1)(a2)(a3):=Obj.mk (.type "frame") none Data.plain #[(some (oR a0)),(some (oR 3)),(some (oR a1)),none,(some (oS a2 a3)),none,(some (oR 0))]
def Y3 (P:Params)(a0)(a1)(a2)(a3)(a4)(a5)(a6)(a7)(a8):=Obj.mk (.type "dict") none (Data.dict #[(oE P "__module__" a0 (oS "forkplan.errors" 251)),(oE P "__qualname__" a1 (oS a2 a3)),(oE P "__firstlineno__" a4 (.int a5 a6)),(oE P "__static_attributes__" a7 (oR a8))] 4) #[]
def Y4 (P:Params)(a0)(a1)(a2)(a3)(a4)(a5)(a6):=Obj.mk (.type "dict") none (Data.dict #[(oE P "__module__" a0 (oS "forkplan.errors" 251)),(oE P "__firstlineno__" a1 (.int a2 a3)),(oE P "__static_attributes__" a4 (oR a5)),(oE P "__doc__" a6 .none)] 2) #[]
def Y5:=Obj.mk (.type "builtin_function_or_method") none (Data.fields #[(.builtin "type.__prepare__"),(.type "type")]) #[]
def Y6(a0)(a1)(a2):=Obj.mk (.type "super") none (Data.fields #[(oR a0),(oR a1),(oR a2)]) #[]
def Y7(a0):=Obj.mk (.type "builtin_function_or_method") none (Data.fields #[(.builtin "object.__init_subclass__"),(oR a0)]) #[]
def Z3 (P:Params):=Obj.mk (.type "dict") none (Data.dict #[(oE P "__name__" 165 (oS "law_forkplan_k45_rows_that_work" 703)),(oE P "__doc__" 166 .none),(oE P "__package__" 167 .none),(oE P "__loader__" 168 (.builtin "__main__.__loader__#opaque")),(oE P "__spec__" 169 .none),(oE P "__annotations__" 170 (oR 6)),(oE P "__builtins__" 171 (oR 4)),(oE P "__file__" 173 (oS "/claim/cut.py" 172)),(oE P "__cached__" 174 .none),(oE P "_wall" 193 (oR 21)),(oE P "worth" 204 (oR 28)),(oE P "holds" 213 (oR 35)),(oE P "names_in" 222 (oR 42)),(oE P "values_by_name" 228 (oR 47)),(oE P "worth_by" 239 (oR 54)),(oE P "holds_by" 250 (oR 61)),(oE P "ForkError" 270 (oR 71)),(oE P "NoWorld" 286 (oR 84)),(oE P "NoName" 302 (oR 96)),(oE P "NoPlan" 318 (oR 108)),(oE P "NotSure" 334 (oR 120)),(oE P "TooMany" 350 (oR 132)),(oE P "NoText" 366 (oR 144)),(oE P "NoOrder" 382 (oR 156)),(oE P "LEAST_SIZE" 386 (.int 2 385)),(oE P "GREATEST_SIZE" 388 (.int 5 387)),(oE P "LEAST_PRICE" 390 (.int 1 389)),(oE P "WORDS_OF_CONDITIONS" 394 (oR 159)),(oE P "world_of" 400 (oR 164)),(oE P "standings" 407 (oR 171)),(oE P "named" 417 (oR 178)),(oE P "standings_of_boxes" 423 (oR 183)),(oE P "behind_way" 429 (oR 188)),(oE P "copied_deed" 435 (oR 193)),(oE P "is_whole" 442 (oR 200)),(oE P "refuse_boxes" 448 (oR 205)),(oE P "refuse_twice" 456 (oR 212)),(oE P "refuse_price" 464 (oR 219)),(oE P "refuse_ways" 470 (oR 224)),(oE P "refuse_strange_name" 478 (oR 231)),(oE P "refuse_strange_names" 487 (oR 238)),(oE P "refuse_begin" 496 (oR 245)),(oE P "first_known" 504 (oR 250)),(oE P "at_goal" 512 (oR 257)),(oE P "may_do" 521 (oR 264)),(oE P "behind" 527 (oR 269)),(oE P "parts" 539 (oR 276)),(oE P "holds_at_each" 549 (oR 283)),(oE P "Chart" 639 (oR 346)),(oE P "bits_for" 649 (oR 357)),(oE P "is_within" 657 (oR 364)),(oE P "joined" 666 (oR 371)),(oE P "row_works" 679 (oR 378)),(oE P "without_looks" 686 (oR 385)),(oE P "known_behind" 695 (oR 392)),(oE P "coming_of" 702 (oR 399)),(oE P "_law_deck" 717 (oR 406)),(oE P "_law_take" 726 (oR 413)),(oE P "_law_thing" 737 (oR 420)),(oE P "_law_test" 748 (oR 427)),(oE P "_law_world" 754 (oR 432)),(oE P "_law_worth" 764 (oR 439)),(oE P "_law_holds" 774 (oR 446)),(oE P "_law_first" 780 (oR 451)),(oE P "_law_behind" 795 (oR 458)),(oE P "_law_works" 801 (oR 463)),(oE P "_law_told" 812 (oR 470)),(oE P "law" 818 (oR 475))] 68) #[]
def Z20:=oK "_wall" "_wall" 187 188 189 1 1 3 15 16 .none (oR 17) (oR 18) (oR 19) 191 192
def Z21:=oF "_wall" 0 "__main__" 164 20
def Z27:=oK "worth" "worth" 196 197 198 5 3 3 22 23 .none (oR 24) (oR 25) (oR 26) 202 203
def Z28:=oF "worth" 2 "forkplan.exprs" 194 27
def Z34:=oK "holds" "holds" 205 206 207 7 3 3 29 30 .none (oR 31) (oR 32) (oR 33) 211 212
def Z35:=oF "holds" 3 "forkplan.exprs" 194 34
def Z41:=oK "names_in" "names_in" 214 215 216 9 1 3 36 37 .none (oR 38) (oR 39) (oR 40) 220 221
def Z42:=oF "names_in" 4 "forkplan.exprs" 194 41
def Z46:=oK "values_by_name" "values_by_name" 223 224 225 17 2 3 43 44 .none .none .none (oR 45) 226 227
def Z47:=oF "values_by_name" 5 "forkplan.exprs" 194 46
def Z53:=oK "worth_by" "worth_by" 229 230 231 19 2 3 48 49 .none (oR 50) (oR 51) (oR 52) 237 238
def Z54:=oF "worth_by" 6 "forkplan.exprs" 194 53
def Z60:=oK "holds_by" "holds_by" 240 241 242 28 2 3 55 56 .none (oR 57) (oR 58) (oR 59) 248 249
def Z61:=oF "holds_by" 7 "forkplan.exprs" 194 60
def Z62:=oT #[(.type "ValueError")]
def Z70 (P:Params):=Obj.mk (.type "dict") none (Data.dict #[(oE P "__module__" 260 (oS "forkplan.errors" 251)),(oE P "__firstlineno__" 264 (.int 40 263)),(oE P "__static_attributes__" 265 (oR 69)),(oE P "__weakref__" 267 (oR 72)),(oE P "__doc__" 268 .none)] 3) #[]
def Z71:=Obj.mk (.type "type") none (Data.cls (ClassData.mk (Str.ofString "ForkError") [(.type "ValueError")] [(oR 71),(.type "ValueError"),(.type "Exception"),(.type "BaseException"),(.type "object")] 70 (Str.ofString "ForkError") Bool.true [] [(oR 84),(oR 96),(oR 108),(oR 120),(oR 132),(oR 144),(oR 156)] Bool.false none Bool.false)) #[(some (oR 62)),none,(some (oS "ForkError" 253)),(some (oS "ForkError" 261)),(some (.builtin "ValueError.__new__")),(some (.bool Bool.true))]
def Z72:=Obj.mk (.type "getset_descriptor") none (Data.fields #[(oS "__weakref__" 266),(oR 71),(.builtin "ExceptionGroup.__weakref__"),.none]) #[]
def Z83 (P:Params):=Y4 P 278 282 42 281 283 82 284
def Z84:=Y0 "NoWorld" 84 83 "NoWorld" 75 "NoWorld" 271 "NoWorld" 279
def Z95 (P:Params):=Y4 P 294 298 44 297 299 94 300
def Z96:=Y0 "NoName" 96 95 "NoName" 87 "NoName" 287 "NoName" 295
def Z107 (P:Params):=Y4 P 310 314 46 313 315 106 316
def Z108:=Y0 "NoPlan" 108 107 "NoPlan" 99 "NoPlan" 303 "NoPlan" 311
def Z119 (P:Params):=Y4 P 326 330 48 329 331 118 332
def Z120:=Y0 "NotSure" 120 119 "NotSure" 111 "NotSure" 319 "NotSure" 327
def Z131 (P:Params):=Y4 P 342 346 50 345 347 130 348
def Z132:=Y0 "TooMany" 132 131 "TooMany" 123 "TooMany" 335 "TooMany" 343
def Z143 (P:Params):=Y4 P 358 362 52 361 363 142 364
def Z144:=Y0 "NoText" 144 143 "NoText" 135 "NoText" 351 "NoText" 359
def Z155 (P:Params):=Y4 P 374 378 54 377 379 154 380
def Z156:=Y0 "NoOrder" 156 155 "NoOrder" 147 "NoOrder" 367 "NoOrder" 375
def Z159:=oT #[(oS "not" 391),(oS "and" 392),(oS "yes" 393)]
def Z163:=oK "world_of" "world_of" 395 396 397 61 5 3 160 161 .none .none .none (oR 162) 398 399
def Z164:=oF "world_of" 22 "forkplan.worlds" 383 163
def Z170:=oK "standings" "standings" 401 402 403 76 1 3 165 166 .none (oR 167) (oR 168) (oR 169) 405 406
def Z171:=oF "standings" 23 "forkplan.worlds" 383 170
def Z177:=oK "named" "named" 408 409 410 78 3 3 172 173 .none (oR 174) (oR 175) (oR 176) 415 416
def Z178:=oF "named" 24 "forkplan.worlds" 383 177
def Z182:=oK "standings_of_boxes" "standings_of_boxes" 418 419 420 83 1 3 179 180 .none .none .none (oR 181) 421 422
def Z183:=oF "standings_of_boxes" 25 "forkplan.worlds" 383 182
def Z187:=oK "behind_way" "behind_way" 424 425 426 91 3 3 184 185 .none .none .none (oR 186) 427 428
def Z188:=oF "behind_way" 26 "forkplan.worlds" 383 187
def Z192:=oK "copied_deed" "copied_deed" 430 431 432 98 1 3 189 190 .none .none .none (oR 191) 433 434
def Z193:=oF "copied_deed" 27 "forkplan.worlds" 383 192
def Z199:=oK "is_whole" "is_whole" 436 437 438 100 1 3 194 195 .none (oR 196) (oR 197) (oR 198) 440 441
def Z200:=oF "is_whole" 28 "forkplan.worlds" 383 199
def Z204:=oK "refuse_boxes" "refuse_boxes" 443 444 445 102 1 3 201 202 .none .none .none (oR 203) 446 447
def Z205:=oF "refuse_boxes" 29 "forkplan.worlds" 383 204
def Z211:=oK "refuse_twice" "refuse_twice" 449 450 451 111 2 3 206 207 .none (oR 208) (oR 209) (oR 210) 454 455
def Z212:=oF "refuse_twice" 30 "forkplan.worlds" 383 211
def Z218:=oK "refuse_price" "refuse_price" 457 458 459 114 2 3 213 214 .none (oR 215) (oR 216) (oR 217) 462 463
def Z219:=oF "refuse_price" 31 "forkplan.worlds" 383 218
def Z223:=oK "refuse_ways" "refuse_ways" 465 466 467 117 3 3 220 221 .none .none .none (oR 222) 468 469
def Z224:=oF "refuse_ways" 32 "forkplan.worlds" 383 223
def Z230:=oK "refuse_strange_name" "refuse_strange_name" 471 472 473 125 2 3 225 226 .none (oR 227) (oR 228) (oR 229) 476 477
def Z231:=oF "refuse_strange_name" 33 "forkplan.worlds" 383 230
def Z237:=oK "refuse_strange_names" "refuse_strange_names" 479 480 481 128 2 3 232 233 .none (oR 234) (oR 235) (oR 236) 485 486
def Z238:=oF "refuse_strange_names" 34 "forkplan.worlds" 383 237
def Z244:=oK "refuse_begin" "refuse_begin" 488 489 490 131 2 3 239 240 .none (oR 241) (oR 242) (oR 243) 494 495
def Z245:=oF "refuse_begin" 35 "forkplan.worlds" 383 244
def Z249:=oK "first_known" "first_known" 499 500 501 137 1 3 246 247 .none .none .none (oR 248) 502 503
def Z250:=oF "first_known" 37 "forkplan.known" 497 249
def Z256:=oK "at_goal" "at_goal" 505 506 507 139 2 3 251 252 .none (oR 253) (oR 254) (oR 255) 510 511
def Z257:=oF "at_goal" 38 "forkplan.known" 497 256
def Z263:=oK "may_do" "may_do" 513 514 515 141 3 3 258 259 .none (oR 260) (oR 261) (oR 262) 519 520
def Z264:=oF "may_do" 39 "forkplan.known" 497 263
def Z268:=oK "behind" "behind" 522 523 524 143 3 3 265 266 .none .none .none (oR 267) 525 526
def Z269:=oF "behind" 40 "forkplan.known" 497 268
def Z275:=oK "parts" "parts" 528 529 530 149 3 3 270 271 .none (oR 272) (oR 273) (oR 274) 537 538
def Z276:=oF "parts" 41 "forkplan.known" 497 275
def Z282:=oK "holds_at_each" "holds_at_each" 540 541 542 155 3 3 277 278 .none (oR 279) (oR 280) (oR 281) 547 548
def Z283:=oF "holds_at_each" 42 "forkplan.known" 497 282
def Z294:=oK "__init__" "Chart.__init__" 564 565 566 163 2 3 291 292 .none .none .none (oR 293) 567 568
def Z295:=oM "__init__" "Chart.__init__" 44 0 "forkplan.charts" 550 294
def Z299:=oK "charted_deed" "Chart.charted_deed" 570 571 572 170 3 3 296 297 .none .none .none (oR 298) 573 574
def Z300:=oM "charted_deed" "Chart.charted_deed" 44 1 "forkplan.charts" 550 299
def Z304:=oK "charted_look" "Chart.charted_look" 576 577 578 175 3 3 301 302 .none .none .none (oR 303) 579 580
def Z305:=oM "charted_look" "Chart.charted_look" 44 2 "forkplan.charts" 550 304
def Z311:=oK "number_of" "Chart.number_of" 582 583 584 178 2 3 306 307 .none (oR 308) (oR 309) (oR 310) 589 590
def Z312:=oM "number_of" "Chart.number_of" 44 3 "forkplan.charts" 550 311
def Z316:=oK "listed" "Chart.listed" 592 593 594 184 2 3 313 314 .none .none .none (oR 315) 595 596
def Z317:=oM "listed" "Chart.listed" 44 4 "forkplan.charts" 550 316
def Z323:=oK "is_knowledge" "Chart.is_knowledge" 598 599 600 187 2 3 318 319 .none (oR 320) (oR 321) (oR 322) 603 604
def Z324:=oM "is_knowledge" "Chart.is_knowledge" 44 5 "forkplan.charts" 550 323
def Z330:=oK "is_goal" "Chart.is_goal" 606 607 608 190 2 3 325 326 .none (oR 327) (oR 328) (oR 329) 611 612
def Z331:=oM "is_goal" "Chart.is_goal" 44 6 "forkplan.charts" 550 330
def Z335:=oK "steps_from" "Chart.steps_from" 614 615 616 193 2 3 332 333 .none .none .none (oR 334) 617 618
def Z336:=oM "steps_from" "Chart.steps_from" 44 7 "forkplan.charts" 550 335
def Z342:=oK "together" "Chart.together" 620 621 622 205 2 3 337 338 .none (oR 339) (oR 340) (oR 341) 625 626
def Z343:=oM "together" "Chart.together" 44 8 "forkplan.charts" 550 342
def Z344:=oT #[(oS "bits" 628),(oS "deeds" 629),(oS "goal" 630),(oS "looks" 631)]
def Z345 (P:Params):=Obj.mk (.type "dict") none (Data.dict #[(oE P "__module__" 559 (oS "forkplan.charts" 550)),(oE P "__firstlineno__" 563 (.int 161 562)),(oE P "__init__" 569 (oR 295)),(oE P "charted_deed" 575 (oR 300)),(oE P "charted_look" 581 (oR 305)),(oE P "number_of" 591 (oR 312)),(oE P "listed" 597 (oR 317)),(oE P "is_knowledge" 605 (oR 324)),(oE P "is_goal" 613 (oR 331)),(oE P "steps_from" 619 (oR 336)),(oE P "together" 627 (oR 343)),(oE P "__static_attributes__" 632 (oR 344)),(oE P "__dict__" 634 (oR 347)),(oE P "__weakref__" 636 (oR 348)),(oE P "__doc__" 637 .none)] 4) #[]
def Z346:=Obj.mk (.type "type") none (Data.cls (ClassData.mk (Str.ofString "Chart") [(.type "object")] [(oR 346),(.type "object")] 345 (Str.ofString "Chart") Bool.true [] [] Bool.false none Bool.false)) #[none,none,(some (oS "Chart" 552)),(some (oS "Chart" 560)),(some (.builtin "object.__new__")),(some (.bool Bool.true))]
def Z347:=Obj.mk (.type "getset_descriptor") none (Data.fields #[(oS "__dict__" 633),(oR 346),(.builtin "function.__dict__"),(.builtin "function.__dict__#set")]) #[]
def Z348:=Obj.mk (.type "getset_descriptor") none (Data.fields #[(oS "__weakref__" 635),(oR 346),(.builtin "ExceptionGroup.__weakref__"),.none]) #[]
def Z356:=oK "bits_for" "bits_for" 640 641 642 207 1 3 351 352 .none (oR 353) (oR 354) (oR 355) 647 648
def Z357:=oF "bits_for" 45 "forkplan.charts" 550 356
def Z363:=oK "is_within" "is_within" 650 651 652 214 2 3 358 359 .none (oR 360) (oR 361) (oR 362) 655 656
def Z364:=oF "is_within" 46 "forkplan.charts" 550 363
def Z370:=oK "joined" "joined" 658 659 660 216 1 3 365 366 .none (oR 367) (oR 368) (oR 369) 664 665
def Z371:=oF "joined" 47 "forkplan.charts" 550 370
def Z377:=oK "row_works" "row_works" 669 670 671 222 2 3 372 373 .none (oR 374) (oR 375) (oR 376) 677 678
def Z378:=oF "row_works" 49 "forkplan.rows" 667 377
def Z384:=oK "without_looks" "without_looks" 680 681 682 232 1 3 379 380 .none (oR 381) (oR 382) (oR 383) 684 685
def Z385:=oF "without_looks" 50 "forkplan.rows" 667 384
def Z391:=oK "known_behind" "known_behind" 687 688 689 234 2 3 386 387 .none (oR 388) (oR 389) (oR 390) 693 694
def Z392:=oF "known_behind" 51 "forkplan.rows" 667 391
def Z398:=oK "coming_of" "coming_of" 696 697 698 239 1 3 393 394 .none (oR 395) (oR 396) (oR 397) 700 701
def Z399:=oF "coming_of" 52 "forkplan.rows" 667 398
def Z405:=oK "_law_deck" "_law_deck" 705 706 707 242 1 3 400 401 .none (oR 402) (oR 403) (oR 404) 715 716
def Z412:=oK "_law_take" "_law_take" 718 719 720 254 2 3 407 408 .none (oR 409) (oR 410) (oR 411) 724 725
def Z419:=oK "_law_thing" "_law_thing" 727 728 729 260 2 3 414 415 .none (oR 416) (oR 417) (oR 418) 735 736
def Z426:=oK "_law_test" "_law_test" 738 739 740 265 2 3 421 422 .none (oR 423) (oR 424) (oR 425) 746 747
def Z431:=oK "_law_world" "_law_world" 749 750 751 271 1 3 428 429 .none .none .none (oR 430) 752 753
def Z438:=oK "_law_worth" "_law_worth" 755 756 757 283 2 3 433 434 .none (oR 435) (oR 436) (oR 437) 762 763
def Z445:=oK "_law_holds" "_law_holds" 765 766 767 291 2 3 440 441 .none (oR 442) (oR 443) (oR 444) 772 773
def Z450:=oK "_law_first" "_law_first" 775 776 777 299 1 3 447 448 .none .none .none (oR 449) 778 779
def Z457:=oK "_law_behind" "_law_behind" 781 782 783 310 3 3 452 453 .none (oR 454) (oR 455) (oR 456) 793 794
def Z462:=oK "_law_works" "_law_works" 796 797 798 322 2 3 459 460 .none .none .none (oR 461) 799 800
def Z469:=oK "_law_told" "_law_told" 802 803 804 329 2 3 464 465 .none (oR 466) (oR 467) (oR 468) 810 811
def Z474:=oK "law" "law" 813 814 815 338 1 3 471 472 .none .none .none (oR 473) 816 817
def qHn (P:Params):List Obj:=[boot_o_0 P,
boot_o_1 P,
boot_o_2 P,
Z3 P,
boot_o_4 P,
boot_o_5 P,
boot_o_6 P,
boot_o_7 P,
boot_o_8 P,
boot_o_9 P,
boot_o_10 P,
oT #[],
Obj.mk .none none (Data.fields #[(oI 1),(oI 0),(oR 20),(oI 5),(oI 0),(oR 27),(oI 7),(oI 0),(oR 34),(oI 9),(oI 0),(oR 41),(oI 17),(oI 0),(oR 46),(oI 19),(oI 0),(oR 53),(oI 28),(oI 0),(oR 60),(oI 40),(oI 0),(oR 67),(oI 42),(oI 0),(oR 80),(oI 44),(oI 0),(oR 92),(oI 46),(oI 0),(oR 104),(oI 48),(oI 0),(oR 116),(oI 50),(oI 0),(oR 128),(oI 52),(oI 0),(oR 140),(oI 54),(oI 0),(oR 152),(oI 61),(oI 0),(oR 163),(oI 76),(oI 0),(oR 170),(oI 78),(oI 0),(oR 177),(oI 83),(oI 0),(oR 182),(oI 91),(oI 0),(oR 187),(oI 98),(oI 0),(oR 192),(oI 100),(oI 0),(oR 199),(oI 102),(oI 0),(oR 204),(oI 111),(oI 0),(oR 211),(oI 114),(oI 0),(oR 218),(oI 117),(oI 0),(oR 223),(oI 125),(oI 0),(oR 230),(oI 128),(oI 0),(oR 237),(oI 131),(oI 0),(oR 244),(oI 137),(oI 0),(oR 249),(oI 139),(oI 0),(oR 256),(oI 141),(oI 0),(oR 263),(oI 143),(oI 0),(oR 268),(oI 149),(oI 0),(oR 275),(oI 155),(oI 0),(oR 282),(oI 161),(oI 0),(oR 289),(oI 207),(oI 0),(oR 356),(oI 214),(oI 0),(oR 363),(oI 216),(oI 0),(oR 370),(oI 222),(oI 0),(oR 377),(oI 232),(oI 0),(oR 384),(oI 234),(oI 0),(oR 391),(oI 239),(oI 0),(oR 398),(oI 242),(oI 0),(oR 405),(oI 254),(oI 0),(oR 412),(oI 260),(oI 0),(oR 419),(oI 265),(oI 0),(oR 426),(oI 271),(oI 0),(oR 431),(oI 283),(oI 0),(oR 438),(oI 291),(oI 0),(oR 445),(oI 299),(oI 0),(oR 450),(oI 310),(oI 0),(oR 457),(oI 322),(oI 0),(oR 462),(oI 329),(oI 0),(oR 469),(oI 338),(oI 0),(oR 474)]) #[],
Y1 "<module>" 182 "<module>" 183 184 1 11 12 185 1 186,
Y2 13 3 "__main__" 164,
oT #[],
oN,
oT #[(oS "k" 190)],
oT #[],
oG "_wall" 0,
Z20,
Z21,
oT #[],
oN,
oT #[(oS "expression" 199),(oS "boxes" 200),(oS "standing" 201)],
oT #[],
oG "worth" 2,
Z27,
Z28,
oT #[],
oN,
oT #[(oS "condition" 208),(oS "boxes" 209),(oS "standing" 210)],
oT #[],
oG "holds" 3,
Z34,
Z35,
oT #[],
oN,
oT #[(oS "thing" 217),(oS "names" 218),(oS "part" 219)],
oT #[],
oG "names_in" 4,
Z41,
Z42,
oT #[],
oN,
oG "values_by_name" 5,
Z46,
Z47,
oT #[],
oN,
oT #[(oS "expression" 232),(oS "values" 233),(oS "kind" 234),(oS "one" 235),(oS "other" 236)],
oT #[],
oG "worth_by" 6,
Z53,
Z54,
oT #[],
oN,
oT #[(oS "condition" 243),(oS "values" 244),(oS "kind" 245),(oS "one" 246),(oS "other" 247)],
oT #[],
oG "holds_by" 7,
Z60,
Z61,
Z62,
Y5,
Y3 P 260 262 "ForkError" 261 264 40 263 265 69,
oT #[],
oN,
Y1 "ForkError" 255 "ForkError" 256 257 40 65 66 258 40 259,
Y2 67 64 "forkplan.errors" 251,
oT #[],
Z70 P,
Z71,
Z72,
Y6 71 71 71,
Y7 71,
oT #[(oR 71)],
Y5,
Y3 P 278 280 "NoWorld" 279 282 42 281 283 82,
oT #[],
oN,
Y1 "NoWorld" 273 "NoWorld" 274 275 42 78 79 276 42 277,
Y2 80 77 "forkplan.errors" 251,
oT #[],
Z83 P,
Z84,
Y6 84 84 84,
Y7 84,
oT #[(oR 71)],
Y5,
Y3 P 294 296 "NoName" 295 298 44 297 299 94,
oT #[],
oN,
Y1 "NoName" 289 "NoName" 290 291 44 90 91 292 44 293,
Y2 92 89 "forkplan.errors" 251,
oT #[],
Z95 P,
Z96,
Y6 96 96 96,
Y7 96,
oT #[(oR 71)],
Y5,
Y3 P 310 312 "NoPlan" 311 314 46 313 315 106,
oT #[],
oN,
Y1 "NoPlan" 305 "NoPlan" 306 307 46 102 103 308 46 309,
Y2 104 101 "forkplan.errors" 251,
oT #[],
Z107 P,
Z108,
Y6 108 108 108,
Y7 108,
oT #[(oR 71)],
Y5,
Y3 P 326 328 "NotSure" 327 330 48 329 331 118,
oT #[],
oN,
Y1 "NotSure" 321 "NotSure" 322 323 48 114 115 324 48 325,
Y2 116 113 "forkplan.errors" 251,
oT #[],
Z119 P,
Z120,
Y6 120 120 120,
Y7 120,
oT #[(oR 71)],
Y5,
Y3 P 342 344 "TooMany" 343 346 50 345 347 130,
oT #[],
oN,
Y1 "TooMany" 337 "TooMany" 338 339 50 126 127 340 50 341,
Y2 128 125 "forkplan.errors" 251,
oT #[],
Z131 P,
Z132,
Y6 132 132 132,
Y7 132,
oT #[(oR 71)],
Y5,
Y3 P 358 360 "NoText" 359 362 52 361 363 142,
oT #[],
oN,
Y1 "NoText" 353 "NoText" 354 355 52 138 139 356 52 357,
Y2 140 137 "forkplan.errors" 251,
oT #[],
Z143 P,
Z144,
Y6 144 144 144,
Y7 144,
oT #[(oR 71)],
Y5,
Y3 P 374 376 "NoOrder" 375 378 54 377 379 154,
oT #[],
oN,
Y1 "NoOrder" 369 "NoOrder" 370 371 54 150 151 372 54 373,
Y2 152 149 "forkplan.errors" 251,
oT #[],
Z155 P,
Z156,
Y6 156 156 156,
Y7 156,
Z159,
oT #[],
oN,
oG "world_of" 22,
Z163,
Z164,
oT #[],
oN,
oT #[(oS "world" 404)],
oT #[],
oG "standings" 23,
Z170,
Z171,
oT #[],
oN,
oT #[(oS "things" 411),(oS "name" 412),(oS "kind" 413),(oS "thing" 414)],
oT #[],
oG "named" 24,
Z177,
Z178,
oT #[],
oN,
oG "standings_of_boxes" 25,
Z182,
Z183,
oT #[],
oN,
oG "behind_way" 26,
Z187,
Z188,
oT #[],
oN,
oG "copied_deed" 27,
Z192,
Z193,
oT #[],
oN,
oT #[(oS "thing" 439)],
oT #[],
oG "is_whole" 28,
Z199,
Z200,
oT #[],
oN,
oG "refuse_boxes" 29,
Z204,
Z205,
oT #[],
oN,
oT #[(oS "names" 452),(oS "kind" 453)],
oT #[],
oG "refuse_twice" 30,
Z211,
Z212,
oT #[],
oN,
oT #[(oS "name" 460),(oS "price" 461)],
oT #[],
oG "refuse_price" 31,
Z218,
Z219,
oT #[],
oN,
oG "refuse_ways" 32,
Z223,
Z224,
oT #[],
oN,
oT #[(oS "name" 474),(oS "names" 475)],
oT #[],
oG "refuse_strange_name" 33,
Z230,
Z231,
oT #[],
oN,
oT #[(oS "thing" 482),(oS "names" 483),(oS "name" 484)],
oT #[],
oG "refuse_strange_names" 34,
Z237,
Z238,
oT #[],
oN,
oT #[(oS "begin" 491),(oS "boxes" 492),(oS "standing" 493)],
oT #[],
oG "refuse_begin" 35,
Z244,
Z245,
oT #[],
oN,
oG "first_known" 37,
Z249,
Z250,
oT #[],
oN,
oT #[(oS "world" 508),(oS "known" 509)],
oT #[],
oG "at_goal" 38,
Z256,
Z257,
oT #[],
oN,
oT #[(oS "world" 516),(oS "known" 517),(oS "name" 518)],
oT #[],
oG "may_do" 39,
Z263,
Z264,
oT #[],
oN,
oG "behind" 40,
Z268,
Z269,
oT #[],
oN,
oT #[(oS "world" 531),(oS "known" 532),(oS "name" 533),(oS "expression" 534),(oS "by_worth" 535),(oS "standing" 536)],
oT #[],
oG "parts" 41,
Z275,
Z276,
oT #[],
oN,
oT #[(oS "condition" 543),(oS "boxes" 544),(oS "known" 545),(oS "standing" 546)],
oT #[],
oG "holds_at_each" 42,
Z282,
Z283,
oT #[],
Y5,
Obj.mk (.type "dict") none (Data.dict #[(oE P "__module__" 559 (oS "forkplan.charts" 550)),(oE P "__qualname__" 561 (oS "Chart" 560)),(oE P "__firstlineno__" 563 (.int 161 562)),(oE P "__init__" 569 (oR 295)),(oE P "charted_deed" 575 (oR 300)),(oE P "charted_look" 581 (oR 305)),(oE P "number_of" 591 (oR 312)),(oE P "listed" 597 (oR 317)),(oE P "is_knowledge" 605 (oR 324)),(oE P "is_goal" 613 (oR 331)),(oE P "steps_from" 619 (oR 336)),(oE P "together" 627 (oR 343)),(oE P "__static_attributes__" 632 (oR 344))] 13) #[],
oT #[],
Obj.mk .none none (Data.fields #[(oI 163),(oI 4),(oR 294),(oI 170),(oI 4),(oR 299),(oI 175),(oI 4),(oR 304),(oI 178),(oI 4),(oR 311),(oI 184),(oI 4),(oR 316),(oI 187),(oI 4),(oR 323),(oI 190),(oI 4),(oR 330),(oI 193),(oI 4),(oR 335),(oI 205),(oI 4),(oR 342)]) #[],
Y1 "Chart" 554 "Chart" 555 556 161 287 288 557 161 558,
Y2 289 286 "forkplan.charts" 550,
oT #[],
oN,
oW "__init__" "Chart.__init__" 44 0,
Z294,
Z295,
oT #[],
oN,
oW "charted_deed" "Chart.charted_deed" 44 1,
Z299,
Z300,
oT #[],
oN,
oW "charted_look" "Chart.charted_look" 44 2,
Z304,
Z305,
oT #[],
oN,
oT #[(oS "self" 585),(oS "known" 586),(oS "number" 587),(oS "standing" 588)],
oT #[],
oW "number_of" "Chart.number_of" 44 3,
Z311,
Z312,
oT #[],
oN,
oW "listed" "Chart.listed" 44 4,
Z316,
Z317,
oT #[],
oN,
oT #[(oS "self" 601),(oS "known" 602)],
oT #[],
oW "is_knowledge" "Chart.is_knowledge" 44 5,
Z323,
Z324,
oT #[],
oN,
oT #[(oS "self" 609),(oS "known" 610)],
oT #[],
oW "is_goal" "Chart.is_goal" 44 6,
Z330,
Z331,
oT #[],
oN,
oW "steps_from" "Chart.steps_from" 44 7,
Z335,
Z336,
oT #[],
oN,
oT #[(oS "self" 623),(oS "costs" 624)],
oT #[],
oW "together" "Chart.together" 44 8,
Z342,
Z343,
Z344,
Z345 P,
Z346,
Z347,
Z348,
Y6 346 346 346,
Y7 346,
oT #[],
oN,
oT #[(oS "things" 643),(oS "bits" 644),(oS "bit" 645),(oS "thing" 646)],
oT #[],
oG "bits_for" 45,
Z356,
Z357,
oT #[],
oN,
oT #[(oS "known" 653),(oS "other" 654)],
oT #[],
oG "is_within" 46,
Z363,
Z364,
oT #[],
oN,
oT #[(oS "knowns" 661),(oS "whole" 662),(oS "known" 663)],
oT #[],
oG "joined" 47,
Z370,
Z371,
oT #[],
oN,
oT #[(oS "world" 672),(oS "row" 673),(oS "name" 674),(oS "chart" 675),(oS "known" 676)],
oT #[],
oG "row_works" 49,
Z377,
Z378,
oT #[],
oN,
oT #[(oS "world" 683)],
oT #[],
oG "without_looks" 50,
Z384,
Z385,
oT #[],
oN,
oT #[(oS "steps" 690),(oS "name" 691),(oS "step" 692)],
oT #[],
oG "known_behind" 51,
Z391,
Z392,
oT #[],
oN,
oT #[(oS "step" 699)],
oT #[],
oG "coming_of" 52,
Z398,
Z399,
oT #[],
oN,
oT #[(oS "script" 708),(oS "numbers" 709),(oS "k" 710),(oS "cell" 711),(oS "number" 712),(oS "turn" 713),(oS "one" 714)],
oT #[],
oG "_law_deck" 54,
Z405,
oL "_law_deck" 54 405,
oT #[],
oN,
oT #[(oS "deck" 721),(oS "many" 722),(oS "taken" 723)],
oT #[],
oG "_law_take" 55,
Z412,
oL "_law_take" 55 412,
oT #[],
oN,
oT #[(oS "deck" 730),(oS "boxes" 731),(oS "box" 732),(oS "one" 733),(oS "number" 734)],
oT #[],
oG "_law_thing" 56,
Z419,
oL "_law_thing" 56 419,
oT #[],
oN,
oT #[(oS "deck" 741),(oS "boxes" 742),(oS "box" 743),(oS "number" 744),(oS "some" 745)],
oT #[],
oG "_law_test" 57,
Z426,
oL "_law_test" 57 426,
oT #[],
oN,
oG "_law_world" 58,
Z431,
oL "_law_world" 58 431,
oT #[],
oN,
oT #[(oS "thing" 758),(oS "values" 759),(oS "one" 760),(oS "other" 761)],
oT #[],
oG "_law_worth" 59,
Z438,
oL "_law_worth" 59 438,
oT #[],
oN,
oT #[(oS "thing" 768),(oS "values" 769),(oS "one" 770),(oS "other" 771)],
oT #[],
oG "_law_holds" 60,
Z445,
oL "_law_holds" 60 445,
oT #[],
oN,
oG "_law_first" 61,
Z450,
oL "_law_first" 61 450,
oT #[],
oN,
oT #[(oS "world" 784),(oS "known" 785),(oS "deed" 786),(oS "found" 787),(oS "values" 788),(oS "way" 789),(oS "new" 790),(oS "name" 791),(oS "thing" 792)],
oT #[],
oG "_law_behind" 62,
Z457,
oL "_law_behind" 62 457,
oT #[],
oN,
oG "_law_works" 63,
Z462,
oL "_law_works" 63 462,
oT #[],
oN,
oT #[(oS "world" 805),(oS "row" 806),(oS "found" 807),(oS "kinds" 808),(oS "e" 809)],
oT #[],
oG "_law_told" 64,
Z469,
oL "_law_told" 64 469,
oT #[],
oN,
oG "law" 65,
Z474,
oL "law" 65 474]
def qHm (P:Params):List Obj:=[boot_o_0 P,boot_o_1 P,boot_o_2 P,boot_o_3 P,boot_o_4 P,boot_o_5 P,boot_o_6 P,boot_o_7 P,boot_o_8 P,boot_o_9 P,boot_o_10 P,oT #[],oN,oC #[(oS "<module>" 182),(oS "<module>" 183),(oS "/claim/cut.py" 184),(oI 1),(oI 0),(oI 0),(oI 0),(oI 0),(oR 11),(.bool Bool.false),(oI 181),(oR 12),.none,.none,.none,.none,(oI 185),(oI 1),(oS "/claim/cut.py" 186)],(Obj.mk (.type "frame") none Data.plain #[(some (oR 13)),(some (oR 3)),(some (oR 3)),none,(some (oS "__main__" 164)),none,(some (oR 0))])]
def qXj (os:List Obj):Nat->Nat->Nat->BT
 | 0,_,_=>.nil
 | f+1,a,b=>match os[b]? with
  | some o=>.node o (qXj os f (2 * a) (a+b)) (qXj os f (2 * a) (2 * a+b))
  | none=>.nil
def qYv:Life:=(Life.mk [] [] [] 0 [] [] Bool.false #[] [] 0 Bool.false Bool.false Bool.false 0 [2000,10,10] Bool.false 0 Bool.true [] [] 0 Bool.false)
def topEnv:Env:={ scope:=PySem.Challenge.pw_forkplan_k45_rows_that_work.main.scope,locals:=mainNs,globals:=mainNs,cells:=[],code:=(Value.ref 13),frame:=some 14 }
def qXk:List Stmt:=behindTheImports PySem.Challenge.pw_forkplan_k45_rows_that_work
def vN:Code:=.body qXk topEnv
def topA (w:World)(os:OsState):Shared:=⟨⟨⟨qHm w.params⟩,qYv⟩,⟨[]⟩,(Drawn.mk 0 0 0 0),187,os⟩
def topB (w:World)(os:OsState):SharedT:=⟨qXj (qHm w.params) 12 1 0,15,qYv,⟨[]⟩,(Drawn.mk 0 0 0 0),187,os⟩
def topZ (w:World)(os:OsState):SharedT:=⟨qXj (qHn w.params) 12 1 0,476,qYv,⟨[]⟩,(Drawn.mk 0 0 0 0),819,os⟩
theorem topPre (w:World)(os:OsState):topGo treeTable PySem.Challenge.pw_forkplan_k45_rows_that_work w 11 (some (Value.ref 6)) 12 ⟨boot_heap w.params,⟨[]⟩,boot_drawn,boot_toks,os⟩ (topStub PySem.Challenge.pw_forkplan_k45_rows_that_work)=some (topA w os,⟨denote treeTable vN,vN,(Pos.mk 0 0 0 0),[topFrame (Pos.mk 0 0 0 0)]⟩):=by kernel_rfl
theorem qRe (w:World)(os:OsState):segRun treeTable PySem.Challenge.pw_forkplan_k45_rows_that_work w 11 (some (Value.ref 6)) 1 1 (topA w os) (blockOf qXk topEnv vN (Pos.mk 0 0 0 0) [topFrame (Pos.mk 0 0 0 0)])=some (.next,(topB w os).abs,vN,(Pos.mk 0 0 0 0)):=by kernel_rfl
theorem topSeg (w:World)(os:OsState):segRunT treeTable PySem.Challenge.pw_forkplan_k45_rows_that_work w 11 (some (Value.ref 6)) 1 3620 (topB w os) (piecesOf qXk topEnv vN (Pos.mk 0 0 0 0) [topFrame (Pos.mk 0 0 0 0)])=some (.next,topZ w os,vN,(Pos.mk 338 0 359 31)):=by kernel_rfl
theorem topFin (w:World)(os:OsState):topRun treeTable PySem.Challenge.pw_forkplan_k45_rows_that_work w 11 (some (Value.ref 6)) 2 (topZ w os).abs ⟨doneF .next,vN,(Pos.mk 338 0 359 31),[topFrame (Pos.mk 0 0 0 0)]⟩=some (topZ w os).abs:=by kernel_rfl
def qAh (P:Params):yZP:=
 (nat_lit 2,(Obj.mk .none none (Data.dict #[] 0) #[]))::
 (nat_lit 3,Z3 P)::
 (nat_lit 20,Z20)::
 (nat_lit 21,Z21)::
 (nat_lit 27,Z27)::
 (nat_lit 28,Z28)::
 (nat_lit 34,Z34)::
 (nat_lit 35,Z35)::
 (nat_lit 41,Z41)::
 (nat_lit 42,Z42)::
 (nat_lit 46,Z46)::
 (nat_lit 47,Z47)::
 (nat_lit 53,Z53)::
 (nat_lit 54,Z54)::
 (nat_lit 60,Z60)::
 (nat_lit 61,Z61)::
 (nat_lit 62,Z62)::
 (nat_lit 69,(Obj.mk (.type "tuple") none (Data.seq #[] 0) #[]))::
 (nat_lit 70,Z70 P)::
 (nat_lit 71,Z71)::
 (nat_lit 72,Z72)::
 (nat_lit 75,(Obj.mk (.type "tuple") none (Data.seq #[(.ref 71)] 0) #[]))::
 (nat_lit 82,(Obj.mk (.type "tuple") none (Data.seq #[] 0) #[]))::
 (nat_lit 83,Z83 P)::
 (nat_lit 84,Z84)::
 (nat_lit 87,(Obj.mk (.type "tuple") none (Data.seq #[(.ref 71)] 0) #[]))::
 (nat_lit 94,(Obj.mk (.type "tuple") none (Data.seq #[] 0) #[]))::
 (nat_lit 95,Z95 P)::
 (nat_lit 96,Z96)::
 (nat_lit 99,(Obj.mk (.type "tuple") none (Data.seq #[(.ref 71)] 0) #[]))::
 (nat_lit 106,(Obj.mk (.type "tuple") none (Data.seq #[] 0) #[]))::
 (nat_lit 107,Z107 P)::
 (nat_lit 108,Z108)::
 (nat_lit 111,(Obj.mk (.type "tuple") none (Data.seq #[(.ref 71)] 0) #[]))::
 (nat_lit 118,(Obj.mk (.type "tuple") none (Data.seq #[] 0) #[]))::
 (nat_lit 119,Z119 P)::
 (nat_lit 120,Z120)::
 (nat_lit 123,(Obj.mk (.type "tuple") none (Data.seq #[(.ref 71)] 0) #[]))::
 (nat_lit 130,(Obj.mk (.type "tuple") none (Data.seq #[] 0) #[]))::
 (nat_lit 131,Z131 P)::
 (nat_lit 132,Z132)::
 (nat_lit 135,(Obj.mk (.type "tuple") none (Data.seq #[(.ref 71)] 0) #[]))::
 (nat_lit 142,(Obj.mk (.type "tuple") none (Data.seq #[] 0) #[]))::
 (nat_lit 143,Z143 P)::
 (nat_lit 144,Z144)::
 (nat_lit 147,(Obj.mk (.type "tuple") none (Data.seq #[(.ref 71)] 0) #[]))::
 (nat_lit 154,(Obj.mk (.type "tuple") none (Data.seq #[] 0) #[]))::
 (nat_lit 155,Z155 P)::
 (nat_lit 156,Z156)::
 (nat_lit 159,Z159)::
 (nat_lit 163,Z163)::
 (nat_lit 164,Z164)::
 (nat_lit 170,Z170)::
 (nat_lit 171,Z171)::
 (nat_lit 177,Z177)::
 (nat_lit 178,Z178)::
 (nat_lit 182,Z182)::
 (nat_lit 183,Z183)::
 (nat_lit 187,Z187)::
 (nat_lit 188,Z188)::
 (nat_lit 192,Z192)::
 (nat_lit 193,Z193)::
 (nat_lit 199,Z199)::
 (nat_lit 200,Z200)::
 (nat_lit 204,Z204)::
 (nat_lit 205,Z205)::
 (nat_lit 211,Z211)::
 (nat_lit 212,Z212)::
 (nat_lit 218,Z218)::
 (nat_lit 219,Z219)::
 (nat_lit 223,Z223)::
 (nat_lit 224,Z224)::
 (nat_lit 230,Z230)::
 (nat_lit 231,Z231)::
 (nat_lit 237,Z237)::
 (nat_lit 238,Z238)::
 (nat_lit 244,Z244)::
 (nat_lit 245,Z245)::
 (nat_lit 249,Z249)::
 (nat_lit 250,Z250)::
 (nat_lit 256,Z256)::
 (nat_lit 257,Z257)::
 (nat_lit 263,Z263)::
 (nat_lit 264,Z264)::
 (nat_lit 268,Z268)::
 (nat_lit 269,Z269)::
 (nat_lit 275,Z275)::
 (nat_lit 276,Z276)::
 (nat_lit 282,Z282)::
 (nat_lit 283,Z283)::
 (nat_lit 294,Z294)::
 (nat_lit 295,Z295)::
 (nat_lit 299,Z299)::
 (nat_lit 300,Z300)::
 (nat_lit 304,Z304)::
 (nat_lit 305,Z305)::
 (nat_lit 311,Z311)::
 (nat_lit 312,Z312)::
 (nat_lit 316,Z316)::
 (nat_lit 317,Z317)::
 (nat_lit 323,Z323)::
 (nat_lit 324,Z324)::
 (nat_lit 330,Z330)::
 (nat_lit 331,Z331)::
 (nat_lit 335,Z335)::
 (nat_lit 336,Z336)::
 (nat_lit 342,Z342)::
 (nat_lit 343,Z343)::
 (nat_lit 344,Z344)::
 (nat_lit 345,Z345 P)::
 (nat_lit 346,Z346)::
 (nat_lit 347,Z347)::
 (nat_lit 348,Z348)::
 (nat_lit 356,Z356)::
 (nat_lit 357,Z357)::
 (nat_lit 363,Z363)::
 (nat_lit 364,Z364)::
 (nat_lit 370,Z370)::
 (nat_lit 371,Z371)::
 (nat_lit 377,Z377)::
 (nat_lit 378,Z378)::
 (nat_lit 384,Z384)::
 (nat_lit 385,Z385)::
 (nat_lit 391,Z391)::
 (nat_lit 392,Z392)::
 (nat_lit 398,Z398)::
 (nat_lit 399,Z399)::
 (nat_lit 405,Z405)::
 (nat_lit 406,oL "_law_deck" 54 405)::
 (nat_lit 412,Z412)::
 (nat_lit 413,oL "_law_take" 55 412)::
 (nat_lit 419,Z419)::
 (nat_lit 420,oL "_law_thing" 56 419)::
 (nat_lit 426,Z426)::
 (nat_lit 427,oL "_law_test" 57 426)::
 (nat_lit 431,Z431)::
 (nat_lit 432,oL "_law_world" 58 431)::
 (nat_lit 438,Z438)::
 (nat_lit 439,oL "_law_worth" 59 438)::
 (nat_lit 445,Z445)::
 (nat_lit 446,oL "_law_holds" 60 445)::
 (nat_lit 450,Z450)::
 (nat_lit 451,oL "_law_first" 61 450)::
 (nat_lit 457,Z457)::
 (nat_lit 458,oL "_law_behind" 62 457)::
 (nat_lit 462,Z462)::
 (nat_lit 463,oL "_law_works" 63 462)::
 (nat_lit 469,Z469)::
 (nat_lit 470,oL "_law_told" 64 469)::
 (nat_lit 474,Z474)::
 (nat_lit 475,oL "law" 65 474)::[]
def qXz:Program:={ PySem.Challenge.pw_forkplan_k45_rows_that_work with main:={ PySem.Challenge.pw_forkplan_k45_rows_that_work.main with body:=([0,2,3,4,5,6,7,9,10,11,12,13,14,15,16,18,19,20,21,22,23,24,25,26,27,28,29,30,31,32,33,34,35,37,38,39,40,41,42,44,45,46,47,49,50,51,52,54,55,56,57,58,59,60,61,62,63,64,65]:List Nat).filterMap fun i=>PySem.Challenge.pw_forkplan_k45_rows_that_work.main.body[i]? } }
def wH:PySem.W.Hook:=PySem.W.kHook qAh [2,3,20,21,27,28,34,35,41,42,46,47,53,54,60,61,62,69,70,71,72,75,82,83,84,87,94,95,96,99,106,107,108,111,118,119,120,123,130,131,132,135,142,143,144,147,154,155,156,159,163,164,170,171,177,178,182,183,187,188,192,193,199,200,204,205,211,212,218,219,223,224,230,231,237,238,244,245,249,250,256,257,263,264,268,269,275,276,282,283,294,295,299,300,304,305,311,312,316,317,323,324,330,331,335,336,342,343,344,345,346,347,348,356,357,363,364,370,371,377,378,384,385,391,392,398,399,405,406,412,413,419,420,426,427,431,432,438,439,445,446,450,451,457,458,462,463,469,470,474,475] (fun _=>by kernel_rfl)
theorem xXd:LeftO (PySem.W.OpenLaw.row PySem.Challenge.rw_forkplan_k45_rows_that_work).prog qXz [] (fun s=>xlAt qXz [] s && recOk (RowW.records (OpenRow.toRowW (PySem.W.OpenLaw.row PySem.Challenge.rw_forkplan_k45_rows_that_work))) s) (Hook.obs wH) (Hook.val wH) 7964:=
 LeftO.of_pieces (H₀:=boot_heap) (H₁:=fun P=>absHeap (qXj (qHn P) 12 1 0) 476 qYv) (gs₀:=⟨[]⟩) (gs₁:=⟨[]⟩) (d₀:=boot_drawn) (d₁:=(Drawn.mk 0 0 0 0)) (k₀:=boot_toks) (k₁:=819) (m₀:=11) (ann:=(some (Value.ref 6))) (M:=12+(1+(3620+2)))
  (boot_open (p:=PySem.Challenge.pw_forkplan_k45_rows_that_work) (by kernel_rfl) (by wtm_at"d") (fun s=>by rfl)) (fun w=>by kernel_rfl)
  (fun w os=>go_top (topPre w os) (piece_block (qRe w os) (List.append_nil qXk▸piece_app (l:=qXk) (rest:=[]) (segRun_of (topSeg w os)) (topFin w os)))) (by wtm_at"d") (fun w=>by kernel_rfl)
end FP
namespace L2
open PySem PySem.Spec PyProof.Rows
abbrev Key:=Sum Int Str
def keyIs:Key->Value->Bool
 | .inl k,v=>Value.isInt k v
 | .inr x,v=>Value.isStrOf x v
def keyH (w:World):Key->Int
 | .inl k=>hashInt k
 | .inr x=>hashStr w x
theorem zE:∀{k:Key} {v:Value},keyIs k v=true->(∃i t,k=Sum.inl i/\v=Value.int i t)\/(∃x t,k=Sum.inr x/\v=Value.str x t)
 | .inl i,v,h=>by
  obtain⟨t,e⟩:=Value.isInt_shape (k:=i) (v:=v) h
  exact .inl ⟨i,t,rfl,e⟩
 | .inr x,v,h=>by
  obtain⟨t,e⟩:=Value.isStrOf_shape (x:=x) (v:=v) h
  exact .inr ⟨x,t,rfl,e⟩
theorem qNd (i:Int)(t:Tok):keyIs (.inl i) (.int i t)=true:=by simp[keyIs,Value.isInt]
theorem qNc (x:Str)(t:Tok):keyIs (.inr x) (.str x t)=true:=by simp[keyIs,Value.isStrOf]
theorem xWk (a b:Int):decide ((Sum.inl a:Key)=Sum.inl b)=(a == b):=by
 by_cases e:a=b
 .subst e;simp
 .have h:¬(Sum.inl a:Key)=Sum.inl b:=fun q=>e (Sum.inl.inj q)
  rw[decide_eq_false h]
  exact(beq_eq_false_iff_ne.mpr e).symm
theorem xWx (a b:Str):decide ((Sum.inr a:Key)=Sum.inr b)=decide (a=b):=by
 by_cases e:a=b
 .subst e;simp
 .have h:¬(Sum.inr a:Key)=Sum.inr b:=fun q=>e (Sum.inr.inj q)
  rw[decide_eq_false h,decide_eq_false e]
theorem xWj (a:Int)(b:Str):decide ((Sum.inl a:Key)=Sum.inr b)=false:=decide_eq_false (fun q=>nomatch q)
theorem xWz (a:Str)(b:Int):decide ((Sum.inr a:Key)=Sum.inl b)=false:=decide_eq_false (fun q=>nomatch q)
def xR (prog:Program)(w:World):PySem.KeyKind prog w Key where
 is:=keyIs
 hash:=keyH w
 inj:=fun v a b ha hb=>by
  rcases zE ha with⟨i,t,rfl,rfl⟩ | ⟨x,t,rfl,rfl⟩
  .rcases zE hb with⟨j,u,rfl,e⟩ | ⟨y,u,rfl,e⟩
   .injection e with e1 _;rw[e1]
   .exact nomatch e
  .rcases zE hb with⟨j,u,rfl,e⟩ | ⟨y,u,rfl,e⟩
   .exact nomatch e
   .injection e with e1 _;rw[e1]
 byValue:=fun k v h=>by
  rcases zE h with⟨i,t,rfl,rfl⟩ | ⟨x,t,rfl,rfl⟩ <;> rfl
 pyHash:=fun hv h=>by
  rcases zE hv with⟨i,t,rfl,rfl⟩ | ⟨x,t,rfl,rfl⟩
  .exact wpAny_pyHash_int h
  .exact wpAny_pyHash_str h
 eqBool:=fun hu hv h=>by
  rcases zE hu with⟨i,t,rfl,rfl⟩ | ⟨x,t,rfl,rfl⟩
  .rcases zE hv with⟨j,u,rfl,rfl⟩ | ⟨y,u,rfl,rfl⟩
   .rw[xWk] at h;exact wpAny_eqBool_int h
   .rw[xWj] at h;exact SeqAt.EqAt.int_str i t y u _ _ _ _ h
  .rcases zE hv with⟨j,u,rfl,rfl⟩ | ⟨y,u,rfl,rfl⟩
   .rw[xWz] at h;exact SeqAt.EqAt.str_int x t j u _ _ _ _ h
   .rw[xWx] at h;exact wpAny_eqBool_str h
 «strs»:=fun k x t v h=>by
  rcases zE h with⟨i,u,rfl,e⟩ | ⟨y,u,rfl,e⟩
  .exact nomatch e
  .injection e with e1 _
   subst e1
   cases v <;> rfl
theorem qBc (prog:Program)(w:World)(i:Int)(t:Tok):(xR prog w).is (.inl i) (.int i t)=true:=qNd i t
theorem kZ (prog:Program)(w:World)(x:Str)(t:Tok):(xR prog w).is (.inr x) (.str x t)=true:=qNc x t
end L2
namespace L2
open PySem PySem.Spec PyProof.Rows
inductive V where
 | non | bl (b:Bool) | int (i:Int) | str (x:Str) | byt (b:Array UInt8) | flt (b:UInt64) | ref (a:Addr) | ty (n:String)
 deriving DecidableEq
def RelV:V->Value->Prop
 | .non,u=>u=Value.none
 | .bl b,u=>u=Value.bool b
 | .int i,u=>∃t,u=Value.int i t
 | .str x,u=>∃t,u=Value.str x t
 | .byt b,u=>∃t,u=Value.bytes b t
 | .flt b,u=>∃t,u=Value.float b t
 | .ref a,u=>u=Value.ref a
 | .ty n,u=>u=Value.type n
abbrev Vals:List V->List Value->Prop:=Paired RelV
theorem Vals.length {xs:List V}{us:List Value}(r:Vals xs us):xs.length=us.length:=Paired.length r
theorem Vals.get:∀{xs:List V} {us:List Value} {i:Nat} {x:V},Vals xs us->xs[i]? = some x->∃u,us[i]? = some u/\RelV x u
 | _,_,_,_,.nil,e=>by simp at e
 | _,_,0,_,.cons r _,e=>by simp at e;subst e;exact⟨_,rfl,r⟩
 | _,_,i+1,x,.cons _ t,e=>by
  obtain⟨u,h1,h2⟩:=Vals.get (i:=i) (x:=x) t (by simpa using e)
  exact⟨u,by simpa using h1,h2⟩
theorem Vals.set {x:V}{u:Value}(r:RelV x u):∀{xs:List V} {us:List Value} (i:Nat),Vals xs us->Vals (xs.set i x) (us.set i u)
 | _,_,_,.nil=>.nil
 | _,_,0,.cons _ t=>.cons r t
 | _,_,i+1,.cons q t=>.cons q (Vals.set r i t)
theorem Vals.append:∀{xs ys:List V} {us ws:List Value},Vals xs us->Vals ys ws->Vals (xs++ys) (us++ws)
 | _,_,_,_,.nil,s=>s
 | _,_,_,_,.cons r t,s=>.cons r (Vals.append t s)
theorem Vals.take:∀{xs:List V} {us:List Value} (n:Nat),Vals xs us->Vals (xs.take n) (us.take n)
 | _,_,0,_=>.nil
 | _,_,_+1,.nil=>.nil
 | _,_,n+1,.cons r t=>.cons r (Vals.take n t)
theorem Vals.drop:∀{xs:List V} {us:List Value} (n:Nat),Vals xs us->Vals (xs.drop n) (us.drop n)
 | _,_,0,r=>r
 | _,_,_+1,.nil=>.nil
 | _,_,n+1,.cons _ t=>Vals.drop n t
def RelO:Option V->Option Value->Prop
 | some v,some u=>RelV v u
 | none,none=>True
 | _,_=>False
def KV {κ:Type}:List (κ×V)->List (κ×Value)->Prop:=Paired fun(p:κ×V) (q:κ×Value)=>p.1=q.1/\RelV p.2 q.2
def kV:Key->V
 | .inl i=>.int i
 | .inr x=>.str x
inductive HO where
 /-- a list -/
 | lst (xs:List V)
 /-- a tuple (never changes) -/
 | tup (xs:List V)
 /-- a dict whose keys are ints and texts; one whose keys are tuples of ints and texts (the empty one is both) -/
 | dK (kvs:List (Key×V)) | dT (kvs:List (List Key×V))
 /-- a set of ints: its members, its size -/
 | set (S:Int->Bool) (n:Nat)
 /-- an instance of the class at C, its dict at dx, its attributes -/
 | ins (C dx:Addr) (fs:List (Str×V))
 /-- the dict of the instance at x -/
 | own (x:Addr)
 /-- the dict of an exception -/
 | xd (fs:List (Str×V))
 /-- a bound method, f of x -/
 | met (f x:Addr)
 /-- a range object lo, lo + 1, .. below hi -/
 | rng (lo hi:Int)
 /-- a thing that is known to the object (the script; a dict while a loop walks it): read, never written while it is so -/
 | frz (o:Obj) (u:HO)
 /-- a code object's table -/
 | tbl (ps:Array Value)
 /-- any other thing, by what is true of its one object (a def of one's own: SetO a S n := HO.ext fun h => ..) -/
 | ext (φ:Heap->Prop)
abbrev Hp:=Addr->Option HO
def upd (H:Hp)(a:Addr)(o:HO):Hp:=fun b=>if b=a then some o else H b
theorem qW {H:Hp}{a:Addr}{o:HO}:upd H a o a=some o:=by unfold upd;rw[if_pos rfl]
theorem qA {H:Hp}{a b:Addr}{o:HO}(h:b≠a):upd H a o b=H b:=by unfold upd;rw[if_neg h]
theorem jU {H:Hp}{a b:Addr}{o u:HO}(h:H a=some o)(h':H b=some u)(d:o≠u):a≠b:=by
 intro e;subst e;rw[h] at h';exact d (Option.some.inj h')
theorem qB {H:Hp}{a b:Addr}{o:HO}(h:H a=some o)(h':H b=none):a≠b:=by
 intro e;subst e;rw[h] at h';cases h'
def TupX (h:Heap)(a:Addr)(its:Array Value):Prop:=∃o,h.get? a=some o/\o.cls=.type "tuple" /\ ∃n,o.data=.seq its n/\o.dict=none
theorem TupX.tup {h:Heap}{a:Addr}{its:Array Value}(x:TupX h a its):IsTup h a its:=let ⟨o,e,c,n,d,_⟩:=x;⟨o,e,c,n,d⟩
theorem TupX.lt {h:Heap}{a:Addr}{its:Array Value}(x:TupX h a its):a<h.objs.size:=x.tup.lt
theorem TupX.new (h:Heap)(its:Array Value):TupX (h.push { cls:=.type "tuple",data:=.seq its }) h.objs.size its:=⟨_,yZB _ rfl,rfl,_,rfl,rfl⟩
section
variable (P:Program)(w:World)
def ObjOk (H:Hp)(h:Heap)(a:Addr):HO->Prop
 | .lst xs=>xs.length<=sizeLine/\∃(its:List Value) (n:Nat),Vals xs its/\h.get? a=some { cls:=.type "list",data:=.seq its.toArray n }
 | .tup xs=>xs.length<=sizeLine/\∃its:List Value,Vals xs its/\TupX h a its.toArray
 | .dK kvs=>kvs.length<=sizeLine/\(a == sysModules)=false/\∃vs,KV kvs vs/\h.DictOf (xR P w) a vs
 | .dT kvs=>kvs.length<=sizeLine/\(a == sysModules)=false/\∃xs:List (List Key×Addr×Value),
   Paired (fun(p:List Key×V) (q:List Key×Addr×Value)=>p.1=q.1/\H q.2.1=some (.tup (p.1.map kV))/\RelV p.2 q.2.2) kvs xs/\
   ∃o es ep,h.get? a=some o/\o.ExactDict/\o.data=.dict es ep/\es.toList=xs.map (entryOfKey (tupleKind (xR P w)))/\(xs.map (·.1)).Nodup
 | .set S n=>h.SetOf (intKind P w) a S n
 | .ins C dx fs=>H dx=some (.own a)/\fs.length<=1000/\dx≠a/\h.get? a=some (PySem.W.instObj C dx)/\
   ∃mA,h.Ns1 dx mA/\(∀f,RelO (fs.lookup f) (mA f))/\PySem.Within mA (fs.map (·.1))
 | .own _=>∃o,h.get? a=some o
 | .xd fs=>∃mA,h.Ns1 a mA/\∀f,RelO (fs.lookup f) (mA f)
 | .rng lo hi=>∃t u v,h.get? a=some { cls:=.type "range",data:=.fields #[.int lo t,.int hi u,.int 1 v] }
 | .frz o u=>h.get? a=some o/\ObjOk H h a u
 | .tbl ps=>h.get? a=some { cls:=.none,data:=.fields ps }
 | .met f x=>h.get? a=some (PySem.W.methodObj (.ref f) (.ref x))
 | .ext φ=>φ h/\(∃o,h.get? a=some o)/\∀h1 h2:Heap,φ h1->(∀o,h1.get? a=some o->h2.get? a=some o)->φ h2
def HOk (H:Hp)(h:Heap):Prop:=∀a o,H a=some o->ObjOk P w H h a o
end
section
variable {P:Program}{w:World}{H H':Hp}{h h':Heap}{a:Addr}{o:HO}
theorem ObjOk.lt (x:ObjOk P w H h a o):a<h.objs.size:=by
 cases o with
 | lst xs=>obtain⟨_,_,_,_,e⟩:=x;exact yZA e
 | tup xs=>obtain⟨_,_,_,p⟩:=x;exact p.lt
 | dK kvs=>obtain⟨_,_,_,_,o,_,_,e,_⟩:=x;exact yZA e
 | dT kvs=>obtain⟨_,_,_,_,o,_,_,e,_⟩:=x;exact yZA e
 | set S n=>obtain⟨o,_,_,_,e,_⟩:=x;exact yZA e
 | ins C dx fs=>obtain⟨_,_,_,e,_⟩:=x;exact yZA e
 | own y=>obtain⟨_,e⟩:=x;exact yZA e
 | xd fs=>obtain⟨_,⟨_,_,_,e,_⟩,_⟩:=x;exact yZA e
 | rng lo hi=>obtain⟨_,_,_,e⟩:=x;exact yZA e
 | frz ob u=>obtain⟨e,_⟩:=x;exact yZA e
 | tbl ps=>exact yZA (show h.get? a=some _ from x)
 | met f y=>exact yZA (show h.get? a=some _ from x)
 | ext φ=>obtain⟨_,⟨_,e⟩,_⟩:=x;exact yZA e
theorem Paired.mapP {α β:Type}{F G:α->β->Prop}:∀{l₁:List α} {l₂:List β},Paired F l₁ l₂->(∀a b,F a b->G a b)->Paired G l₁ l₂
 | _,_,.nil,_=>.nil
 | _,_,.cons r t,f=>.cons (f _ _ r) (Paired.mapP t f)
theorem ObjOk.stay (x:ObjOk P w H h a o)(k:∀b u,(b=a\/H b=some (.own a))->h.get? b=some u->h'.get? b=some u)
  (ho:∀b,H b=some (.own a)->H' b=some (.own a)) (ht:∀b xs,H b=some (.tup xs)->H' b=some (.tup xs)):ObjOk P w H' h' a o:=by
 induction o with
 | lst xs=>obtain⟨z,its,n,r,e⟩:=x;exact⟨z,its,n,r,k _ _ (.inl rfl) e⟩
 | tup xs=>obtain⟨z,its,r,ob,e,c⟩:=x;exact⟨z,its,r,ob,k _ _ (.inl rfl) e,c⟩
 | dK kvs=>obtain⟨z,y,vs,r,ob,es,ep,e,c⟩:=x;exact⟨z,y,vs,r,ob,es,ep,k _ _ (.inl rfl) e,c⟩
 | dT kvs=>
  obtain⟨z,y,xs,r,ob,es,ep,e,c⟩:=x
  exact⟨z,y,xs,Paired.mapP r fun p q z=>⟨z.1,ht _ _ z.2.1,z.2.2⟩,ob,es,ep,k _ _ (.inl rfl) e,c⟩
 | set S n=>obtain⟨ob,es,ep,t,e,c⟩:=x;exact⟨ob,es,ep,t,k _ _ (.inl rfl) e,c⟩
 | ins C dx fs=>
  obtain⟨d,z,ne,e,mA,⟨od,es,ep,e2,c⟩,r⟩:=x
  exact⟨ho _ d,z,ne,k _ _ (.inl rfl) e,mA,⟨od,es,ep,k _ _ (.inr d) e2,c⟩,r⟩
 | own y=>obtain⟨ob,e⟩:=x;exact⟨ob,k _ _ (.inl rfl) e⟩
 | xd fs=>obtain⟨mA,⟨od,es,ep,e,c⟩,r⟩:=x;exact⟨mA,⟨od,es,ep,k _ _ (.inl rfl) e,c⟩,r⟩
 | rng lo hi=>obtain⟨t,u,v,e⟩:=x;exact⟨t,u,v,k _ _ (.inl rfl) e⟩
 | frz ob u ih=>obtain⟨e,q⟩:=x;exact⟨k _ _ (.inl rfl) e,ih q⟩
 | tbl ps=>
  have e:h.get? a=some { cls:=.none,data:=.fields ps }:=x
  show h'.get? a=some { cls:=.none,data:=.fields ps }
  exact k a _ (.inl rfl) e
 | met f y=>
  have e:h.get? a=some (PySem.W.methodObj (.ref f) (.ref y)):=x
  show h'.get? a=some (PySem.W.methodObj (.ref f) (.ref y))
  exact k a _ (.inl rfl) e
 | ext φ=>obtain⟨p,⟨o,e⟩,st⟩:=x;exact⟨st _ _ p fun o q=>k _ _ (.inl rfl) q,⟨o,k _ _ (.inl rfl) e⟩,st⟩
theorem HOk.lt (x:HOk P w H h)(e:H a=some o):a<h.objs.size:=(x a o e).lt
theorem HOk.fresh (x:HOk P w H h)(e:h.objs.size<=a):H a=none:=by
 cases q:H a with
 | none=>rfl
 | some u=>exact absurd (yZE (x.lt q) e) (Nat.lt_irrefl _)
theorem HOk.kept (x:HOk P w H h)(k:∀b u,h.get? b=some u->h'.get? b=some u):HOk P w H h':=fun a o e=>
 (x a o e).stay (fun b u _ q=>k b u q) (fun _ q=>q) fun _ _ q=>q
theorem HOk.laid (x:HOk P w H h)(k:∀b u,h.get? b=some u->h'.get? b=some u)(hp:h.objs.size<=a)(new:ObjOk P w (upd H a o) h' a o):HOk P w (upd H a o) h':=fun b u e=>by
 have hn:=x.fresh hp
 by_cases hb:b=a
 .subst hb;rw[qW] at e;cases e;exact new
 .rw[qA hb] at e
  exact(x b u e).stay (fun c v _ q=>k c v q) (fun c q=>by rw[qA (qB q hn)];exact q) fun c xs q=>by rw[qA (qB q hn)];exact q
end
def Rd (H:Hp)(a:Addr)(u:HO):Prop:=H a=some u\/∃o,H a=some (.frz o u)
theorem Rd.ok {P:Program}{w:World}{H:Hp}{h:Heap}{a:Addr}{u:HO}(r:Rd H a u)(x:HOk P w H h):ObjOk P w H h a u:=by
 rcases r with r | ⟨o,r⟩
 .exact x a u r
 .obtain⟨_,q⟩:=x a _ r
  exact q
def Mut:Option HO->Prop
 | some (.lst _)=>True
 | some (.dK _)=>True
 | some (.dT _)=>True
 | some (.set _ _)=>True
 | some (.ins _ _ _)=>True
 | some (.ext _)=>True
 | _=>False
section
variable {P:Program}{w:World}{H:Hp}{h h':Heap}{x e:Addr}{o':HO}
theorem HOk.write (ok:HOk P w H h)(mu:Mut (H x))(he:e=x\/H e=some (.own x))(k:∀b u,b≠e->h.get? b=some u->h'.get? b=some u)(heo:∃u,h'.get? e=some u)
  (new:ObjOk P w (upd H x o') h' x o'):HOk P w (upd H x o') h':=fun b u q=>by
 have nown:∀c y,H c=some (.own y)->c≠x:=fun c y r z=>by subst z;rw[r] at mu;exact mu
 have ntup:∀c xs,H c=some (.tup xs)->c≠x:=fun c xs r z=>by subst z;rw[r] at mu;exact mu
 by_cases hb:b=x
 .subst hb;rw[qW] at q;cases q;exact new
 .rw[qA hb] at q
  by_cases hbe:b=e
  .have q':H b=some (.own x):=by
    rcases he with z | z
    .exact absurd (hbe.trans z) hb
    .rw[hbe];exact z
   rw[q] at q';cases q'
   obtain⟨v,hv⟩:=heo
   exact⟨v,by rw[hbe];exact hv⟩
  .refine(ok b u q).stay (fun c v hc r=>k c v ?_ r) (fun c r=>by rw[qA (nown c b r)];exact r) fun c xs r=>by rw[qA (ntup c xs r)];exact r
   rcases hc with rfl | hc
   .exact hbe
   .rintro rfl
    rcases he with z | z
    .exact nown c b hc z
    .rw[hc] at z;cases z;exact hb rfl
end
structure Un (fs ex:List Addr)(H H':Hp)(h h':Heap):Prop where
 keep:∀b o,h.get? b=some o->H b=none->b∉fs->b∉ex->h'.get? b=some o
 slot:∀b o,h.get? b=some o->H b=none->b∈fs->b∉ex->∃sl,h'.get? b=some { o with slots:=sl }
 free:∀b o,h.get? b=some o->H b=none->b∉ex->H' b=none
 there:∀b o,h.get? b=some o->b∉ex->∃o',h'.get? b=some o'
 tups:∀b xs,H b=some (.tup xs)->H' b=some (.tup xs)
 frzs:∀b o u,H b=some (.frz o u)->H' b=some (.frz o u)
 tbls:∀b ps,H b=some (.tbl ps)->∃more,H' b=some (.tbl (ps++more))
section
variable {fs fs' ex ex':List Addr}{H H1 H2:Hp}{h h1 h2 h':Heap}{a x e:Addr}{o:HO}
theorem Un.any (u:Un fs ex H H1 h h1){b:Addr}{ob:Obj}(q:h.get? b=some ob)(n:H b=none)(hx:b∉ex):∃sl,h1.get? b=some { ob with slots:=sl }:=by
 by_cases hb:b∈fs
 .exact u.slot b ob q n hb hx
 .exact⟨ob.slots,u.keep b ob q n hb hx⟩
theorem Un.trans (a:Un fs ex H H1 h h1)(b:Un fs ex H1 H2 h1 h2):Un fs ex H H2 h h2 where
 keep:=fun c ob q n hc hx=>b.keep c ob (a.keep c ob q n hc hx) (a.free c ob q n hx) hc hx
 slot:=fun c ob q n hc hx=>by
  obtain⟨sl,e1⟩:=a.slot c ob q n hc hx
  obtain⟨sl',e2⟩:=b.slot c _ e1 (a.free c ob q n hx) hc hx
  exact⟨sl',e2⟩
 free:=fun c ob q n hx=>by
  obtain⟨o',e1⟩:=a.there c ob q hx
  exact b.free c o' e1 (a.free c ob q n hx) hx
 there:=fun c ob q hx=>by
  obtain⟨o',e1⟩:=a.there c ob q hx
  exact b.there c o' e1 hx
 tups:=fun c xs q=>b.tups c xs (a.tups c xs q)
 frzs:=fun c ob xs q=>b.frzs c ob xs (a.frzs c ob xs q)
 tbls:=fun c ps q=>by
  obtain⟨m1,e1⟩:=a.tbls c ps q
  obtain⟨m2,e2⟩:=b.tbls c _ e1
  exact⟨m1++m2,by rw[e2,Array.append_assoc]⟩
theorem Un.kept (k:∀b u,h.get? b=some u->h'.get? b=some u):Un fs ex H H h h':=
 ⟨fun b ob q _ _ _=>k b ob q,fun b ob q _ _ _=>⟨ob.slots,k b ob q⟩,fun _ _ _ n _=>n,fun b ob q _=>⟨ob,k b ob q⟩,fun _ _ q=>q,fun _ _ _ q=>q,fun _ ps q=>⟨#[],by rw[q];simp⟩⟩
theorem Un.refl:Un fs ex H H h h:=Un.kept fun _ _ q=>q
theorem Un.laid (k:∀b u,h.get? b=some u->h'.get? b=some u)(hp:h.objs.size<=a)(hn:H a=none):Un fs ex H (upd H a o) h h' where
 keep:=fun b u q _ _ _=>k b u q
 slot:=fun b u q _ _ _=>⟨u.slots,k b u q⟩
 free:=fun b u q n _=>by rw[qA (yZF (yZE (yZA q) hp))];exact n
 there:=fun b u q _=>⟨u,k b u q⟩
 tups:=fun b xs q=>by rw[qA (qB q hn)];exact q
 frzs:=fun b u xs q=>by rw[qA (qB q hn)];exact q
 tbls:=fun b ps q=>⟨#[],by rw[qA (qB q hn),q];simp⟩
theorem Un.write (mu:Mut (H x))(he:e=x\/H e=some (.own x))(k:∀b u,b≠e->h.get? b=some u->h'.get? b=some u)(heo:∃u,h'.get? e=some u):Un fs ex H (upd H x o) h h':=by
 have hx:∀b,H b=none->b≠x:=fun b n z=>by subst z;rw[n] at mu;exact mu
 have hb:∀b,H b=none->b≠e:=fun b n z=>by
  subst z
  rcases he with r | r
  .exact hx b n r
  .rw[n] at r;cases r
 have hm:∀b u,H b=some u->¬Mut (some u)->b≠x:=fun b u q nm z=>by subst z;rw[q] at mu;exact nm mu
 refine⟨fun b u q n _ _=>k b u (hb b n) q,fun b u q n _ _=>⟨u.slots,k b u (hb b n) q⟩,fun b u q n _=>by rw[qA (hx b n)];exact n,fun b u q _=>?_,
  fun b xs q=>by rw[qA (hm b _ q fun z=>z)];exact q,fun b u xs q=>by rw[qA (hm b _ q fun z=>z)];exact q,fun b ps q=>⟨#[],by rw[qA (hm b _ q fun z=>z),q];simp⟩⟩
 by_cases hbe:b=e
 .subst hbe;exact heo
 .exact⟨u,k b u hbe q⟩
end
def trk (h:Heap)(H:Hp):List Addr:=(List.range h.objs.size).filter fun a=>(H a).isSome
def hidT (h:Heap)(H:Hp):Heap:=PySem.W.hideAll h (trk h H)
theorem qNm (h:Heap)(H:Hp):(hidT h H).objs.size=h.objs.size:=PySem.W.hideAll_size _ _
theorem qTf {h:Heap}{H:Hp}{b:Addr}{o:Obj}(e:h.get? b=some o)(n:H b=none):(hidT h H).get? b=some o:=
 PySem.W.hideAll_get _ e fun hm=>by
  have q:(H b).isSome=true:=(yYR.mp hm).2
  rw[n] at q;simp at q
theorem xJq {h:Heap}{H:Hp}{b:Addr}{o:Obj}(e:(hidT h H).get? b=some o):h.get? b=some o/\H b=none:=by
 have e':h.get? b=some o:=PySem.W.of_hideAll (trk h H) e
 refine⟨e',?_⟩
 cases q:H b with
 | none=>rfl
 | some x=>
  have hm:b∈trk h H:=yYR.mpr ⟨List.mem_range.mpr (yZA e'),by simp[q]⟩
  have z:(hidT h H).get? b=none:=PySem.W.hideAll_none (trk h H) hm
  rw[z] at e;cases e
end L2
namespace L2
open PySem PySem.Spec PyProof.Rows
structure Mod (K:yZP)(mg:Str->Option Value)(base:Heap):Prop where
 kin:K.In base
 glob:base.Ns mainGlobals mg
 blt:∃mb,base.Ns builtinsNs mb/\∀x:Str,x ≠ "__name__" -> mb x=bootBuiltins x
 nolimit:base.NoLimit
/-- the context: a def's body (or a comprehension's block) running. base: fixed through the whole law; s₀, H₀: the entry; outer: the frames whose slots others may change (a def's callers); stack: all frames that run;
   ex: iterators that were made ahead of the entry and are walked here (a comprehension's); fn: the names whose cells were made at the entry (a def: all; a comprehension's block: its own); calm: not within an except suite; pn: zz that every state bears; xe: what is wanted of an exception that leaves the code -/
structure Cx where
 prog:Program
 w:World
 K:yZP
 mg:Str->Option Value
 base:Heap
 A:Around
 N:List Str
 s₀:Shared
 H₀:Hp
 env:Env
 outer:List Env
 stack:List Env
 ex:List Addr
 fn:Str->Bool
 calm:Bool
 pn:List (Addr×Obj)
 xe:Value->Shared->Prop
def frs (l:List Env):List Addr:=l.filterMap (·.frame)
abbrev Cx.fs (X:Cx):List Addr:=frs X.outer
def Vis (sc:Scope)(x:Str):Prop:=sc.names.lookup x=some .local\/sc.names.lookup x=some .cell\/sc.names.lookup x=some .free
def Loc (sc:Scope)(x:Str):Prop:=sc.names.lookup x=some .local\/sc.names.lookup x=some .cell
def Look (env:Env)(h:Heap)(m:Str->Option Value)(x:Str)(u:Value):Prop:=
 (env.kindOf x=some .local/\m x=some u)\/((env.kindOf x=some .cell\/env.kindOf x=some .free)/\∃c,env.cells.lookup x=some c/\h.IsCell c (some u))
structure Cx.Ok (X:Cx):Prop where
 mod:Mod X.K X.mg X.base
 kind:X.env.scope.kind=.function
 glob:X.env.globals=mainGlobals
 blt:X.env.builtins=builtinsNs
 above:X.s₀.heap.objs.size<=X.env.locals
 inj:∀x y c,X.env.cells.lookup x=some c->X.env.cells.lookup y=some c->x=y
 has:∀x,(X.env.kindOf x=some .cell\/X.env.kindOf x=some .free)->∃c,X.env.cells.lookup x=some c
 cab:∀x c,X.fn x=true->X.env.cells.lookup x=some c->X.s₀.heap.objs.size<=c
 hd:X.calm=true->X.A.handled=none
 frames:X.A.frames=some X.stack
 stk:X.stack=X.outer\/(X.stack=X.env::X.outer/\X.env.frame=some X.env.locals)
 exf:∀b∈X.ex,b≠X.env.locals/\∀x c,X.env.cells.lookup x=some c->c≠b
 bs:∀b o,X.base.get? b=some o->X.s₀.heap.get? b=some o/\X.H₀ b=none
 bsz:X.base.objs.size<=X.s₀.heap.objs.size
 noex:∀b o,X.base.get? b=some o->b∉X.ex
 exfs:∀b∈X.ex,b∉X.fs
 funs:X.s₀.heap.FunFrames X.base X.outer
 frf:∀b∈X.fs,X.H₀ b=none
structure Inv (X:Cx)(zz:List (Addr×Obj))(σ:List (Option V))(H:Hp)(s:Shared):Prop where
 ok:X.Ok
 os:s.os=X.s₀.os
 bare:AllBare s.gens
 base:Un X.fs X.ex X.H₀ H X.s₀.heap s.heap
 loc:∃m,s.heap.Ns X.env.locals m/\∀(i:Nat) (x:Str) (v:V),X.N[i]? = some x->σ[i]? = some (some v)->Vis X.env.scope x->∃u,RelV v u/\Look X.env s.heap m x u
 cell:∀x c,X.env.cells.lookup x=some c->∃v,s.heap.IsCell c v
 free:H X.env.locals=none
 freeC:∀x c,X.env.cells.lookup x=some c->H c=none
 pin:∀p∈X.pn++zz,s.heap.get? p.1=some p.2/\H p.1=none/\p.1≠X.env.locals/\p.1∉X.fs/\∀v,p.2.data≠.cell v
 hok:HOk X.prog X.w H s.heap
 len:σ.length=X.N.length
section
variable {X:Cx}{zz:List (Addr×Obj)}{σ:List (Option V)}{H H':Hp}{s:Shared}{h':Heap}
theorem Cx.Ok.nofr (ok:X.Ok){b:Addr}{o:Obj}(e:X.base.get? b=some o):b∉X.fs:=fun hb=>by
 have:=(ok.funs.mem hb).1
 rw[e] at this;cases this
theorem Inv.bs (I:Inv X zz σ H s):∀b o,X.base.get? b=some o->s.heap.get? b=some o/\H b=none:=fun b o e=>
 ⟨I.base.keep b o (I.ok.bs b o e).1 (I.ok.bs b o e).2 (I.ok.nofr e) (I.ok.noex b o e),I.base.free b o (I.ok.bs b o e).1 (I.ok.bs b o e).2 (I.ok.noex b o e)⟩
theorem Inv.bk (I:Inv X zz σ H s):∀b o,X.base.get? b=some o->s.heap.get? b=some o:=fun b o e=>(I.bs b o e).1
theorem Inv.mod (I:Inv X zz σ H s):Mod X.K X.mg X.base:=I.ok.mod
theorem Inv.kIn (I:Inv X zz σ H s):X.K.In s.heap:=I.ok.mod.kin.keeps I.bk
theorem Inv.lt (I:Inv X zz σ H s):X.env.locals<s.heap.objs.size:=let ⟨_,hn,_⟩:=I.loc;hn.lt
theorem Inv.sz (I:Inv X zz σ H s):X.s₀.heap.objs.size<=s.heap.objs.size:=yZJ I.ok.above (Nat.le_of_lt I.lt)
theorem Inv.nofs (I:Inv X zz σ H s){a:Addr}(h:s.heap.objs.size<=a):a∉X.fs:=fun hb=>by
 obtain⟨_,o,ho,_⟩:=I.ok.funs.mem hb
 exact absurd (yZE (yZA ho) (yZJ I.sz h)) (Nat.lt_irrefl _)
theorem Inv.cne (I:Inv X zz σ H s):∀x c,X.env.cells.lookup x=some c->c≠X.env.locals:=fun x c e z=>by
 obtain⟨v,o,ho,hd⟩:=I.cell x c e
 obtain⟨m,⟨o',es,ep,ho',hd',_⟩,_⟩:=I.loc
 rw[z,ho'] at ho;cases ho;rw[hd'] at hd;cases hd
theorem Inv.funs (I:Inv X zz σ H s):s.heap.FunFrames X.base X.outer:=by
 have all:∀(l:List Env),(∀b∈frs l,b∈X.fs)->X.s₀.heap.FunFrames X.base l->s.heap.FunFrames X.base l:=by
  intro l
  induction l with
  | nil=>intro _ _;trivial
  | cons env r ih=>
   intro hs hl
   obtain⟨hk,⟨L,o,hf,hn,ho,hd⟩,hr⟩:=hl
   have hL:L∈X.fs:=hs L (by unfold frs;rw[List.filterMap_cons,hf];exact yYG)
   obtain⟨sl,e⟩:=I.base.slot L o ho (I.ok.frf L hL) hL fun z=>I.ok.exfs L z hL
   exact⟨hk,⟨L,_,hf,hn,e,hd⟩,ih (fun b hb=>hs b (by unfold frs;rw[List.filterMap_cons,hf];exact yYH _ hb)) hr⟩
 exact all X.outer (fun _ hb=>hb) I.ok.funs
theorem Inv.stack (I:Inv X zz σ H s):s.heap.FunFrames X.base X.stack:=by
 rcases I.ok.stk with e | ⟨e,hf⟩
 .rw[e];exact I.funs
 .rw[e]
  obtain⟨m,hn,_⟩:=I.loc
  refine .cons (by rw[I.ok.kind];decide) hf hn ?_ I.funs
  exact Heap.get?_none_of_le (yZJ I.ok.bsz I.ok.above)
theorem Inv.stkSub (I:Inv X zz σ H s):∀b∈frs X.stack,b∈X.env.locals::X.fs:=fun b hb=>by
 rcases I.ok.stk with e | ⟨e,hf⟩
 .rw[e] at hb;exact yYH _ hb
 .rw[e] at hb
  unfold frs at hb
  rw[List.filterMap_cons,hf] at hb
  exact hb
theorem Inv.stkFree (I:Inv X zz σ H s):∀b∈frs X.stack,H b=none:=fun b hb=>by
 rcases yYK.mp (I.stkSub b hb) with e | hb
 .rw[e];exact I.free
 .obtain⟨_,o,ho,_⟩:=I.ok.funs.mem hb
  exact I.base.free b o ho (I.ok.frf b hb) fun z=>I.ok.exfs b z hb
theorem Inv.step {g':Array GenState}{t':Nat}{d':Drawn}{ch:List Addr}(I:Inv X zz σ H s)
  (hch:∀b∈ch,(b∈X.ex\/X.s₀.heap.objs.size<=b)/\b≠X.env.locals/\(∀x c,X.env.cells.lookup x=some c->c≠b)/\∀p∈X.pn++zz,p.1≠b)
  (keep:∀b o,b≠X.env.locals->b∉X.fs->b∉ch->s.heap.get? b=some o->H b=none->h'.get? b=some o)
  (slot:∀b o,b≠X.env.locals->b∈X.fs->b∉ch->s.heap.get? b=some o->H b=none->∃sl,h'.get? b=some { o with slots:=sl }) (free:∀b o,b∉ch->s.heap.get? b=some o->H b=none->H' b=none)
  (there:∀b o,b∉ch->s.heap.get? b=some o->∃o',h'.get? b=some o')
  (tups:∀b xs,H b=some (.tup xs)->H' b=some (.tup xs)) (frzs:∀b o u,H b=some (.frz o u)->H' b=some (.frz o u)) (tbls:∀b ps,H b=some (.tbl ps)->∃more,H' b=some (.tbl (ps++more)))
  (ns:∀m,s.heap.Ns X.env.locals m->h'.Ns X.env.locals m) (hok:HOk X.prog X.w H' h') (hg:AllBare g'):
  Inv X zz σ H' { s with heap:=h',gens:=g',drawn:=d',toks:=t' }:=by
 have neL:∀b o,X.s₀.heap.get? b=some o->b≠X.env.locals:=fun b o e=>yZF (yZE (yZA e) I.ok.above)
 have neC:∀b o,X.s₀.heap.get? b=some o->b∉X.ex->b∉ch:=fun b o e hx hb=>by
  rcases(hch b hb).1 with z | z
  .exact hx z
  .exact absurd (yZE (yZA e) z) (Nat.lt_irrefl _)
 have cellK:∀x c,X.env.cells.lookup x=some c->∀v,s.heap.IsCell c v->h'.IsCell c v:=fun x c e v ⟨o,ho,hd⟩=>by
  have nch:c∉ch:=fun z=>(hch c z).2.2.1 x c e rfl
  by_cases hc:c∈X.fs
  .obtain⟨sl,q⟩:=slot c o (I.cne x c e) hc nch ho (I.freeC x c e)
   exact⟨_,q,hd⟩
  .exact⟨o,keep c o (I.cne x c e) hc nch ho (I.freeC x c e),hd⟩
 refine⟨I.ok,I.os,hg,⟨fun b o e n hb hx=>?_,fun b o e n hb hx=>?_,fun b o e n hx=>?_,fun b o e hx=>?_,fun b xs e=>tups b xs (I.base.tups b xs e),fun b o xs e=>frzs b o xs (I.base.frzs b o xs e),fun b ps e=>?_⟩,?_,fun x c e=>?_,?_,fun x c e=>?_,fun p hp=>?_,hok,I.len⟩
 .exact keep b o (neL b o e) hb (neC b o e hx) (I.base.keep b o e n hb hx) (I.base.free b o e n hx)
 .obtain⟨sl,e1⟩:=I.base.slot b o e n hb hx
  obtain⟨sl',e2⟩:=slot b _ (neL b o e) hb (neC b o e hx) e1 (I.base.free b o e n hx)
  exact⟨sl',e2⟩
 .obtain⟨o',e1⟩:=I.base.there b o e hx
  exact free b o' (neC b o e hx) e1 (I.base.free b o e n hx)
 .obtain⟨o',e1⟩:=I.base.there b o e hx
  exact there b o' (neC b o e hx) e1
 .obtain⟨m1,e1⟩:=I.base.tbls b ps e
  obtain⟨m2,e2⟩:=tbls b _ e1
  exact⟨m1++m2,by rw[e2,Array.append_assoc]⟩
 .obtain⟨m,hn,hl⟩:=I.loc
  refine⟨m,ns m hn,fun i x v e1 e2 e3=>?_⟩
  obtain⟨u,r,l⟩:=hl i x v e1 e2 e3
  refine⟨u,r,?_⟩
  rcases l with l | ⟨k,c,e,z⟩
  .exact .inl l
  .exact .inr ⟨k,c,e,cellK x c e _ z⟩
 .obtain⟨v,z⟩:=I.cell x c e
  exact⟨v,cellK x c e v z⟩
 .obtain⟨m,⟨o,_,_,ho,_⟩,_⟩:=I.loc
  exact free _ o (fun z=>(hch _ z).2.1 rfl) ho I.free
 .obtain⟨v,o,ho,hd⟩:=I.cell x c e
  exact free c o (fun z=>(hch c z).2.2.1 x c e rfl) ho (I.freeC x c e)
 .obtain⟨e,n,ne,nf,d⟩:=I.pin p hp
  have nch:p.1∉ch:=fun z=>(hch p.1 z).2.2.2 p hp rfl
  exact⟨keep p.1 p.2 ne nf nch e n,free p.1 p.2 nch e n,ne,nf,d⟩
theorem Inv.un {t':Nat}(I:Inv X zz σ H s)(u:Un X.fs [] H H' s.heap h')(hok:HOk X.prog X.w H' h'):Inv X zz σ H' { s with heap:=h',toks:=t' }:=by
 obtain⟨m,⟨o,es,ep,ho,r⟩,_⟩:=id I.loc
 obtain⟨sl,hL⟩:=u.any ho I.free (by simp)
 exact I.step (g':=s.gens) (d':=s.drawn) (ch:=[]) (fun _ z=>nomatch z) (fun b o _ hb _ e n=>u.keep b o e n hb (by simp)) (fun b o _ hb _ e n=>u.slot b o e n hb (by simp)) (fun b o _ e n=>u.free b o e n (by simp)) (fun b o _ e=>u.there b o e (by simp)) u.tups u.frzs u.tbls (fun m' hm=>by
  obtain⟨o',es',ep',ho',r'⟩:=hm
  rw[ho] at ho';cases ho'
  exact⟨_,es',ep',hL,r'⟩) hok I.bare
theorem Inv.call {g':Array GenState}{t':Nat}{d':Drawn}{ch:List Addr}(I:Inv X zz σ H s)(u:Un (frs X.stack) ch H H' s.heap h')(hok:HOk X.prog X.w H' h')(hg:AllBare g')
  (hch:∀b∈ch,(b∈X.ex\/X.s₀.heap.objs.size<=b)/\b≠X.env.locals/\(∀x c,X.env.cells.lookup x=some c->c≠b)/\∀p∈X.pn++zz,p.1≠b):
  Inv X zz σ H' { s with heap:=h',gens:=g',drawn:=d',toks:=t' }:=by
 obtain⟨m,⟨o,es,ep,ho,r⟩,_⟩:=id I.loc
 obtain⟨sl,hL⟩:=u.any ho I.free fun z=>(hch _ z).2.1 rfl
 exact I.step (ch:=ch) hch (fun b o hL hb hc e n=>u.keep b o e n (fun z=>(yYK.mp (I.stkSub b z)).elim hL hb) hc) (fun b o _ _ hc e n=>u.any e n hc) (fun b o hc e n=>u.free b o e n hc) (fun b o hc e=>u.there b o e hc) u.tups u.frzs u.tbls (fun m' hm=>by
  obtain⟨o',es',ep',ho',r'⟩:=hm
  rw[ho] at ho';cases ho'
  exact⟨_,es',ep',hL,r'⟩) hok hg
theorem Inv.turned {t':Nat}{it:Addr}(I:Inv X zz σ H s)(k:∀b o,b≠it->s.heap.get? b=some o->h'.get? b=some o)(hn:H it=none)(hL:it≠X.env.locals)
  (h1:it∈X.ex\/X.s₀.heap.objs.size<=it) (h2:∀x c,X.env.cells.lookup x=some c->c≠it) (h3:∀p∈X.pn++zz,p.1≠it):Inv X zz σ H { s with heap:=h',toks:=t' }:=by
 have nit:∀b u,H b=some u->b≠it:=fun b u e z=>by rw[z,hn] at e;cases e
 refine I.step (g':=s.gens) (d':=s.drawn) (ch:=[it]) (fun b hb=>?_) (fun b o _ _ hc e _=>k b o (fun z=>hc (by simp[z])) e) (fun b o _ _ hc e _=>⟨o.slots,k b o (fun z=>hc (by simp[z])) e⟩) (fun _ _ _ _ n=>n)
  (fun b o hc e=>⟨o,k b o (fun z=>hc (by simp[z])) e⟩) (fun _ _ e=>e) (fun _ _ _ e=>e) (fun b ps e=>⟨#[],by rw[e];simp⟩) (fun m hm=>?_) (fun b u e=>?_) I.bare
 .have e:b=it:=by simpa using hb
  subst e
  exact⟨h1,hL,h2,h3⟩
 .obtain⟨o,es,ep,ho,r⟩:=hm
  exact⟨o,es,ep,k _ o (Ne.symm hL) ho,r⟩
 .refine(I.hok b u e).stay (fun c v hc q=>k c v ?_ q) (fun _ q=>q) fun _ _ q=>q
  rcases hc with z | z
  .rw[z];exact nit b u e
  .exact nit c _ z
theorem Inv.tok (I:Inv X zz σ H s)(t:Nat):Inv X zz σ H { s with toks:=t }:=I.un (h':=s.heap) (t':=t) Un.refl I.hok
theorem Inv.kept {t':Nat}(I:Inv X zz σ H s)(k:∀b u,s.heap.get? b=some u->h'.get? b=some u):Inv X zz σ H { s with heap:=h',toks:=t' }:=I.un (Un.kept k) (I.hok.kept k)
theorem Inv.laid {a:Addr}{o:HO}{t':Nat}(I:Inv X zz σ H s)(k:∀b u,s.heap.get? b=some u->h'.get? b=some u)(hp:s.heap.objs.size<=a)(new:ObjOk X.prog X.w (upd H a o) h' a o):
  Inv X zz σ (upd H a o) { s with heap:=h',toks:=t' }:=I.un (Un.laid k hp (I.hok.fresh hp)) (I.hok.laid k hp new)
theorem Inv.write {x e:Addr}{o:HO}{t':Nat}(I:Inv X zz σ H s)(mu:Mut (H x))(he:e=x\/H e=some (.own x))(k:∀b u,b≠e->s.heap.get? b=some u->h'.get? b=some u)(heo:∃u,h'.get? e=some u)
  (new:ObjOk X.prog X.w (upd H x o) h' x o):Inv X zz σ (upd H x o) { s with heap:=h',toks:=t' }:=I.un (Un.write mu he k heo) (I.hok.write mu he k heo new)
theorem Inv.weak {σ':List (Option V)}(I:Inv X zz σ H s)(hl:σ'.length=σ.length)(w:∀(i:Nat) v,σ'[i]? = some (some v)->σ[i]? = some (some v)):Inv X zz σ' H s:=
 ⟨I.ok,I.os,I.bare,I.base,let ⟨m,hn,hl'⟩:=I.loc;⟨m,hn,fun i x v e1 e2 e3=>hl' i x v e1 (w i v e2) e3⟩,I.cell,I.free,I.freeC,I.pin,I.hok,hl.trans I.len⟩
theorem Inv.pins_of {pins':List (Addr×Obj)}(I:Inv X zz σ H s)(h:∀p∈pins',s.heap.get? p.1=some p.2/\H p.1=none/\p.1≠X.env.locals/\p.1∉X.fs/\∀v,p.2.data≠.cell v):Inv X pins' σ H s:=
 ⟨I.ok,I.os,I.bare,I.base,I.loc,I.cell,I.free,I.freeC,fun p hp=>(yYS.mp hp).elim (fun z=>I.pin p (List.mem_append_left _ z)) (h p),I.hok,I.len⟩
theorem qKx {N:List Str}(hN:N.Nodup){i j:Nat}{x:Str}(a:N[i]? = some x)(b:N[j]? = some x):i=j:=by
 obtain⟨h1,e1⟩:=yYB.mp a
 obtain⟨h2,e2⟩:=yYB.mp b
 exact(List.getElem_inj hN).mp (e1.trans e2.symm)
theorem qVv {M:Model}{A:Around}{E:Value->Shared->Prop}{i:Nat}{x:Str}{v:V}{u:Value}{Q:Unit->Shared->Prop}(I:Inv X zz σ H s)(hN:X.N.Nodup)(hi:X.N[i]? = some x)(hx:Loc X.env.scope x)(r:RelV v u)
  (h:∀s',Inv X zz (σ.set i (some v)) H s'->(∃a,Heap.SameBut a s.heap s'.heap/\(a=X.env.locals\/X.env.cells.lookup x=some a))->Q () s') (hf:X.fn x=true\/X.env.scope.names.lookup x=some .local:=by first | exact .inl rfl | exact .inr rfl | assumption):wpAny M A (storeName X.env x u) Q E s:=by
 obtain⟨m,hn,hl⟩:=id I.loc
 have hcls:(X.env.scope.kind == .class || (X.env.scope.kind == .module && X.env.locals != X.env.globals))=false:=by rw[I.ok.kind];rfl
 have hiσ:i<σ.length:=by rw[I.len];exact(yYB.mp hi).1
 have cne:=I.cne
 have tracked:∀{a:Addr} {h':Heap},(∃o,s.heap.get? a=some o/\H a=none)->Heap.SameBut a s.heap h'->HOk X.prog X.w H h':=fun{a h'} ha hs b ob e=>by
  obtain⟨_,_,hfree⟩:=ha
  refine(I.hok b ob e).stay (fun c w' hc q=>(hs.2 c ?_).trans q) (fun _ q=>q) fun _ _ q=>q
  rintro rfl
  rcases hc with rfl | hc
  .rw[hfree] at e;cases e
  .rw[hfree] at hc;cases hc
 rcases hx with hk | hk
 .refine wpAny_storeName_local hk hn (fun h' hn' hs=>?_) hcls
  obtain⟨oL,_,_,hoL,_⟩:=id hn
  refine h _ ⟨I.ok,I.os,I.bare,⟨fun b o e n hb hx=>?_,fun b o e n hb hx=>?_,I.base.free,fun b o e hx=>?_,I.base.tups,I.base.frzs,I.base.tbls⟩,⟨_,hn',fun j y v' e1 e2 e3=>?_⟩,fun y c e=>?_,I.free,I.freeC,fun p hp=>?_,tracked ⟨oL,hoL,I.free⟩ hs,by simpa using I.len⟩ ⟨_,hs,.inl rfl⟩
  .exact(hs.2 b (yZF (yZE (yZA e) I.ok.above))).trans (I.base.keep b o e n hb hx)
  .obtain⟨sl,e1⟩:=I.base.slot b o e n hb hx
   exact⟨sl,(hs.2 b (yZF (yZE (yZA e) I.ok.above))).trans e1⟩
  .obtain⟨o',e1⟩:=I.base.there b o e hx
   exact⟨o',(hs.2 b (yZF (yZE (yZA e) I.ok.above))).trans e1⟩
  .by_cases hj:j=i
   .subst hj
    rw[hi] at e1;cases e1
    rw[List.getElem?_set_self hiσ] at e2
    cases e2
    exact⟨u,r,.inl ⟨hk,by simp⟩⟩
   .rw[List.getElem?_set_ne (Ne.symm hj)] at e2
    obtain⟨u',r',q⟩:=hl j y v' e1 e2 e3
    refine⟨u',r',?_⟩
    rcases q with⟨k,e⟩ | ⟨k,c,e,z⟩
    .refine .inl ⟨k,?_⟩
     have:y≠x:=fun e=>hj (qKx hN e1 (e▸hi))
     simp[this,e]
    .exact .inr ⟨k,c,e,z.sameBut hs (cne y c e)⟩
  .obtain⟨w',z⟩:=I.cell y c e
   exact⟨w',z.sameBut hs (cne y c e)⟩
  .obtain⟨e,n,ne,nf,d⟩:=I.pin p hp
   exact⟨(hs.2 p.1 ne).trans e,n,ne,nf,d⟩
 .have hfn:X.fn x=true:=by
   rcases hf with z | z
   .exact z
   .rw[z] at hk;cases hk
  obtain⟨c,hc⟩:=I.ok.has x (.inl hk)
  obtain⟨w',z⟩:=I.cell x c hc
  refine wpAny_storeName_cell I.ok.kind hk hc z (fun h' hc' hs=>?_)
  obtain⟨oc,hoc,hocd⟩:=id z
  refine h { s with heap:=h' } ⟨I.ok,I.os,I.bare,⟨fun b o e n hb hx=>?_,fun b o e n hb hx=>?_,I.base.free,fun b o e hx=>?_,I.base.tups,I.base.frzs,I.base.tbls⟩,⟨m,hn.sameBut hs (Ne.symm (cne x c hc)),fun j y v' e1 e2 e3=>?_⟩,fun y c' e=>?_,I.free,I.freeC,fun p hp=>?_,tracked ⟨oc,hoc,I.freeC x c hc⟩ hs,by simpa using I.len⟩ ⟨c,hs,.inr hc⟩
  .exact(hs.2 b (yZF (yZE (yZA e) (I.ok.cab x c hfn hc)))).trans (I.base.keep b o e n hb hx)
  .obtain⟨sl,e1⟩:=I.base.slot b o e n hb hx
   exact⟨sl,(hs.2 b (yZF (yZE (yZA e) (I.ok.cab x c hfn hc)))).trans e1⟩
  .obtain⟨o',e1⟩:=I.base.there b o e hx
   exact⟨o',(hs.2 b (yZF (yZE (yZA e) (I.ok.cab x c hfn hc)))).trans e1⟩
  .by_cases hj:j=i
   .subst hj
    rw[hi] at e1;cases e1
    rw[List.getElem?_set_self hiσ] at e2
    cases e2
    exact⟨u,r,.inr ⟨.inl hk,c,hc,hc'⟩⟩
   .rw[List.getElem?_set_ne (Ne.symm hj)] at e2
    obtain⟨u',r',q⟩:=hl j y v' e1 e2 e3
    refine⟨u',r',?_⟩
    rcases q with q | ⟨k,c',e,z'⟩
    .exact .inl q
    .refine .inr ⟨k,c',e,z'.sameBut hs ?_⟩
     rintro rfl
     exact hj (qKx hN e1 (I.ok.inj _ _ _ e hc▸hi))
  .by_cases hcc:c'=c
   .subst hcc;exact⟨_,hc'⟩
   .obtain⟨w2,z2⟩:=I.cell y c' e
    exact⟨w2,z2.sameBut hs hcc⟩
  .obtain⟨e,n,ne,nf,d⟩:=I.pin p hp
   refine⟨(hs.2 p.1 ?_).trans e,n,ne,nf,d⟩
   intro q
   rw[q,hoc] at e
   have q':oc=p.2:=Option.some.inj e
   exact d w' (by rw[<- q'];exact hocd)
theorem vY {M:Model}{A:Around}{E:Value->Shared->Prop}{i:Nat}{x:Str}{v:V}{u:Value}{Q:Unit->Shared->Prop}(I:Inv X zz σ H s)(hN:X.N.Nodup)(hi:X.N[i]? = some x)(hx:Loc X.env.scope x)(r:RelV v u)
  (h:∀s',Inv X zz (σ.set i (some v)) H s'->Q () s') (hf:X.fn x=true\/X.env.scope.names.lookup x=some .local:=by first | exact .inl rfl | exact .inr rfl | assumption):wpAny M A (storeName X.env x u) Q E s:=
 qVv I hN hi hx r (fun s' I' _=>h s' I') hf
theorem Inv.call' {s':Shared}{ch:List Addr}(I:Inv X zz σ H s)(ho:s'.os=s.os)(u:Un (frs X.stack) ch H H' s.heap s'.heap)(hok:HOk X.prog X.w H' s'.heap)(hg:AllBare s'.gens)
  (hch:∀b∈ch,(b∈X.ex\/X.s₀.heap.objs.size<=b)/\b≠X.env.locals/\(∀x c,X.env.cells.lookup x=some c->c≠b)/\∀p∈X.pn++zz,p.1≠b):Inv X zz σ H' s':=by
 obtain⟨h',g',d',t',o'⟩:=s'
 have e:o'=s.os:=ho
 subst e
 exact I.call (g':=g') (t':=t') (d':=d') u hok hg hch
end
abbrev XK:=Value->Option Addr->Hp->Prop
abbrev St:=List (Option V)
abbrev VK:=V->Hp->Prop
abbrev TE:=St->Hp->VK->Prop
abbrev TT:=St->Hp->(Bool->Hp->Prop)->Prop
abbrev TA:=St->Hp->(List V->Hp->Prop)->Prop
structure Ends where
 nx:St->Hp->Prop
 rt:VK
 bk:St->Hp->Prop:=fun _ _=>False
 ct:St->Hp->Prop:=fun _ _=>False
abbrev TS:=Ends->St->Hp->Prop
def EP (X:Cx)(zz:List (Addr×Obj))(σ:St)(Q:VK)(u:Value)(s':Shared):Prop:=∃v H',Inv X zz σ H' s'/\RelV v u/\Q v H'
def TP (X:Cx)(zz:List (Addr×Obj))(σ:St)(Q:Bool->Hp->Prop)(b:Bool)(s':Shared):Prop:=∃H',Inv X zz σ H' s'/\Q b H'
def AP (X:Cx)(zz:List (Addr×Obj))(σ:St)(Q:List V->Hp->Prop)(us:List Value)(s':Shared):Prop:=∃vs H',Inv X zz σ H' s'/\Vals vs us/\Q vs H'
def SP (X:Cx)(zz:List (Addr×Obj))(D:Ends)(f:Flow)(s':Shared):Prop:=
 match f with
 | .next=>∃σ' H',Inv X zz σ' H' s'/\D.nx σ' H'
 | .brk=>∃σ' H',Inv X zz σ' H' s'/\D.bk σ' H'
 | .cont=>∃σ' H',Inv X zz σ' H' s'/\D.ct σ' H'
 | .ret u=>∃v σ' H',Inv X zz σ' H' s'/\RelV v u/\D.rt v H'
def PE (X:Cx)(e:Expr)(t:TE):Prop:=
 ∀(zz:List (Addr×Obj)) (s:Shared) (σ:St) (H:Hp) (Q:VK),Inv X zz σ H s->t σ H Q->wpAny (model X.prog X.w) X.A (eval e X.env) (EP X zz σ Q) X.xe s
def PT (X:Cx)(e:Expr)(t:TT):Prop:=
 ∀(zz:List (Addr×Obj)) (s:Shared) (σ:St) (H:Hp) (Q:Bool->Hp->Prop),Inv X zz σ H s->t σ H Q->wpAny (model X.prog X.w) X.A (isTrue e X.env (eval e X.env)) (TP X zz σ Q) X.xe s
def PW (X:Cx)(e:Expr)(t:TT):Prop:=
 ∀(whole:Sem Value) (zz:List (Addr×Obj)) (s:Shared) (σ:St) (H:Hp) (Q:Bool->Hp->Prop),Inv X zz σ H s->t σ H Q->wpAny (model X.prog X.w) X.A (isTrue e X.env whole) (TP X zz σ Q) X.xe s
theorem PW.pt {X:Cx}{e:Expr}{t:TT}(h:PW X e t):PT X e t:=h _
def PA (X:Cx)(es:List Expr)(t:TA):Prop:=
 ∀(pos:Pos) (zz:List (Addr×Obj)) (s:Shared) (σ:St) (H:Hp) (Q:List V->Hp->Prop),Inv X zz σ H s->t σ H Q->wpAny (model X.prog X.w) X.A (spliced (backTo pos (starEach es X.env))) (AP X zz σ Q) X.xe s
def PS (X:Cx)(st:Stmt)(t:TS):Prop:=
 ∀(zz:List (Addr×Obj)) (s:Shared) (σ:St) (H:Hp) (D:Ends),Inv X zz σ H s->t D σ H->wpAny (model X.prog X.w) X.A (exec st X.env) (SP X zz D) X.xe s
def PSs (X:Cx)(st:List Stmt)(t:TS):Prop:=
 ∀(zz:List (Addr×Obj)) (s:Shared) (σ:St) (H:Hp) (D:Ends),Inv X zz σ H s->t D σ H->wpAny (model X.prog X.w) X.A (execs st X.env) (SP X zz D) X.xe s
theorem thn {α:Type}{t:Sem α}{Q Q':α->Shared->Prop}{M:Model}{A:Around}{E:Value->Shared->Prop}{s:Shared}(h:wpAny M A t Q E s)(hQ:∀a s,Q a s->Q' a s):wpAny M A t Q' E s:=wpAny_mono h hQ fun _ _ x=>x
end L2
namespace L2
open PySem PySem.Spec PyProof.Rows
section
variable {X:Cx}
def tVar (i:Nat):TE:=fun σ H Q=>∃v,σ[i]? = some (some v)/\Q v H
def tC (v:V):TE:=fun _ H Q=>Q v H
theorem xVq {i:Nat}{x:Str}{pos:Pos}(hN:X.N[i]? = some x)(hv:Vis X.env.scope x)(hd:(x == ("__debug__" : Str))=false:=by decide)(hcd:(x == ("__classdict__" : Str))=false:=by decide):PE X (.Name x pos) (tVar i):=by
 intro zz s σ H Q I h
 obtain⟨v,e,h⟩:=h
 obtain⟨m,hn,hl⟩:=I.loc
 obtain⟨u,r,l⟩:=hl i x v hN e hv
 have fin:EP X zz σ Q u s:=⟨v,H,I,r,h⟩
 rcases l with⟨hk,hm⟩ | ⟨hk,c,hc,hcell⟩
 .exact wpAny_Name (wpAny_loadName_local I.ok.kind hk hn hm fin) hd
 .rcases hk with hk | hk
  .exact wpAny_Name (wpAny_loadName_cell I.ok.kind hk hc hcell fin) hd
  .exact wpAny_Name (wpAny_loadName_free I.ok.kind hk hc hcell fin hcd) hd
theorem qF {i j pos}:PE X (.Constant (.int i) j pos) (tC (.int i)):=fun _ _ _ H _ I h=>wpAny_Constant_int ⟨.int i,H,I.tok _,⟨_,rfl⟩,h⟩
theorem qQh {b j pos}:PE X (.Constant (.bool b) j pos) (tC (.bl b)):=fun _ _ _ H _ I h=>Constant_bool ⟨.bl b,H,I,rfl,h⟩
theorem qJw {j pos}:PE X (.Constant .none j pos) (tC .non):=fun _ _ _ H _ I h=>Constant_none ⟨.non,H,I,rfl,h⟩
theorem qG {x j pos}:PE X (.Constant (.str x) j pos) (tC (.str x)):=fun _ _ _ H _ I h=>Calls.Constant_str ⟨.str x,H,I.tok _,⟨_,rfl⟩,h⟩
def Gl (X:Cx)(x:Str):Prop:=X.env.kindOf x=some .globalImplicit
theorem qQx {E:Value->Shared->Prop}{zz:List (Addr×Obj)}{s:Shared}{σ:St}{H:Hp}{x:Str}{u:Value}{pos:Pos}{Q:Value->Shared->Prop}(I:Inv X zz σ H s)(hg:Gl X x)(hm:X.mg x=some u)(h:Q u s)
  (hd:(x == ("__debug__" : Str))=false:=by decide):wpAny (model X.prog X.w) X.A (eval (.Name x pos) X.env) Q E s:=
 Calls.Name_function_global I.ok.kind hg (Calls.loadGlobal_global (by rw[I.ok.glob];exact I.mod.glob.keeps I.bk) hm h) hd
theorem qQv {E:Value->Shared->Prop}{zz:List (Addr×Obj)}{s:Shared}{σ:St}{H:Hp}{x:Str}{u:Value}{pos:Pos}{Q:Value->Shared->Prop}(I:Inv X zz σ H s)(hg:Gl X x)(hm:X.mg x=none)(hv:bootBuiltins x=some u)(h:Q u s)
  (hn:x ≠ "__name__" := by decide) (hd:(x == ("__debug__" : Str))=false:=by decide):wpAny (model X.prog X.w) X.A (eval (.Name x pos) X.env) Q E s:=by
 obtain⟨mb,h1,h2⟩:=I.mod.blt
 exact Calls.Name_function_global I.ok.kind hg (Calls.loadGlobal_builtin (by rw[I.ok.glob];exact I.mod.glob.keeps I.bk) hm (by rw[I.ok.blt];exact h1.keeps I.bk) ((h2 x hn).trans hv) h) hd
theorem qBj {x:Str}{v:V}{u:Value}{pos:Pos}(hg:Gl X x)(hm:X.mg x=some u)(r:RelV v u)(hd:(x == ("__debug__" : Str))=false:=by decide):PE X (.Name x pos) (tC v):=
 fun _ _ _ H _ I h=>qQx I hg hm ⟨v,H,I,r,h⟩ hd
theorem xZh {x:Str}{v:V}{u:Value}{pos:Pos}(hg:Gl X x)(hm:X.mg x=none)(hv:bootBuiltins x=some u)(r:RelV v u)(hn:x ≠ "__name__" := by decide)(hd:(x == ("__debug__" : Str))=false:=by decide):PE X (.Name x pos) (tC v):=
 fun _ _ _ H _ I h=>qQv I hg hm hv ⟨v,H,I,r,h⟩ hn hd
variable {a b:Expr}{ta tb:TE}{pos:Pos}
def tB (t:TE):TT:=fun σ H Q=>t σ H fun x H1=>∃c,x=.bl c/\Q c H1
theorem kG {e:Expr}{t:TE}(h:PE X e t)(he:∀whole,isTrue e X.env whole=(do let v <- whole;standAt e.pos;holding [v] (truthy v)):=by intro _;rfl):PT X e (tB t):=by
 intro zz s σ H Q I hw
 refine isTrue_plain (thn (h zz s σ H _ I hw) fun v s1 ⟨x,H1,I1,r1,q1⟩=>?_) (he _)
 obtain⟨d,rfl,q⟩:=q1
 cases r1
 exact wpAny_truthy_bool ⟨H1,I1,q⟩
variable {tA tB':TT}{rest:List Expr}
def tAnd (t u:TT):TT:=fun σ H Q=>t σ H fun c H1=>if c=true then u σ H1 Q else Q false H1
def tOr (t u:TT):TT:=fun σ H Q=>t σ H fun c H1=>if c=true then Q true H1 else u σ H1 Q
def tNot (t:TT):TT:=fun σ H Q=>t σ H fun c H1=>Q (!c) H1
theorem xZj (ha:PT X a tA):PW X (.BoolOp .And [a] pos) tA:=by
 intro wh zz s σ H Q I h
 refine isTrue_and (thn (ha zz s σ H Q I h) fun c s1 e=>?_)
 cases c with
 | true=>exact isTrue_and_nil e
 | false=>exact e
theorem qIm (ha:PT X a tA):PW X (.BoolOp .Or [a] pos) tA:=by
 intro wh zz s σ H Q I h
 refine isTrue_or (thn (ha zz s σ H Q I h) fun c s1 e=>?_)
 cases c with
 | false=>exact isTrue_or_nil e
 | true=>exact e
theorem xKl (ha:PT X a tA)(hb:PW X (.BoolOp .And (b::rest) pos) tB'):PW X (.BoolOp .And (a::b::rest) pos) (tAnd tA tB'):=by
 intro wh zz s σ H Q I h
 refine isTrue_and (thn (ha zz s σ H _ I h) fun c s1 ⟨H1,I1,q1⟩=>?_)
 cases c with
 | true=>exact hb wh zz s1 σ H1 Q I1 q1
 | false=>exact⟨H1,I1,q1⟩
theorem qSk (ha:PT X a tA)(hb:PW X (.BoolOp .Or (b::rest) pos) tB'):PW X (.BoolOp .Or (a::b::rest) pos) (tOr tA tB'):=by
 intro wh zz s σ H Q I h
 refine isTrue_or (thn (ha zz s σ H _ I h) fun c s1 ⟨H1,I1,q1⟩=>?_)
 cases c with
 | true=>exact⟨H1,I1,q1⟩
 | false=>exact hb wh zz s1 σ H1 Q I1 q1
theorem qJv (ha:PT X a tA):PT X (.UnaryOp .Not a pos) (tNot tA):=by
 intro zz s σ H Q I h
 exact isTrue_not (ha zz s σ H (fun c H1=>Q (!c) H1) I h)
def tAndV (ta tb:TE):TE:=fun σ H Q=>ta σ H fun x H1=>∃c,x=.bl c/\if c=true then tb σ H1 Q else Q (.bl false) H1
def tNotV (ta:TE):TE:=fun σ H Q=>ta σ H fun x H1=>∃c,x=.bl c/\Q (.bl (!c)) H1
theorem xQb {op}{t:TE}(h:PE X a t):PE X (.BoolOp op [a] pos) t:=fun zz s σ H Q I hw=>BoolOp_one (h zz s σ H Q I hw)
theorem xQc (ha:PE X a ta)(hb:PE X (.BoolOp .And (b::rest) pos) tb):PE X (.BoolOp .And (a::b::rest) pos) (tAndV ta tb):=by
 intro zz s σ H Q I h
 refine BoolOp_and (thn (ha zz s σ H _ I h) fun v s1 ⟨x,H1,I1,r1,q1⟩=>?_)
 obtain⟨c,rfl,q1⟩:=q1
 cases r1
 refine wpAny_truthy_bool ?_
 cases c with
 | true=>exact hb zz s1 σ H1 Q I1 q1
 | false=>exact⟨.bl false,H1,I1,rfl,q1⟩
theorem qMa (ha:PE X a ta):PE X (.UnaryOp .Not a pos) (tNotV ta):=by
 intro zz s σ H Q I h
 refine UnaryOp_ (thn (ha zz s σ H _ I h) fun v s1 ⟨x,H1,I1,r1,q1⟩=>?_)
 obtain⟨c,rfl,q1⟩:=q1
 cases r1
 exact not_of (wpAny_truthy_bool ⟨.bl (!c),H1,I1,rfl,q1⟩)
def tIf (t:TT)(ta tb:TE):TE:=fun σ H Q=>t σ H fun c H1=>if c=true then ta σ H1 Q else tb σ H1 Q
theorem qDo {c:Expr}(hc:PT X c tA)(ha:PE X a ta)(hb:PE X b tb):PE X (.IfExp c a b pos) (tIf tA ta tb):=by
 intro zz s σ H Q I h
 refine wpAny_IfExp (thn (hc zz s σ H _ I h) fun d s1 ⟨H1,I1,q1⟩=>?_)
 cases d with
 | true=>exact ha zz s1 σ H1 Q I1 q1
 | false=>exact hb zz s1 σ H1 Q I1 q1
end
end L2
namespace L2
open PySem PySem.Spec PyProof.Rows
def SqL (K:yZP)(H:Hp)(a:Addr)(xs:List V):Prop:=
 Rd H a (.lst xs)\/
  ∃(o:Obj) (its:Array Value) (n:Nat),K.lookup a=some o/\o.cls=.type "list" /\ o.dict=none/\o.data=.seq its n/\its.size<=sizeLine/\Vals xs its.toList
def SqT (K:yZP)(H:Hp)(a:Addr)(xs:List V):Prop:=
 Rd H a (.tup xs)\/
  ∃(o:Obj) (its:Array Value) (n:Nat),K.lookup a=some o/\o.cls=.type "tuple" /\ o.data=.seq its n/\its.size<=sizeLine/\Vals xs its.toList
def absV:Value->Option V
 | .none=>some .non
 | .bool b=>some (.bl b)
 | .int i _=>some (.int i)
 | .str x _=>some (.str x)
 | .bytes b _=>some (.byt b)
 | .float b _=>some (.flt b)
 | .ref a=>some (.ref a)
 | .type n=>some (.ty n)
 | _=>none
theorem RelV.abs {x:V}{u:Value}(r:RelV x u):absV u=some x:=by
 cases x with
 | non=>cases r;rfl
 | bl _=>cases r;rfl
 | int _=>obtain⟨t,rfl⟩:=r;rfl
 | str _=>obtain⟨t,rfl⟩:=r;rfl
 | byt _=>obtain⟨t,rfl⟩:=r;rfl
 | flt _=>obtain⟨t,rfl⟩:=r;rfl
 | ref _=>cases r;rfl
 | ty _=>cases r;rfl
theorem RelV.inj {x y:V}{u:Value}(r:RelV x u)(q:RelV y u):x=y:=Option.some.inj (r.abs.symm.trans q.abs)
theorem Vals.inj {xs ys:List V}{us:List Value}(h:Vals xs us)(h':Vals ys us):xs=ys:=by
 induction h generalizing ys with
 | nil=>cases h';rfl
 | cons r _ ih=>
  cases h' with
  | cons r' t'=>rw[r.inj r',ih t']
section
variable {X:Cx}{zz:List (Addr×Obj)}{σ:St}{H:Hp}{s:Shared}{a:Addr}{xs ys:List V}
theorem SqL.of {K:yZP}(h:H a=some (.lst xs)):SqL K H a xs:=.inl (.inl h)
theorem SqT.of {K:yZP}(h:H a=some (.tup xs)):SqT K H a xs:=.inl (.inl h)
theorem Inv.list (I:Inv X zz σ H s)(h:SqL X.K H a xs):∃its:List Value,Vals xs its/\PlainL s.heap a its.toArray/\xs.length<=sizeLine:=by
 rcases h with h | ⟨o,its,n,hk,hc,hd,hs,hz,r⟩
 .obtain⟨z,its,n,r,e⟩:=h.ok I.hok
  exact⟨its,r,⟨_,n,e,rfl,rfl,rfl⟩,z⟩
 .refine⟨its.toList,r,⟨o,n,I.kIn a o hk,hc,hd,by simpa using hs⟩,?_⟩
  have e:=r.length
  simp only[yZM] at e
  omega
theorem Inv.tuple (I:Inv X zz σ H s)(h:SqT X.K H a xs):∃its:List Value,Vals xs its/\IsTup s.heap a its.toArray/\xs.length<=sizeLine:=by
 rcases h with h | ⟨o,its,n,hk,hc,hs,hz,r⟩
 .obtain⟨z,its,r,p⟩:=h.ok I.hok
  exact⟨its,r,p.tup,z⟩
 .refine⟨its.toList,r,⟨o,I.kIn a o hk,hc,n,by simpa using hs⟩,?_⟩
  have e:=r.length
  simp only[yZM] at e
  omega
theorem Inv.list_inj (I:Inv X zz σ H s)(h:SqL X.K H a xs)(h':SqL X.K H a ys):xs=ys:=by
 obtain⟨its,r,⟨o,n,e,_,_,d⟩,_⟩:=I.list h
 obtain⟨its',r',⟨o',n',e',_,_,d'⟩,_⟩:=I.list h'
 rw[e] at e';cases e'
 rw[d] at d'
 injection d' with d1 _
 have:its=its':=by simpa using congrArg Array.toList d1
 subst this
 exact r.inj r'
theorem Inv.tuple_inj (I:Inv X zz σ H s)(h:SqT X.K H a xs)(h':SqT X.K H a ys):xs=ys:=by
 obtain⟨its,r,⟨o,e,_,n,d⟩,_⟩:=I.tuple h
 obtain⟨its',r',⟨o',e',_,n',d'⟩,_⟩:=I.tuple h'
 rw[e] at e';cases e'
 rw[d] at d'
 injection d' with d1 _
 have:its=its':=by simpa using congrArg Array.toList d1
 subst this
 exact r.inj r'
end
abbrev Cx.wish (X:Cx)(E:Value->Shared->Prop):Cx:={ X with xe:=E }
abbrev Cx.nox (X:Cx):Cx:=X.wish fun _ _=>False
theorem Cx.Ok.wish {X:Cx}(ok:X.Ok)(E:Value->Shared->Prop):(X.wish E).Ok:=
 ⟨ok.mod,ok.kind,ok.glob,ok.blt,ok.above,ok.inj,ok.has,ok.cab,ok.hd,ok.frames,ok.stk,ok.exf,ok.bs,ok.bsz,ok.noex,ok.exfs,ok.funs,ok.frf⟩
theorem Cx.Ok.unwish {X:Cx}{E:Value->Shared->Prop}(ok:(X.wish E).Ok):X.Ok:=
 ⟨ok.mod,ok.kind,ok.glob,ok.blt,ok.above,ok.inj,ok.has,ok.cab,ok.hd,ok.frames,ok.stk,ok.exf,ok.bs,ok.bsz,ok.noex,ok.exfs,ok.funs,ok.frf⟩
section
variable {X:Cx}{zz:List (Addr×Obj)}{σ:St}{H:Hp}{s:Shared}{E:Value->Shared->Prop}
theorem Inv.wish (I:Inv X zz σ H s)(E:Value->Shared->Prop):Inv (X.wish E) zz σ H s:=⟨I.ok.wish E,I.os,I.bare,I.base,I.loc,I.cell,I.free,I.freeC,I.pin,I.hok,I.len⟩
theorem Inv.unwish (I:Inv (X.wish E) zz σ H s):Inv X zz σ H s:=⟨I.ok.unwish,I.os,I.bare,I.base,I.loc,I.cell,I.free,I.freeC,I.pin,I.hok,I.len⟩
theorem SP.unwish {D:Ends}{f:Flow}{s':Shared}(h:SP (X.wish E) zz D f s'):SP X zz D f s':=by
 cases f with
 | next=>obtain⟨σ',H',I,q⟩:=h;exact⟨σ',H',I.unwish,q⟩
 | brk=>obtain⟨σ',H',I,q⟩:=h;exact⟨σ',H',I.unwish,q⟩
 | cont=>obtain⟨σ',H',I,q⟩:=h;exact⟨σ',H',I.unwish,q⟩
 | ret u=>obtain⟨v,σ',H',I,r,q⟩:=h;exact⟨v,σ',H',I.unwish,r,q⟩
theorem PSs.nox {st:List Stmt}{t:TS}(h:PSs X.nox st t):PSs X st t:=fun zz s σ H D I hw=>
 wpAny_mono (h zz s σ H D (I.wish _) hw) (fun _ _ q=>q.unwish) fun _ _ z=>False.elim z
end
section
variable {X:Cx}{st:Stmt}{rest:List Stmt}{t u:TS}{e:Expr}{te:TE}{pos:Pos}
def tNext:TS:=fun D σ H=>D.nx σ H
def tSeq (t u:TS):TS:=fun D σ H=>t { D with nx:=u D } σ H
theorem qY:PSs X [] tNext:=fun _ _ σ H _ I h=>wpAny_execs_nil ⟨σ,H,I,h⟩
theorem qZ (h1:PS X st t)(h2:PSs X rest u):PSs X (st::rest) (tSeq t u):=by
 intro zz s σ H D I h
 refine wpAny_execs_cons (thn (h1 zz s σ H { D with nx:=u D } I h) fun f s1 q=>?_)
 cases f with
 | next=>
  obtain⟨σ',H',I',q⟩:=q
  exact h2 zz s1 σ' H' D I' q
 | ret v=>exact q
 | brk=>exact q
 | cont=>exact q
theorem qJ (h1:PS X st t):PSs X [st] t:=by
 intro zz s σ H D I h
 refine wpAny_execs_cons (thn (h1 zz s σ H D I h) fun f s1 q=>?_)
 cases f with
 | next=>exact wpAny_execs_nil q
 | ret v=>exact q
 | brk=>exact q
 | cont=>exact q
theorem Inv.quiet {zz:List (Addr×Obj)}{σ:St}{H:Hp}{s:Shared}(I:Inv X zz σ H s):interactive X.env=false:=by simp[interactive,I.ok.kind]
def tDrop (te:TE):TS:=fun D σ H=>te σ H fun _ H1=>D.nx σ H1
theorem qR (he:PE X e te)(hs:swapsWith e none pos.line X.env=pure false:=by rfl):PS X (.Expr e pos) (tDrop te):=by
 intro zz s σ H D I h
 exact wpAny_Expr_any (thn (he zz s σ H _ I h) fun v s1 ⟨x,H1,I1,r1,q1⟩=>⟨σ,H1,I1,q1⟩) I.quiet hs
def tRet (te:TE):TS:=fun D σ H=>te σ H D.rt
theorem qO (he:PE X e te):PS X (.Return (some e) pos) (tRet te):=by
 intro zz s σ H D I h
 exact wpAny_Return_some (thn (he zz s σ H _ I h) fun v s1 ⟨x,H1,I1,r1,q1⟩=>⟨x,σ,H1,I1,r1,q1⟩)
def tRetN:TS:=fun D _ H=>D.rt .non H
theorem xZw:PS X (.Return none pos) tRetN:=fun _ _ σ H _ I h=>wpAny_Return_none ⟨.non,σ,H,I,rfl,h⟩
def tIfS (c:TT)(t u:TS):TS:=fun D σ H=>c σ H fun b H1=>if b=true then t D σ H1 else u D σ H1
theorem zG {c:Expr}{a b:List Stmt}{tc:TT}(hc:PT X c tc)(ha:PSs X a t)(hb:PSs X b u):PS X (.If c a b pos) (tIfS tc t u):=by
 intro zz s σ H D I h
 refine wpAny_If (thn (hc zz s σ H _ I h) fun d s1 ⟨H1,I1,q1⟩=>?_)
 cases d with
 | true=>exact ha zz s1 σ H1 D I1 q1
 | false=>exact hb zz s1 σ H1 D I1 q1
def tNever:TS:=fun _ _ _=>False
theorem jS:PS X st tNever:=fun _ _ _ _ _ _ h=>h.elim
end
abbrev TG:=V->St->Hp->(St->Hp->Prop)->Prop
abbrev TGs:=List V->St->Hp->(St->Hp->Prop)->Prop
def PG (X:Cx)(target:Expr)(t:TG):Prop:=
 ∀(zz:List (Addr×Obj)) (s:Shared) (σ:St) (H:Hp) (v:V) (u:Value) (Q:St->Hp->Prop),Inv X zz σ H s->RelV v u->t v σ H Q->
  wpAny (model X.prog X.w) X.A (assign target X.env u) (fun _ s'=>∃σ' H',Inv X zz σ' H' s'/\Q σ' H') X.xe s
def PGs (X:Cx)(ts:List Expr)(t:TGs):Prop:=
 ∀(zz:List (Addr×Obj)) (s:Shared) (σ:St) (H:Hp) (vs:List V) (us:List Value) (Q:St->Hp->Prop),Inv X zz σ H s->Vals vs us->t vs σ H Q->
  wpAny (model X.prog X.w) X.A (assignInOrder ((assignEach ts X.env).map (·.2)) us) (fun _ s'=>∃σ' H',Inv X zz σ' H' s'/\Q σ' H') X.xe s
abbrev TSet:=V->V->V->Hp->(Hp->Prop)->Prop
def PSet (X:Cx)(t:TSet):Prop:=
 ∀(zz:List (Addr×Obj)) (s:Shared) (σ:St) (H:Hp) (o i v:V) (ov iv u:Value) (Q:Hp->Prop),Inv X zz σ H s->RelV o ov->RelV i iv->RelV v u->t o i v H Q->
  wpAny (model X.prog X.w) X.A (setItem ov iv u) (fun _ s'=>∃H',Inv X zz σ H' s'/\Q H') X.xe s
abbrev TIp:=V->V->Hp->VK->Prop
def PIp (X:Cx)(op:Operator)(t:TIp):Prop:=
 ∀(zz:List (Addr×Obj)) (s:Shared) (σ:St) (H:Hp) (x y:V) (v u:Value) (Q:VK),Inv X zz σ H s->RelV x v->RelV y u->t x y H Q->
  wpAny (model X.prog X.w) X.A (inplaceOp op v u) (EP X zz σ Q) X.xe s
section
variable {X:Cx}{pos:Pos}
def gName (i:Nat):TG:=fun v σ H Q=>Q (σ.set i (some v)) H
theorem qH {i:Nat}{x:Str}(hN:X.N.Nodup)(hi:X.N[i]? = some x)(hx:Loc X.env.scope x)(hf:X.fn x=true\/X.env.scope.names.lookup x=some .local:=by first | exact .inl rfl | exact .inr rfl | assumption):PG X (.Name x pos) (gName i):=by
 intro zz s σ H v u Q I r h
 exact wpAny_assign_Name (vY I hN hi hx r (fun s' I'=>⟨_,H,I',h⟩) hf)
def gNil:TGs:=fun vs σ H Q=>vs=[]/\Q σ H
def gCons (t:TG)(u:TGs):TGs:=fun vs σ H Q=>∃v r,vs=v::r/\t v σ H fun σ' H'=>u r σ' H' Q
theorem qM:PGs X [] gNil:=by
 intro zz s σ H vs us Q I r h
 obtain⟨e,h⟩:=h
 subst e
 cases r
 exact assignInOrder_nil ⟨σ,H,I,h⟩
theorem qI {e:Expr}{es:List Expr}{t:TG}{u:TGs}(h1:PG X e t)(h2:PGs X es u)
  (hs:(assignEach (e::es) X.env).map (·.2)=assign e X.env::(assignEach es X.env).map (·.2):=by rfl):PGs X (e::es) (gCons t u):=by
 intro zz s σ H vs us Q I r h
 obtain⟨v,vr,e1,h⟩:=h
 subst e1
 cases r with
 | cons r rr=>
  rw[hs]
  refine assignInOrder_cons (thn (h1 zz s σ H _ _ _ I r h) fun _ s1 ⟨σ1,H1,I1,q1⟩=>?_)
  exact h2 zz s1 σ1 H1 _ _ Q I1 rr q1
def gTup (K:yZP)(n:Nat)(t:TGs):TG:=fun v σ H Q=>∃a xs,v=.ref a/\SqT K H a xs/\xs.length=n/\t xs σ H Q
theorem xQw {es:List Expr}{k:Nat}{t:TGs}{n:Nat}(hc:X.calm=true)(h:PGs X es t)
  (hn:(assignEach es X.env).length=n:=by rfl) (hst:(assignEach es X.env).findIdx? (·.1)=none:=by rfl):PG X (.Tuple es k pos) (gTup X.K n t):=by
 intro zz s σ H v u Q I r hw
 obtain⟨a,xs,e1,hq,hl,hw⟩:=hw
 subst e1
 cases r
 obtain⟨its,rv,ht,hz⟩:=I.tuple hq
 refine assign_Tuple_tuple (I.ok.hd hc) ht (by simp[hn,<- hl,rv.length]) hst fun h' hx=>?_
 have I1:Inv X zz σ H { s with heap:=h' }:=I.kept (t':=s.toks) fun b o e=>hx b o (yZF (yZA e)) e
 exact h zz _ σ H xs _ Q I1 (by simpa using rv) hw
def gSub (to ti:TE)(t:TSet):TG:=fun v σ H Q=>to σ H fun o H1=>ti σ H1 fun i H2=>t o i v H2 fun H3=>Q σ H3
theorem xQa {o i:Expr}{to ti:TE}{t:TSet}(ho:PE X o to)(hi:PE X i ti)(hs:PSet X t)
  (ha:∀v,assign (.Subscript o i pos) X.env v=(do
   let ov <- holding [v] (eval o X.env)
   let iv <- holding [v,ov] (eval i X.env)
   standAt pos
   holding [v,ov,iv] (setItem ov iv v)
   release [v,ov,iv] []):=by intro _;rfl):PG X (.Subscript o i pos) (gSub to ti t):=by
 intro zz s σ H v u Q I r h
 rw[ha]
 refine yYX (wpAny_holding (thn (ho zz s σ H _ I h) fun ov s1 ⟨x,H1,I1,r1,q1⟩=>?_))
 refine yYX (wpAny_holding (thn (hi zz s1 σ H1 _ I1 q1) fun iv s2 ⟨y,H2,I2,r2,q2⟩=>?_))
 refine yYX (wpAny_standAt (yYX (wpAny_holding (thn (hs zz s2 σ H2 x y v ov iv u _ I2 r1 r2 r q2) fun _ s3 ⟨H3,I3,q3⟩=>?_))))
 exact wpAny_release ⟨σ,H3,I3,q3⟩
def tAsg (te:TE)(g:TG):TS:=fun D σ H=>te σ H fun x H1=>g x σ H1 D.nx
theorem qP {tg e:Expr}{te:TE}{g:TG}(he:PE X e te)(hg:PG X tg g)(hs:swapsWithSole [tg] e pos.line X.env=pure false:=by rfl)(hw:swappedStores [tg] e X.env=pure none:=by rfl)
  (h1:(assignEach [tg] X.env).map (·.2)=[assign tg X.env]:=by rfl):PS X (.Assign [tg] e pos) (tAsg te g):=by
 intro zz s σ H D I h
 refine wpAny_Assign_stores (thn (he zz s σ H _ I h) fun v s1 ⟨x,H1,I1,r1,q1⟩=>?_) hs hw
 rw[h1]
 exact thn (hg zz s1 σ H1 x v _ I1 r1 q1) fun _ s2 q=>q
theorem qN {i:Nat}{x:Str}{e:Expr}{te:TE}{pos':Pos}(hN:X.N.Nodup)(hi:X.N[i]? = some x)(hx:Loc X.env.scope x)(he:PE X e te)(hs:swapsWith e (some (.Name x pos')) pos.line X.env=pure false:=by rfl)(hf:X.fn x=true\/X.env.scope.names.lookup x=some .local:=by first | exact .inl rfl | exact .inr rfl | assumption):
  PS X (.Assign [.Name x pos'] e pos) (tAsg te (gName i)):=by
 intro zz s σ H D I h
 refine wpAny_Assign_Name (thn (he zz s σ H _ I h) fun v s1 ⟨y,H1,I1,r1,q1⟩=>?_) hs
 exact vY I1 hN hi hx r1 (fun s2 I2=>⟨_,H1,I2,q1⟩) hf
def tAug (i:Nat)(te:TE)(ti:TIp):TS:=fun D σ H=>∃x,σ[i]? = some (some x)/\te σ H fun y H1=>ti x y H1 fun z H2=>D.nx (σ.set i (some z)) H2
theorem qMq {i:Nat}{x:Str}{e:Expr}{te:TE}{op:Operator}{ti:TIp}{pos':Pos}(hN:X.N.Nodup)(hi:X.N[i]? = some x)(hx:Loc X.env.scope x)(he:PE X e te)(ho:PIp X op ti)(hf:X.fn x=true\/X.env.scope.names.lookup x=some .local:=by first | exact .inl rfl | exact .inr rfl | assumption):
  PS X (.AugAssign (.Name x pos') op e pos) (tAug i te ti):=by
 intro zz s σ H D I h
 obtain⟨v,e1,h⟩:=h
 obtain⟨m,hn,hl⟩:=I.loc
 have vis:Vis X.env.scope x:=by rcases hx with k | k;exact .inl k;exact .inr (.inl k)
 obtain⟨u,r,l⟩:=hl i x v hi e1 vis
 refine wpAny_AugAssign_Name ?_
 have go:wpAny (model X.prog X.w) X.A (eval e X.env) (fun w s₂=>wpAny (model X.prog X.w) X.A (inplaceOp op u w) (fun r s₃=>wpAny (model X.prog X.w) X.A (storeName X.env x r) (fun _=>SP X zz D .next) X.xe s₃) X.xe s₂) X.xe s:=by
  refine thn (he zz s σ H _ I h) fun w s1 ⟨y,H1,I1,r1,q1⟩=>?_
  refine thn (ho zz s1 σ H1 v y u w _ I1 r r1 q1) fun z s2 ⟨zv,H2,I2,r2,q2⟩=>?_
  exact vY I2 hN hi hx r2 (fun s3 I3=>⟨_,H2,I3,q2⟩) hf
 rcases l with⟨hk,hm⟩ | ⟨hk,c,hc,hcell⟩
 .exact wpAny_loadName_local I.ok.kind hk hn hm go
 .rcases hk with hk | hk
  .exact wpAny_loadName_cell I.ok.kind hk hc hcell go
  .rcases hx with k | k
   .have:X.env.scope.names.lookup x=some .free:=hk
    rw[k] at this;cases this
   .have:X.env.scope.names.lookup x=some .free:=hk
    rw[k] at this;cases this
end
structure It where
 go:Nat->Hp->Prop
 yld:Nat->Hp->V->Hp->Prop
 stop:Nat->Hp->Prop
def FpOk (X:Cx)(zz:List (Addr×Obj))(H:Hp)(b:Addr):Prop:=
 H b=none/\b≠X.env.locals/\b∉X.fs/\(b∈X.ex\/X.s₀.heap.objs.size<=b)/\(∀x c,X.env.cells.lookup x=some c->c≠b)/\∀p∈X.pn++zz,p.1≠b
theorem Inv.fpOk {X:Cx}{zz:List (Addr×Obj)}{σ:St}{H H':Hp}{s:Shared}{b:Addr}(I:Inv X zz σ H s)(hb:s.heap.objs.size<=b)(hn:H' b=none):FpOk X zz H' b:=by
 refine⟨hn,yZH (yZE I.lt hb),I.nofs hb,.inr (yZJ I.sz hb),fun x c e z=>?_,fun p hp z=>?_⟩
 .obtain⟨v,q⟩:=I.cell x c e
  exact absurd (yZE q.lt (by rw[z];exact hb)) (Nat.lt_irrefl _)
 .exact absurd (yZE (yZA (I.pin p hp).1) (by rw[z];exact hb)) (Nat.lt_irrefl _)
structure Turn (P:Program)(w:World)(K:yZP)(tg:Expr)(J:It)(fp:List Addr)(it:Addr)(tn:Nat->Heap->Prop):Prop where
 mem:it∈fp
 obj:∀i h,tn i h->∀b∈fp,∃o,h.get? b=some o/\∀v,o.data≠.cell v
 keep:∀i h h',tn i h->(∀b∈fp,∀o,h.get? b=some o->h'.get? b=some o)->tn i h'
 item:∀(X:Cx),X.prog=P->X.w=w->X.K=K->X.calm=true->∀(i:Nat) (zz:List (Addr×Obj)) (s:Shared) (σ:St) (H:Hp) (E:Value->Shared->Prop),Inv X zz σ H s->(∀b∈fp,FpOk X zz H b)->tn i s.heap->J.go i H->
  wpAny (model P w) X.A (pyNext (.ref it)) (fun r s1=>∃u,r=some u/\
   wpAny (model P w) X.A (letOwnedTupleGo tg (.ref it) u) (fun _ s2=>∃x H',Inv X zz σ H' s2/\RelV x u/\J.yld i H x H'/\tn (i+1) s2.heap/\∀b∈fp,H' b=none) E s1) E s
 done:∀(X:Cx),X.prog=P->X.w=w->X.K=K->X.calm=true->∀(i:Nat) (zz:List (Addr×Obj)) (s:Shared) (σ:St) (H:Hp) (E:Value->Shared->Prop),Inv X zz σ H s->(∀b∈fp,FpOk X zz H b)->tn i s.heap->J.stop i H->
  wpAny (model P w) X.A (pyNext (.ref it)) (fun r s1=>r=none/\Inv X zz σ H s1) E s
 self:∀(A:Around) (i:Nat) (s:Shared) (Q:Value->Shared->Prop) (E:Value->Shared->Prop),tn i s.heap->Q (.ref it) s->wpAny (model P w) A (pyIter (.ref it)) Q E s
abbrev TI:=St->Hp->(It->Hp->Prop)->Prop
def PIE (X:Cx)(zz:List (Addr×Obj))(σ:St)(tg:Expr)(R:It->Hp->Prop)(itv:Value)(s2:Shared):Prop:=
 ∃(it:Addr) (fp:List Addr) (tn:Nat->Heap->Prop) (J:It) (H':Hp),itv=.ref it/\Inv X zz σ H' s2/\Turn X.prog X.w X.K tg J fp it tn/\tn 0 s2.heap/\(∀b∈fp,FpOk X zz H' b)/\R J H'
def PI (X:Cx)(tg iter:Expr)(wi:TI):Prop:=
 ∀(zz:List (Addr×Obj)) (s:Shared) (σ:St) (H:Hp) (R:It->Hp->Prop),Inv X zz σ H s->wi σ H R->
  wpAny (model X.prog X.w) X.A (eval iter X.env) (fun v s1=>wpAny (model X.prog X.w) X.A (pyIter v) (PIE X zz σ tg R) X.xe s1) X.xe s
theorem qTh {M:Model}{A:Around}{E:Value->Shared->Prop}{s:Shared}{tg:Expr}{it:Addr}{u:Value}{o:Obj}{n:String}{vs:Array Value}{Q:Unit->Shared->Prop}(ho:s.heap.get? it=some o)(hc:o.cls=.type n)(hd:o.data=.fields vs)
  (hn:["enumerate","zip","dict_itemiterator","dict_reverseitemiterator","odict_iterator","itertools.zip_longest","itertools.pairwise"].contains n=false) (hQ:Q () s):wpAny M A (letOwnedTupleGo tg (.ref it) u) Q E s:=by
 unfold letOwnedTupleGo
 cases tg <;> first
  | exact yYY hQ
  | (cases u <;> first
    | exact yYY hQ
    | (refine yYX (wpAny_load ho ?_)
       rw[hc,hd]
       show wpAny M A (if (["enumerate","zip","dict_itemiterator","dict_reverseitemiterator","odict_iterator","itertools.zip_longest","itertools.pairwise"].contains n && vs[0]? == some (rawInt _))=true then _ else _) Q E s
       rw[if_neg (by intro h;rw[hn,Bool.false_and] at h;cases h)]
       exact yYY hQ))
def Itl (K:yZP)(a:Addr):It:=
 ⟨fun i H=>∃xs x,SqL K H a xs/\xs[i]? = some x,fun i H x H'=>H'=H/\∀xs,SqL K H a xs->xs[i]? = some x,fun i H=>∃xs,SqL K H a xs/\xs.length<=i⟩
def Itt (K:yZP)(a:Addr):It:=
 ⟨fun i H=>∃xs x,SqT K H a xs/\xs[i]? = some x,fun i H x H'=>H'=H/\∀xs,SqT K H a xs->xs[i]? = some x,fun i H=>∃xs,SqT K H a xs/\xs.length<=i⟩
def Itr (lo:Int)(n:Nat):It:=⟨fun i _=>i<n,fun i H x H'=>H'=H/\x=.int (lo+i),fun i _=>n<=i⟩
theorem qHi {P:Program}{w:World}{K:yZP}{tg:Expr}(a it:Addr):Turn P w K tg (Itl K a) [it] it (fun i h=>h.IsListIter it a i) where
 mem:=by simp
 obj:=fun i h st b hb=>by
  have e:b=it:=by simpa using hb
  subst e
  obtain⟨o,e,c,d⟩:=st
  exact⟨o,e,fun v z=>by rw[d] at z;cases z⟩
 keep:=fun i h h' st k=>st.at fun o e=>k it (by simp) o e
 item:=by
  intro X hP hw hK hc i zz s σ H E I hf st hg
  subst hP hw hK
  obtain⟨xs,x,hq,hx⟩:=hg
  obtain⟨its,rv,p,hz⟩:=I.list hq
  obtain⟨u,hu,ru⟩:=rv.get hx
  obtain⟨f0,f1,f2,f3,f4,f5⟩:=hf it (by simp)
  refine wpAny_pyNext_list_item st p.isList (x:=u) (by simpa using hu) fun h' st' sb=>?_
  have I1:Inv X zz σ H { s with heap:=h' }:=I.turned (t':=s.toks) (fun b o hb e=>(sb.2 b hb).trans e) f0 f1 f3 f4 f5
  obtain⟨o,e,c,d⟩:=id st'
  exact⟨u,rfl,qTh (s:={ s with heap:=h' }) e c d (by decide) ⟨x,H,I1,ru,⟨rfl,fun ys hy=>by rw[I.list_inj hy hq];exact hx⟩,st',fun b hb=>(hf b hb).1⟩⟩
 done:=by
  intro X hP hw hK hc i zz s σ H E I hf st hg
  subst hP hw hK
  obtain⟨xs,hq,hx⟩:=hg
  obtain⟨its,rv,p,hz⟩:=I.list hq
  obtain⟨f0,f1,f2,f3,f4,f5⟩:=hf it (by simp)
  have hl:=rv.length
  exact wpAny_pyNext_list_end (I.ok.hd hc) st p.isList (by simp;omega) fun h' eb=>⟨rfl,I.turned (t':=s.toks) (fun b o hb e=>eb b o hb e) f0 f1 f3 f4 f5⟩
 self:=fun _ _ _ _ _ st h=>wpAny_pyIter_listiter st h
theorem qEm {P:Program}{w:World}{K:yZP}{tg:Expr}(a it:Addr):Turn P w K tg (Itt K a) [it] it (fun i h=>h.IsTupleIter it a i) where
 mem:=by simp
 obj:=fun i h st b hb=>by
  have e:b=it:=by simpa using hb
  subst e
  obtain⟨o,e,c,d⟩:=st
  exact⟨o,e,fun v z=>by rw[d] at z;cases z⟩
 keep:=fun i h h' st k=>st.at fun o e=>k it (by simp) o e
 item:=by
  intro X hP hw hK hc i zz s σ H E I hf st hg
  subst hP hw hK
  obtain⟨xs,x,hq,hx⟩:=hg
  obtain⟨its,rv,p,hz⟩:=I.tuple hq
  obtain⟨u,hu,ru⟩:=rv.get hx
  obtain⟨f0,f1,f2,f3,f4,f5⟩:=hf it (by simp)
  refine wpAny_pyNext_tuple_item st (show s.heap.IsTuple a its.toArray from p) (x:=u) (by simpa using hu) fun h' st' sb=>?_
  have I1:Inv X zz σ H { s with heap:=h' }:=I.turned (t':=s.toks) (fun b o hb e=>(sb.2 b hb).trans e) f0 f1 f3 f4 f5
  obtain⟨o,e,c,d⟩:=id st'
  exact⟨u,rfl,qTh (s:={ s with heap:=h' }) e c d (by decide) ⟨x,H,I1,ru,⟨rfl,fun ys hy=>by rw[I.tuple_inj hy hq];exact hx⟩,st',fun b hb=>(hf b hb).1⟩⟩
 done:=by
  intro X hP hw hK hc i zz s σ H E I hf st hg
  subst hP hw hK
  obtain⟨xs,hq,hx⟩:=hg
  obtain⟨its,rv,p,hz⟩:=I.tuple hq
  obtain⟨f0,f1,f2,f3,f4,f5⟩:=hf it (by simp)
  have hl:=rv.length
  exact wpAny_pyNext_tuple_end (I.ok.hd hc) st (show s.heap.IsTuple a its.toArray from p) (by simp;omega) fun h' eb=>⟨rfl,I.turned (t':=s.toks) (fun b o hb e=>eb b o hb e) f0 f1 f3 f4 f5⟩
 self:=fun _ _ _ _ _ st h=>wpAny_pyIter_tupleiter st h
theorem qEn {P:Program}{w:World}{K:yZP}{tg:Expr}(it:Addr)(lo:Int)(n:Nat):Turn P w K tg (Itr lo n) [it] it (fun i h=>IsRangeIter h it (lo+(i:Nat) * 1) ((n:Int) - (i:Nat)) 1) where
 mem:=by simp
 obj:=fun i h st b hb=>by
  have e:b=it:=by simpa using hb
  subst e
  exact⟨_,st,fun v z=>by
   have z':Data.fields _=Data.cell v:=z
   cases z'⟩
 keep:=fun i h h' st k=>k it (by simp) _ st
 item:=by
  intro X hP hw hK hc i zz s σ H E I hf st hg
  subst hP hw hK
  obtain⟨f0,f1,f2,f3,f4,f5⟩:=hf it (by simp)
  have W:=Walks.range (prog:=X.prog) (w:=X.w) (I.ok.hd hc) it lo 1 n
  refine W.item i s _ _ hg st fun v h' tk hv st' kk=>?_
  obtain⟨t,rfl⟩:=hv
  have I1:Inv X zz σ H { s with heap:=h',toks:=tk }:=I.turned (fun b o hb e=>kk b o (by simpa using hb) e) f0 f1 f3 f4 f5
  refine⟨_,rfl,qTh (s:={ s with heap:=h',toks:=tk }) (n := "range_iterator") st' rfl rfl (by decide) ⟨.int (lo+i),H,I1,⟨t,?_⟩,⟨rfl,rfl⟩,st',fun b hb=>(hf b hb).1⟩⟩
  rw[Int.mul_one]
 done:=by
  intro X hP hw hK hc i zz s σ H E I hf st hg
  subst hP hw hK
  obtain⟨f0,f1,f2,f3,f4,f5⟩:=hf it (by simp)
  exact wpAny_pyNext_range_end (I.ok.hd hc) st (by have:n<=i:=hg;omega) fun h' eb=>⟨rfl,I.turned (t':=s.toks) (fun b o hb e=>eb b o hb e) f0 f1 f3 f4 f5⟩
 self:=fun _ _ _ _ _ st h=>wpAny_pyIter_rangeiter st h
end L2
namespace L2
open PySem PySem.Spec PyProof.Rows
section
variable {X:Cx}{tg:Expr}
def iList (K:yZP)(tl:TE):TI:=fun σ H R=>tl σ H fun x H1=>∃a,x=.ref a/\(∃xs,SqL K H1 a xs)/\R (Itl K a) H1
def iTup (K:yZP)(tl:TE):TI:=fun σ H R=>tl σ H fun x H1=>∃a,x=.ref a/\(∃xs,SqT K H1 a xs)/\R (Itt K a) H1
theorem qMv {l:Expr}{tl:TE}(hl:PE X l tl):PI X tg l (iList X.K tl):=by
 intro zz s σ H R I h
 refine thn (hl zz s σ H _ I h) fun v s1 ⟨x,H1,I1,r1,q1⟩=>?_
 obtain⟨a,e,⟨xs,hq⟩,q⟩:=q1
 subst e
 cases r1
 obtain⟨its,rv,p,hz⟩:=I1.list hq
 refine wpAny_pyIter_list p.isList ?_
 refine⟨s1.heap.objs.size,[s1.heap.objs.size],_,_,H1,rfl,I1.kept (t':=s1.toks) fun b o e=>yYZ _ e,qHi a _,⟨_,yZB _ rfl,rfl,rfl⟩,fun b hb=>?_,q⟩
 have e:b=s1.heap.objs.size:=by simpa using hb
 subst e
 exact I1.fpOk (yZD _) (I1.hok.fresh (yZD _))
theorem xKo {l:Expr}{tl:TE}(hl:PE X l tl):PI X tg l (iTup X.K tl):=by
 intro zz s σ H R I h
 refine thn (hl zz s σ H _ I h) fun v s1 ⟨x,H1,I1,r1,q1⟩=>?_
 obtain⟨a,e,⟨xs,hq⟩,q⟩:=q1
 subst e
 cases r1
 obtain⟨its,rv,p,hz⟩:=I1.tuple hq
 refine wpAny_pyIter_tuple (show s1.heap.IsTuple a its.toArray from p) ?_
 refine⟨s1.heap.objs.size,[s1.heap.objs.size],_,_,H1,rfl,I1.kept (t':=s1.toks) fun b o e=>yYZ _ e,qEm a _,⟨_,yZB _ rfl,rfl,rfl⟩,fun b hb=>?_,q⟩
 have e:b=s1.heap.objs.size:=by simpa using hb
 subst e
 exact I1.fpOk (yZD _) (I1.hok.fresh (yZD _))
theorem qSx {zz:List (Addr×Obj)}{σ:St}{H:Hp}{s:Shared}{R:It->Hp->Prop}{E:Value->Shared->Prop}{lo hi:Int}{t u v:Tok}{tk:Nat}(I:Inv X zz σ H s)(h1 : -(2 ^ 62)<=lo)(h2:lo<2 ^ 62)(h3 : -(2 ^ 62)<=hi)(h4:hi<2 ^ 62)
  (q:R (Itr lo (hi - lo).toNat) H):wpAny (model X.prog X.w) X.A (pyIter (.ref s.heap.objs.size)) (PIE X zz σ tg R) E { s with heap:=s.heap.push { cls:=.type "range",data:=.fields #[.int lo t,.int hi u,.int 1 v] },toks:=tk }:=by
 refine wpAny_pyIter_range (IsRange.new ..) (small_one h1 h2 h3 h4) ?_
 have I1:Inv X zz σ H { s with heap:=s.heap.push { cls:=.type "range",data:=.fields #[.int lo t,.int hi u,.int 1 v] },toks:=tk }:=I.kept fun b o e=>yYZ _ e
 refine⟨(s.heap.push { cls:=.type "range",data:=.fields #[.int lo t,.int hi u,.int 1 v] }).objs.size,[(s.heap.push { cls:=.type "range",data:=.fields #[.int lo t,.int hi u,.int 1 v] }).objs.size],_,_,H,rfl,
  I1.kept (t':=tk) fun b o e=>yYZ _ e,qEn _ lo (hi - lo).toNat,?_,fun b hb=>?_,q⟩
 .have e1:lo+((0:Nat):Int) * 1=lo:=by simp
  have e2:(((hi - lo).toNat:Nat):Int) - ((0:Nat):Int)=Builtin.Range.rangeSize lo hi 1:=by rw[rangeSize_one];split <;> omega
  show IsRangeIter _ _ (lo+((0:Nat):Int) * 1) ((((hi - lo).toNat:Nat):Int) - ((0:Nat):Int)) 1
  rw[e1,e2]
  exact yZB _ rfl
 .have e:b=(s.heap.push { cls:=.type "range",data:=.fields #[.int lo t,.int hi u,.int 1 v] }).objs.size:=by simpa using hb
  subst e
  exact I1.fpOk (yZD _) (I1.hok.fresh (yZD _))
def iRng1 (ta:TA):TI:=fun σ H R=>ta σ H fun vs H1=>∃j:Int,vs=[.int j]/\-(2 ^ 62)<=j/\j<2 ^ 62/\R (Itr 0 j.toNat) H1
theorem yM {a:Expr}{ta:TA}{p pos:Pos}(hg:Gl X "range")(hm:X.mg "range" = none)(ha:PA X [a] ta)(hs:starEach [a] X.env=[(false,eval a X.env)]:=by rfl):PI X tg (.Call (.Name "range" p) [a] [] pos) (iRng1 ta):=by
 intro zz s σ H R I h
 refine Call_ (qQv I hg hm boot_range (PyProof.Rows.callWith_type1 (thn (ha pos zz s σ H _ I h) fun us s1 ⟨vs,H1,I1,r1,q1⟩=>?_) hs rfl))
 obtain⟨j,e,q1,q2,q⟩:=q1
 subst e
 cases r1 with
 | cons r rr=>
  cases rr
  obtain⟨t,rfl⟩:=r
  exact call_range_1 (qSx I1 (by omega) (by omega) q1 q2 (by simpa using q))
def tFor (wi:TI)(g:TG)(tb:TS):TS:=fun D σ H=>wi σ H fun J H1=>∃W:Nat->Nat->St->Hp->Prop,(∃m,W 0 m σ H1)/\∀i m σ H,W i m σ H->
 (J.stop i H/\D.nx σ H)\/(J.go i H/\∃N:St->Hp->Prop,(∀σ' H',N σ' H'->∃m',m'<m/\W (i+1) m' σ' H')/\∀x H',J.yld i H x H'->g x σ H' fun σ2 H2=>tb { D with nx:=N,ct:=N,bk:=D.nx } σ2 H2)
def pinsAt (fp:List Addr)(h:Heap):List (Addr×Obj):=fp.filterMap fun b=>(h.get? b).map fun o=>(b,o)
theorem vW {fp:List Addr}{h:Heap}{b:Addr}{o:Obj}(hb:b∈fp)(e:h.get? b=some o):(b,o)∈pinsAt fp h:=List.mem_filterMap.mpr ⟨b,hb,by rw[e];rfl⟩
theorem qMo {fp:List Addr}{h:Heap}{p:Addr×Obj}(hp:p∈pinsAt fp h):p.1∈fp/\h.get? p.1=some p.2:=by
 obtain⟨b,hb,e⟩:=List.mem_filterMap.mp hp
 cases q:h.get? b with
 | none=>rw[q] at e;cases e
 | some o=>
  rw[q] at e
  have e':(b,o)=p:=Option.some.inj e
  subst e'
  exact⟨hb,q⟩
theorem Inv.pinned {zz:List (Addr×Obj)}{σ:St}{H:Hp}{s:Shared}{fp:List Addr}(I:Inv X zz σ H s)(hf:∀b∈fp,FpOk X zz H b)(ho:∀b∈fp,∃o,s.heap.get? b=some o/\∀v,o.data≠.cell v):Inv X (zz++pinsAt fp s.heap) σ H s:=
 I.pins_of fun p hp=>(yYS.mp hp).elim (fun z=>I.pin p (yYN _ z)) fun z=>by
  obtain⟨hb,e⟩:=qMo z
  obtain⟨f0,f1,f2,_⟩:=hf p.1 hb
  obtain⟨o,e',d⟩:=ho p.1 hb
  rw[e] at e';cases e'
  exact⟨e,f0,f1,f2,d⟩
theorem Inv.unpinned {zz pl:List (Addr×Obj)}{σ:St}{H:Hp}{s:Shared}(I:Inv X (zz++pl) σ H s):Inv X zz σ H s:=I.pins_of fun p hp=>I.pin p (yYN _ (List.mem_append_left _ hp))
theorem xT {iter:Expr}{body:List Stmt}{wi:TI}{g:TG}{tb:TS}{pos:Pos}(hp:PassesOwn (model X.prog X.w) X.A X.env X.xe)(hc:X.calm=true)(hi:PI X tg iter wi)(hg:PG X tg g)(hb:PSs X body tb)
  (hs:∀x,foldedSetIterable iter X.env x=pure x:=by intro _;rfl):PS X (.For tg iter body [] pos) (tFor wi g tb):=by
 intro zz s σ H D I h
 refine wpAny_For (thn (hi zz s σ H _ I h) fun v s1 h1=>thn h1 fun itv s2 h2=>?_) hs
 obtain⟨it,fp,tn,J,H2,e,I2,T,st2,f2,W,⟨m0,w0⟩,turn⟩:=h2
 subst e
 have stat:∀{H':Hp},(∀b∈fp,H' b=none)->∀b∈fp,FpOk X zz H' b:=fun hn b hb=>⟨hn b hb,(f2 b hb).2⟩
 refine codeAny_forLoop_any (fun n s'=>∃i σ' H',Inv X zz σ' H' s'/\tn i s'.heap/\(∀b∈fp,H' b=none)/\W i n σ' H') ?_ m0 ⟨0,σ,H2,I2,st2,fun b hb=>(f2 b hb).1,w0⟩
 rintro n s3 ⟨i,σ3,H3,I3,st3,fr3,w3⟩
 rcases turn i n σ3 H3 w3 with⟨stop,qn⟩ | ⟨go,N,hN,step⟩
 .refine wpAny_passesOwn hp (thn (T.done X rfl rfl rfl hc i zz s3 σ3 H3 X.xe I3 (stat fr3) st3 stop) fun r s4 ⟨hr,I4⟩=>?_)
  subst hr
  exact wpAny_execs_nil ⟨σ3,H3,I4,qn⟩
 .refine wpAny_passesOwn hp (thn (T.item X rfl rfl rfl hc i zz s3 σ3 H3 X.xe I3 (stat fr3) st3 go) fun r s4 ⟨u,hr,h4⟩=>?_)
  subst hr
  refine wpAny_passesOwn hp (thn h4 fun _ s5 ⟨x,H5,I5,r5,y5,st5,fr5⟩=>?_)
  have I5':=I5.pinned (stat fr5) (T.obj _ _ st5)
  refine wpAny_passesOwn hp (thn (hg _ s5 σ3 H5 x u _ I5' r5 (step x H5 y5)) fun _ s6 ⟨σ6,H6,I6,q6⟩=>?_)
  refine wpAny_passesOwn hp (thn (hb _ s6 σ6 H6 _ I6 q6) fun f s7 q7=>?_)
  have again:∀{σ7:St} {H7:Hp},Inv X (zz++pinsAt fp s5.heap) σ7 H7 s7->N σ7 H7->∃m,m<n/\∃i σ' H',Inv X zz σ' H' s7/\tn i s7.heap/\(∀b∈fp,H' b=none)/\W i m σ' H':=fun{σ7 H7} I7 n7=>by
   obtain⟨m',hm,w7⟩:=hN σ7 H7 n7
   refine⟨m',hm,i+1,σ7,H7,I7.unpinned,T.keep _ _ _ st5 fun b hb o e=>(I7.pin (b,o) (yYN _ (yYN _ (vW hb e)))).1,fun b hb=>?_,w7⟩
   obtain⟨o,e,d⟩:=T.obj _ _ st5 b hb
   exact(I7.pin (b,o) (yYN _ (yYN _ (vW hb e)))).2.1
  cases f with
  | next=>obtain⟨σ7,H7,I7,n7⟩:=q7;exact again I7 n7
  | cont=>obtain⟨σ7,H7,I7,n7⟩:=q7;exact again I7 n7
  | brk=>obtain⟨σ7,H7,I7,q7⟩:=q7;exact⟨σ7,H7,I7.unpinned,q7⟩
  | ret v=>obtain⟨x7,σ7,H7,I7,r7,q7⟩:=q7;exact⟨x7,σ7,H7,I7.unpinned,r7,q7⟩
end
theorem jK {K:yZP}{a:Addr}{xs:List V}{g:TG}{tb:TS}{D:Ends}{σ:St}{H:Hp}(Pv:Nat->St->Hp->Prop)(h0:Pv 0 σ H)(hl:∀i σ H,i<=xs.length->Pv i σ H->SqL K H a xs)
  (hs:∀i x σ H,xs[i]? = some x->Pv i σ H->g x σ H fun σ2 H2=>tb { D with nx:=Pv (i+1),ct:=Pv (i+1),bk:=D.nx } σ2 H2) (hd:∀σ H,Pv xs.length σ H->D.nx σ H):
  ∃W:Nat->Nat->St->Hp->Prop,(∃m,W 0 m σ H)/\∀i m σ H,W i m σ H->
   ((Itl K a).stop i H/\D.nx σ H)\/((Itl K a).go i H/\∃N:St->Hp->Prop,(∀σ' H',N σ' H'->∃m',m'<m/\W (i+1) m' σ' H')/\∀x H',(Itl K a).yld i H x H'->g x σ H' fun σ2 H2=>tb { D with nx:=N,ct:=N,bk:=D.nx } σ2 H2):=by
 refine⟨fun i m σ H=>m=xs.length - i/\i<=xs.length/\Pv i σ H,⟨xs.length,by simp,yZG _,h0⟩,?_⟩
 rintro i m σ H ⟨rfl,hi,p⟩
 have q:=hl i σ H hi p
 by_cases hlt:i<xs.length
 .refine .inr ⟨⟨xs,xs[i],q,by simp[hlt]⟩,Pv (i+1),fun σ' H' p'=>⟨xs.length - (i+1),by omega,rfl,hlt,p'⟩,fun x H' y=>?_⟩
  obtain⟨e,y⟩:=y
  subst e
  exact hs i x σ _ (y xs q) p
 .have e:i=xs.length:=by omega
  subst e
  exact .inl ⟨⟨xs,q,yZD _⟩,hd σ H p⟩
theorem xJf {K:yZP}{a:Addr}{xs:List V}{g:TG}{tb:TS}{D:Ends}{σ:St}{H:Hp}(Pv:Nat->St->Hp->Prop)(h0:Pv 0 σ H)(hl:∀i σ H,i<=xs.length->Pv i σ H->SqT K H a xs)
  (hs:∀i x σ H,xs[i]? = some x->Pv i σ H->g x σ H fun σ2 H2=>tb { D with nx:=Pv (i+1),ct:=Pv (i+1),bk:=D.nx } σ2 H2) (hd:∀σ H,Pv xs.length σ H->D.nx σ H):
  ∃W:Nat->Nat->St->Hp->Prop,(∃m,W 0 m σ H)/\∀i m σ H,W i m σ H->
   ((Itt K a).stop i H/\D.nx σ H)\/((Itt K a).go i H/\∃N:St->Hp->Prop,(∀σ' H',N σ' H'->∃m',m'<m/\W (i+1) m' σ' H')/\∀x H',(Itt K a).yld i H x H'->g x σ H' fun σ2 H2=>tb { D with nx:=N,ct:=N,bk:=D.nx } σ2 H2):=by
 refine⟨fun i m σ H=>m=xs.length - i/\i<=xs.length/\Pv i σ H,⟨xs.length,by simp,yZG _,h0⟩,?_⟩
 rintro i m σ H ⟨rfl,hi,p⟩
 have q:=hl i σ H hi p
 by_cases hlt:i<xs.length
 .refine .inr ⟨⟨xs,xs[i],q,by simp[hlt]⟩,Pv (i+1),fun σ' H' p'=>⟨xs.length - (i+1),by omega,rfl,hlt,p'⟩,fun x H' y=>?_⟩
  obtain⟨e,y⟩:=y
  subst e
  exact hs i x σ _ (y xs q) p
 .have e:i=xs.length:=by omega
  subst e
  exact .inl ⟨⟨xs,q,yZD _⟩,hd σ H p⟩
theorem qOx {lo:Int}{n:Nat}{g:TG}{tb:TS}{D:Ends}{σ:St}{H:Hp}(Pv:Nat->St->Hp->Prop)(h0:Pv 0 σ H)
  (hs:∀i σ H,i<n->Pv i σ H->g (.int (lo+i)) σ H fun σ2 H2=>tb { D with nx:=Pv (i+1),ct:=Pv (i+1),bk:=D.nx } σ2 H2) (hd:∀σ H,Pv n σ H->D.nx σ H):
  ∃W:Nat->Nat->St->Hp->Prop,(∃m,W 0 m σ H)/\∀i m σ H,W i m σ H->
   ((Itr lo n).stop i H/\D.nx σ H)\/((Itr lo n).go i H/\∃N:St->Hp->Prop,(∀σ' H',N σ' H'->∃m',m'<m/\W (i+1) m' σ' H')/\∀x H',(Itr lo n).yld i H x H'->g x σ H' fun σ2 H2=>tb { D with nx:=N,ct:=N,bk:=D.nx } σ2 H2):=by
 refine⟨fun i m σ H=>m=n - i/\i<=n/\Pv i σ H,⟨n,by simp,yZG _,h0⟩,?_⟩
 rintro i m σ H ⟨rfl,hi,p⟩
 by_cases hlt:i<n
 .refine .inr ⟨hlt,Pv (i+1),fun σ' H' p'=>⟨n - (i+1),by omega,rfl,hlt,p'⟩,fun x H' y=>?_⟩
  obtain⟨e,y⟩:=y
  subst e y
  exact hs i σ _ hlt p
 .have e:i=n:=by omega
  subst e
  exact .inl ⟨yZD _,hd σ H p⟩
end L2
namespace L2
open PySem PySem.Spec PyProof.Rows
abbrev R2:=V->V->Hp->VK->Prop
def OpR (X:Cx)(f:Value->Value->Sem Value)(r:R2):Prop:=
 ∀(zz:List (Addr×Obj)) (s:Shared) (σ:St) (H:Hp) (x y:V) (v u:Value) (Q:VK),Inv X zz σ H s->RelV x v->RelV y u->r x y H Q->
  wpAny (model X.prog X.w) X.A (f v u) (EP X zz σ Q) X.xe s
def CallR (X:Cx)(f:Value)(r:List V->Hp->VK->Prop):Prop:=
 ∀(zz:List (Addr×Obj)) (s:Shared) (σ:St) (H:Hp) (xs:List V) (us:List Value) (Q:VK),Inv X zz σ H s->Vals xs us->r xs H Q->
  wpAny (model X.prog X.w) X.A (call f us) (EP X zz σ Q) X.xe s
def tOp (r:R2)(ta tb:TE):TE:=fun σ H Q=>ta σ H fun x H1=>tb σ H1 fun y H2=>r x y H2 Q
def rI (C:Int->Int->Prop)(g:Int->Int->V):R2:=fun x y H Q=>∃i j,x=.int i/\y=.int j/\C i j/\Q (g i j) H
def rI0 (g:Int->Int->V):R2:=fun x y H Q=>∃i j,x=.int i/\y=.int j/\Q (g i j) H
section
variable {X:Cx}{a b c:Expr}{ta tb tc:TE}{pos:Pos}
theorem binT (ha:PE X a ta)(hb:PE X b tb){zz:List (Addr×Obj)}{s:Shared}{σ:St}{H:Hp}{R:V->V->Hp->Prop}(I:Inv X zz σ H s)
  (h:ta σ H fun x H1=>tb σ H1 fun y H2=>R x y H2) {Q:Value->Shared->Prop} {f:Value->Value->Sem Value}
  (hf:∀v u s2 x y H2,Inv X zz σ H2 s2->RelV x v->RelV y u->R x y H2->wpAny (model X.prog X.w) X.A (f v u) Q X.xe s2):
  wpAny (model X.prog X.w) X.A (eval a X.env) (fun v s₁=>wpAny (model X.prog X.w) X.A (eval b X.env) (fun u s₂=>wpAny (model X.prog X.w) X.A (f v u) Q X.xe s₂) X.xe s₁) X.xe s:=by
 refine thn (ha zz s σ H _ I h) fun v s1 ⟨x,H1,I1,r1,q1⟩=>?_
 refine thn (hb zz s1 σ H1 _ I1 q1) fun u s2 ⟨y,H2,I2,r2,q2⟩=>?_
 exact hf v u s2 x y H2 I2 r1 r2 q2
theorem xX {op:Operator}{r:R2}(ho:OpR X (binaryOp op) r)(ha:PE X a ta)(hb:PE X b tb):PE X (.BinOp a op b pos) (tOp r ta tb):=by
 intro zz s σ H Q I h
 exact wpAny_BinOp (binT ha hb I h fun v u s2 x y H2 I2 rx ry q=>ho zz s2 σ H2 x y v u Q I2 rx ry q)
theorem opI {f:Value->Value->Sem Value}{C:Int->Int->Prop}{g:Int->Int->Int}
  (rule:∀(i j:Int) (t u:Tok) (s:Shared) (Q:Value->Shared->Prop) (E:Value->Shared->Prop),C i j->Q (.int (g i j) s.toks) { s with toks:=s.toks+1 }->wpAny (model X.prog X.w) X.A (f (.int i t) (.int j u)) Q E s):
  OpR X f (rI C fun i j=>.int (g i j)):=by
 intro zz s σ H x y v u Q I rx ry h
 obtain⟨i,j,rfl,rfl,hc,q⟩:=h
 obtain⟨t,rfl⟩:=rx
 obtain⟨t',rfl⟩:=ry
 exact rule i j t t' s _ _ hc ⟨.int (g i j),H,I.tok _,⟨_,rfl⟩,q⟩
theorem opI0 {f:Value->Value->Sem Value}{g:Int->Int->Int}
  (rule:∀(i j:Int) (t u:Tok) (s:Shared) (Q:Value->Shared->Prop) (E:Value->Shared->Prop),Q (.int (g i j) s.toks) { s with toks:=s.toks+1 }->wpAny (model X.prog X.w) X.A (f (.int i t) (.int j u)) Q E s):
  OpR X f (rI0 fun i j=>.int (g i j)):=by
 intro zz s σ H x y v u Q I rx ry h
 obtain⟨i,j,rfl,rfl,q⟩:=h
 obtain⟨t,rfl⟩:=rx
 obtain⟨t',rfl⟩:=ry
 exact rule i j t t' s _ _ ⟨.int (g i j),H,I.tok _,⟨_,rfl⟩,q⟩
theorem opB0 {f:Value->Value->Sem Value}{g:Int->Int->Bool}
  (rule:∀(i j:Int) (t u:Tok) (s:Shared) (Q:Value->Shared->Prop) (E:Value->Shared->Prop),Q (.bool (g i j)) s->wpAny (model X.prog X.w) X.A (f (.int i t) (.int j u)) Q E s):
  OpR X f (rI0 fun i j=>.bl (g i j)):=by
 intro zz s σ H x y v u Q I rx ry h
 obtain⟨i,j,rfl,rfl,q⟩:=h
 obtain⟨t,rfl⟩:=rx
 obtain⟨t',rfl⟩:=ry
 exact rule i j t t' s _ _ ⟨.bl (g i j),H,I,rfl,q⟩
def CPow (i j:Int):Prop:=0<=j/\j<=1000000/\i.natAbs<2 ^ 64
theorem qQj:OpR X (binaryOp .Add) (rI0 fun i j=>.int (i+j)):=opI0 fun _ _ _ _ _ _ _ q=>add_int q
theorem xQe:OpR X (binaryOp .Sub) (rI0 fun i j=>.int (i - j)):=opI0 fun _ _ _ _ _ _ _ q=>sub_int q
theorem qJa:OpR X (binaryOp .Mod) (rI (fun _ j=>0<j) fun i j=>.int (i % j)):=opI fun i j _ _ _ _ _ hc q=>by
 have h1:(0:Int)<j:=hc
 exact mod_int' (by omega) (by rw[Int.fmod_eq_emod_of_nonneg i (by omega)];exact q)
theorem xVv:OpR X (binaryOp .Pow) (rI CPow fun i j=>.int (i ^ j.toNat)):=opI fun _ _ _ _ _ _ _ hc q=>pow_int_small hc.1 hc.2.1 hc.2.2 q
theorem qEj:OpR X (binaryOp .BitAnd) (rI0 fun i j=>.int (Builtin.bitAnd i j)):=opI0 fun _ _ _ _ _ _ _ q=>and_int q
theorem xJc:OpR X (inplaceOp .Add) (rI0 fun i j=>.int (i+j)):=opI0 fun _ _ _ _ _ _ _ q=>iadd_int q
theorem xQm:OpR X (inplaceOp .BitOr) (rI0 fun i j=>.int (Builtin.bitOr i j)):=opI0 fun _ _ _ _ _ _ _ q=>ior_int q
end
def scal:V->V->Bool
 | .non,.non=>true | .non,.int _=>true | .int _,.non=>true | .non,.bl _=>true | .bl _,.non=>true | .non,.str _=>true | .str _,.non=>true
 | .int _,.int _=>true | .bl _,.bl _=>true | .str _,.str _=>true | .byt _,.byt _=>true
 | .int _,.str _=>true | .str _,.int _=>true | .bl _,.str _=>true | .str _,.bl _=>true
 | _,_=>false
def rEq:R2:=fun x y H Q=>scal x y=true/\Q (.bl (decide (x=y))) H
def rNe:R2:=fun x y H Q=>scal x y=true/\Q (.bl (!decide (x=y))) H
theorem qPx {i j:Int}:decide (V.int i=V.int j)=(i == j):=by
 rw[Bool.eq_iff_iff]
 simp
theorem xXx {i j:Bool}:decide (V.bl i=V.bl j)=(i == j):=by
 rw[Bool.eq_iff_iff]
 simp
theorem qPq {i j:Str}:decide (V.str i=V.str j)=(i == j):=by
 rw[Bool.eq_iff_iff]
 simp
theorem qPz {i j:Array UInt8}:decide (V.byt i=V.byt j)=(i.toList == j.toList):=by
 rw[Bool.eq_iff_iff]
 cases i
 cases j
 simp
section
variable {X:Cx}{a b c:Expr}{ta tb tc:TE}{pos:Pos}
theorem zX {zz:List (Addr×Obj)}{σ:St}{H:Hp}{s:Shared}{Q:VK}{k k':Bool}(I:Inv X zz σ H s)(q:Q (.bl k) H)(e:k=k'):EP X zz σ Q (.bool k') s:=by
 subst e
 exact⟨.bl k,H,I,rfl,q⟩
theorem jM:OpR X (compareOp .Eq) rEq:=by
 intro zz s σ H x y v u Q I rx ry h
 obtain⟨hs,q⟩:=h
 cases x with
 | non=>
  cases rx
  cases y with
  | non=>cases ry;exact PySem.EqNone.eq_none_none (zX I q (by simp))
  | bl j=>cases ry;exact PySem.EqNone.eq_none_bool (zX I q (by simp))
  | int j=>obtain⟨t',rfl⟩:=ry;exact PySem.EqNone.eq_none_int (zX I q (by simp))
  | str j=>obtain⟨t',rfl⟩:=ry;exact PySem.EqNone.eq_none_str (zX I q (by simp))
  | _=>exact absurd (show false=true from hs) yZL
 | bl i=>
  cases rx
  cases y with
  | non=>cases ry;exact PySem.EqNone.eq_bool_none (zX I q (by simp))
  | bl j=>cases ry;exact eq_bool (zX I q xXx)
  | str j=>obtain⟨t',rfl⟩:=ry;exact PySem.EqMixed.eq_bool_str (zX I q (by simp))
  | _=>exact absurd (show false=true from hs) yZL
 | int i=>
  obtain⟨t,rfl⟩:=rx
  cases y with
  | non=>cases ry;exact PySem.EqNone.eq_int_none (zX I q (by simp))
  | int j=>obtain⟨t',rfl⟩:=ry;exact eq_int (zX I q qPx)
  | str j=>obtain⟨t',rfl⟩:=ry;exact PySem.EqMixed.eq_int_str (zX I q (by simp))
  | _=>exact absurd (show false=true from hs) yZL
 | str i=>
  obtain⟨t,rfl⟩:=rx
  cases y with
  | non=>cases ry;exact PySem.EqNone.eq_str_none (zX I q (by simp))
  | bl j=>cases ry;exact PySem.EqMixed.eq_str_bool (zX I q (by simp))
  | int j=>obtain⟨t',rfl⟩:=ry;exact PySem.EqMixed.eq_str_int (zX I q (by simp))
  | str j=>obtain⟨t',rfl⟩:=ry;exact eq_str (zX I q qPq)
  | _=>exact absurd (show false=true from hs) yZL
 | byt i=>
  obtain⟨t,rfl⟩:=rx
  cases y with
  | byt j=>obtain⟨t',rfl⟩:=ry;exact PySem.W.eq_bytes (zX I q qPz)
  | _=>exact absurd (show false=true from hs) yZL
 | _=>cases y <;> exact absurd (show false=true from hs) yZL
theorem xVb:OpR X (compareOp .NotEq) rNe:=by
 intro zz s σ H x y v u Q I rx ry h
 obtain⟨hs,q⟩:=h
 cases x with
 | non=>
  cases rx
  cases y with
  | non=>cases ry;exact PySem.EqNone.ne_none_none (zX I q (by simp))
  | bl j=>cases ry;exact PySem.EqNone.ne_none_bool (zX I q (by simp))
  | int j=>obtain⟨t',rfl⟩:=ry;exact PySem.EqNone.ne_none_int (zX I q (by simp))
  | str j=>obtain⟨t',rfl⟩:=ry;exact PySem.EqNone.ne_none_str (zX I q (by simp))
  | _=>exact absurd (show false=true from hs) yZL
 | bl i=>
  cases rx
  cases y with
  | non=>cases ry;exact PySem.EqNone.ne_bool_none (zX I q (by simp))
  | bl j=>cases ry;exact ne_bool (zX I q (congrArg not xXx))
  | str j=>obtain⟨t',rfl⟩:=ry;exact PySem.EqMixed.ne_bool_str (zX I q (by simp))
  | _=>exact absurd (show false=true from hs) yZL
 | int i=>
  obtain⟨t,rfl⟩:=rx
  cases y with
  | non=>cases ry;exact PySem.EqNone.ne_int_none (zX I q (by simp))
  | int j=>obtain⟨t',rfl⟩:=ry;exact ne_int (zX I q (congrArg not qPx))
  | str j=>obtain⟨t',rfl⟩:=ry;exact PySem.EqMixed.ne_int_str (zX I q (by simp))
  | _=>exact absurd (show false=true from hs) yZL
 | str i=>
  obtain⟨t,rfl⟩:=rx
  cases y with
  | non=>cases ry;exact PySem.EqNone.ne_str_none (zX I q (by simp))
  | bl j=>cases ry;exact PySem.EqMixed.ne_str_bool (zX I q (by simp))
  | int j=>obtain⟨t',rfl⟩:=ry;exact PySem.EqMixed.ne_str_int (zX I q (by simp))
  | str j=>obtain⟨t',rfl⟩:=ry;exact ne_str (zX I q (congrArg not qPq))
  | _=>exact absurd (show false=true from hs) yZL
 | byt i=>
  obtain⟨t,rfl⟩:=rx
  cases y with
  | byt j=>obtain⟨t',rfl⟩:=ry;exact PySem.W.ne_bytes (zX I q (congrArg not qPz))
  | _=>exact absurd (show false=true from hs) yZL
 | _=>cases y <;> exact absurd (show false=true from hs) yZL
theorem qFc:OpR X (compareOp .Lt) (rI0 fun i j=>.bl (decide (i<j))):=opB0 fun _ _ _ _ _ _ _ q=>lt_int q
theorem xVe:OpR X (compareOp .Gt) (rI0 fun i j=>.bl (decide (j<i))):=opB0 fun _ _ _ _ _ _ _ q=>gt_int q
theorem xVc:OpR X (compareOp .Is) (fun x y H Q=>y=.non/\Q (.bl (decide (x=.non))) H):=by
 intro zz s σ H x y v u Q I rx ry h
 obtain⟨rfl,q⟩:=h
 cases ry
 refine is_none_gen (zX I q ?_)
 cases x <;> first
  | (cases rx;rfl)
  | (obtain⟨t,rfl⟩:=rx;rfl)
theorem xE (b:Expr){op:CmpOp}(h:op≠.In:=by decide)(h2:op≠.NotIn:=by decide):behindInMarks op b=false:=by
 have e1:(op == CmpOp.In)=false:=by cases op <;> first | rfl | exact absurd rfl h
 have e2:(op == CmpOp.NotIn)=false:=by cases op <;> first | rfl | exact absurd rfl h2
 cases b <;> simp[behindInMarks,e1,e2]
theorem kX {op:CmpOp}{r:R2}(ho:OpR X (compareOp op) r)(ha:PE X a ta)(hb:PE X b tb)(hm:behindInMarks op b=false):PE X (.Compare a [op] [b] pos) (tOp r ta tb):=by
 intro zz s σ H Q I h
 exact wpAny_Compare1 (binT ha hb I h fun v u s2 x y H2 I2 rx ry q=>ho zz s2 σ H2 x y v u Q I2 rx ry q) hm
def tTest (t:TE):TT:=fun σ H Q=>t σ H fun x H'=>∃k,x=.bl k/\Q k H'
theorem qS {op:CmpOp}{r:R2}(ho:OpR X (compareOp op) r)(ha:PE X a ta)(hb:PE X b tb)(hm:behindInMarks op b=false):PT X (.Compare a [op] [b] pos) (tTest (tOp r ta tb)):=by
 intro zz s σ H Q I h
 refine wpAny_isTrue_Compare1 (thn (ha zz s σ H _ I h) fun v s1 ⟨x,H1,I1,r1,q1⟩=>thn (hb zz s1 σ H1 _ I1 q1) fun u s2 ⟨y,H2,I2,r2,q2⟩=>
  thn (ho zz s2 σ H2 x y v u _ I2 r1 r2 q2) fun c s3 ⟨z,H3,I3,r3,k,e,q3⟩=>?_) hm
 subst e
 cases r3
 exact wpAny_truthy_bool ⟨H3,I3,q3⟩
theorem line63:(sizeLine:Nat)<2 ^ 63:=by rw[sizeLine_eq];decide
theorem vals1 {x:V}{us:List Value}(r:Vals [x] us):∃u,us=[u]/\RelV x u:=by
 cases r with
 | cons r1 r2=>cases r2;exact⟨_,rfl,r1⟩
theorem vals2 {x y:V}{us:List Value}(r:Vals [x,y] us):∃u w',us=[u,w']/\RelV x u/\RelV y w':=by
 cases r with
 | cons r1 r2=>
  cases r2 with
  | cons r3 r4=>cases r4;exact⟨_,_,rfl,r1,r3⟩
theorem qUl:CallR X (.builtin "abs") (fun xs H Q=>∃i,xs=[.int i]/\Q (.int (if i<0 then -i else i)) H):=by
 intro zz s σ H xs us Q I r h
 obtain⟨i,rfl,q⟩:=h
 obtain⟨u,rfl,t,rfl⟩:=vals1 r
 exact call_abs_int fun u tk=>⟨.int (if i<0 then -i else i),H,I.tok _,⟨_,rfl⟩,q⟩
theorem qAj:CallR X (.type "int") (fun xs H Q=>(∃i,xs=[.int i]/\Q (.int i) H)\/∃k,xs=[.bl k]/\Q (.int (if k then 1 else 0)) H):=by
 intro zz s σ H xs us Q I r h
 rcases h with⟨i,rfl,q⟩ | ⟨k,rfl,q⟩
 .obtain⟨u,rfl,t,rfl⟩:=vals1 r
  exact call_int_int ⟨.int i,H,I,⟨_,rfl⟩,q⟩
 .obtain⟨u,rfl,r1⟩:=vals1 r
  cases r1
  exact call_int_bool ⟨.int (if k then 1 else 0),H,I.tok _,⟨_,rfl⟩,q⟩
end
end L2
namespace L2
open PySem PySem.Spec PyProof.Rows
structure ObjM (h:Heap)(x dx C:Addr)(mA:Str->Option Value):Prop where
 obj:h.get? x=some (PySem.W.instObj C dx)
 ns:h.Ns1 dx mA
 ne:dx≠x
theorem qNj {h:Heap}{dx:Addr}{mA:Str->Option Value}(n:h.Ns1 dx mA):∃od,h.get? dx=some od/\∀name,PySem.W.lookIn name od=some (mA name):=by
 obtain⟨o,es,ep,ho,hd,hk,_,hm⟩:=n
 refine⟨o,ho,fun name=>?_⟩
 have e:=hm name
 unfold nsFind findBy at e
 rw[<- Array.find?_toList] at e
 unfold PySem.W.lookIn
 rw[hd]
 dsimp only
 split
 .rename_i y q
  rw[q] at e
  exact congrArg some e
 .rename_i q
  rw[q] at e
  have a:es.toList.any (·.refKey)=false:=by
   rw[List.any_eq_false]
   intro y hy
   obtain⟨z,t,hkey⟩:=hk y (Array.mem_toList_iff.mp hy)
   simp[DictEntry.refKey,hkey]
  have a':¬es.toList.any (·.refKey)=true:=by rw[a];exact yZL
  rw[if_neg a']
  exact congrArg some e
theorem ObjM.look {h:Heap}{x dx C:Addr}{mA:Str->Option Value}(I:ObjM h x dx C mA):∃od,PySem.W.InstAt h x (PySem.W.instObj C dx) C (some od)/\∀name,PySem.W.lookIn name od=some (mA name):=
 let ⟨od,ho,hl⟩:=qNj I.ns
 ⟨od,⟨I.obj,rfl,rfl,ho⟩,hl⟩
section
variable {prog:Program}{w:World}{A:Around}{E:Value->Shared->Prop}{s:Shared}{K:yZP}{x dx C f:Addr}{mA:Str->Option Value}{name:Str}{v:Value}
theorem xJe {expr:Bool}{Q:Value->Shared->Prop}(X:K.In s.heap)(I:ObjM s.heap x dx C mA)(hg:PySem.W.plainGet K C name=true)(hh:PySem.W.hasDictIn K C=true)
  (ha:PySem.W.findIn K (.ref C) name=some none) (hv:mA name=some v) (hv':PySem.W.handedIn v=true) (h:Q v { s with toks:=s.toks+1 }):
  wpAny (model prog w) A (getAttr (.ref x) name expr) Q E s:=by
 obtain⟨od,J,hl⟩:=I.look
 exact PySem.W.get_value X J (PySem.W.plainGet_of hg).1 (PySem.W.findObj_own hh ha rfl (by rw[hl,hv])) hv' h
theorem qTi {pl:Sem Bool}{Q:Value×List Value->Shared->Prop}(X:K.In s.heap)(I:ObjM s.heap x dx C mA)(hg:PySem.W.plainGet K C name=true)
  (hf:PySem.W.findIn K (.ref C) name=some (some (.ref f))) (ht:PySem.W.isFn K (.ref f)=true) (hv:mA name=none) (h:Q (.ref f,[.ref x]) s):
  wpAny (model prog w) A (getMethod (.ref x) name pl) Q E s:=by
 obtain⟨od,J,hl⟩:=I.look
 exact PySem.W.method_fn X J (PySem.W.plainGet_of hg).1 (PySem.W.plainGet_of hg).2 hf (beq_iff_eq.mp ht) (by show(PySem.W.lookIn name od).map (·.isSome)=some false;rw[hl,hv];rfl) h
theorem xXi {ns:List Str}{Q:Unit->Shared->Prop}(X:K.In s.heap)(I:ObjM s.heap x dx C mA)
  (hs:PySem.W.findIn K (.ref C) "__setattr__" = some (some (.builtin "object.__setattr__"))) (hp:PySem.W.plainOver K C=true) (ht:PySem.W.takerIn K C name=some none) (hh:PySem.W.hasDictIn K C=true)
  (hw:PySem.Within mA ns) (hsz:ns.length<=sizeLine)
  (h:∀h',ObjM h' x dx C (fun y=>if y=name then some v else mA y)->Heap.SameBut dx s.heap h'->Q () { s with heap:=h',toks:=s.toks+2 }):
  wpAny (model prog w) A (setAttr (.ref x) name v) Q E s:=by
 obtain⟨od,J,hl⟩:=I.look
 refine PySem.W.set_plain X J hs (PySem.W.osa_open (s:={ s with toks:=s.toks+1 }) (r:=none) X J hp ht fun b=>?_)
 obtain⟨cd,hc,hd'⟩:=PySem.W.any_some hh
 have hx:s.heap.get? x=some ⟨.ref C,some dx,.plain,#[]⟩:=I.obj
 refine yYX (yYY (yYX (yYX (wpAny_loadPart hx (yYX (PySem.W.Looks.here (s:={ s with toks:=s.toks+1 }) (PySem.W.looks_clsIn X hc) ?_))))))
 rw[hd']
 refine yYY (a:=some dx) (yYX (yYY (yYX ?_)))
 refine wpAny_nsSet1 (s:={ s with toks:=s.toks+1 }) I.ns fun h' hn2 hs2=>?_
 obtain⟨oD,esD,epD,hoD,hdD,hcD⟩:=hn2.count (PySem.Within.cons name v hw)
 refine yYX (wpAny_lookBehind hoD (by rw[hdD];exact pastItsLine_dict (yZJ hcD (by rw[yYT];omega))) ?_)
 exact yYY (h _ ⟨(hs2.2 _ (Ne.symm I.ne)).trans I.obj,hn2,I.ne⟩ hs2)
theorem qTz {R:Result->Shared->Prop}{vs:List Value}{kw:List (Str×Value)}(X:K.In s.heap)(hm:PySem.W.makesIn K C=true)
  (hi:PySem.W.findIn K (.ref C) "__init__" = some (some (.ref f))) (hf:PySem.W.typeIn K (.ref f)=some (.type "function"))
  (h:codeAny (model prog w) (A.under (.builtin "type.__call__" ⟨.ref C::vs,kw⟩)) (.call (.ref f) ⟨.ref (s.heap.objs.size+1)::vs,kw⟩) (PySem.W.InitBack (s.heap.objs.size+1) R)
   { s with heap:=(s.heap.push PySem.W.emptyDict).push (PySem.W.instObj C s.heap.objs.size) }):
  codeAny (model prog w) A (.call (.ref C) ⟨vs,kw⟩) R s:=by
 obtain⟨hh,g,d,t,os⟩:=s
 exact PySem.W.make_core (PySem.W.makes_of X hm) (PySem.W.looks_findIn X hi) (fun self=>PySem.W.bind_fn X self hf) (.inl rfl) h
end
def putF (f:Str)(v:V):List (Str×V)->List (Str×V)
 | []=>[(f,v)]
 | (g,x)::r=>if g=f then (g,v)::r else (g,x)::putF f v r
theorem qZx (f g:Str)(v:V):∀fs:List (Str×V),(putF f v fs).lookup g=if g=f then some v else fs.lookup g
 | []=>by
  show List.lookup g [(f,v)]=_
  by_cases h:g=f
  .have hb:(g == f)=true:=beq_iff_eq.mpr h
   simp only[List.lookup,hb,if_pos h]
  .have hb:(g == f)=false:=beq_eq_false_iff_ne.mpr h
   simp only[List.lookup,hb,if_neg h]
 | (k,x)::r=>by
  have ih:=qZx f g v r
  rw[show putF f v ((k,x)::r)=(if k=f then (k,v)::r else (k,x)::putF f v r) from rfl]
  by_cases hk:k=f
  .rw[if_pos hk]
   by_cases h:g=k
   .have hb:(g == k)=true:=beq_iff_eq.mpr h
    simp only[List.lookup,hb,if_pos (h.trans hk)]
   .have hb:(g == k)=false:=beq_eq_false_iff_ne.mpr h
    simp only[List.lookup,hb,if_neg (fun e:g=f=>h (e.trans hk.symm))]
  .rw[if_neg hk]
   by_cases h:g=k
   .have hb:(g == k)=true:=beq_iff_eq.mpr h
    simp only[List.lookup,hb,if_neg (fun e:g=f=>hk (h.symm.trans e))]
   .have hb:(g == k)=false:=beq_eq_false_iff_ne.mpr h
    simp only[List.lookup,hb]
    exact ih
theorem qZv (f:Str)(v:V):∀fs:List (Str×V),f∈(putF f v fs).map (·.1)/\∀g,g∈fs.map (·.1)->g∈(putF f v fs).map (·.1)
 | []=>⟨by simp[putF],fun g h=>by simp at h⟩
 | (k,x)::r=>by
  obtain⟨i1,i2⟩:=qZv f v r
  rw[show putF f v ((k,x)::r)=(if k=f then (k,v)::r else (k,x)::putF f v r) from rfl]
  by_cases hk:k=f
  .rw[if_pos hk]
   subst hk
   exact⟨by simp,fun g h=>by simpa using h⟩
  .rw[if_neg hk]
   refine⟨?_,fun g h=>?_⟩
   .rw[List.map_cons]
    exact yYH _ i1
   .rw[List.map_cons] at h ⊢
    rcases yYK.mp h with e | e
    .exact yYK.mpr (.inl e)
    .exact yYH _ (i2 g e)
theorem qZj (f:Str)(v:V):∀fs:List (Str×V),(putF f v fs).length<=fs.length+1
 | []=>by simp[putF]
 | (k,x)::r=>by
  have ih:=qZj f v r
  rw[show putF f v ((k,x)::r)=(if k=f then (k,v)::r else (k,x)::putF f v r) from rfl]
  by_cases hk:k=f
  .rw[if_pos hk,yYT,yYT];omega
  .rw[if_neg hk,yYT,yYT];omega
theorem RelO.some_of {v:V}{o:Option Value}(r:RelO (some v) o):∃u,o=some u/\RelV v u:=by
 cases o with
 | none=>exact(show False from r).elim
 | some u=>exact⟨u,rfl,r⟩
theorem RelO.none_of {o:Option Value}(r:RelO none o):o=none:=by
 cases o with
 | none=>rfl
 | some u=>exact(show False from r).elim
theorem qNn {v:V}{u:Value}(r:RelV v u):PySem.W.handedIn u=true:=by
 cases v with
 | non=>cases(show u=Value.none from r);rfl
 | bl b=>cases(show u=Value.bool b from r);rfl
 | int i=>obtain⟨t,e⟩:=(show∃t,u=Value.int i t from r);cases e;rfl
 | str x=>obtain⟨t,e⟩:=(show∃t,u=Value.str x t from r);cases e;rfl
 | byt b=>obtain⟨t,e⟩:=(show∃t,u=Value.bytes b t from r);cases e;rfl
 | flt b=>obtain⟨t,e⟩:=(show∃t,u=Value.float b t from r);cases e;rfl
 | ref a=>cases(show u=Value.ref a from r);rfl
 | ty n=>cases(show u=Value.type n from r);rfl
section
variable {P:Program}{w:World}{H H':Hp}{h h':Heap}{a C dx:Addr}{fs fs':List (Str×V)}
theorem ins_get (hok:HOk P w H h)(e:H a=some (.ins C dx fs)):∃mA,ObjM h a dx C mA/\(∀f,RelO (fs.lookup f) (mA f))/\PySem.Within mA (fs.map (·.1))/\fs.length<=1000/\H dx=some (.own a):=by
 obtain⟨d,z,ne,ob,mA,n,r,q⟩:=(show ObjOk P w H h a (.ins C dx fs) from hok a _ e)
 exact⟨mA,⟨ob,n,ne⟩,r,q,z,d⟩
end
structure Cls (K:yZP)(C:Addr):Prop where
 pg:PySem.W.plainGet K C Str.empty=true
 hd:PySem.W.hasDictIn K C=true
 po:PySem.W.plainOver K C=true
 sa:PySem.W.findIn K (.ref C) "__setattr__" = some (some (.builtin "object.__setattr__"))
theorem Cls.get {K:yZP}{C:Addr}(c:Cls K C)(f:Str):PySem.W.plainGet K C f=true:=c.pg
def NoAttr (K:yZP)(C:Addr)(f:Str):Prop:=PySem.W.findIn K (.ref C) f=some none
theorem NoAttr.taker {K:yZP}{C:Addr}{f:Str}(n:NoAttr K C f):PySem.W.takerIn K C f=some none:=by
 unfold PySem.W.takerIn
 rw[show PySem.W.findIn K (.ref C) f=some none from n]
 rfl
structure Meth (K:yZP)(C:Addr)(m:Str)(f:Addr):Prop where
 at_:PySem.W.findIn K (.ref C) m=some (some (.ref f))
 fn:PySem.W.isFn K (.ref f)=true
 kp:PySem.W.keepIn K (.ref f)=true
section
variable {X:Cx}{zz:List (Addr×Obj)}{σ:St}{H:Hp}{s:Shared}{a C dx:Addr}{fs:List (Str×V)}{f:Str}{v:V}{A:Around}{E:Value->Shared->Prop}
theorem qFo {b:Bool}{Q:Value->Shared->Prop}(I:Inv X zz σ H s)(e:H a=some (.ins C dx fs))(c:Cls X.K C)(n:NoAttr X.K C f)(l:fs.lookup f=some v)
  (h:∀u s',Inv X zz σ H s'->RelV v u->Q u s'):wpAny (model X.prog X.w) A (getAttr (.ref a) f b) Q E s:=by
 obtain⟨mA,O,r,_,_,_⟩:=ins_get I.hok e
 obtain⟨u,hu,ru⟩:=RelO.some_of (v:=v) (o:=mA f) (by rw[<- l];exact r f)
 exact xJe I.kIn O (c.get f) c.hd n hu (qNn ru) (h u _ (I.tok _) ru)
theorem qFn {m:Str}{g:Addr}{pl:Sem Bool}{Q:Value×List Value->Shared->Prop}(I:Inv X zz σ H s)(e:H a=some (.ins C dx fs))(c:Cls X.K C)(k:Meth X.K C m g)(l:fs.lookup m=none)
  (h:Q (.ref g,[.ref a]) s):wpAny (model X.prog X.w) A (getMethod (.ref a) m pl) Q E s:=by
 obtain⟨mA,O,r,_,_,_⟩:=ins_get I.hok e
 have hn:mA m=none:=RelO.none_of (by rw[<- l];exact r m)
 exact qTi I.kIn O (c.get m) k.at_ k.fn hn h
theorem qFz {y:V}{u:Value}{Q:Unit->Shared->Prop}(I:Inv X zz σ H s)(e:H a=some (.ins C dx fs))(c:Cls X.K C)(n:NoAttr X.K C f)(hl:fs.length<1000)(ry:RelV y u)
  (h:∀s',Inv X zz σ (upd H a (.ins C dx (putF f y fs))) s'->Q () s'):wpAny (model X.prog X.w) A (setAttr (.ref a) f u) Q E s:=by
 obtain⟨mA,O,r,wi,_,ho⟩:=ins_get I.hok e
 have hz:(fs.map (·.1)).length<=sizeLine:=by rw[yYC,sizeLine_eq];omega
 refine xXi I.kIn O c.sa c.po n.taker c.hd wi hz fun h' O' sb=>h _ ?_
 have hd:∃o,h'.get? dx=some o:=let ⟨o,_,_,e',_⟩:=O'.ns;⟨o,e'⟩
 refine I.write (x:=a) (e:=dx) (by rw[e];exact True.intro) (.inr ho) (fun b q hb z=>(sb.2 b hb).trans z) hd ?_
 refine⟨by rw[qA O.ne];exact ho,?_,O.ne,O'.obj,_,O'.ns,fun g=>?_,fun g hg=>?_⟩
 .have:=qZj f y fs;omega
 .show RelO ((putF f y fs).lookup g) (if g=f then some u else mA g)
  rw[qZx]
  by_cases q:g=f
  .rw[if_pos q,if_pos q];exact ry
  .rw[if_neg q,if_neg q];exact r g
 .by_cases q:g=f
  .rw[q];exact(qZv f y fs).1
  .refine(qZv f y fs).2 g (wi g fun z=>hg ?_)
   show(if g=f then some u else mA g)=none
   rw[if_neg q];exact z
theorem Inv.made (I:Inv X zz σ H s):Inv X zz σ (upd (upd H s.heap.objs.size (.own (s.heap.objs.size+1))) (s.heap.objs.size+1) (.ins C s.heap.objs.size []))
  { s with heap:=(s.heap.push PySem.W.emptyDict).push (PySem.W.instObj C s.heap.objs.size) }:=by
 have e1:(s.heap.push PySem.W.emptyDict).get? s.heap.objs.size=some PySem.W.emptyDict:=yZB s.heap rfl
 have e2:((s.heap.push PySem.W.emptyDict).push (PySem.W.instObj C s.heap.objs.size)).get? (s.heap.objs.size+1)=some (PySem.W.instObj C s.heap.objs.size):=by
  have:=yZB (s.heap.push PySem.W.emptyDict) (o:=PySem.W.instObj C s.heap.objs.size) rfl
  rwa [yZC] at this
 have e3:(s.heap.push PySem.W.emptyDict).Ns s.heap.objs.size (fun _=>none):=⟨PySem.W.emptyDict,#[],_,e1,rfl,(fun e he=>absurd he (by simp)),fun _=>rfl⟩
 have I1:=I.laid (a:=s.heap.objs.size) (o:=.own (s.heap.objs.size+1)) (h':=s.heap.push PySem.W.emptyDict) (t':=s.toks) (fun b u q=>yYZ _ q) (yZD _) ⟨_,e1⟩
 refine I1.laid (a:=s.heap.objs.size+1) (o:=.ins C s.heap.objs.size []) (t':=s.toks) (fun b u q=>yYZ _ q) (Nat.le_of_eq (yZC _ _)) ?_
 have ne:s.heap.objs.size≠s.heap.objs.size+1:=yZF (Nat.lt_succ_self _)
 refine⟨by rw[qA ne,qW],yZG _,ne,e2,fun _=>none,(Heap.Ns1.of_empty e3).at fun o q=>yYZ _ q,fun _=>True.intro,fun y hy=>absurd rfl hy⟩
theorem xYw {prog:Program}{w:World}{env:Env}{e:Expr}{f:Str}{pos:Pos}{s:Shared}{Q:Value->Shared->Prop}(hb:attributeBase e f env (eval e env)=eval e env)
  (h:wpAny (model prog w) A (eval e env) (fun o s₁=>wpAny (model prog w) A (getAttr o f true) Q E s₁) E s):wpAny (model prog w) A (eval (.Attribute e f pos) env) Q E s:=
 Attribute_any_ h (by rw[arm_eval_Attribute,hb])
end
def tFld (K:yZP)(ta:TE)(f:Str):TE:=fun σ H Q=>ta σ H fun x H1=>∃a C dx fs v,x=.ref a/\H1 a=some (.ins C dx fs)/\Cls K C/\NoAttr K C f/\fs.lookup f=some v/\Q v H1
def sFld (K:yZP)(ta tv:TE)(f:Str):TS:=fun D σ H=>tv σ H fun y H1=>ta σ H1 fun x H2=>∃a C dx fs,x=.ref a/\H2 a=some (.ins C dx fs)/\Cls K C/\NoAttr K C f/\fs.length<1000/\
 D.nx σ (upd H2 a (.ins C dx (putF f y fs)))
section
variable {X:Cx}{o e value:Expr}{f:Str}{pos pos' tpos:Pos}{ta tv:TE}
theorem xVz (he:PE X e ta)(hb:attributeBase e f X.env (eval e X.env)=eval e X.env):PE X (.Attribute e f pos) (tFld X.K ta f):=by
 intro zz s σ H Q I h
 refine xYw hb (thn (he zz s σ H _ I h) fun u s1 ⟨x,H1,I1,rx,a,C,dx,fs,v,ex,ea,c,n,l,q⟩=>?_)
 subst ex
 obtain rfl:u=Value.ref a:=rx
 exact qFo I1 ea c n l fun u' s2 I2 ru=>⟨v,H1,I2,ru,q⟩
theorem xKm (ha:PE X o ta)(hv:PE X value tv)(hs:swapsWith value (some (.Attribute o f pos')) pos.line X.env=pure false):PS X (.Assign [.Attribute o f pos'] value pos) (sFld X.K ta tv f):=by
 intro zz s σ H D I h
 refine plainObj_wpAny_Assign_Attribute (thn (hv zz s σ H _ I h) fun u s1 ⟨y,H1,I1,ry,q⟩=>thn (ha zz s1 σ H1 _ I1 q) fun ov s2 ⟨x,H2,I2,rx,a,C,dx,fs,ex,ea,c,n,l,q2⟩=>?_) hs
 subst ex
 obtain rfl:ov=Value.ref a:=rx
 exact qFz I2 ea c n l ry fun s3 I3=>⟨σ,_,I3,q2⟩
end
section
variable {X:Cx}{zz:List (Addr×Obj)}{σ:St}{H:Hp}{s:Shared}{A:Around}{E:Value->Shared->Prop}{Q:Value->Shared->Prop}{c:Value}{b:Bool}
inductive TyOf (K:yZP)(H:Hp):V->Value->Prop where
 | non:TyOf K H .non (.type "NoneType")
 | bl (x:Bool):TyOf K H (.bl x) (.type "bool")
 | int (i:Int):TyOf K H (.int i) (.type "int")
 | str (x:Str):TyOf K H (.str x) (.type "str")
 | flt (x:UInt64):TyOf K H (.flt x) (.type "float")
 | lst {a:Addr} {xs:List V} (e:H a=some (.lst xs)):TyOf K H (.ref a) (.type "list")
 | frz {a:Addr} {o:Obj} {xs:List V} (e:H a=some (.frz o (.lst xs))):TyOf K H (.ref a) (.type "list")
 | tup {a:Addr} {xs:List V} (e:H a=some (.tup xs)):TyOf K H (.ref a) (.type "tuple")
 | dK {a:Addr} {kvs:List (Key×V)} (e:H a=some (.dK kvs)):TyOf K H (.ref a) (.type "dict")
 | dT {a:Addr} {kvs:List (List Key×V)} (e:H a=some (.dT kvs)):TyOf K H (.ref a) (.type "dict")
 | ins {a C dx:Addr} {fs:List (Str×V)} (e:H a=some (.ins C dx fs)) (cl:Cls K C) (ha:PySem.W.findIn K (.ref C) "__class__" = some (some (.builtin "object.__class__")))
   (hn:PySem.W.specialIn K (.builtin "object.__class__") "__get__" = some (some (.builtin "getset_descriptor.__get__"))) (htk:PySem.W.takesIn K (.builtin "object.__class__")=some true)
   (hm:PySem.W.mroIn K C (.type "object")=some true):TyOf K H (.ref a) (.ref C)
theorem qNf {x:V}{u t:Value}(I:Inv X zz σ H s)(rx:RelV x u)(ty:TyOf X.K H x t)(e:PySem.W.kitOne X.K t c=some b)(h:∀tk,Q (.bool b) { s with toks:=tk }):
  wpAny (model X.prog X.w) A (call (.builtin "isinstance") [u,c]) Q E s:=by
 cases ty with
 | non=>cases(show u=Value.none from rx);exact PySem.W.kia_one PySem.W.kitx_none I.kIn True.intro e (fun z=>nomatch z) h
 | bl y=>cases(show u=Value.bool y from rx);exact PySem.W.kia_one PySem.W.kitx_bool I.kIn True.intro e (fun z=>nomatch z) h
 | int i=>obtain⟨t,q⟩:=(show∃t,u=Value.int i t from rx);cases q;exact PySem.W.kia_one PySem.W.kitx_int I.kIn True.intro e (fun z=>nomatch z) h
 | str y=>obtain⟨t,q⟩:=(show∃t,u=Value.str y t from rx);cases q;exact PySem.W.kia_one PySem.W.kitx_str I.kIn True.intro e (fun z=>nomatch z) h
 | flt y=>obtain⟨t,q⟩:=(show∃t,u=Value.float y t from rx);cases q;exact PySem.W.kia_one PySem.W.kitx_float I.kIn True.intro e (fun z=>nomatch z) h
 | @lst a xs ea=>
  cases(show u=Value.ref a from rx)
  obtain⟨_,_,n,_,h1⟩:=(show ObjOk X.prog X.w H s.heap a (.lst xs) from I.hok a _ ea)
  exact PySem.W.kia_one PySem.W.kitx_list I.kIn ⟨_,h1,rfl⟩ e (fun z=>nomatch z) h
 | @frz a ob xs ea=>
  cases(show u=Value.ref a from rx)
  obtain⟨_,_,_,n,_,h1⟩:=(show ObjOk X.prog X.w H s.heap a (.frz ob (.lst xs)) from I.hok a _ ea)
  exact PySem.W.kia_one PySem.W.kitx_list I.kIn ⟨_,h1,rfl⟩ e (fun z=>nomatch z) h
 | @tup a xs ea=>
  cases(show u=Value.ref a from rx)
  obtain⟨_,_,_,p⟩:=(show ObjOk X.prog X.w H s.heap a (.tup xs) from I.hok a _ ea)
  obtain⟨o,h1,h2,_⟩:=p
  exact PySem.W.kia_one PySem.W.kitx_tuple I.kIn ⟨o,h1,h2⟩ e (fun z=>nomatch z) h
 | @dK a kvs ea=>
  cases(show u=Value.ref a from rx)
  obtain⟨_,_,vs,_,p⟩:=(show ObjOk X.prog X.w H s.heap a (.dK kvs) from I.hok a _ ea)
  obtain⟨o,es,ep,h1,h2,_⟩:=p
  exact PySem.W.kia_one PySem.W.kitx_dict I.kIn ⟨o,h1,h2.1⟩ e (fun z=>nomatch z) h
 | @dT a kvs ea=>
  cases(show u=Value.ref a from rx)
  obtain⟨_,_,xs,_,o,es,ep,h1,h2,_⟩:=(show ObjOk X.prog X.w H s.heap a (.dT kvs) from I.hok a _ ea)
  exact PySem.W.kia_one PySem.W.kitx_dict I.kIn ⟨o,h1,h2.1⟩ e (fun z=>nomatch z) h
 | @ins a C dx fs ea cl ha hn htk hm=>
  cases(show u=Value.ref a from rx)
  obtain⟨mA,O,_⟩:=ins_get I.hok ea
  obtain⟨od,J,_⟩:=O.look
  exact PySem.W.kia_one (PySem.W.kitx_own (cl.get _) cl.hd ha hn htk hm) I.kIn J e (fun z=>nomatch z) h
end
end L2
namespace L2
open PySem PySem.Spec PyProof.Rows
structure Room (k:Nat)(A:Around):Prop where
 hd:A.handled=none
 dp:A.depth+3 * k+5<recursionLimit
 un:A.units+16 * k+200<cLine
theorem Room.mono {j k:Nat}{A:Around}(r:Room k A)(h:j<=k):Room j A:=⟨r.hd,by have:=r.dp;omega,by have:=r.un;omega⟩
theorem Room.deeper {k:Nat}{A:Around}(r:Room (k+1) A)(env:Env):Room k (A.deeper env):=
 ⟨r.hd,by have:=r.dp;show A.depth+1+3 * k+5<_;omega,by have:=r.un;show A.units+3+16 * k+200<_;omega⟩
theorem qFi {A:Around}{C:Addr}{us:List Value}{kw:List (Str×Value)}:(A.under (.builtin "type.__call__" ⟨.ref C::us,kw⟩)).depth=A.depth+1:=by
 first | rfl | simp[Around.under,Code.weight,Code.isCreation,Code.isGuard,Code.isCaller,Code.frames,Code.isFrame,guardIds]
theorem qFh {A:Around}{C:Addr}{us:List Value}{kw:List (Str×Value)}:(A.under (.builtin "type.__call__" ⟨.ref C::us,kw⟩)).units=A.units+1:=by
 first | rfl | simp[Around.under,Code.cUnits,Code.frames,Code.isFrame]
theorem Room.make {k:Nat}{A:Around}(r:Room (k+1) A)(C:Addr)(us:List Value)(kw:List (Str×Value)):Room k (A.under (.builtin "type.__call__" ⟨.ref C::us,kw⟩)):=
 ⟨r.hd,by have:=r.dp;rw[qFi];omega,by have:=r.un;rw[qFh];omega⟩
theorem Room.depth {k:Nat}{A:Around}(r:Room k A):A.depth<recursionLimit:=by have:=r.dp;omega
theorem Room.units {k:Nat}{A:Around}(r:Room k A):A.units+64<cLine:=by have:=r.un;omega
def tNil:TA:=fun _ H Q=>Q [] H
def tCons (ta:TE)(tr:TA):TA:=fun σ H Q=>ta σ H fun x H1=>tr σ H1 fun xs H2=>Q (x::xs) H2
section
variable {X:Cx}{e:Expr}{es:List Expr}{te:TE}{t:TA}{pos:Pos}
theorem qX:PA X [] tNil:=fun _ _ _ _ H Q I h=>Calls.spliced_nil ⟨[],H,I,.nil,h⟩
theorem qQ (ha:PE X e te)(hr:PA X es t)(hs:starEach (e::es) X.env=(false,eval e X.env)::starEach es X.env:=by rfl):PA X (e::es) (tCons te t):=by
 intro pos zz s σ H Q I h
 rw[hs]
 show wpAny _ _ (spliced ((false,eval e X.env)::backTo pos (starEach es X.env))) _ _ s
 refine Calls.spliced_cons (thn (ha zz s σ H _ I h) fun u s1 ⟨x,H1,I1,r1,q1⟩=>?_)
 exact thn (hr pos zz s1 σ H1 _ I1 q1) fun us s2 ⟨xs,H2,I2,r2,q2⟩=>⟨x::xs,H2,I2,.cons r1 r2,q2⟩
def tTup (t:TA):TE:=fun σ H Q=>t σ H fun xs H1=>xs.length<=sizeLine/\∀p,H1 p=none->Q (.ref p) (upd H1 p (.tup xs))
def tLst (t:TA):TE:=fun σ H Q=>t σ H fun xs H1=>xs.length<=sizeLine/\∀p,H1 p=none->Q (.ref p) (upd H1 p (.lst xs))
theorem xP {x1}(h:PA X es t):PE X (.Tuple es x1 pos) (tTup t):=by
 intro zz s σ H Q I hq
 refine wpAny_Tuple_spliced (thn (h pos zz s σ H _ I hq) fun us s1 ⟨xs,H1,I1,r,z,q⟩=>⟨by rw[<- r.length];exact z,?_⟩)
 have hf:H1 s1.heap.objs.size=none:=I1.hok.fresh (yZD _)
 refine⟨.ref s1.heap.objs.size,upd H1 s1.heap.objs.size (.tup xs),I1.laid (t':=s1.toks) (fun b u e=>yYZ _ e) (yZD _) ?_,rfl,q _ hf⟩
 exact⟨z,us,r,⟨_,yZB _ rfl,rfl,_,rfl,rfl⟩⟩
theorem xO (h:PA X es t):PE X (.List es pos) (tLst t):=by
 intro zz s σ H Q I hq
 refine wpAny_List_spliced (thn (h pos zz s σ H _ I hq) fun us s1 ⟨xs,H1,I1,r,z,q⟩=>⟨by rw[<- r.length];exact z,?_⟩)
 have hf:H1 s1.heap.objs.size=none:=I1.hok.fresh (yZD _)
 refine⟨.ref s1.heap.objs.size,upd H1 s1.heap.objs.size (.lst xs),I1.laid (t':=s1.toks) (fun b u e=>yYZ _ e) (yZD _) ?_,rfl,q _ hf⟩
 exact⟨z,us,0,r,yZB _ rfl⟩
end
abbrev Sp:=List V->Hp->VK->XK->Prop
abbrev CXT:=List Env->Hp->Shared->XK->Value->Shared->Prop
structure Env0 (P:Program)(w:World)(K:yZP)(mg:Str->Option Value)(base:Heap)(A:Around)(outer:List Env)(s:Shared)(H:Hp):Prop where
 frames:A.frames=some outer
 mod:Mod K mg base
 bs:∀b o,base.get? b=some o->s.heap.get? b=some o/\H b=none
 bsz:base.objs.size<=s.heap.objs.size
 funs:s.heap.FunFrames base outer
 frf:∀b∈frs outer,H b=none
 hok:HOk P w H s.heap
 bare:AllBare s.gens
def CE (outer:List Env)(P:Program)(w:World)(H:Hp)(s:Shared)(Q:VK)(u:Value)(s':Shared):Prop:=
 ∃v H',s'.os=s.os/\AllBare s'.gens/\Un (frs outer) [] H H' s.heap s'.heap/\HOk P w H' s'.heap/\RelV v u/\Q v H'
def CR (CX:CXT)(outer:List Env)(P:Program)(w:World)(H:Hp)(s:Shared)(Q:VK)(E:XK)(r:Result)(s':Shared):Prop:=
 match r with
 | .ok (.ret u)=>CE outer P w H s Q u s'
 | .ok _=>False
 | .error e=>CX outer H s E e s'
structure FnOk (P:Program)(w:World)(K:yZP)(mg:Str->Option Value)(base:Heap)(CX:CXT)(k:Nat)(f:Addr)(fd:FuncData)(ps:List Str)(sp:Sp):Prop where
 len:∀vs H Q E,sp vs H Q E->vs.length=ps.length
 run:∀(A:Around) (outer:List Env) (s:Shared) (H:Hp) (args:Args) (us:List Value) (vs:List V) (Q:VK) (E:XK),Room k A->Env0 P w K mg base A outer s H->BindsTo s fd args (ps.zip us)->Vals vs us->sp vs H Q E->
  codeAny (model P w) A (.call (.ref f) args) (CR CX outer P w H s Q E) s
theorem FnOk.mono {P:Program}{w:World}{K:yZP}{mg:Str->Option Value}{base:Heap}{CX:CXT}{j k:Nat}{f:Addr}{fd:FuncData}{ps:List Str}{sp:Sp}(F:FnOk P w K mg base CX j f fd ps sp)(h:j<=k):
  FnOk P w K mg base CX k f fd ps sp:=⟨F.len,fun A outer s H args us vs Q E hr=>F.run A outer s H args us vs Q E (hr.mono h)⟩
theorem Env0.make {P:Program}{w:World}{K:yZP}{mg:Str->Option Value}{base:Heap}{A:Around}{outer:List Env}{s:Shared}{H:Hp}(e:Env0 P w K mg base A outer s H)(C:Addr)(us:List Value)(kw:List (Str×Value)):
  Env0 P w K mg base (A.under (.builtin "type.__call__" ⟨.ref C::us,kw⟩)) outer s H:=⟨by first | exact e.frames | (simpa [Around.under,Code.envs,Code.isFrame,pushEnvs] using e.frames),e.mod,e.bs,e.bsz,e.funs,e.frf,e.hok,e.bare⟩
section
variable {X:Cx}{zz:List (Addr×Obj)}{σ:St}{H:Hp}{s s':Shared}
theorem Inv.env0 (I:Inv X zz σ H s):Env0 X.prog X.w X.K X.mg X.base X.A X.stack s H:=
 ⟨I.ok.frames,I.ok.mod,I.bs,yZJ I.ok.bsz I.sz,I.stack,I.stkFree,I.hok,I.bare⟩
theorem Inv.after {Q:VK}{u:Value}(I:Inv X zz σ H s)(h:CE X.stack X.prog X.w H s Q u s'):EP X zz σ Q u s':=by
 obtain⟨v,H',os,bare,un,hok,r,q⟩:=h
 obtain⟨hh,g,d,t,os'⟩:=s'
 obtain rfl:os'=s.os:=os
 exact⟨v,H',I.call (h':=hh) (g':=g) (d':=d) (t':=t) (ch:=[]) un hok bare (fun b z=>absurd z (by simp)),r,q⟩
end
def tCall (sp:Sp)(dvs:List V)(E:XK)(t:TA):TE:=fun σ H Q=>t σ H fun vs H1=>sp (vs++dvs) H1 Q E
def tMeth (C:Addr)(m:Str)(sp:Sp)(dvs:List V)(E:XK)(ta:TE)(t:TA):TE:=fun σ H Q=>ta σ H fun x H1=>∃a dx fs,x=.ref a/\H1 a=some (.ins C dx fs)/\fs.lookup m=none/\
 t σ H1 fun vs H2=>sp (x::(vs++dvs)) H2 Q E
def tMake (C:Addr)(sp:Sp)(dvs:List V)(E:XK)(t:TA):TE:=fun σ H Q=>t σ H fun vs H1=>∀x dx,H1 x=none->H1 dx=none->dx≠x->
 sp (.ref x::(vs++dvs)) (upd (upd H1 dx (.own x)) x (.ins C dx [])) (fun v H2=>v=.non/\Q (.ref x) H2) E
def Binds (K:yZP)(fd:FuncData)(ps:List Str)(ds:List Value):Prop:=
 ∀(s:Shared) (us:List Value),K.In s.heap->(us++ds).length=ps.length->BindsTo s fd ⟨us,[]⟩ (ps.zip (us++ds))
theorem Binds.all {K:yZP}{fd:FuncData}{ps:List Str}(h:∀us:List Value,us.length=ps.length->bindArgs fd ⟨us,[]⟩=pure (ps.zip us)):Binds K fd ps []:=fun s us _ hl=>by
 rw[List.append_nil] at hl ⊢
 exact .of_eq (h us hl)
def Passes (CX:CXT)(X:Cx)(E:XK):Prop:=∀(zz:List (Addr×Obj)) (σ:St) (H:Hp) (s:Shared) (e:Value) (s':Shared),Inv X zz σ H s->CX X.stack H s E e s'->X.xe e s'
section
variable {X:Cx}{CX:CXT}{k:Nat}{f C:Addr}{fd:FuncData}{ps:List Str}{sp:Sp}{dvs:List V}{ds:List Value}{E:XK}{x m:Str}{p pos apos:Pos}{e o:Expr}{es:List Expr}{ta:TE}{t:TA}
theorem xQk {zz:List (Addr×Obj)}{σ:St}{H:Hp}{s:Shared}{Q:VK}{us:List Value}{vs:List V}(F:FnOk X.prog X.w X.K X.mg X.base CX k f fd ps sp)(hr:Room k X.A)(hb:Binds X.K fd ps ds)(hd:Vals dvs ds)(hx:Passes CX X E)
  (I:Inv X zz σ H s) (r:Vals vs us) (h:sp (vs++dvs) H Q E):wpAny (model X.prog X.w) X.A (call (.ref f) us) (EP X zz σ Q) X.xe s:=by
 have r2:Vals (vs++dvs) (us++ds):=r.append hd
 have hl:(us++ds).length=ps.length:=by rw[<- r2.length];exact F.len _ _ _ _ h
 refine wpAny_call (codeAny_mono (F.run X.A X.stack s H ⟨us,[]⟩ (us++ds) (vs++dvs) Q E hr I.env0 (hb s us I.kIn hl) r2 h) fun r s' hq=>?_)
 cases r with
 | error e=>exact hx zz σ H s e s' I hq
 | ok fl=>
  cases fl with
  | ret u=>exact I.after hq
  | next=>exact False.elim hq
  | brk=>exact False.elim hq
  | cont=>exact False.elim hq
theorem qXh (F:FnOk X.prog X.w X.K X.mg X.base CX k f fd ps sp)(hr:Room k X.A)(hg:Gl X x)(hm:X.mg x=some (.ref f))(hk:PySem.W.keepIn X.K (.ref f)=true)(hb:Binds X.K fd ps ds)(hd:Vals dvs ds)(hx:Passes CX X E)
  (ha:PA X (e::es) t) (hdb:(x == ("__debug__" : Str))=false:=by decide) (he:starEach (e::es) X.env=(false,eval e X.env)::starEach es X.env:=by rfl) (hpl:(backTo pos (starEach es X.env)).any (·.1)=false:=by rfl):
  PE X (.Call (.Name x p) (e::es) [] pos) (tCall sp dvs E t):=by
 intro zz s σ H Q I h
 refine wpAny_Call_Name_kw (qQx I hg hm ?_ hdb)
 refine PySem.W.callWith_K (h₀:=X.base) I.ok.mod.kin hk (thn (ha pos zz s σ H _ I h) fun us s1 ⟨vs,H1,I1,r,q⟩=>⟨I1.kIn,?_⟩) he hpl
 exact xQk F hr hb hd hx I1 r q
theorem xZd {pl:Sem Bool}(he:PE X o ta)(c:Cls X.K C)(hm:Meth X.K C m f)(F:FnOk X.prog X.w X.K X.mg X.base CX k f fd ps sp)(hr:Room k X.A)(hb:Binds X.K fd ps ds)(hd:Vals dvs ds)(hx:Passes CX X E)(ha:PA X (e::es) t)
  (hst:starEach (e::es) X.env=(false,eval e X.env)::starEach es X.env:=by rfl) (hpl:(backTo pos (starEach es X.env)).any (·.1)=false:=by rfl)
  (ht:eval (.Call (.Attribute o m apos) (e::es) [] pos) X.env=(do
   let ov <- eval o X.env
   standAt apos.atName
   let (f,first) <- holding [ov] (getMethod ov m pl)
   callWith pos f first (backTo pos (starEach (e::es) X.env)) (backToKw pos (keywordEach [] X.env))):=by rfl):
  PE X (.Call (.Attribute o m apos) (e::es) [] pos) (tMeth C m sp dvs E ta t):=by
 intro zz s σ H Q I h
 refine PySem.W.methodCall_KW (pl:=pl) (thn (he zz s σ H _ I h) fun u s1 ⟨x,H1,I1,rx,a,dx,fs,ex,ea,l,q⟩=>?_) ht
 subst ex
 obtain rfl:u=Value.ref a:=rx
 refine qFn I1 ea c hm l ?_
 refine PySem.W.callWith_K (first:=[.ref a]) (h₀:=X.base) I.ok.mod.kin hm.kp (thn (ha pos zz s1 σ H1 _ I1 q) fun us s2 ⟨vs,H2,I2,r,q2⟩=>⟨I2.kIn,?_⟩) hst hpl
 exact xQk (us:=.ref a::us) (vs:=.ref a::vs) F hr hb hd hx I2 (.cons rfl r) q2
structure Mk (K:yZP)(C f:Addr):Prop where
 makes:PySem.W.makesIn K C=true
 init:PySem.W.findIn K (.ref C) "__init__" = some (some (.ref f))
 fn:PySem.W.isFn K (.ref f)=true
 kp:PySem.W.keepIn K (.ref C)=true
theorem qRo {zz:List (Addr×Obj)}{σ:St}{H:Hp}{s:Shared}{Q:VK}{us:List Value}{vs:List V}(M:Mk X.K C f)(F:FnOk X.prog X.w X.K X.mg X.base CX k f fd ps sp)(hr:Room (k+1) X.A)(hb:Binds X.K fd ps ds)(hd:Vals dvs ds)
  (hx:Passes CX X E) (I:Inv X zz σ H s) (r:Vals vs us)
  (h:∀x dx,H x=none->H dx=none->dx≠x->sp (.ref x::(vs++dvs)) (upd (upd H dx (.own x)) x (.ins C dx [])) (fun v H2=>v=.non/\Q (.ref x) H2) E):
  wpAny (model X.prog X.w) X.A (call (.ref C) us) (EP X zz σ Q) X.xe s:=by
 have hq:=h (s.heap.objs.size+1) s.heap.objs.size (I.hok.fresh (Nat.le_succ _)) (I.hok.fresh (yZD _)) (yZF (Nat.lt_succ_self _))
 have I2:=Inv.made (C:=C) I
 have r2:Vals (V.ref (s.heap.objs.size+1)::(vs++dvs)) (Value.ref (s.heap.objs.size+1)::(us++ds)):=.cons rfl (r.append hd)
 have hl:(Value.ref (s.heap.objs.size+1)::us++ds).length=ps.length:=by
  have e:=r2.length
  rw[F.len _ _ _ _ hq] at e
  exact e.symm
 refine wpAny_call (qTz (f:=f) I.kIn M.makes M.init (beq_iff_eq.mp M.fn) (codeAny_mono (F.run _ X.stack _ _ ⟨Value.ref (s.heap.objs.size+1)::us,[]⟩ (Value.ref (s.heap.objs.size+1)::(us++ds)) _ _ E (hr.make C us [])
  (I2.env0.make C us []) (hb _ (Value.ref (s.heap.objs.size+1)::us) I2.kIn hl) r2 hq) fun r s' hq'=>?_))
 cases r with
 | error e=>exact hx zz σ _ _ e s' I2 hq'
 | ok fl=>
  cases fl with
  | ret u=>
   obtain⟨v,H',I3,rv,ev,q3⟩:=I2.after hq'
   subst ev
   exact⟨rv,⟨V.ref (s.heap.objs.size+1),H',I3,rfl,q3⟩⟩
  | next=>exact False.elim hq'
  | brk=>exact False.elim hq'
  | cont=>exact False.elim hq'
theorem xZe (M:Mk X.K C f)(F:FnOk X.prog X.w X.K X.mg X.base CX k f fd ps sp)(hr:Room (k+1) X.A)(hg:Gl X x)(hm:X.mg x=some (.ref C))(hb:Binds X.K fd ps ds)(hd:Vals dvs ds)(hx:Passes CX X E)
  (ha:PA X (e::es) t) (hdb:(x == ("__debug__" : Str))=false:=by decide) (he:starEach (e::es) X.env=(false,eval e X.env)::starEach es X.env:=by rfl) (hpl:(backTo pos (starEach es X.env)).any (·.1)=false:=by rfl):
  PE X (.Call (.Name x p) (e::es) [] pos) (tMake C sp dvs E t):=by
 intro zz s σ H Q I h
 refine wpAny_Call_Name_kw (qQx I hg hm ?_ hdb)
 refine PySem.W.callWith_K (h₀:=X.base) I.ok.mod.kin M.kp (thn (ha pos zz s σ H _ I h) fun us s1 ⟨vs,H1,I1,r,q⟩=>⟨I1.kIn,?_⟩) he hpl
 exact qRo M F hr hb hd hx I1 r q
end
structure xH (N P:List Str)(sc:Scope):Prop where
 kind:sc.kind=.function
 co:sc.isCoroutine=false
 gen:sc.isGenerator=false
 nd:N.Nodup
 pre:N.take P.length=P
 par:∀x∈P,sc.names.lookup x=some .local\/sc.names.lookup x=some .cell
 nofree:∀y∈sc.names,y.2≠.free
theorem qAa {kindOf:Str->Option NameKind}{x:Str}:∀{binds:List (Str×Value)} {m:Str->Option Value},(∀v,(x,v)∉binds)->bindL kindOf binds m x=m x
 | [],_,_=>rfl
 | (n,v)::r,m,h=>by
  unfold bindL
  rw[qAa fun w hw=>h w (yYH _ hw)]
  split
  .have:x≠n:=by rintro rfl;exact h v yYG
   simp[this]
  .rfl
theorem qAc {kindOf:Str->Option NameKind}{x:Str}:∀{binds:List (Str×Value)} {m:Str->Option Value},(∀v,(x,v)∉binds)->bindC kindOf binds m x=m x
 | [],_,_=>rfl
 | (n,v)::r,m,h=>by
  unfold bindC
  rw[qAc fun w hw=>h w (yYH _ hw)]
  split
  .rfl
  .have:x≠n:=by rintro rfl;exact h v yYG
   simp[this]
theorem qAb {kindOf:Str->Option NameKind}{x:Str}{v:Value}:∀{P:List Str} {vs:List Value} {i:Nat} {m:Str->Option Value},P.Nodup->P[i]? = some x->vs[i]? = some v->kindOf x=some .local->
  bindL kindOf (P.zip vs) m x=some v
 | [],_,_,_,_,h,_,_=>by simp at h
 | _::_,[],_,_,_,_,h,_=>by simp at h
 | p::P,w::vs,0,m,nd,h1,h2,hk=>by
  simp at h1 h2;subst h1;subst h2
  show bindL kindOf ((p,w)::P.zip vs) m p=_
  unfold bindL
  rw[qAa fun v hv=>(List.nodup_cons.mp nd).1 (List.of_mem_zip hv).1,if_pos hk]
  simp
 | p::P,w::vs,i+1,m,nd,h1,h2,hk=>by
  show bindL kindOf ((p,w)::P.zip vs) m x=_
  unfold bindL
  exact qAb (i:=i) (List.nodup_cons.mp nd).2 (by simpa using h1) (by simpa using h2) hk
theorem qAd {kindOf:Str->Option NameKind}{x:Str}{v:Value}:∀{P:List Str} {vs:List Value} {i:Nat} {m:Str->Option Value},P.Nodup->P[i]? = some x->vs[i]? = some v->kindOf x≠some .local->
  bindC kindOf (P.zip vs) m x=some v
 | [],_,_,_,_,h,_,_=>by simp at h
 | _::_,[],_,_,_,_,h,_=>by simp at h
 | p::P,w::vs,0,m,nd,h1,h2,hk=>by
  simp at h1 h2;subst h1;subst h2
  show bindC kindOf ((p,w)::P.zip vs) m p=_
  unfold bindC
  rw[qAc fun v hv=>(List.nodup_cons.mp nd).1 (List.of_mem_zip hv).1,if_neg hk]
  simp
 | p::P,w::vs,i+1,m,nd,h1,h2,hk=>by
  show bindC kindOf ((p,w)::P.zip vs) m x=_
  unfold bindC
  exact qAd (i:=i) (List.nodup_cons.mp nd).2 (by simpa using h1) (by simpa using h2) hk
def start (N:List Str)(vs:List V):St:=vs.map some++List.replicate (N.length - vs.length) none
def cxOf (CX:CXT)(P:Program)(w:World)(K:yZP)(mg:Str->Option Value)(base:Heap)(N:List Str)(qual:Str)(scope:Scope)(f:Addr)(cd:Value)(A:Around)(outer:List Env)(s:Shared)(H:Hp)(E:XK):Cx where
 prog:=P
 w:=w
 K:=K
 mg:=mg
 base:=base
 A:=A.deeper (envOfC qual scope s.heap.objs.size f cd)
 N:=N
 s₀:=s
 H₀:=H
 env:=envOfC qual scope s.heap.objs.size f cd
 outer:=outer
 stack:=envOfC qual scope s.heap.objs.size f cd::outer
 ex:=[]
 calm:=true
 fn:=fun _=>true
 pn:=[]
 xe:=fun e s'=>wpAny (model P w) (A.deeper (envOfC qual scope s.heap.objs.size f cd)) (leaving (envOfC qual scope s.heap.objs.size f cd) e) (fun _ s''=>CX outer H s E e s'') (fun e' s''=>CX outer H s E e' s'') s'
theorem qEf {sc:Scope}{n:Nat}{x:Str}(h:sc.names.lookup x=some .cell):∃c,(cellsFrom n sc.names []).lookup x=some c:=by
 have q:=PySem.W.cellsFrom_some sc.names n [] (.inl h)
 exact Option.isSome_iff_exists.mp q
theorem qNg {CX:CXT}{P:Program}{w:World}{K:yZP}{mg:Str->Option Value}{base:Heap}{N ps:List Str}{qual:Str}{scope:Scope}{f:Addr}{cd:Value}{A:Around}{outer:List Env}{s s1:Shared}{H:Hp}{E:XK}{us:List Value}{vs:List V}
  (S:xH N ps scope) (hd:A.handled=none) (e0:Env0 P w K mg base A outer s H) (hl:vs.length=ps.length) (r:Vals vs us)
  (x:InCallC s s.heap.objs.size (bindL (envOfC qual scope s.heap.objs.size f cd).kindOf (ps.zip us) fun _=>none) (cellsFrom (s.heap.objs.size+1) scope.names []) (bindC (envOfC qual scope s.heap.objs.size f cd).kindOf (ps.zip us) fun _=>none) s1):
  Inv (cxOf CX P w K mg base N qual scope f cd A outer s H E) [] (start N vs) H s1:=by
 have hpl:ps.length<=N.length:=by have:=congrArg List.length S.pre;rw[yYF] at this;omega
 obtain⟨h1,tk,rfl,hk⟩:=x.done
 have noA:∀b:Addr,b∉(cxOf CX P w K mg base N qual scope f cd A outer s H E).ex:=fun b z=>absurd (show b∈([]:List Addr) from z) (by simp)
 refine⟨⟨e0.mod,S.kind,rfl,rfl,yZD _,fun y z c h1 h2=>?_,fun y hy=>?_,fun y c _ h=>?_,fun _=>hd,Around.frames_deeper e0.frames,.inr ⟨rfl,rfl⟩,fun b z=>absurd z (noA b),e0.bs,e0.bsz,fun b _ _=>noA b,fun b z=>absurd z (noA b),e0.funs,e0.frf⟩,
  rfl,e0.bare,Un.kept hk,⟨_,x.toInCall.ns,fun i y v h1 h2 h3=>?_⟩,fun y c h=>⟨_,x.cell y c h⟩,e0.hok.fresh (yZD _),fun y c h=>?_,fun p hp=>absurd (show p∈([]:List (Addr×Obj)) from hp) (by simp),e0.hok.kept hk,?_⟩
 .exact name_of_addr x.apart (PySem.mem_of_lookup h1) (PySem.mem_of_lookup h2)
 .have hy:scope.names.lookup y=some .cell\/scope.names.lookup y=some .free:=hy
  rcases hy with hy | hy
  .exact qEf hy
  .exact absurd rfl (S.nofree _ (PySem.mem_of_lookup hy))
 .exact Nat.le_of_lt (x.above y c (PySem.mem_of_lookup h))
 .have hi:i<vs.length:=by
   unfold start at h2
   by_cases hi:i<vs.length
   .exact hi
   .rw[List.getElem?_append_right (by simpa using hi)] at h2
    rw[List.getElem?_replicate] at h2
    split at h2 <;> cases h2
  have ha:vs[i]? = some v:=by
   unfold start at h2
   rw[List.getElem?_append_left (by simpa using hi),yYO] at h2
   cases e:vs[i]? with
   | none=>rw[e] at h2;cases h2
   | some a=>rw[e] at h2;cases h2;rfl
  obtain⟨u,hu,rv⟩:=r.get ha
  have hp:ps[i]? = some y:=by
   rw[<- S.pre,List.getElem?_take_of_lt (by omega)];exact h1
  have ndP:ps.Nodup:=by rw[<- S.pre];exact S.nd.sublist (List.take_sublist _ _)
  refine⟨u,rv,?_⟩
  rcases S.par y (yYE hp) with k | k
  .exact .inl ⟨k,qAb ndP hp hu k⟩
  .obtain⟨c,e⟩:=qEf (n:=s.heap.objs.size+1) k
   refine .inr ⟨.inl k,c,e,?_⟩
   have q:=x.cell y c e
   rw[qAd ndP hp hu (by show scope.names.lookup y≠_;rw[k];decide)] at q
   exact q
 .exact e0.hok.fresh (Nat.le_of_lt (x.above y c (PySem.mem_of_lookup h)))
 .unfold start
  show _=N.length
  rw[yYI,yYC,List.length_replicate]
  omega
theorem xWb {CX:CXT}{P:Program}{w:World}{K:yZP}{mg:Str->Option Value}{base:Heap}{k:Nat}{f:Addr}{name qual:Str}{params:Arguments}{body:List Stmt}{scope:Scope}{dV kV doc pm zy ct oc:Value}{an od:Option Addr}
  {osl:Array (Option Value)} {N ps:List Str} {sp:Sp} (lk:K.lookup f=some ⟨oc,od,.func (PySem.W.fnOf name qual params body scope dV kV doc pm an zy ct),osl⟩) (hcd:PySem.W.codeIn K zy qual=true) (S:xH N ps scope)
  (len:∀vs H Q E,sp vs H Q E->vs.length=ps.length)
  (hbody:∀(A:Around) (outer:List Env) (s:Shared) (H:Hp) (vs:List V) (Q:VK) (E:XK),Room k (A.deeper (envOfC qual scope s.heap.objs.size f zy))->sp vs H Q E->
   ∃t,PSs (cxOf CX P w K mg base N qual scope f zy A outer s H E) body t/\t { nx:=fun _ H'=>Q .non H',rt:=Q } (start N vs) H):
  FnOk P w K mg base CX (k+1) f (PySem.W.fnOf name qual params body scope dV kV doc pm an zy ct) ps sp:=by
 refine⟨len,fun A outer s H args us vs Q E hr e0 hb r hsp=>?_⟩
 have hl:=len _ _ _ _ hsp
 have KX:K.In s.heap:=e0.mod.kin.keeps fun b o e=>(e0.bs b o e).1
 have lim:s.heap.NoLimit:=e0.mod.nolimit.keeps fun b o e=>(e0.bs b o e).1
 have hkind:∀y∈ps.zip us,scope.names.lookup y.1=some .local\/(scope.names.lookup y.1=some .cell/\((cellsFrom (s.heap.objs.size+1) scope.names []).lookup y.1).isSome=true):=fun⟨n,v⟩ hy=>by
  rcases S.par n (List.of_mem_zip hy).1 with q | q
  .exact .inl q
  .exact .inr ⟨q,PySem.W.cellsFrom_some _ _ _ (.inl q)⟩
 refine codeAny_call_function hr.depth (KX _ _ lk) rfl S.co S.gen rfl (PySem.W.codeRec_of KX hcd) (hb _ _ _ _ ?_)
 refine wpAny_newFunctionEnv_cells S.kind hkind fun env he s1 x=>?_
 subst he
 refine⟨lim.keeps x.toInCall.keep,codeAny_func ?_⟩
 obtain⟨t,ht,hq⟩:=hbody A outer s H vs Q E (hr.deeper _) hsp
 have I:Inv (cxOf CX P w K mg base N qual scope f zy A outer s H E) [] (start N vs) H s1:=qNg S hr.hd e0 hl r x
 refine wpAny_mono (ht [] s1 (start N vs) H _ I hq) (fun fl s' hs=>?_) fun e s' hs=>hs
 have fin:∀{σ':St} {H':Hp} {v:V} {u:Value},Inv (cxOf CX P w K mg base N qual scope f zy A outer s H E) [] σ' H' s'->RelV v u->Q v H'->CE outer P w H s Q u s':=
  fun{σ' H' v u} J rv q=>⟨v,H',J.os,J.bare,J.base,J.hok,rv,q⟩
 cases fl with
 | ret u=>
  obtain⟨v,σ',H',J,rv,q⟩:=hs
  exact fin J rv q
 | next=>
  obtain⟨σ',H',J,q⟩:=hs
  exact fin (v:=V.non) (u:=Value.none) J rfl q
 | brk=>
  obtain⟨_,_,_,q⟩:=hs
  exact False.elim q
 | cont=>
  obtain⟨_,_,_,q⟩:=hs
  exact False.elim q
end L2
namespace L2
open PySem PySem.Spec PyProof.Rows
section
variable {X:Cx}{x:Str}{p pos:Pos}{e:Expr}{es:List Expr}{t:TA}{id T:String}{r:List V->Hp->VK->Prop}
def tCB (r:List V->Hp->VK->Prop)(t:TA):TE:=fun σ H Q=>t σ H fun vs H1=>r vs H1 Q
theorem xJ (hc:CallR X (.builtin id) r)(hg:Gl X x)(hm:X.mg x=none)(hv:bootBuiltins x=some (.builtin id))(ha:PA X (e::es) t)(hn:x ≠ "__name__" := by decide)(hdb:(x == ("__debug__" : Str))=false:=by decide)
  (he:starEach (e::es) X.env=(false,eval e X.env)::starEach es X.env:=by rfl) (hpl:(backTo pos (starEach es X.env)).any (·.1)=false:=by rfl):PE X (.Call (.Name x p) (e::es) [] pos) (tCB r t):=by
 intro zz s σ H Q I h
 refine wpAny_Call_Name_kw (qQv I hg hm hv ?_ hn hdb)
 exact PyProof.Rows.callWith_builtin1 (thn (ha pos zz s σ H _ I h) fun us s1 ⟨vs,H1,I1,r1,q1⟩=>hc zz s1 σ H1 vs us Q I1 r1 q1) he hpl
theorem xZ (hc:CallR X (.type T) r)(hg:Gl X x)(hm:X.mg x=none)(hv:bootBuiltins x=some (.type T))(ha:PA X (e::es) t)(hn:x ≠ "__name__" := by decide)(hdb:(x == ("__debug__" : Str))=false:=by decide)
  (he:starEach (e::es) X.env=(false,eval e X.env)::starEach es X.env:=by rfl) (hpl:(backTo pos (starEach es X.env)).any (·.1)=false:=by rfl):PE X (.Call (.Name x p) (e::es) [] pos) (tCB r t):=by
 intro zz s σ H Q I h
 refine wpAny_Call_Name_kw (qQv I hg hm hv ?_ hn hdb)
 exact PyProof.Rows.callWith_type1 (thn (ha pos zz s σ H _ I h) fun us s1 ⟨vs,H1,I1,r1,q1⟩=>hc zz s1 σ H1 vs us Q I1 r1 q1) he hpl
end
end L2
namespace HT
open PySem PyProof.Rows
def lexLt:List Int->List Int->Bool
 | [],[]=>false
 | [],_::_=>true
 | _::_,[]=>false
 | x::xs,y::ys=>if x=y then lexLt xs ys else decide (x<y)
theorem lexLt_cons (x y:Int)(xs ys:List Int):lexLt (x::xs) (y::ys)=if x=y then lexLt xs ys else decide (x<y):=rfl
section
open PySem.SeqAt
open PySem.AutoSeq1 (wpAny_loadPart')
open PySem.MeetsSeq PySem.MeetsSeq2 PySem.MeetsSeq3
end
section
variable {prog:Program}{w:World}{A:Around}{E:Value->Shared->Prop}{s:Shared}
theorem cat_tup {t b:Addr}{vs ws:List Value}{Q:Value->Shared->Prop}(ht:IsTup s.heap t vs.toArray)(hb:IsTup s.heap b ws.toArray)(hv:vs≠[])
  (h1:ws=[]->Q (.ref t) s) (h2:ws≠[]->Q (.ref s.heap.objs.size) { s with heap:=s.heap.push { cls:=.type "tuple",data:=.seq (vs++ws).toArray } })
  (hsz:vs.length+ws.length<=sizeLine):wpAny (model prog w) A (binaryOp .Add (.ref t) (.ref b)) Q E s:=by
 obtain⟨⟨cls,dd,data,sl⟩,ho,hc,n,hd⟩:=id ht
 obtain⟨⟨cls2,dd2,data2,sl2⟩,ho2,hc2,n2,hd2⟩:=id hb
 simp only at hc hd hc2 hd2
 subst hc hd hc2 hd2
 have e:vs.toArray++ws.toArray=(vs++ws).toArray:=by simp
 by_cases hw:ws=[]
 .exact concat_meets ⟨_,ho,rfl⟩ ⟨_,ho2,rfl⟩ noFill_tuple_add seq_tuple_add PySem.F.slot_tuple_add PySem.F.entry_tuple_add (PySem.F.args_tuple_add_2 _ _)
   (tuple_addW1 t b vs.toArray ws.toArray n n2 dd dd2 sl sl2 (by simpa using hv) (by simp[hw])) ⟨ho,ho2,h1 hw⟩
 .refine concat_meets ⟨_,ho,rfl⟩ ⟨_,ho2,rfl⟩ noFill_tuple_add seq_tuple_add PySem.F.slot_tuple_add PySem.F.entry_tuple_add (PySem.F.args_tuple_add_2 _ _)
   (tuple_addW2 t b vs.toArray ws.toArray n n2 dd dd2 sl sl2 (by simpa using hv) (by simpa using hw) (by rw[yYD,yYD];exact hsz)) ⟨ho,ho2,?_⟩
  rw[e]
  exact h2 hw
def sIx (n d:Nat):Option Int->Nat
 | none=>d
 | some v=>if v<0 then (v+(n:Int)).toNat else min v.toNat n
theorem sIx_none (n d:Nat):sIx n d none=d:=rfl
theorem sIx_nat (n d k:Nat):sIx n d (some (k:Int))=min k n:=by
 show(if (k:Int)<0 then ((k:Int)+(n:Int)).toNat else min (k:Int).toNat n)=min k n
 rw[if_neg (by omega),Int.toNat_natCast]
theorem xKd (n d:Nat)(hd:d<=n)(o:Option Int):sIx n d o<=n:=by
 cases o with
 | none=>exact hd
 | some v=>
  show(if v<0 then (v+(n:Int)).toNat else min v.toNat n)<=n
  by_cases hv:v<0
  .rw[if_pos hv];omega
  .rw[if_neg hv];exact Nat.min_le_right _ _
theorem qPe (v:Int)(n d:Nat):(if v<0 then max (v+(n:Int)) 0 else min v (n:Int))=((sIx n d (some v):Nat):Int):=by
 show(if v<0 then max (v+(n:Int)) 0 else min v (n:Int))=(((if v<0 then (v+(n:Int)).toNat else min v.toNat n):Nat):Int)
 by_cases hv:v<0
 .simp only[if_pos hv];omega
 .simp only[if_neg hv];omega
theorem qHj (lo hi:Option Int)(n:Nat):Builtin.Slice.sliceAdjust lo hi 1 (n:Int)=(((sIx n 0 lo:Nat):Int),((sIx n n hi:Nat):Int)):=by
 have h1:¬((1:Int)<0):=by omega
 unfold Builtin.Slice.sliceAdjust
 simp only[h1,if_false]
 refine Prod.ext ?_ ?_
 .cases lo with
  | none=>rfl
  | some v=>exact qPe v n 0
 .cases hi with
  | none=>rfl
  | some v=>exact qPe v n n
theorem qFa (i j:Nat):Builtin.Slice.slicePlaces (i:Int) (j:Int) 1=j - i:=by
 unfold Builtin.Slice.slicePlaces
 have h1:(1:Int)>0:=by omega
 simp only[h1,if_true,Int.ediv_one]
 split <;> omega
theorem qJk {v:Value}{o:Option Int}{Q:Option Int->Shared->Prop}(p:IsPart v o)(h:Q o s):wpAny (model prog w) A (Builtin.Slice.slicePartIndex v) Q E s:=by
 cases p with
 | none=>exact slicePart_none h
 | int i t=>exact slicePart_int h
theorem qQe {sl:Addr}{vl vu:Value}{lo hi:Option Int}{n:Nat}{Q:Int×Int×Nat->Shared->Prop}(hs:s.heap.IsSliceOf sl vl vu .none)(pl:IsPart vl lo)(pu:IsPart vu hi)
  (h:Q (((sIx n 0 lo:Nat):Int),1,sIx n n hi - sIx n 0 lo) s):wpAny (model prog w) A (Builtin.Slice.sliceApplied (.ref sl) (pure (n:Int))) Q E s:=by
 obtain⟨os,hos,hcs,hds⟩:=id hs
 unfold Builtin.Slice.sliceApplied Builtin.Slice.sliceFields
 refine yYX (yYX (wpAny_field hos hds (x:=vl) rfl (yYX (wpAny_field hos hds (x:=vu) rfl (yYX (wpAny_field hos hds (x:=.none) rfl (yYY ?_)))))))
 refine yYX (slicePart_none ?_)
 show wpAny _ _ (if ((1:Int) == 0)=true then _ else _) _ _ s
 rw[if_neg (by decide)]
 refine yYX (qJk pl (yYX (qJk pu (yYX (yYY ?_)))))
 show wpAny _ _ (match Builtin.Slice.sliceAdjust lo hi 1 (n:Int) with | (lo,hi)=>pure (lo,(1:Int),Builtin.Slice.slicePlaces lo hi 1)) _ _ s
 rw[qHj lo hi n]
 show wpAny _ _ (pure (((sIx n 0 lo:Nat):Int),(1:Int),Builtin.Slice.slicePlaces ((sIx n 0 lo:Nat):Int) ((sIx n n hi:Nat):Int) 1)) _ _ s
 rw[qFa]
 exact yYY h
theorem qSd (xs:Array Value)(i k:Nat):((List.range k).filterMap fun(m:Nat)=>xs[((i:Int)+(m:Int) * 1).toNat]?).toArray=((xs.toList.drop i).take k).toArray:=by
 have e:(fun(m:Nat)=>xs[((i:Int)+(m:Int) * 1).toNat]?)=fun m=>xs[i+m]? := by
  funext m
  have:((i:Int)+(m:Int) * 1).toNat=i+m:=by omega
  rw[this]
 rw[e]
 have:=pick_run xs i k
 rw[List.filterMap_map] at this
 have e2:((fun x=>xs[x]?)∘fun x=>i+x)=fun m=>xs[i+m]? := rfl
 rw[e2] at this
 rw[this]
theorem getItem_tuple_cut {t sl:Addr}{items:Array Value}{vl vu:Value}{lo hi:Option Int}{Q:Value->Shared->Prop}(ht:IsTup s.heap t items)(hs:s.heap.IsSliceOf sl vl vu .none)(pl:IsPart vl lo)(pu:IsPart vu hi)
  (hw:¬(sIx items.size 0 lo=0/\sIx items.size items.size hi=items.size))
  (h:Q (.ref s.heap.objs.size) { s with heap:=s.heap.push { cls:=.type "tuple",data:=.seq ((items.toList.drop (sIx items.size 0 lo)).take (sIx items.size items.size hi - sIx items.size 0 lo)).toArray } })
  (hsz:items.size<=sizeLine):wpAny (model prog w) A (getItem (.ref t) (.ref sl)) Q E s:=by
 have htake:sizeOk (.seq ((items.toList.drop (sIx items.size 0 lo)).take (sIx items.size items.size hi - sIx items.size 0 lo)).toArray):=by
  show((items.toList.drop (sIx items.size 0 lo)).take (sIx items.size items.size hi - sIx items.size 0 lo)).toArray.size<=sizeLine
  rw[yYD,yYF,List.length_drop,yZM]
  omega
 have hj:sIx items.size items.size hi<=items.size:=xKd _ _ (yZD _) hi
 obtain⟨os,hos,hcs,hds⟩:=id hs
 have hTs:s.TypeIs (.ref sl) "slice" := ⟨os,hos,hcs⟩
 unfold getItem
 try with_reducible refine wpAny_holding ?_
 first | refine yYX (yYY ?_) | skip
 refine yYX (wpAny_sequenceKey ht.typeIs (by decide) ?_)
 refine yYX (wpAny_callSpecial?_slot (name:=Str.ofString "__getitem__") ht.typeIs PyProof.Rows.slot_tuple_getitem
  (wpAny_call_entry PyProof.Rows.slot_tuple_getitem ht.typeIs entry_tuple_getitem ?_ (args_tuple_getitem _ _)))
 show wpAny _ _ (Builtin.Tuple.tupleItemsOf (.ref t) >>= _) _ _ s
 refine yYX (tupleItemsOf_ ht ?_)
 refine yYX (wpAny_typeOf hTs ?_)
 rw[if_pos (by decide)]
 refine yYX (qQe hs pl pu ?_)
 have hno:¬((((sIx items.size 0 lo:Nat):Int) == 0 && (1:Int) == 1 && (sIx items.size items.size hi - sIx items.size 0 lo) == items.size)=true):=by
  intro q
  rw[Bool.and_eq_true,Bool.and_eq_true] at q
  have q1:((sIx items.size 0 lo:Nat):Int)=0:=eq_of_beq q.1.1
  have q2:sIx items.size items.size hi - sIx items.size 0 lo=items.size:=eq_of_beq q.2
  exact hw ⟨by omega,by omega⟩
 show wpAny _ _ (if (((sIx items.size 0 lo:Nat):Int) == 0 && (1:Int) == 1 && (sIx items.size items.size hi - sIx items.size 0 lo) == items.size)=true then _ else _) _ _ s
 rw[if_neg hno,qSd]
 first
  | exact yYX (m:=Builtin.Tuple.tupleExact _) (wpAny_newObj_type (yYY ⟨_,rfl,yYY h⟩) htake)
  | exact yYX (m:=Builtin.Tuple.tupleExact _) (wpAny_newObj_type (yYX (yYY (yYY ⟨_,rfl,yYY h⟩))) htake)
  | exact yYX (yYX (m:=Builtin.Tuple.tupleExact _) (wpAny_newObj_type (yYY (yYY ⟨_,rfl,yYY h⟩)) htake))
  | exact yYX (yYX (m:=Builtin.Tuple.tupleExact _) (wpAny_newObj_type (yYY ⟨_,rfl,yYY h⟩) htake))
end
end HT
namespace L2
open PySem PySem.Spec PyProof.Rows
abbrev TO:=St->Hp->(Option Int->Hp->Prop)->Prop
def PO (X:Cx)(e:Option Expr)(t:TO):Prop:=
 ∀(zz:List (Addr×Obj)) (s:Shared) (σ:St) (H:Hp) (Q:Option Int->Hp->Prop),Inv X zz σ H s->t σ H Q->
  wpAny (model X.prog X.w) X.A (evalPart e X.env) (fun u s'=>∃o H',Inv X zz σ H' s'/\IsPart u o/\Q o H') X.xe s
def qHo:TO:=fun _ H Q=>Q none H
def tPart (t:TE):TO:=fun σ H Q=>t σ H fun x H1=>∃i,x=.int i/\Q (some i) H1
section
variable {X:Cx}{e:Expr}{te:TE}{lo hi:Option Expr}{tl th:TO}{pos p2:Pos}
theorem qBz:PO X none qHo:=by
 intro zz s σ H Q I h
 rw[evalPart_none]
 exact yYY ⟨none,H,I,.none,h⟩
theorem qBx (h:PE X e te):PO X (some e) (tPart te):=by
 intro zz s σ H Q I hw
 rw[evalPart_some]
 refine thn (h zz s σ H _ I hw) fun u s1 ⟨x,H1,I1,r1,q1⟩=>?_
 obtain⟨i,rfl,q⟩:=q1
 obtain⟨t,rfl⟩:=r1
 exact⟨some i,H1,I1,.int i t,q⟩
def SlR (X:Cx)(r:V->Option Int->Option Int->Hp->VK->Prop):Prop:=
 ∀(zz:List (Addr×Obj)) (s:Shared) (σ:St) (H:Hp) (x:V) (v vl vu:Value) (lo hi:Option Int) (sl:Addr) (Q:VK),Inv X zz σ H s->RelV x v->s.heap.IsSliceOf sl vl vu .none->IsPart vl lo->IsPart vu hi->r x lo hi H Q->
  ∃T id,typeLookup (.type T) "__getitem__" = pure (some (.builtin id))/\s.TypeIs v T/\wpAny (model X.prog X.w) X.A (getItem v (.ref sl)) (EP X zz σ Q) X.xe s
def tSl (r:V->Option Int->Option Int->Hp->VK->Prop)(te:TE)(tl th:TO):TE:=fun σ H Q=>te σ H fun x H1=>tl σ H1 fun l H2=>th σ H2 fun u H3=>r x l u H3 Q
theorem qYo {r:V->Option Int->Option Int->Hp->VK->Prop}(hr:SlR X r)(he:PE X e te)(hl:PO X lo tl)(hu:PO X hi th):PE X (.Subscript e (.Slice lo hi none p2) pos) (tSl r te tl th):=by
 intro zz s σ H Q I h
 refine Subscript_ (thn (he zz s σ H _ I h) fun v s1 ⟨x,H1,I1,r1,q1⟩=>?_)
 refine wpAny_Slice (thn (hl zz s1 σ H1 _ I1 q1) fun vl s2 ⟨l,H2,I2,pl,q2⟩=>thn (hu zz s2 σ H2 _ I2 q2) fun vu s3 ⟨u,H3,I3,pu,q3⟩=>?_)
 rw[evalPart_none]
 refine yYY ?_
 have I4:Inv X zz σ H3 { s3 with heap:=s3.heap.push { cls:=.type "slice",data:=.fields #[vl,vu,.none] } }:=I3.kept (t':=s3.toks) fun b ob q=>yYZ _ q
 obtain⟨T,id,hT,ht,hg⟩:=hr zz { s3 with heap:=s3.heap.push { cls:=.type "slice",data:=.fields #[vl,vu,.none] } } σ H3 x v vl vu l u s3.heap.objs.size Q I4 r1 (Heap.IsSliceOf.new ..) pl pu q3
 show wpAny (model X.prog X.w) X.A (subscriptTail e (.Slice lo hi none p2) v (.ref s3.heap.objs.size)) (EP X zz σ Q) X.xe { s3 with heap:=s3.heap.push { cls:=.type "slice",data:=.fields #[vl,vu,.none] } }
 exact tail_any (ops:=[.ref s3.heap.objs.size,v]) ht hT hg (by with_unfolding_all rfl)
def cutV (xs:List V)(lo hi:Option Int):List V:=(xs.drop (HT.sIx xs.length 0 lo)).take (HT.sIx xs.length xs.length hi - HT.sIx xs.length 0 lo)
theorem vS (xs:List V)(lo hi:Option Int):(cutV xs lo hi).length<=xs.length:=by
 unfold cutV
 rw[yYF,List.length_drop]
 omega
def rSlT (K:yZP):V->Option Int->Option Int->Hp->VK->Prop:=fun x lo hi H Q=>∃a xs,x=.ref a/\SqT K H a xs/\
 ¬(HT.sIx xs.length 0 lo=0/\HT.sIx xs.length xs.length hi=xs.length)/\∀p,H p=none->Q (.ref p) (upd H p (.tup (cutV xs lo hi)))
theorem xKc:SlR X (rSlT X.K):=by
 intro zz s σ H x v vl vu lo hi sl Q I rx hs pl pu h
 obtain⟨a,xs,rfl,hx,hw,q⟩:=h
 cases rx
 obtain⟨its,r,ht,hz⟩:=I.tuple hx
 have hlen:its.toArray.size=xs.length:=by rw[yYD];exact r.length.symm
 refine⟨"tuple",_,PyProof.Rows.slot_tuple_getitem.lookup,ht.typeIs,?_⟩
 refine HT.getItem_tuple_cut ht hs pl pu (by rw[hlen];exact hw) ?_ (by rw[hlen];exact hz)
 rw[hlen]
 refine⟨.ref s.heap.objs.size,_,I.laid (t':=s.toks) (o:=.tup (cutV xs lo hi)) (fun b ob q=>yYZ _ q) (yZD _) ?_,rfl,q _ (I.hok.fresh (yZD _))⟩
 exact⟨yZJ (vS xs lo hi) hz,_,(r.drop (HT.sIx xs.length 0 lo)).take (HT.sIx xs.length xs.length hi - HT.sIx xs.length 0 lo),TupX.new _ _⟩
def rCatT (K:yZP):R2:=fun x y H Q=>∃a b xs ys,x=.ref a/\y=.ref b/\SqT K H a xs/\SqT K H b ys/\xs≠[]/\xs.length+ys.length<=sizeLine/\
 (ys=[]->Q (.ref a) H)/\(ys≠[]->∀p,H p=none->Q (.ref p) (upd H p (.tup (xs++ys))))
theorem Vals.nil_iff {xs:List V}{us:List Value}(r:Vals xs us):us=[]↔xs=[]:=by
 cases r with
 | nil=>simp
 | cons _ _=>simp
theorem xZn:OpR X (binaryOp .Add) (rCatT X.K):=by
 intro zz s σ H x y v u Q I rx ry h
 obtain⟨a,b,xs,ys,rfl,rfl,ha,hb,hx,hz,q1,q2⟩:=h
 cases rx
 cases ry
 obtain⟨its,r1,p1,_⟩:=I.tuple ha
 obtain⟨its2,r2,p2,_⟩:=I.tuple hb
 refine HT.cat_tup p1 p2 (fun z=>hx (r1.nil_iff.mp z)) (fun z=>⟨.ref a,H,I,rfl,q1 (r2.nil_iff.mp z)⟩) (fun z=>?_) (by rw[<- r1.length,<- r2.length];exact hz)
 refine⟨.ref s.heap.objs.size,_,I.laid (t':=s.toks) (o:=.tup (xs++ys)) (fun b ob q=>yYZ _ q) (yZD _) ?_,rfl,q2 (fun w=>z (r2.nil_iff.mpr w)) _ (I.hok.fresh (yZD _))⟩
 exact⟨by rw[yYI];exact hz,_,r1.append r2,TupX.new _ _⟩
end
end L2
namespace L2
open PySem PySem.Spec PyProof.Rows
def ixN (n:Nat)(i:Int):Option Nat:=if 0<=i then (if i<n then some i.toNat else none) else if -(n:Int)<=i then some (i+n).toNat else none
def atI {α:Type}(xs:List α)(i:Int):Option α:=(ixN xs.length i).bind fun j=>xs[j]?
theorem qNe {n:Nat}{i:Int}{j:Nat}(h:ixN n i=some j):seqIndex? i n=some j/\j<n/\-(n:Int)<=i/\i<n:=by
 unfold ixN at h
 by_cases h0:0<=i
 .rw[if_pos h0] at h
  by_cases h1:i<n
  .rw[if_pos h1] at h
   have e:i.toNat=j:=Option.some.inj h
   exact⟨by rw[seqIndex_of h0 h1,e],by omega,by omega,h1⟩
  .rw[if_neg h1] at h;cases h
 .rw[if_neg h0] at h
  by_cases h1 : -(n:Int)<=i
  .rw[if_pos h1] at h
   have e:(i+n).toNat=j:=Option.some.inj h
   exact⟨by rw[seqIndex_neg (by omega) h1,e],by omega,h1,by omega⟩
  .rw[if_neg h1] at h;cases h
theorem qRj {α:Type}{xs:List α}{i:Int}{v:α}(h:atI xs i=some v):∃j,seqIndex? i xs.length=some j/\xs[j]? = some v/\j<xs.length/\-(xs.length:Int)<=i/\i<xs.length:=by
 unfold atI at h
 cases e:ixN xs.length i with
 | none=>rw[e] at h;cases h
 | some j=>
  rw[e] at h
  obtain⟨h1,h2,h3,h4⟩:=qNe e
  exact⟨j,h1,h,h2,h3,h4⟩
theorem qKm {α:Type}{xs:List α}{j:Nat}{v:α}(h:xs[j]? = some v):atI xs (j:Int)=some v:=by
 have hj:j<xs.length:=(yYB.mp h).1
 have e:ixN xs.length (j:Int)=some j:=by
  unfold ixN
  rw[if_pos (by omega),if_pos (by omega)];simp
 unfold atI;rw[e];exact h
def qRk (b:Expr):Prop:=∀o i,subscripted b false o i=operate [o,i] (getItem o i)
def IxR (X:Cx)(r:R2):Prop:=
 ∀(value slice:Expr) (zz:List (Addr×Obj)) (s:Shared) (σ:St) (H:Hp) (x y:V) (v u:Value) (Q:VK),Inv X zz σ H s->RelV x v->RelV y u->r x y H Q->
  subscripted slice false v u=operate [v,u] (getItem v u)->wpAny (model X.prog X.w) X.A (subscriptTail value slice v u) (EP X zz σ Q) X.xe s
def MtR (X:Cx)(id:String)(r:V->List V->Hp->VK->Prop):Prop:=
 ∀(zz:List (Addr×Obj)) (s:Shared) (σ:St) (H:Hp) (x:V) (xs:List V) (v:Value) (us:List Value) (Q:VK),Inv X zz σ H s->RelV x v->Vals xs us->r x xs H Q->
  wpAny (model X.prog X.w) X.A (call (.builtin id) (v::us)) (EP X zz σ Q) X.xe s
section
variable {X:Cx}{a b:Expr}{ta tb:TE}{pos:Pos}
theorem xAi {r:R2}(hr:IxR X r)(ha:PE X a ta)(hb:PE X b tb)(hs:qRk b):PE X (.Subscript a b pos) (tOp r ta tb):=by
 intro zz s σ H Q I h
 exact Subscript_ (binT ha hb I h fun v u s2 x y H2 I2 rx ry q=>hr a b zz s2 σ H2 x y v u Q I2 rx ry q (hs _ _))
def rIxL (K:yZP):R2:=fun x y H Q=>∃p xs i v,x=.ref p/\y=.int i/\SqL K H p xs/\atI xs i=some v/\Q v H
def rIxT (K:yZP):R2:=fun x y H Q=>∃p xs i v,x=.ref p/\y=.int i/\SqT K H p xs/\atI xs i=some v/\Q v H
theorem xJb:IxR X (rIxL X.K):=by
 intro value slice zz s σ H x y v u Q I rx ry h hs
 obtain⟨p,xs,i,z,rfl,rfl,hq,he,q⟩:=h
 cases rx
 obtain⟨t,rfl⟩:=ry
 obtain⟨its,r,pl,hz⟩:=I.list hq
 obtain⟨j,h1,h2,h3,h4,h5⟩:=qRj he
 obtain⟨w,ew,rw'⟩:=r.get h2
 have hl:=r.length
 have hn:=line63
 have fin:EP X zz σ Q w s:=⟨z,H,I,rw',q⟩
 by_cases h0:0<=i
 .have hj:i.toNat=j:=by
   rw[seqIndex_of h0 h5] at h1
   exact Option.some.inj h1
  exact item_listR pl.isList h0 (by omega) (by rw[hj];simpa using ew) fin hs
 .have hj:(i+(its.toArray.size:Int)).toNat=j:=by
   rw[seqIndex_neg (by omega) h4] at h1
   rw[yYD,<- hl]
   exact Option.some.inj h1
  exact subscriptTail_builtinR (x:=w) pl.isList.typeIs slot_list_getitem.lookup
   (wpAny_getItem_list_neg (Q:=fun r s'=>r=w/\EP X zz σ Q r s') pl.isList (by omega) (by rw[yYD] <;> omega) (by omega) (by rw[hj];simpa using ew) ⟨rfl,fin⟩) hs
theorem xWv:IxR X (rIxT X.K):=by
 intro value slice zz s σ H x y v u Q I rx ry h hs
 obtain⟨p,xs,i,z,rfl,rfl,hq,he,q⟩:=h
 cases rx
 obtain⟨t,rfl⟩:=ry
 obtain⟨its,r,pl,hz⟩:=I.tuple hq
 obtain⟨j,h1,h2,h3,h4,h5⟩:=qRj he
 obtain⟨w,ew,rw'⟩:=r.get h2
 have hl:=r.length
 have hn:=line63
 have fin:EP X zz σ Q w s:=⟨z,H,I,rw',q⟩
 exact subscriptTail_builtinR (x:=w) pl.typeIs slot_tuple_getitem.lookup
  (getItem_tuple (j:=j) (Q:=fun r s'=>r=w/\EP X zz σ Q r s') pl (by omega) (by omega) (by rw[yYD,<- hl];exact h1) (by simpa using ew) ⟨rfl,fin⟩) hs
theorem qFg (its:List Value)(n j:Nat)(u:Value):Obj.mapSeq (·.setIfInBounds j u) { cls:=.type "list",data:=.seq its.toArray n }={ cls:=.type "list",data:=.seq (its.set j u).toArray n }:=by
 simp[Obj.mapSeq]
theorem Inv.lst {zz:List (Addr×Obj)}{σ:St}{H:Hp}{s:Shared}{p:Addr}{xs:List V}(I:Inv X zz σ H s)(h:H p=some (.lst xs)):
  ∃(its:List Value) (n:Nat),Vals xs its/\s.heap.get? p=some { cls:=.type "list",data:=.seq its.toArray n }/\xs.length<=sizeLine:=by
 obtain⟨z,its,n,r,e⟩:=I.hok p _ h
 exact⟨its,n,r,e,z⟩
theorem Inv.lstUpd {zz:List (Addr×Obj)}{σ:St}{H:Hp}{s:Shared}{p:Addr}{xs ys:List V}{its its':List Value}{n n':Nat}{f:Obj->Obj}(I:Inv X zz σ H s)(h:H p=some (.lst xs))
  (ho:s.heap.get? p=some { cls:=.type "list",data:=.seq its.toArray n }) (hf:f { cls:=.type "list",data:=.seq its.toArray n }={ cls:=.type "list",data:=.seq its'.toArray n' }) (r:Vals ys its') (hz:ys.length<=sizeLine) (t:Nat):
  Inv X zz σ (upd H p (.lst ys)) { s with heap:=s.heap.update p f,toks:=t }:=by
 have e:(s.heap.update p f).get? p=some { cls:=.type "list",data:=.seq its'.toArray n' }:=by
  rw[Heap.get?_update_self f ho (by rw[hf] <;> rfl),hf]
 refine I.write (x:=p) (e:=p) (by rw[h];trivial) (.inl rfl) (fun b u hb q=>(Heap.get?_update_other _ _ (Ne.symm hb)).trans q) ⟨_,e⟩ ?_
 exact⟨hz,its',n',r,e⟩
def rSetL:V->V->V->Hp->(Hp->Prop)->Prop:=fun o i v H Q=>∃p xs k j,o=.ref p/\i=.int k/\H p=some (.lst xs)/\ixN xs.length k=some j/\Q (upd H p (.lst (xs.set j v)))
theorem qDi:PSet X rSetL:=by
 intro zz s σ H o i v ov iv u Q I ro ri rv h
 obtain⟨p,xs,k,j,rfl,rfl,hp,hj,q⟩:=h
 cases ro
 obtain⟨t,rfl⟩:=ri
 obtain⟨its,n,r,ho,hz⟩:=I.lst hp
 obtain⟨h1,h2,h3,h4⟩:=qNe hj
 have hl:=r.length
 have hn:=line63
 have I':Inv X zz σ (upd H p (.lst (xs.set j v))) { s with heap:=s.heap.update p (Obj.mapSeq (·.setIfInBounds j u)) }:=
  I.lstUpd hp ho (qFg its n j u) (r.set rv j) (by rw[List.length_set];exact hz) s.toks
 by_cases h0:0<=k
 .have hk:k.toNat=j:=by
   rw[seqIndex_of h0 h4] at h1
   exact Option.some.inj h1
  exact PySem.W.ki_setAt ho h0 (by omega) (by rw[yYD,<- hl];exact h4) (by rw[hk];exact⟨_,I',q⟩)
 .have hk:(k+(its.toArray.size:Int)).toNat=j:=by
   rw[seqIndex_neg (by omega) h3] at h1
   rw[yYD,<- hl]
   exact Option.some.inj h1
  exact PySem.W.ki_setBack ho (by omega) (by rw[yYD,<- hl];exact h3) (by omega) (by rw[hk];exact⟨_,I',q⟩)
theorem qVd (lo hi:Option Int)(n:Nat):(sliceBounds lo hi none n).1=((HT.sIx n 0 lo:Nat):Int)/\(sliceBounds lo hi none n).2.1=((HT.sIx n n hi:Nat):Int)/\(sliceBounds lo hi none n).2.2=1:=by
 refine⟨?_,?_,rfl⟩
 .cases lo with
  | none=>simp[sliceBounds,HT.sIx]
  | some i=>
   simp only[sliceBounds,HT.sIx,Option.getD_none,show(1:Int)>0 by decide,if_true]
   by_cases h:i<0
   .simp only[h,if_true] <;> omega
   .simp only[h,if_false] <;> omega
 .cases hi with
  | none=>simp[sliceBounds,HT.sIx]
  | some i=>
   simp only[sliceBounds,HT.sIx,Option.getD_none,show(1:Int)>0 by decide,if_true]
   by_cases h:i<0
   .simp only[h,if_true] <;> omega
   .simp only[h,if_false] <;> omega
theorem qYf (its:List Value)(lo hi:Option Int):slicePick its.toArray lo hi none=((its.drop (HT.sIx its.length 0 lo)).take (HT.sIx its.length its.length hi - HT.sIx its.length 0 lo)).toArray:=by
 obtain⟨h1,h2,h3⟩:=qVd lo hi its.toArray.size
 unfold slicePick
 rw[h1,h2,h3]
 simp only[sliceRange_one,pick_run,yYD] <;> rfl
def rSlL (K:yZP):V->Option Int->Option Int->Hp->VK->Prop:=fun x lo hi H Q=>∃a xs,x=.ref a/\SqL K H a xs/\∀p,H p=none->Q (.ref p) (upd H p (.lst (cutV xs lo hi)))
theorem xXh:SlR X (rSlL X.K):=by
 intro zz s σ H x v vl vu lo hi sl Q I rx hs pl pu h
 obtain⟨a,xs,rfl,hx,q⟩:=h
 cases rx
 obtain⟨its,r,ht,hz⟩:=I.list hx
 have hlen:=r.length
 refine⟨"list",_,slot_list_getitem.lookup,ht.isList.typeIs,?_⟩
 refine wpAny_getItem_list_slice ht.isList hs pl pu .none (by simp) ?_ (by rw[yYD] <;> omega)
 rw[qYf,<- hlen]
 refine⟨.ref s.heap.objs.size,_,I.laid (t':=s.toks) (o:=.lst (cutV xs lo hi)) (fun b ob q=>yYZ _ q) (yZD _) ?_,rfl,q _ (I.hok.fresh (yZD _))⟩
 exact⟨yZJ (vS xs lo hi) hz,_,0,(r.drop (HT.sIx xs.length 0 lo)).take (HT.sIx xs.length xs.length hi - HT.sIx xs.length 0 lo),yZB _ rfl⟩
def flatV:V->Bool
 | .non=>true
 | .bl _=>true
 | .int _=>true
 | .str _=>true
 | _=>false
def eqV:V->V->Bool
 | .non,.non=>true
 | .bl a,.bl b=>a == b
 | .bl a,.int b=>(if a then 1 else 0) == b
 | .int a,.bl b=>a == (if b then 1 else 0)
 | .int a,.int b=>a == b
 | .str a,.str b=>a == b
 | _,_=>false
theorem xWd {A:Around}{s:Shared}{y x:V}{u v:Value}(ry:RelV y u)(rx:RelV x v)(fy:flatV y=true)(fx:flatV x=true):SeqAt.EqAt A s u v (eqV y x):=by
 cases y with
 | non=>
  cases ry
  cases x with
  | non=>cases rx;exact SeqAt.EqAt.same _
  | bl b=>cases rx;exact SeqAt.EqAt.none_bool b
  | int b=>obtain⟨t,rfl⟩:=rx;exact SeqAt.EqAt.none_int b t
  | str b=>obtain⟨t,rfl⟩:=rx;exact SeqAt.EqAt.none_str b t
  | _=>exact absurd (show false=true from fx) yZL
 | bl a=>
  cases ry
  cases x with
  | non=>cases rx;exact SeqAt.EqAt.bool_none a
  | bl b=>cases rx;exact SeqAt.EqAt.bool_bool a b
  | int b=>obtain⟨t,rfl⟩:=rx;exact SeqAt.EqAt.bool_int a b t
  | str b=>obtain⟨t,rfl⟩:=rx;exact SeqAt.EqAt.bool_str a b t
  | _=>exact absurd (show false=true from fx) yZL
 | int a=>
  obtain⟨t',rfl⟩:=ry
  cases x with
  | non=>cases rx;exact SeqAt.EqAt.int_none a t'
  | bl b=>cases rx;exact SeqAt.EqAt.int_bool a t' b
  | int b=>obtain⟨t,rfl⟩:=rx;exact SeqAt.EqAt.int_int a t' b t
  | str b=>obtain⟨t,rfl⟩:=rx;exact SeqAt.EqAt.int_str a t' b t
  | _=>exact absurd (show false=true from fx) yZL
 | str a=>
  obtain⟨t',rfl⟩:=ry
  cases x with
  | non=>cases rx;exact SeqAt.EqAt.str_none a t'
  | bl b=>cases rx;exact SeqAt.EqAt.str_bool a t' b
  | int b=>obtain⟨t,rfl⟩:=rx;exact SeqAt.EqAt.str_int a t' b t
  | str b=>obtain⟨t,rfl⟩:=rx;exact SeqAt.EqAt.str_str a t' b t
  | _=>exact absurd (show false=true from fx) yZL
 | _=>exact absurd (show false=true from fy) yZL
def eqU (x:V)(u:Value):Bool:=match u with
 | .none=>eqV .non x
 | .bool b=>eqV (.bl b) x
 | .int i _=>eqV (.int i) x
 | .str z _=>eqV (.str z) x
 | _=>false
theorem xQo {x y:V}{u:Value}(r:RelV y u)(f:flatV y=true):eqU x u=eqV y x:=by
 cases y with
 | non=>cases r;rfl
 | bl b=>cases r;rfl
 | int i=>obtain⟨t,rfl⟩:=r;rfl
 | str z=>obtain⟨t,rfl⟩:=r;rfl
 | _=>exact absurd (show false=true from f) yZL
theorem qZi {x:V}:∀{xs:List V} {us:List Value},Vals xs us->xs.all flatV=true->us.any (eqU x)=xs.any fun y=>eqV y x
 | _,_,.nil,_=>rfl
 | y::xs,u::us,.cons r t,f=>by
  rw[List.all_cons,Bool.and_eq_true] at f
  rw[List.any_cons,List.any_cons,xQo r f.1,qZi t f.2]
theorem wA {A:Around}{s:Shared}{x:V}{v:Value}(rx:RelV x v)(fx:flatV x=true):∀{xs:List V} {us:List Value},Vals xs us->xs.all flatV=true->∀u∈us,SeqAt.EqAt A s u v (eqU x u)
 | _,_,.nil,_=>fun u hu=>by cases hu
 | y::xs,u::us,.cons r t,f=>fun u' hu=>by
  rw[List.all_cons,Bool.and_eq_true] at f
  rcases yYK.mp hu with rfl | hu
  .rw[xQo r f.1];exact xWd r rx f.1 fx
  .exact wA rx fx t f.2 u' hu
def inV (x:V)(xs:List V):Bool:=xs.any fun y=>eqV y x
def rIn (K:yZP)(neg:Bool):R2:=fun x y H Q=>∃p xs,y=.ref p/\(SqL K H p xs\/SqT K H p xs)/\flatV x=true/\xs.all flatV=true/\Q (.bl (if neg then !inV x xs else inV x xs)) H
theorem qMi:OpR X (compareOp .In) (rIn X.K false):=by
 intro zz s σ H x y v u Q I rx ry h
 obtain⟨p,xs,rfl,hq,fx,fs,q⟩:=h
 cases ry
 rcases hq with hq | hq
 .obtain⟨its,r,pl,hz⟩:=I.list hq
  refine SeqAt.in_listAt (eqU x) pl.isList (fun w hw=>wA rx fx r fs w (by simpa using hw)) ⟨.bl _,H,I,rfl,?_⟩
  rw[show its.toArray.any (eqU x)=its.any (eqU x) by simp,qZi r fs]
  exact q
 .obtain⟨its,r,pl,hz⟩:=I.tuple hq
  refine SeqAt.in_tupleAt (eqU x) pl (fun w hw=>wA rx fx r fs w (by simpa using hw)) ⟨.bl _,H,I,rfl,?_⟩
  rw[show its.toArray.any (eqU x)=its.any (eqU x) by simp,qZi r fs]
  exact q
theorem qWz:OpR X (compareOp .NotIn) (rIn X.K true):=by
 intro zz s σ H x y v u Q I rx ry h
 obtain⟨p,xs,rfl,hq,fx,fs,q⟩:=h
 cases ry
 rcases hq with hq | hq
 .obtain⟨its,r,pl,hz⟩:=I.list hq
  refine SeqAt.notIn_listAt (eqU x) pl.isList (fun w hw=>wA rx fx r fs w (by simpa using hw)) ⟨.bl _,H,I,rfl,?_⟩
  rw[show its.toArray.any (eqU x)=its.any (eqU x) by simp,qZi r fs]
  exact q
 .obtain⟨its,r,pl,hz⟩:=I.tuple hq
  refine SeqAt.notIn_tupleAt (eqU x) pl (fun w hw=>wA rx fx r fs w (by simpa using hw)) ⟨.bl _,H,I,rfl,?_⟩
  rw[show its.toArray.any (eqU x)=its.any (eqU x) by simp,qZi r fs]
  exact q
theorem qAz:CallR X (.builtin "len") (fun xs H Q=>∃p ys,xs=[.ref p]/\(SqL X.K H p ys\/SqT X.K H p ys)/\Q (.int ys.length) H):=by
 intro zz s σ H xs us Q I r h
 obtain⟨p,ys,rfl,hq,q⟩:=h
 obtain⟨u,rfl,rx⟩:=vals1 r
 cases rx
 have hn:=line63
 rcases hq with hq | hq
 .obtain⟨its,r',pl,hz⟩:=I.list hq
  have hlen:=r'.length
  exact Calls.call_len_list pl.isList (by simp only[yYD] <;> omega) ⟨.int ys.length,H,I.tok _,⟨s.toks+1,by rw[yYD,hlen]⟩,q⟩
 .obtain⟨its,r',pl,hz⟩:=I.tuple hq
  have hlen:=r'.length
  exact len_tuple pl (by simp only[yYD] <;> omega) ⟨.int ys.length,H,I.tok _,⟨s.toks+1,by rw[yYD,hlen]⟩,q⟩
theorem qAx:CallR X (.type "list") (fun xs H Q=>∃p ys,xs=[.ref p]/\(SqL X.K H p ys\/SqT X.K H p ys)/\∀l,H l=none->Q (.ref l) (upd H l (.lst ys))):=by
 intro zz s σ H xs us Q I r h
 obtain⟨p,ys,rfl,hq,q⟩:=h
 obtain⟨u,rfl,rx⟩:=vals1 r
 cases rx
 have fin:∀(its:List Value),Vals ys its->ys.length<=sizeLine->∀(h':Heap) (c':Nat),(∀b o',s.heap.get? b=some o'->h'.get? b=some o')->
   h'.get? s.heap.objs.size=some { cls:=.type "list",dict:=none,data:=.seq its.toArray c',slots:=#[] }->EP X zz σ Q (.ref s.heap.objs.size) { s with heap:=h' }:=fun its r' hz h' c' kp e=>
  ⟨.ref s.heap.objs.size,_,I.laid (t':=s.toks) kp (yZD _) (show ObjOk X.prog X.w _ h' _ (.lst ys) from⟨hz,its,c',r',e⟩),rfl,q _ (I.hok.fresh (yZD _))⟩
 rcases hq with hq | hq
 .obtain⟨its,r',pl,hz⟩:=I.list hq
  have hlen:=r'.length
  obtain⟨o,ho,hc,n,hd⟩:=pl.isList
  exact call_list_seq p (.inl rfl) ho hc hd (fun h' c' kp e=>fin its r' hz h' c' kp e) (by simp only[yYD] <;> omega)
 .obtain⟨its,r',pl,hz⟩:=I.tuple hq
  have hlen:=r'.length
  obtain⟨o,ho,hc,n,hd⟩:=pl
  exact call_list_seq p (.inr rfl) ho hc hd (fun h' c' kp e=>fin its r' hz h' c' kp e) (by simp only[yYD] <;> omega)
theorem qKd:CallR X (.type "tuple") (fun xs H Q=>∃p ys,xs=[.ref p]/\((SqL X.K H p ys/\∀l,H l=none->Q (.ref l) (upd H l (.tup ys)))\/(SqT X.K H p ys/\Q (.ref p) H))):=by
 intro zz s σ H xs us Q I r h
 obtain⟨p,ys,rfl,h⟩:=h
 obtain⟨u,rfl,rx⟩:=vals1 r
 cases rx
 rcases h with⟨hq,q⟩ | ⟨hq,q⟩
 .obtain⟨its,r',pl,hz⟩:=I.list hq
  have hlen:=r'.length
  refine call_tuple_list pl.isList (fun h' kp=>?_) (by simp only[yYD] <;> omega)
  have I1:Inv X zz σ H { s with heap:=h' }:=I.kept (t':=s.toks) kp
  have I2:Inv X zz σ (upd H h'.objs.size (.tup ys)) { s with heap:=h'.push { cls:=.type "tuple",data:=.seq its.toArray } }:=
   I1.laid (t':=s.toks) (fun b o e=>yYZ _ e) (yZD _) (show ObjOk X.prog X.w _ _ _ (.tup ys) from⟨hz,its,r',TupX.new _ _⟩)
  exact⟨.ref h'.objs.size,_,I2,rfl,q _ (I1.hok.fresh (yZD _))⟩
 .obtain⟨its,r',pl,hz⟩:=I.tuple hq
  exact call_tuple_same pl ⟨.ref p,H,I,rfl,q⟩
def tyV (K:yZP)(T:String)(x:V)(H:Hp):Prop:=match x with
 | .str _=>T = "str"
 | .int _=>T = "int"
 | .ref p=>(T = "list" /\ ∃xs,SqL K H p xs)\/(T = "tuple" /\ ∃o,K.lookup p=some o/\o.cls=.type "tuple" /\ o.dict=none)\/
   (T = "dict" /\ ((∃kvs,H p=some (.dK kvs))\/∃kvs,H p=some (.dT kvs)))\/(T = "set" /\ ∃S n,H p=some (.set S n))
 | _=>False
theorem xQz {zz:List (Addr×Obj)}{σ:St}{H:Hp}{s:Shared}{T:String}{x:V}{v:Value}(I:Inv X zz σ H s)(r:RelV x v)(ty:tyV X.K T x H):
  s.TypeIs v T/\∀a,v=.ref a->∃ob,s.heap.get? a=some ob/\ob.dict=none:=by
 cases x with
 | str z=>
  obtain⟨t,rfl⟩:=r
  cases(show T = "str" from ty)
  exact⟨typeIs_str s z t,fun _ e=>nomatch e⟩
 | int i=>
  obtain⟨t,rfl⟩:=r
  cases(show T = "int" from ty)
  exact⟨typeIs_int s i t,fun _ e=>nomatch e⟩
 | ref p=>
  cases r
  rcases ty with⟨rfl,xs,hq⟩ | ⟨rfl,o,hk,hc,hd⟩ | ⟨rfl,hk⟩ | ⟨rfl,S,n,hk⟩
  .obtain⟨its,_,pl,_⟩:=I.list hq
   refine⟨pl.isList.typeIs,fun a e=>?_⟩
   cases e
   obtain⟨o,n,e,c,hd,_⟩:=pl
   exact⟨o,e,hd⟩
  .refine⟨⟨o,I.kIn p o hk,hc⟩,fun a e=>?_⟩
   cases e
   exact⟨o,I.kIn _ o hk,hd⟩
  .have z:∃o,s.heap.get? p=some o/\o.ExactDict:=by
    rcases hk with⟨kvs,hk⟩ | ⟨kvs,hk⟩
    .obtain⟨_,_,_,_,o,_,_,e,ex,_⟩:=I.hok p _ hk
     exact⟨o,e,ex⟩
    .obtain⟨_,_,_,_,o,_,_,e,ex,_⟩:=I.hok p _ hk
     exact⟨o,e,ex⟩
   obtain⟨o,e,ex⟩:=z
   refine⟨⟨o,e,ex.1⟩,fun a e2=>?_⟩
   cases e2
   exact⟨o,e,ex.2.1⟩
  .obtain⟨o,_,_,_,e,ex,_⟩:=I.hok p _ hk
   refine⟨⟨o,e,ex.1⟩,fun a e2=>?_⟩
   cases e2
   exact⟨o,e,ex.2.1⟩
 | _=>exact False.elim ty
def tBM0 (K:yZP)(T:String)(r:V->List V->Hp->VK->Prop)(to:TE):TE:=fun σ H Q=>to σ H fun x H1=>tyV K T x H1/\r x [] H1 Q
def tBM (K:yZP)(T:String)(r:V->List V->Hp->VK->Prop)(to:TE)(t:TA):TE:=fun σ H Q=>to σ H fun x H1=>tyV K T x H1/\t σ H1 fun xs H2=>r x xs H2 Q
variable {o e:Expr}{es:List Expr}{to:TE}{t:TA}{name:Str}{apos cpos:Pos}{T id:String}{r:V->List V->Hp->VK->Prop}
theorem xVj (pa:PlainAttrs T)(slot:Slot T name id)(hty:typeOf (.builtin id)=pure (.type "method_descriptor"))(hm:MtR X id r)(ho:PE X o to)
  (hbase:attributeBase o name X.env (eval o X.env)=eval o X.env:=by rfl) (hline:(apos.endLine == cpos.line)=true:=by rfl):PE X (.Call (.Attribute o name apos) [] [] cpos) (tBM0 X.K T r to):=by
 intro zz s σ H Q I h
 refine wpAny_Call_method0_late hbase hline (thn (ho zz s σ H _ I h) fun v s1 ⟨x,H1,I1,r1,ty,q1⟩=>?_)
 obtain⟨h1,h2⟩:=xQz I1 r1 ty
 exact⟨T,id,pa,slot,hty,h1,h2,Calls.callWith_builtin rfl (PySem.evalArgs_none (hm zz s1 σ H1 x [] v [] Q I1 r1 .nil q1))⟩
theorem xAm (pa:PlainAttrs T)(slot:Slot T name id)(hty:typeOf (.builtin id)=pure (.type "method_descriptor"))(hm:MtR X id r)(ho:PE X o to)(ha:PA X (e::es) t)
  (hbase:attributeBase o name X.env (eval o X.env)=eval o X.env:=by rfl)
  (hfew:((backTo cpos (starEach (e::es) X.env)).all (fun x=>!x.1) && (backToKw cpos (keywordEach [] X.env)).all (fun x=>x.1.isSome)
   && decide ((e::es).length+([]:List Keyword).length+(if ([]:List Keyword).isEmpty then 0 else 1)<30))=true:=by rfl)
  (hline:(apos.endLine == cpos.line)=true:=by rfl) (hs:starEach (e::es) X.env=(false,eval e X.env)::starEach es X.env:=by rfl) (hplain:(backTo cpos (starEach es X.env)).any (·.1)=false:=by rfl):
  PE X (.Call (.Attribute o name apos) (e::es) [] cpos) (tBM X.K T r to t):=by
 intro zz s σ H Q I h
 refine wpAny_Call_method_late hbase hfew hline rfl (thn (ho zz s σ H _ I h) fun v s1 ⟨x,H1,I1,r1,ty,q1⟩=>?_)
 obtain⟨h1,h2⟩:=xQz I1 r1 ty
 refine⟨T,id,pa,slot,hty,h1,h2,?_⟩
 have hA:=ha cpos zz s1 σ H1 _ I1 q1
 rw[hs] at hA ⊢
 refine Calls.callWith_builtin (by show(false || (backTo cpos (starEach es X.env)).any (·.1))=false;rw[hplain] <;> rfl) (Calls.evalArgs_plain ?_)
 exact thn hA fun us s2 ⟨vs,H2,I2,r2,q2⟩=>hm zz s2 σ H2 x vs v us Q I2 r1 r2 q2
end
end L2
namespace L2
open PySem PySem.Spec PyProof.Rows
def MtM (X:Cx)(id:String)(r:V->List V->Hp->VK->Prop):Prop:=
 ∀(zz:List (Addr×Obj)) (s:Shared) (σ:St) (H:Hp) (x:V) (xs:List V) (v:Value) (us:List Value) (Q:VK),Inv X zz σ H s->RelV x v->Vals xs us->r x xs H Q->
  wpAny (model X.prog X.w) X.A (call (.builtin id) (v::us)) (EP X zz σ Q) X.xe s
theorem Vals.one {x:V}{us:List Value}(h:Vals [x] us):∃u,us=[u]/\RelV x u:=by
 cases h with
 | cons r t=>
  cases t
  exact⟨_,rfl,r⟩
theorem Vals.zero:∀{us:List Value},Vals [] us->us=[]
 | _,.nil=>rfl
theorem Vals.dropLast {xs:List V}{us:List Value}(h:Vals xs us):Vals xs.dropLast us.dropLast:=by
 induction h with
 | nil=>exact .nil
 | cons r t ih=>
  cases t with
  | nil=>exact .nil
  | cons q t'=>exact .cons r ih
theorem Vals.reverse {xs:List V}{us:List Value}(h:Vals xs us):Vals xs.reverse us.reverse:=by
 induction h with
 | nil=>exact .nil
 | cons r t ih=>rw[List.reverse_cons,List.reverse_cons];exact Vals.append ih (.cons r .nil)
theorem qGx {α:Type}(l:List α):l.eraseIdx (l.length - 1)=l.dropLast:=by
 induction l with
 | nil=>rfl
 | cons a r ih=>
  cases r with
  | nil=>rfl
  | cons b r=>
   have e:(a::b::r).length - 1=((b::r).length - 1)+1:=by
    have h1:(a::b::r).length=r.length+2:=rfl
    have h2:(b::r).length=r.length+1:=rfl
    omega
   rw[e,List.eraseIdx_cons_succ,ih]
   all_goals rfl
section
variable {X:Cx}{zz:List (Addr×Obj)}{σ:St}{H:Hp}{s:Shared}{l b:Addr}{xs ys zs:List V}
theorem Inv.lset {its its':List Value}{n:Nat}{f:Array Value->Array Value}{t':Nat}(I:Inv X zz σ H s)(hH:H l=some (.lst xs))
  (e:s.heap.get? l=some { cls:=.type "list",data:=.seq its.toArray n }) (hf:f its.toArray=its'.toArray) (hv:Vals ys its') (hz:ys.length<=sizeLine):
  Inv X zz σ (upd H l (.lst ys)) { s with heap:=s.heap.update l (Obj.mapSeq f),toks:=t' }:=by
 have q:=PySem.IsL.update e f
 rw[hf] at q
 refine I.write (x:=l) (e:=l) (by rw[hH];exact trivial) (.inl rfl) (fun b' u hb hu=>(Heap.get?_update_other s.heap (Obj.mapSeq f) (Ne.symm hb)).trans hu) ⟨_,q⟩ ?_
 exact⟨hz,its',_,hv,q⟩
theorem Inv.lnew {its:List Value}{t':Nat}(I:Inv X zz σ H s)(hv:Vals ys its)(hz:ys.length<=sizeLine):
  Inv X zz σ (upd H s.heap.objs.size (.lst ys)) { s with heap:=s.heap.push { cls:=.type "list",data:=.seq its.toArray },toks:=t' }:=
 I.laid (fun _ _ q=>yYZ _ q) (yZD _) ⟨hz,its,0,hv,yZB _ rfl⟩
theorem Inv.fresh (I:Inv X zz σ H s):H s.heap.objs.size=none:=I.hok.fresh (yZD _)
theorem Inv.lstM (I:Inv X zz σ H s)(hH:H l=some (.lst xs)):xs.length<=sizeLine/\∃(its:List Value) (n:Nat),Vals xs its/\xs.length=its.length/\s.heap.get? l=some { cls:=.type "list",data:=.seq its.toArray n }:=by
 obtain⟨z,its,n,r,e⟩:=I.hok l _ hH
 exact⟨z,its,n,r,r.length,e⟩
theorem qTq {n:Nat}(h:n<=sizeLine):Builtin.List.listTooLong n=false:=by
 unfold Builtin.List.listTooLong
 exact decide_eq_false (by omega)
end
section
variable {X:Cx}
def qIi:V->List V->Hp->VK->Prop:=fun x vs H Q=>∃l xs y,x=.ref l/\vs=[y]/\H l=some (.lst xs)/\xs.length<sizeLine/\Q .non (upd H l (.lst (xs++[y])))
theorem zR:MtM X "list.append" qIi:=by
 intro zz s σ H x vs v us Q I rx rv h
 obtain⟨l,xs,y,rfl,rfl,hH,hz,q⟩:=h
 cases rx
 obtain⟨u,rfl,ru⟩:=rv.one
 obtain⟨z,its,n,r,hl,e⟩:=I.lstM hH
 refine call_meets F.slot_list_append ⟨_,e,rfl⟩ F.entry_list_append (F.args_list_append_2 _ _) (PySem.list_append l its.toArray n u (by rw[yYD];omega)) ⟨e,?_⟩
 refine⟨.non,_,I.lset (its':=its++[u]) hH e (by simp) (r.append (.cons ru .nil)) ?_,rfl,q⟩
 rw[yYI,List.length_singleton]
 omega
def xZq:V->List V->Hp->VK->Prop:=fun x vs H Q=>∃l b xs zs,x=.ref l/\vs=[.ref b]/\H l=some (.lst xs)/\H b=some (.lst zs)/\xs.length+zs.length<=sizeLine/\Q .non (upd H l (.lst (xs++zs)))
theorem qXo:MtM X "list.extend" xZq:=by
 intro zz s σ H x vs v us Q I rx rv h
 obtain⟨l,b,xs,zs,rfl,rfl,hH,hB,hz,q⟩:=h
 cases rx
 obtain⟨u,rfl,ru⟩:=rv.one
 cases ru
 obtain⟨z,its,n,r,hl,e⟩:=I.lstM hH
 obtain⟨z2,its2,n2,r2,hl2,e2⟩:=I.lstM hB
 have hsz:its.toArray.size+its2.toArray.size<=sizeLine:=by rw[yYD,yYD];omega
 have hlong:¬(!its.toArray.isEmpty && Builtin.List.listTooLong (its.toArray.size+its2.toArray.size))=true:=by
  rw[qTq hsz,Bool.and_false]
  exact yZL
 refine call_meets F.slot_list_extend ⟨_,e,rfl⟩ F.entry_list_extend (F.args_list_extend_2 _ _)
  (AutoSeq1.list_extend_list_list_0 l its.toArray n b its2.toArray n2 hlong (by rw[yYD];omega) (by omega)) ⟨e,e2,?_⟩
 refine⟨.non,_,I.lset (its':=its++its2) hH e (by simp) (r.append r2) ?_,rfl,q⟩
 rw[yYI]
 omega
def rPop:V->List V->Hp->VK->Prop:=fun x vs H Q=>∃l xs y,x=.ref l/\vs=[]/\H l=some (.lst xs)/\xs[xs.length - 1]? = some y/\Q y (upd H l (.lst xs.dropLast))
theorem xVl:MtM X "list.pop" rPop:=by
 intro zz s σ H x vs v us Q I rx rv h
 obtain⟨l,xs,y,rfl,rfl,hH,hy,q⟩:=h
 cases rx
 have hus:=rv.zero
 subst hus
 obtain⟨z,its,n,r,hl,e⟩:=I.lstM hH
 obtain⟨u,hu,ru⟩:=r.get hy
 have hy':its.toArray[its.toArray.size - 1]? = some u:=by
  show its.toArray[its.length - 1]? = some u
  rw[<- yZN,<- hl]
  exact hu
 refine call_meets F.slot_list_pop ⟨_,e,rfl⟩ F.entry_list_pop (F.args_list_pop_1 _) (MeetsSeq.list_pop_last l its.toArray n u hy' (by rw[yYD];omega)) ⟨e,?_⟩
 refine⟨y,_,I.lset (its':=its.dropLast) hH e ?_ r.dropLast ?_,ru,q⟩
 .show its.toArray.eraseIdxIfInBounds (its.toArray.size - 1)=its.dropLast.toArray
  rw[yYD,List.eraseIdxIfInBounds_toArray,qGx]
 .rw[List.length_dropLast]
  omega
def qSz:V->List V->Hp->VK->Prop:=fun x vs H Q=>∃l xs,x=.ref l/\vs=[]/\H l=some (.lst xs)/\Q .non (upd H l (.lst xs.reverse))
theorem qFe:MtM X "list.reverse" qSz:=by
 intro zz s σ H x vs v us Q I rx rv h
 obtain⟨l,xs,rfl,rfl,hH,q⟩:=h
 cases rx
 have hus:=rv.zero
 subst hus
 obtain⟨z,its,n,r,hl,e⟩:=I.lstM hH
 refine call_meets F.slot_list_reverse ⟨_,e,rfl⟩ F.entry_list_reverse (F.args_list_reverse_1 _) (AutoSeq1.list_reverse_list_0 l its.toArray n (by rw[yYD];omega)) ⟨e,?_⟩
 refine⟨.non,_,I.lset (its':=its.reverse) hH e (by simp) r.reverse ?_,rfl,q⟩
 rw[List.length_reverse]
 omega
def rCat:R2:=fun x y H Q=>∃l b xs zs,x=.ref l/\y=.ref b/\H l=some (.lst xs)/\H b=some (.lst zs)/\xs.length+zs.length<=sizeLine/\∀p,H p=none->Q (.ref p) (upd H p (.lst (xs++zs)))
theorem xVf:OpR X (binaryOp .Add) rCat:=by
 intro zz s σ H x y v u Q I rx ry h
 obtain⟨l,b,xs,zs,rfl,rfl,hH,hB,hz,q⟩:=h
 cases rx
 cases ry
 obtain⟨z,its,n,r,hl,e⟩:=I.lstM hH
 obtain⟨z2,its2,n2,r2,hl2,e2⟩:=I.lstM hB
 refine PySem.P.add_list e e2 ?_ (by rw[yYD,yYD];omega)
 have ea:its.toArray++its2.toArray=(its++its2).toArray:=by simp
 rw[ea]
 exact⟨.ref _,_,I.lnew (t':=s.toks) (r.append r2) (by rw[yYI];omega),rfl,q _ I.fresh⟩
end
end L2
namespace L2
open PySem PySem.Spec PyProof.Rows
section
variable {κ:Type}[DecidableEq κ]
def valV (kvs:List (κ×V))(k:κ):Option V:=(kvs.find? fun kv=>decide (kv.1=k)).map (·.2)
def putK (kvs:List (κ×V))(k:κ)(v:V):List (κ×V):=
 if (kvs.any fun kv=>decide (kv.1=k))=true then kvs.map (fun kv=>if kv.1=k then (kv.1,v) else kv) else kvs++[(k,v)]
theorem zW {p:κ×V}{r:List (κ×V)}{k:κ}(e:p.1=k):valV (p::r) k=some p.2:=by simp[valV,List.find?_cons,e]
theorem zA {p:κ×V}{r:List (κ×V)}{k:κ}(e:¬p.1=k):valV (p::r) k=valV r k:=by simp[valV,List.find?_cons,e]
theorem qQi (k:κ):∀kvs:List (κ×V),(kvs.any fun kv=>decide (kv.1=k))=(valV kvs k).isSome
 | []=>rfl
 | p::r=>by
  rw[List.any_cons]
  by_cases e:p.1=k
  .simp only[zW e,decide_eq_true e,Bool.true_or,Option.isSome_some]
  .rw[zA e,decide_eq_false e,Bool.false_or];exact qQi k r
theorem qCi (k j:κ)(y:V):∀kvs:List (κ×V),valV (kvs.map fun kv=>if kv.1=k then (kv.1,y) else kv) j=(valV kvs j).map fun x=>if j=k then y else x
 | []=>rfl
 | p::r=>by
  have ih:=qCi k j y r
  rw[List.map_cons]
  by_cases h:p.1=k
  .rw[if_pos h]
   by_cases e:p.1=j
   .rw[zW (p:=(p.1,y)) e,zW e,yZO,if_pos (e.symm.trans h)]
   .rw[zA (p:=(p.1,y)) e,zA e,ih]
  .rw[if_neg h]
   by_cases e:p.1=j
   .rw[zW (p:=p) e,zW e,yZO,if_neg (fun z=>h (e.trans z))]
   .rw[zA (p:=p) e,zA e,ih]
theorem qVj (k j:κ)(y:V):∀kvs:List (κ×V),valV kvs k=none->valV (kvs++[(k,y)]) j=if j=k then some y else valV kvs j
 | [],_=>by
  by_cases e:k=j
  .rw[if_pos e.symm];exact zW (p:=(k,y)) e
  .rw[if_neg (fun z=>e z.symm)];exact zA (p:=(k,y)) e
 | p::r,hn=>by
  rw[List.cons_append]
  have hk:¬p.1=k:=fun z=>by rw[zW z] at hn;cases hn
  rw[zA hk] at hn
  have ih:=qVj k j y r hn
  by_cases e:p.1=j
  .rw[zW e,zW e,if_neg (fun z=>hk (e.trans z))]
  .rw[zA e,zA e,ih]
theorem vJ (kvs:List (κ×V))(k j:κ)(y:V):valV (putK kvs k y) j=if j=k then some y else valV kvs j:=by
 unfold putK
 by_cases a:(kvs.any fun kv=>decide (kv.1=k))=true
 .rw[if_pos a,qCi]
  rw[qQi] at a
  by_cases e:j=k
  .obtain⟨x,hx⟩:=Option.isSome_iff_exists.mp a
   rw[if_pos e,e,hx,yZO,if_pos rfl]
  .rw[if_neg e]
   cases valV kvs j with
   | none=>rfl
   | some x=>rw[yZO,if_neg e]
 .rw[if_neg a]
  refine qVj k j y kvs ?_
  rw[qQi] at a
  cases q:valV kvs k with
  | none=>rfl
  | some x=>rw[q] at a;exact(a rfl).elim
theorem kY (kvs:List (κ×V))(k:κ)(v:V):(putK kvs k v).length<=kvs.length+1:=by
 unfold putK
 split
 .rw[yYC];omega
 .rw[yYI,yYT,yYU];omega
theorem RelO.isSome_eq {o:Option V}{u:Option Value}(r:RelO o u):o.isSome=u.isSome:=by
 cases o with
 | none=>cases u with
  | none=>rfl
  | some _=>exact(show False from r).elim
 | some _=>cases u with
  | none=>exact(show False from r).elim
  | some _=>rfl
theorem RelO.getD {o:Option V}{u:Option Value}{d:V}{d':Value}(r:RelO o u)(rd:RelV d d'):RelV (o.getD d) (u.getD d'):=by
 cases o with
 | none=>cases u with
  | none=>exact rd
  | some _=>exact(show False from r).elim
 | some _=>cases u with
  | none=>exact(show False from r).elim
  | some _=>exact r
theorem KV.val {kvs:List (κ×V)}{vs:List (κ×Value)}(r:KV kvs vs)(k:κ):RelO (valV kvs k) (valueAt vs k):=by
 unfold KV at r
 induction r with
 | nil=>exact True.intro
 | @cons p q ps qs h t ih=>
  obtain⟨h1,h2⟩:=h
  by_cases e:p.1=k
  .have e':q.1=k:=h1.symm.trans e
   have b:valueAt (q::qs) k=some q.2:=by simp[valueAt,List.find?_cons,e']
   rw[zW e,b];exact h2
  .have e':¬q.1=k:=fun z=>e (h1.trans z)
   have b:valueAt (q::qs) k=valueAt qs k:=by simp[valueAt,List.find?_cons,e']
   rw[zA e,b];exact ih
theorem KV.any {kvs:List (κ×V)}{vs:List (κ×Value)}(r:KV kvs vs)(k:κ):(kvs.any fun kv=>decide (kv.1=k))=vs.any fun kv=>decide (kv.1=k):=by
 unfold KV at r
 induction r with
 | nil=>rfl
 | cons h t ih=>rw[List.any_cons,List.any_cons,ih,h.1]
theorem KV.repl {kvs:List (κ×V)}{vs:List (κ×Value)}(r:KV kvs vs)(k:κ){y:V}{u:Value}(ry:RelV y u):
  KV (kvs.map fun kv=>if kv.1=k then (kv.1,y) else kv) (vs.map fun kv=>if kv.1=k then (kv.1,u) else kv):=by
 unfold KV at r ⊢
 induction r with
 | nil=>exact .nil
 | @cons p q ps qs h t ih=>
  rw[List.map_cons,List.map_cons]
  refine .cons ?_ ih
  obtain⟨h1,h2⟩:=h
  by_cases e:p.1=k
  .rw[if_pos e,if_pos (h1.symm.trans e)];exact⟨h1,ry⟩
  .rw[if_neg e,if_neg (fun z=>e (h1.trans z))];exact⟨h1,h2⟩
theorem KV.put {kvs:List (κ×V)}{vs:List (κ×Value)}(r:KV kvs vs)(k:κ){y:V}{u:Value}(ry:RelV y u):KV (putK kvs k y) (stored vs k u):=by
 unfold putK stored
 rw[r.any k]
 by_cases e:(vs.any fun kv=>decide (kv.1=k))=true
 .rw[if_pos e,if_pos e];exact r.repl k ry
 .rw[if_neg e,if_neg e];exact Paired.snoc r ⟨rfl,ry⟩
theorem KV.length {kvs:List (κ×V)}{vs:List (κ×Value)}(r:KV kvs vs):kvs.length=vs.length:=Paired.length r
end
theorem qTw {P:Program}{w:World}{k:Key}{u:Value}(r:RelV (kV k) u):(xR P w).is k u=true:=by
 cases k with
 | inl i=>obtain⟨t,e⟩:=(show∃t,u=Value.int i t from r);subst e;exact qBc P w i t
 | inr x=>obtain⟨t,e⟩:=(show∃t,u=Value.str x t from r);subst e;exact kZ P w x t
theorem qWf {P:Program}{w:World}:∀{ks:List Key} {us:List Value},Vals (ks.map kV) us->ItemsAre (xR P w) ks us
 | [],_,r=>by rw[List.map_nil] at r;cases r;exact .nil
 | k::ks,_,r=>by
  rw[List.map_cons] at r
  cases r with
  | cons h t=>exact .cons (qTw h) (qWf t)
abbrev KT (H:Hp):List (List Key×V)->List (List Key×Addr×Value)->Prop:=Paired fun p q=>p.1=q.1/\H q.2.1=some (.tup (p.1.map kV))/\RelV p.2 q.2.2
theorem KT.val {H:Hp}{kvs:List (List Key×V)}{xs:List (List Key×Addr×Value)}(r:KT H kvs xs)(k:List Key):RelO (valV kvs k) ((atKey xs k).map (·.2)):=by
 induction r with
 | nil=>exact True.intro
 | @cons p q ps qs h t ih=>
  obtain⟨h1,_,h2⟩:=h
  by_cases e:p.1=k
  .have e':q.1=k:=h1.symm.trans e
   have b:atKey (q::qs) k=some q.2:=by simp[atKey,List.find?_cons,e']
   rw[zW e,b];exact h2
  .have e':¬q.1=k:=fun z=>e (h1.trans z)
   have b:atKey (q::qs) k=atKey qs k:=by simp[atKey,List.find?_cons,e']
   rw[zA e,b];exact ih
theorem KT.repl {H:Hp}{kvs:List (List Key×V)}{xs:List (List Key×Addr×Value)}(r:KT H kvs xs)(k:List Key){y:V}{u:Value}(ry:RelV y u):
  KT H (kvs.map fun kv=>if kv.1=k then (kv.1,y) else kv) (xs.map (putAt k u)):=by
 induction r with
 | nil=>exact .nil
 | @cons p q ps qs h t ih=>
  rw[List.map_cons,List.map_cons]
  refine .cons ?_ ih
  obtain⟨h1,h2,h3⟩:=h
  unfold putAt
  by_cases e:p.1=k
  .rw[if_pos e,if_pos (h1.symm.trans e)];exact⟨h1,h2,ry⟩
  .rw[if_neg e,if_neg (fun z=>e (h1.trans z))];exact⟨h1,h2,h3⟩
theorem KT.put {H:Hp}{kvs:List (List Key×V)}{xs:List (List Key×Addr×Value)}(r:KT H kvs xs)(k:List Key){b:Addr}{y:V}{u:Value}(hb:H b=some (.tup (k.map kV)))(ry:RelV y u):
  KT H (putK kvs k y) (storedH xs k b u):=by
 have e:(kvs.any fun kv=>decide (kv.1=k))=(atKey xs k).isSome:=by
  rw[qQi,(r.val k).isSome_eq,Option.isSome_map]
 unfold putK storedH
 rw[e]
 by_cases q:(atKey xs k).isSome=true
 .rw[if_pos q,if_pos q];exact r.repl k ry
 .rw[if_neg q,if_neg q];exact Paired.snoc r ⟨rfl,hb,ry⟩
theorem KT.keeps {H H':Hp}{kvs:List (List Key×V)}{xs:List (List Key×Addr×Value)}(r:KT H kvs xs)(ht:∀b ys,H b=some (.tup ys)->H' b=some (.tup ys)):KT H' kvs xs:=
 Paired.mapP r fun _ _ z=>⟨z.1,ht _ _ z.2.1,z.2.2⟩
section
variable {P:Program}{w:World}{H:Hp}{h:Heap}{a:Addr}
theorem xKh {u:HO}(ok:HOk P w H h)(e:Rd H a u):ObjOk P w H h a u:=e.ok ok
theorem qGf {kvs:List (Key×V)}(ok:HOk P w H h)(e:Rd H a (.dK kvs)):kvs.length<=sizeLine/\(a == sysModules)=false/\∃vs,KV kvs vs/\h.DictOf (xR P w) a vs:=
 show ObjOk P w H h a (.dK kvs) from xKh ok e
theorem xYj {kvs:List (Key×V)}(ok:HOk P w H h)(e:H a=some (.dK kvs)):kvs.length<=sizeLine/\(a == sysModules)=false/\∃vs,KV kvs vs/\h.DictOf (xR P w) a vs:=qGf ok (.inl e)
theorem qJh {ks:List Key}(ok:HOk P w H h)(e:H a=some (.tup (ks.map kV))):(tupleKind (xR P w)).is h ks a:=by
 obtain⟨_,its,r,o,h1,h2,n,h3,_⟩:=(show ObjOk P w H h a (.tup (ks.map kV)) from ok a _ e)
 exact⟨o,its.toArray,n,h1,h2,h3,by simpa using qWf r⟩
theorem qCq {kvs:List (List Key×V)}(ok:HOk P w H h)(e:Rd H a (.dT kvs)):kvs.length<=sizeLine/\(a == sysModules)=false/\
  ∃xs,KT H kvs xs/\h.DictOfH (tupleKind (xR P w)) a xs:=by
 obtain⟨z,y,xs,r,o,es,ep,h1,h2,h3,h4,h5⟩:=(show ObjOk P w H h a (.dT kvs) from xKh ok e)
 refine⟨z,y,xs,r,o,es,ep,h1,h2,h3,h4,fun x hx=>?_,h5⟩
 have all:∀{l:List (List Key×V)} {m:List (List Key×Addr×Value)},KT H l m->∀x∈m,(tupleKind (xR P w)).is h x.1 x.2.1:=by
  intro l m q
  induction q with
  | nil=>intro x hx;exact nomatch hx
  | @cons p q ps qs hq t ih=>
   intro x hx
   rcases yYK.mp hx with e | hx
   .subst e
    exact qJh ok (by rw[<- hq.1];exact hq.2.1)
   .exact ih x hx
 exact all r x hx
theorem xBx {kvs:List (List Key×V)}(ok:HOk P w H h)(e:H a=some (.dT kvs)):kvs.length<=sizeLine/\(a == sysModules)=false/\
  ∃xs,KT H kvs xs/\h.DictOfH (tupleKind (xR P w)) a xs:=qCq ok (.inl e)
end
def DGet (H:Hp)(a:Addr)(y:V)(r:Option V):Prop:=
 (∃kvs k,Rd H a (.dK kvs)/\y=kV k/\r=valV kvs k)\/∃kvs k b,Rd H a (.dT kvs)/\y=.ref b/\H b=some (.tup (k.map kV))/\r=valV kvs k
def DPut (H:Hp)(a:Addr)(y v:V)(H':Hp):Prop:=
 (∃kvs k,H a=some (.dK kvs)/\y=kV k/\kvs.length<sizeLine/\H'=upd H a (.dK (putK kvs k v)))\/
 ∃kvs k b,H a=some (.dT kvs)/\y=.ref b/\H b=some (.tup (k.map kV))/\kvs.length<sizeLine/\H'=upd H a (.dT (putK kvs k v))
theorem DGet.k {H:Hp}{a:Addr}{kvs:List (Key×V)}{k:Key}(e:H a=some (.dK kvs)):DGet H a (kV k) (valV kvs k):=.inl ⟨kvs,k,.inl e,rfl,rfl⟩
theorem DGet.t {H:Hp}{a b:Addr}{kvs:List (List Key×V)}{k:List Key}(e:H a=some (.dT kvs))(eb:H b=some (.tup (k.map kV))):DGet H a (.ref b) (valV kvs k):=.inr ⟨kvs,k,b,.inl e,rfl,eb,rfl⟩
theorem DPut.k {H:Hp}{a:Addr}{kvs:List (Key×V)}{k:Key}{v:V}(e:H a=some (.dK kvs))(hl:kvs.length<sizeLine):DPut H a (kV k) v (upd H a (.dK (putK kvs k v))):=.inl ⟨kvs,k,e,rfl,hl,rfl⟩
theorem DPut.t {H:Hp}{a b:Addr}{kvs:List (List Key×V)}{k:List Key}{v:V}(e:H a=some (.dT kvs))(eb:H b=some (.tup (k.map kV)))(hl:kvs.length<sizeLine):
  DPut H a (.ref b) v (upd H a (.dT (putK kvs k v))):=.inr ⟨kvs,k,b,e,rfl,eb,hl,rfl⟩
section
variable {X:Cx}{zz:List (Addr×Obj)}{σ:St}{H:Hp}{s:Shared}{a:Addr}{y v:V}{u r:Value}{o:Option V}{A:Around}{E:Value->Shared->Prop}
theorem Inv.big (I:Inv X zz σ H s):sysModules<s.heap.objs.size:=by
 have h:mainGlobals<s.heap.objs.size:=(I.mod.glob.keeps I.bk).lt
 exact Nat.lt_trans (by decide) h
theorem qPv {Q:Value->Shared->Prop}(hu:A.units+1<cLine)(I:Inv X zz σ H s)(g:DGet H a y (some v))(ry:RelV y u)(h:∀w' s',Inv X zz σ H s'->RelV v w'->Q w' s'):
  wpAny (model X.prog X.w) A (getItem (.ref a) u) Q E s:=by
 rcases g with⟨kvs,k,e,ey,l⟩ | ⟨kvs,k,b,e,ey,eb,l⟩
 .subst ey
  obtain⟨z,hd,vs,rel,dd⟩:=qGf I.hok e
  obtain⟨w',hw,rw'⟩:=RelO.some_of (v:=v) (o:=valueAt vs k) (by rw[l];exact rel.val k)
  exact wpAny_getItem_of (qTw ry) dd.mapOf hw (h w' _ (I.tok _) rw')
 .subst ey
  cases(show u=Value.ref b from ry)
  obtain⟨z,hd,xs,rel,dd⟩:=qCq I.hok e
  obtain⟨w',hw,rw'⟩:=RelO.some_of (v:=v) (o:=(atKey xs k).map (·.2)) (by rw[l];exact rel.val k)
  obtain⟨p,hp,hp2⟩:=Option.map_eq_some_iff.mp hw
  refine wpAny_getItem_heap (tupleKind_room_in1 hu) (qJh I.hok eb) dd hp ?_
  rw[hp2]
  exact h w' _ (I.tok _) rw'
theorem qPj {h':Heap}{t':Nat}{ob:HO}(I:Inv X zz σ H s)(mu:Mut (H a))(hs:Heap.SameBut a s.heap h')(he:∃q,h'.get? a=some q)(new:ObjOk X.prog X.w (upd H a ob) h' a ob):
  Inv X zz σ (upd H a ob) { s with heap:=h',toks:=t' }:=
 I.write (x:=a) (e:=a) mu (.inl rfl) (fun b q hb z=>(hs.2 b hb).trans z) he new
theorem xXq {P:Program}{w:World}{H':Hp}{h':Heap}{kvs:List (Key×V)}{vs:List (Key×Value)}(z:kvs.length<=sizeLine)(hd:(a == sysModules)=false)(rel:KV kvs vs)(dd:h'.DictOf (xR P w) a vs):
  ObjOk P w H' h' a (.dK kvs):=⟨z,hd,vs,rel,dd⟩
theorem qPk {H':Hp}{Q:Unit->Shared->Prop}(hu:A.units+1<cLine)(I:Inv X zz σ H s)(g:DPut H a y v H')(ry:RelV y u)(rv:RelV v r)(h:∀s',Inv X zz σ H' s'->Q () s'):
  wpAny (model X.prog X.w) A (setItem (.ref a) u r) Q E s:=by
 rcases g with⟨kvs,k,e,ey,l,eH⟩ | ⟨kvs,k,b,e,ey,eb,l,eH⟩
 .subst ey eH
  obtain⟨z,hd,vs,rel,dd⟩:=xYj I.hok e
  have hz:vs.length<=sizeLine:=by rw[<- rel.length];exact z
  have hl:(putK kvs k v).length<=sizeLine:=by have:=kY kvs k v;omega
  refine wpAny_setItem_pairs (hsz:=hz) (qTw ry) dd fun h' dd' hs=>h _ ?_
  have he:∃q,h'.get? a=some q:=let ⟨q,_,_,hq,_⟩:=dd';⟨q,hq⟩
  exact qPj I (by rw[e];exact True.intro) hs he (xXq hl hd (rel.put k rv) dd')
 .subst ey eH
  cases(show u=Value.ref b from ry)
  obtain⟨z,hd,xs,rel,dd⟩:=xBx I.hok e
  have hz:xs.length<=sizeLine:=by rw[<- Paired.length rel];exact z
  have hl:(putK kvs k v).length<=sizeLine:=by have:=kY kvs k v;omega
  refine wpAny_setItem_heap (hsz:=hz) (tupleKind_room_in1 hu) (qJh I.hok eb) dd fun h' dd' hs=>h _ ?_
  obtain⟨q,es,ep,hq,h2,h3,h4,_,h5⟩:=dd'
  refine qPj I (by rw[e];exact True.intro) hs ⟨q,hq⟩ ⟨hl,hd,_,(rel.put k eb rv).keeps fun c ys ec=>?_,q,es,ep,hq,h2,h3,h4,h5⟩
  rw[qA (jU ec e (fun z=>nomatch z))]
  exact ec
end
def NoSl (i:Expr):Prop:=∀ov iv,subscripted i false ov iv=operate [ov,iv] (getItem ov iv)
theorem xXe {prog:Program}{w:World}{A:Around}{E:Value->Shared->Prop}{s:Shared}{env:Env}{value slice:Expr}{pos:Pos}{T id:String}{Q:Value->Shared->Prop}
  (hl:typeLookup (.type T) "__getitem__" = pure (some (.builtin id))) (hs:NoSl slice)
  (h:wpAny (model prog w) A (eval value env) (fun o s₁=>wpAny (model prog w) A (eval slice env) (fun i s₂=>s₂.TypeIs o T/\wpAny (model prog w) A (getItem o i) Q E s₂) E s₁) E s):
  wpAny (model prog w) A (eval (.Subscript value slice pos) env) Q E s:=by
 refine Subscript_ (wpAny_mono h (fun o s₁ h₁=>wpAny_mono h₁ (fun i s₂ h₂=>?_) fun _ _ x=>x) fun _ _ x=>x)
 obtain⟨hT,h₂⟩:=h₂
 unfold subscriptTail
 refine yYX ?_
 rw[getitemInPython_of_ne hT.not_modules]
 refine yYX (wpAny_specialOf hT hl ?_)
 have fin:wpAny (model prog w) A (subscripted slice false o i) (fun r s₃=>wpAny (model prog w) A (letTemporaryGo value o r >>= fun _=>pure r) Q E s₃) E s₂:=by
  rw[hs o i]
  exact wpAny_operating (wpAny_mono h₂ (fun r s₃ h₃=>yYX (wpAny_letTemporaryGo (yYY h₃))) fun _ _ x=>x)
 first
  | exact yYY (yYX fin)
  | exact yYX (yYY (yYX fin))
  | exact yYX fin
theorem qCk {X:Cx}{zz:List (Addr×Obj)}{σ:St}{H:Hp}{s:Shared}{a:Addr}{y:V}{o:Option V}(I:Inv X zz σ H s)(g:DGet H a y o):s.TypeIs (.ref a) "dict" := by
 rcases g with⟨kvs,k,e,_,_⟩ | ⟨kvs,k,b,e,_,_,_⟩
 .obtain⟨_,_,vs,_,dd⟩:=qGf I.hok e
  exact dd.typeIs
 .obtain⟨_,_,xs,_,dd⟩:=qCq I.hok e
  exact dd.typeIs
def tDGet (td ty:TE):TE:=fun σ H Q=>td σ H fun x H1=>ty σ H1 fun y H2=>∃a v,x=.ref a/\DGet H2 a y (some v)/\Q v H2
def sDPut (td ty tv:TE):TS:=fun D σ H=>tv σ H fun v H1=>td σ H1 fun x H2=>ty σ H2 fun y H3=>∃a H4,x=.ref a/\DPut H3 a y v H4/\D.nx σ H4
section
variable {X:Cx}{o i e value:Expr}{pos pos' tpos:Pos}{td ty tv:TE}
theorem wU (hu:X.A.units+1<cLine)(ho:PE X o td)(hi:PE X i ty)(hs:NoSl i):PE X (.Subscript o i pos) (tDGet td ty):=by
 intro zz s σ H Q I h
 refine xXe PySem.F.slot_dict_getitem.lookup hs (thn (ho zz s σ H _ I h) fun u s1 ⟨x,H1,I1,rx,q1⟩=>thn (hi zz s1 σ H1 _ I1 q1) fun iv s2 ⟨y,H2,I2,ry,a,v,ex,g,q2⟩=>?_)
 subst ex
 obtain rfl:u=Value.ref a:=rx
 exact⟨qCk I2 g,qPv hu I2 g ry fun w' s3 I3 rw'=>⟨v,H2,I3,rw',q2⟩⟩
theorem qYm (hu:X.A.units+1<cLine)(ho:PE X o td)(hi:PE X i ty)(hv:PE X value tv)(hs:swapsWith value (some (.Subscript o i pos')) pos.line X.env=pure false):
  PS X (.Assign [.Subscript o i pos'] value pos) (sDPut td ty tv):=by
 intro zz s σ H D I h
 refine wpAny_Assign_Subscript (thn (hv zz s σ H _ I h) fun r s1 ⟨v,H1,I1,rv,q1⟩=>thn (ho zz s1 σ H1 _ I1 q1) fun u s2 ⟨x,H2,I2,rx,q2⟩=>thn (hi zz s2 σ H2 _ I2 q2) fun iv s3 ⟨y,H3,I3,ry,a,H4,ex,g,q3⟩=>?_) hs
 subst ex
 obtain rfl:u=Value.ref a:=rx
 exact qPk hu I3 g ry rv fun s4 I4=>⟨σ,H4,I4,q3⟩
end
theorem qUf {P:Program}{w:World}{H:Hp}(h:Heap)(hb:sysModules<h.objs.size):ObjOk P w H (h.push { cls:=.type "dict",data:=.dict #[] }) h.objs.size (.dK []):=
 ⟨yZG _,beq_eq_false_iff_ne.mpr (Ne.symm (yZF hb)),[],.nil,Heap.DictOf.new h⟩
theorem qUz {P:Program}{w:World}{H:Hp}(h:Heap)(hb:sysModules<h.objs.size):ObjOk P w H (h.push { cls:=.type "dict",data:=.dict #[] }) h.objs.size (.dT []):=
 ⟨yZG _,beq_eq_false_iff_ne.mpr (Ne.symm (yZF hb)),[],.nil,_,#[],0,yZB _ rfl,⟨rfl,rfl,rfl⟩,rfl,rfl,List.nodup_nil⟩
def tDNewK:TE:=fun _ H Q=>∀p,H p=none->Q (.ref p) (upd H p (.dK []))
def tDNewT:TE:=fun _ H Q=>∀p,H p=none->Q (.ref p) (upd H p (.dT []))
section
variable {X:Cx}{pos:Pos}
theorem qSi:PE X (.Dict [] [] pos) tDNewK:=fun zz s σ H Q I h=>
 wpAny_Dict_empty ⟨.ref s.heap.objs.size,_,I.laid (a:=s.heap.objs.size) (o:=.dK []) (t':=s.toks) (fun _ _ q=>yYZ _ q) (yZD _) (qUf s.heap I.big),rfl,h _ (I.hok.fresh (yZD _))⟩
theorem qSh:PE X (.Dict [] [] pos) tDNewT:=fun zz s σ H Q I h=>
 wpAny_Dict_empty ⟨.ref s.heap.objs.size,_,I.laid (a:=s.heap.objs.size) (o:=.dT []) (t':=s.toks) (fun _ _ q=>yYZ _ q) (yZD _) (qUz s.heap I.big),rfl,h _ (I.hok.fresh (yZD _))⟩
end
def mergeK (kvs more:List (Key×V)):List (Key×V):=more.foldl (fun acc kv=>putK acc kv.1 kv.2) kvs
theorem KV.merge:∀{more:List (Key×V)} {rs:List (Key×Value)} {kvs:List (Key×V)} {vs:List (Key×Value)},KV more rs->KV kvs vs->KV (mergeK kvs more) (merged vs rs):=by
 intro more rs kvs vs r
 unfold KV at r
 induction r generalizing kvs vs with
 | nil=>intro q;exact q
 | @cons p q ps qs h t ih=>
  intro r0
  have e:KV (putK kvs p.1 p.2) (stored vs q.1 q.2):=by
   have:=r0.put p.1 h.2
   rw[<- h.1];exact this
  exact ih e
theorem kK:∀(more kvs:List (Key×V)),(mergeK kvs more).length<=kvs.length+more.length
 | [],kvs=>by show kvs.length<=kvs.length+0;omega
 | p::r,kvs=>by
  have h1:=kK r (putK kvs p.1 p.2)
  have h2:=kY kvs p.1 p.2
  show(mergeK (putK kvs p.1 p.2) r).length<=_
  rw[yYT];omega
structure M2 (X:Cx)(o:Expr)(m:Str)(apos:Pos)(e f:Expr)(cpos:Pos):Prop where
 base:attributeBase o m X.env (eval o X.env)=eval o X.env
 few:((backTo cpos (starEach [e,f] X.env)).all (fun x=>!x.1) && (backToKw cpos (keywordEach [] X.env)).all (fun x=>x.1.isSome)
  && decide (([e,f]:List Expr).length+([]:List Keyword).length+(if ([]:List Keyword).isEmpty then 0 else 1)<30))=true
 line:(apos.endLine == cpos.line)=true
 trees:backTo cpos (starEach [e,f] X.env)=[(false,eval e X.env),(false,eval f X.env)]
def IsD (H:Hp)(a:Addr):Prop:=(∃kvs,Rd H a (.dK kvs))\/∃kvs,Rd H a (.dT kvs)
theorem xWw {X:Cx}{zz:List (Addr×Obj)}{σ:St}{H:Hp}{s:Shared}{a:Addr}(I:Inv X zz σ H s)(d:IsD H a):
  s.TypeIs (.ref a) "dict" /\ (∀b,Value.ref a=.ref b->∃ob,s.heap.get? b=some ob/\ob.dict=none)/\(a == sysModules)=false:=by
 rcases d with⟨kvs,e⟩ | ⟨kvs,e⟩
 .obtain⟨_,hd,vs,_,dd⟩:=qGf I.hok e
  refine⟨dd.typeIs,fun b q=>?_,hd⟩
  cases q
  obtain⟨ob,_,_,h1,h2,_⟩:=dd
  exact⟨ob,h1,h2.2.1⟩
 .obtain⟨_,hd,xs,_,dd⟩:=qCq I.hok e
  refine⟨dd.typeIs,fun b q=>?_,hd⟩
  cases q
  obtain⟨ob,_,_,h1,h2,_⟩:=dd
  exact⟨ob,h1,h2.2.1⟩
section
variable {X:Cx}{zz:List (Addr×Obj)}{σ:St}{H:Hp}{s:Shared}{a:Addr}{y d:V}{u r:Value}{o:Option V}{A:Around}{E:Value->Shared->Prop}
theorem xWi {Q:Value->Shared->Prop}(hu:A.units+1<cLine)(I:Inv X zz σ H s)(g:DGet H a y o)(ry:RelV y u)(rd:RelV d r)(h:∀w' s',Inv X zz σ H s'->RelV (o.getD d) w'->Q w' s'):
  wpAny (model X.prog X.w) A (call (.builtin "dict.get") [.ref a,u,r]) Q E s:=by
 rcases g with⟨kvs,k,e,ey,l⟩ | ⟨kvs,k,b,e,ey,eb,l⟩
 .subst ey
  obtain⟨z,hd,vs,rel,dd⟩:=qGf I.hok e
  refine call_meetsIn PySem.F.slot_dict_get dd.typeIs PySem.F.entry_dict_get (PySem.F.args_dict_get_3 _ _ _) (meets_dict_get_default (xR X.prog X.w) a (qTw ry) hd r) ⟨_,dd.mapOf,h _ _ (I.tok _) ?_⟩
  rw[l]
  exact(rel.val k).getD rd
 .subst ey
  cases(show u=Value.ref b from ry)
  obtain⟨z,hd,xs,rel,dd⟩:=qCq I.hok e
  refine call_meetsIn PySem.F.slot_dict_get dd.typeIs PySem.F.entry_dict_get (PySem.F.args_dict_get_3 _ _ _) (meetsH_dict_get_default (tupleKind (xR X.prog X.w)) a b hd r) ⟨tupleKind_room_in1 hu,k,xs,qJh I.hok eb,dd,h _ _ (I.tok _) ?_⟩
  rw[l]
  exact(rel.val k).getD rd
end
def tDGet2 (td ty tx:TE):TE:=fun σ H Q=>td σ H fun x H1=>∃a,x=.ref a/\IsD H1 a/\ty σ H1 fun y H2=>tx σ H2 fun z H3=>∃o,DGet H3 a y o/\Q (o.getD z) H3
section
variable {X:Cx}{o e f:Expr}{apos cpos:Pos}{td ty tx:TE}
theorem qSl (hu:X.A.units+1<cLine)(ho:PE X o td)(he:PE X e ty)(hf:PE X f tx)(m:M2 X o "get" apos e f cpos):PE X (.Call (.Attribute o "get" apos) [e,f] [] cpos) (tDGet2 td ty tx):=by
 intro zz s σ H Q I h
 refine wpAny_Call_method m.base m.few m.line PySem.F.plainAttrs_dict PySem.F.slot_dict_get PySem.F.type_dict_get (thn (ho zz s σ H _ I h) fun u s1 ⟨x,H1,I1,rx,a,ex,d,q1⟩=>?_)
 subst ex
 obtain rfl:u=Value.ref a:=rx
 obtain⟨t1,t2,_⟩:=xWw I1 d
 refine⟨t1,t2,?_⟩
 rw[m.trees]
 refine Calls.callWith_builtin rfl (Calls.evalArgs_plain (Calls.spliced_cons (thn (he zz s1 σ H1 _ I1 q1) fun iv s2 ⟨y,H2,I2,ry,q2⟩=>
  Calls.spliced_cons (thn (hf zz s2 σ H2 _ I2 q2) fun fv s3 ⟨z,H3,I3,rz,ov,g,q3⟩=>Calls.spliced_nil ?_))))
 exact xWi hu I3 g ry rz fun w' s4 I4 rw'=>⟨_,H3,I4,rw',q3⟩
end
section
variable {X:Cx}{zz:List (Addr×Obj)}{σ:St}{H:Hp}{s:Shared}{a:Addr}{kvs:List (Key×V)}{A:Around}{E:Value->Shared->Prop}
theorem qUh {Q:Value->Shared->Prop}(I:Inv X zz σ H s)(e:Rd H a (.dK kvs))(h:∀p s',H p=none->Inv X zz σ (upd H p (.dK kvs)) s'->Q (.ref p) s'):wpAny (model X.prog X.w) A (call (.type "dict") [.ref a]) Q E s:=by
 obtain⟨z,hd,vs,rel,dd⟩:=qGf I.hok e
 refine kt_call_dict hd dd (by rw[<- rel.length];exact z) fun h' dd' hs=>?_
 refine h _ _ (I.hok.fresh (yZD _)) (I.laid (a:=s.heap.objs.size) (o:=.dK kvs) (t':=s.toks) (fun b q hq=>?_) (yZD _) (xXq z (beq_eq_false_iff_ne.mpr (Ne.symm (yZF I.big))) rel dd'))
 exact(hs.2 b (yZF (yZA hq))).trans (yYZ _ hq)
end
end L2
namespace Att
open PySem PySem.W PySem.Calls PyProof.Rows
theorem qZw {P:Params}{h:Heap}:∀(ns:List Int) (vs:List Value),WellAll P h vs (ns.map WData.int)->IntsAre vs ns:=by
 intro ns
 induction ns with
 | nil=>
  intro vs w
  rw[List.map_nil] at w
  cases w
  exact .nil
 | cons n ns ih=>
  intro vs w
  rw[List.map_cons] at w
  cases w with
  | cons a b=>
   cases a
   exact .cons _ _ (ih _ b)
theorem qIc {l:OpenLaw}{n:Nat}(hn:l.most=some n){P:Params}{h:Heap}{args:List WData}{vals:List Value}
  (hpre:l.row.toRowW.claim.pre args=true) (hwl:WellAll P h vals args):
  ∃a vs ns,vals=[Value.ref a]/\args=[WData.list (ns.map WData.int)]/\h.get? a=some { cls:=.type "list",data:=.seq vs.toArray }/\IntsAre vs ns/\ns.length<=n:=by
 have hsh:WShape.hasAll [] args [.list .int]=true:=(pre_splitW hpre).1
 have hc:l.pre.holds [] { args:=args }=true:=(pre_splitW hpre).2
 obtain⟨d,r,rfl,h1,h2⟩:=hasAllW_cons hsh
 obtain rfl:=hasAllW_nil h2
 obtain⟨xs,rfl,h3⟩:=hasW_list h1
 obtain⟨ns,rfl⟩:=items_int h3
 have hlen:ns.length<=n:=by
  unfold OpenLaw.pre at hc
  have h4:(WTm.not (.lt (.lit (.int (n:Int))) (.len (.arg 0)))).holds [] { args:=[.list (ns.map .int)] }=true:=by
   have h4:=(holds_andW hc).1
   rw[hn] at h4
   exact h4
  have h5:=condW_of h4 (w_not (w_lt w_lit (w_len_list (w_arg rfl))))
  rw[yYC] at h5
  refine Nat.le_of_not_lt fun q=>?_
  have q':(n:Int)<((ns.length:Nat):Int):=by omega
  first
   | (rw[decide_eq_true q'] at h5;exact absurd h5 (by decide))
   | (simp at h5;omega)
 cases hwl with
 | cons w1 w2=>
  cases w2
  cases w1 with
  | list ho hall=>exact⟨_,_,ns,rfl,rfl,ho,qZw ns _ hall,hlen⟩
theorem qMx (l:OpenLaw)(args:List WData):l.row.toRowW.claim.post args (.bool true) args=true:=
 postW_of (r:=l.row.toRowW) (X:=(true == true))
  (show WShape.has [] (.bool true) .bool=true by first | rfl | decide | simp[WShape.has,WShape.arms,WShape.armsAll])
  (show(WTm.eq .res (.lit (.bool true))).value [] { args:=args,res:=some (.bool true),after:=args }=some (.bool (true == true)) from w_eq_bool (w_res rfl) w_lit) rfl
theorem attach_call {l:OpenLaw}{n:Nat}{q:Program}{loose:List Str}{XP:(Str->Option Value)->Heap->Prop}{YP:World->Heap->Prop}{d:DefRec}
  (hn:l.most=some n) (hdf:d.params.defaults=[])
  (call:∀(w:World) (s₀ s₁:Shared) (mg mb:Str->Option Value) (fa:Addr) (o:Obj) (pm cd doc:Value) (a:Addr) (vs:List Value) (ns:List Int),
   Ground q loose [] XP w s₀ mg mb s₁.heap->YP w s₁.heap->
   s₁.heap.get? fa=some o->o.data=.func (docDef d.name d.params d.body d.scope pm cd doc)->s₁.heap.CodeRec cd d.name->mg d.name=some (.ref fa)->
   s₁.heap.get? a=some { cls:=.type "list",data:=.seq vs.toArray }->IntsAre vs ns->ns.length<=n->s₁.gens=#[]->
   codeAny (model l.prog w) callerA (.call (.ref fa) ⟨[.ref a],[]⟩) (fun r s'=>r=.ok (.ret (.bool true))/\OldK s₁.heap s'.heap/\s'.os=s₁.os/\AllBare s'.gens) s₁):
  WalkO q loose XP YP l.row.toRowW d [] (fun f vs=>PySem.call f vs):=by
 intro w s₀ s₁ mg mb G Y fa o pm cd doc dV kV ho hd hcd hD hmg hg args vals as hpre hlay hrd hwl hlo
 obtain rfl:dV=.none:=Dflts.none hD hdf
 obtain rfl:kV=.none:=Dflts.noKw hD
 obtain⟨a,vs,ns,rfl,rfl,hobj,hints,hlen⟩:=qIc hn hpre hwl
 refine enter_call (codeAny_mono (call w s₀ s₁ mg mb fa o pm cd doc a vs ns G Y ho (fd_plain hd) hcd hmg hobj hints hlen hg) fun r s' hq=>?_)
 obtain⟨rfl,h2,h3,h4⟩:=hq
 exact⟨.inl ⟨.bool true,.bool true,[],rfl,fun _=>rfl,.bool true,qMx l _,fun _=>⟨List.Pairwise.nil,fun _ hm=>(nomatch hm)⟩⟩,h2,h3,h4⟩
section
variable {prog:Program}{w:World}{A:Around}{E:Value->Shared->Prop}{s:Shared}{K:Frag}
end
end Att
namespace L2
open PySem PySem.Spec PyProof.Rows
theorem qVz:∀{vs:List Value} {ns:List Int},IntsAre vs ns->Vals (ns.map V.int) vs
 | _,_,.nil=>.nil
 | _,_,.cons n t h=>.cons ⟨t,rfl⟩ (qVz h)
def Only (H:Hp):Prop:=∀b,H b=none\/∃o xs,H b=some (.frz o (.lst xs))
theorem qTj {P:Program}{w:World}{K:yZP}{mg mb:Str->Option Value}{CX:CXT}{k:Nat}{fa a:Addr}{fd:FuncData}{x:Str}{sp:Sp}{s₁:Shared}{vs:List Value}{ns:List Int}
  (KX:K.In s₁.heap) (hns:s₁.heap.Ns mainGlobals mg) (hb:s₁.heap.Ns builtinsNs mb) (hbb:∀x:Str,x ≠ "__name__" -> mb x=bootBuiltins x) (hlim:s₁.heap.NoLimit) (hg:s₁.gens=#[])
  (ha:s₁.heap.get? a=some { cls:=.type "list",data:=.seq vs.toArray }) (hi:IntsAre vs ns) (hl:ns.length<=sizeLine) (hr:Room k callerA)
  (F:∀base:Heap,K.In base->base.Ns mainGlobals mg->FnOk P w K mg base CX k fa fd [x] sp) (hbind:∀(s:Shared) (u:Value),BindsTo s fd ⟨[u],[]⟩ [(x,u)])
  (hsp:∀H:Hp,Only H->SqL K H a (ns.map V.int)->sp [.ref a] H (fun v _=>v=.bl true) fun _ _ _=>False)
  (hCX:∀H e s',CX [] H s₁ (fun _ _ _=>False) e s'->False):
  codeAny (model P w) callerA (.call (.ref fa) ⟨[.ref a],[]⟩) (fun r s'=>r=.ok (.ret (.bool true))/\OldK s₁.heap s'.heap/\s'.os=s₁.os/\AllBare s'.gens) s₁:=by
 have rv:=qVz hi
 have lenV:=hi.length
 have core:∀H:Hp,Only H->SqL K H a (ns.map V.int)->HOk P w H s₁.heap->(∀b,H b≠none->b=a)->(H a≠none->K.lookup a=none)->
   codeAny (model P w) callerA (.call (.ref fa) ⟨[.ref a],[]⟩) (fun r s'=>r=.ok (.ret (.bool true))/\OldK s₁.heap s'.heap/\s'.os=s₁.os/\AllBare s'.gens) s₁:=by
  intro H hO hS hok hA hK
  have base_of:∀{b:Addr} {o:Obj},s₁.heap.get? b=some o->H b=none->(hidT s₁.heap H).get? b=some o:=fun e n=>qTf e n
  have noA:∀{b:Addr} {o:Obj} {es:Array DictEntry} {ep:Nat},s₁.heap.get? b=some o->o.data=.dict es ep->H b=none:=fun{b o es ep} e d=>by
   cases q:H b with
   | none=>rfl
   | some u=>
    have e':b=a:=hA b (by rw[q];simp)
    subst e'
    rw[ha] at e;cases e
    have d':Data.seq vs.toArray _=Data.dict es ep:=d
    cases d'
  have nsK:∀{b:Addr} {m:Str->Option Value},s₁.heap.Ns b m->(hidT s₁.heap H).Ns b m:=fun{b m} ⟨o,es,ep,e,d,r⟩=>⟨o,es,ep,base_of e (noA e d),d,r⟩
  have hKb:K.In (hidT s₁.heap H):=fun b o e=>base_of (KX b o e) (by
   cases q:H b with
   | none=>rfl
   | some u=>
    have e':b=a:=hA b (by rw[q];simp)
    subst e'
    rw[hK (by rw[q];simp)] at e;cases e)
  have hM:Mod K mg (hidT s₁.heap H):=⟨hKb,nsK hns,⟨mb,nsK hb,hbb⟩,let ⟨mc,h1,h2⟩:=hlim;⟨mc,nsK h1,h2⟩⟩
  have e0:Env0 P w K mg (hidT s₁.heap H) callerA [] s₁ H:=⟨rfl,hM,fun b o e=>xJq e,Nat.le_of_eq (qNm _ _),trivial,fun b hb=>absurd (show b∈([]:List Addr) from hb) (by simp),hok,.of_eq hg⟩
  refine codeAny_mono ((F _ hKb (nsK hns)).run callerA [] s₁ H ⟨[.ref a],[]⟩ [.ref a] [.ref a] _ _ hr e0 (hbind s₁ (.ref a)) (.cons rfl .nil) (hsp H hO hS)) fun r s' h=>?_
  cases r with
  | error e=>exact(hCX H e s' h).elim
  | ok fl=>
   cases fl with
   | next=>exact False.elim h
   | brk=>exact False.elim h
   | cont=>exact False.elim h
   | ret u=>
    obtain⟨v,H',os,bare,un,hok',r',q⟩:=h
    have q':v=.bl true:=q
    subst q'
    obtain rfl:u=Value.bool true:=r'
    refine⟨rfl,OldK.of_keep fun b o e=>?_,os,bare⟩
    cases q:H b with
    | none=>exact un.keep b o e q (by intro z;exact absurd (show b∈([]:List Addr) from z) (by simp)) (by simp)
    | some u=>
     rcases hO b with z | ⟨ob,xs,z⟩
     .rw[q] at z;cases z
     .have z2:=un.frzs b ob _ z
      obtain⟨e1,_⟩:=hok b _ z
      obtain⟨e2,_⟩:=hok' b _ z2
      rw[e] at e1;cases e1
      exact e2
 cases hk:K.lookup a with
 | some o=>
  have e:=KX a o hk
  rw[ha] at e
  cases e
  refine core (fun _=>none) (fun _=>.inl rfl) (.inr ⟨_,vs.toArray,_,hk,rfl,rfl,rfl,by rw[yYD,lenV];exact hl,by simpa using rv⟩) (fun b u z=>by have z':(none:Option HO)=some u:=z;cases z') (fun b z=>absurd rfl z) fun z=>absurd rfl z
 | none=>
  refine core (fun b=>if b=a then some (.frz { cls:=.type "list",data:=.seq vs.toArray } (.lst (ns.map V.int))) else none) (fun b=>?_) (.inl (.inr ⟨{ cls:=.type "list",data:=.seq vs.toArray },if_pos rfl⟩)) (fun b u z=>?_) (fun b z=>?_) fun _=>hk
  .by_cases hb:b=a
   .exact .inr ⟨_,_,if_pos hb⟩
   .exact .inl (if_neg hb)
  .by_cases hb:b=a
   .have z':=(if_pos hb).symm.trans z
    cases z'
    subst hb
    exact⟨ha,by rw[yYC];exact hl,vs,_,rv,ha⟩
   .have z':=(if_neg hb).symm.trans z
    cases z'
  .by_cases hb:b=a
   .exact hb
   .exact absurd (if_neg hb) z
end L2
namespace L2
open PySem PySem.Spec PyProof.Rows
theorem xXw {l:PySem.W.OpenLaw}{n k:Nat}{q:Program}{loose:List Str}{XP:(Str->Option Value)->Heap->Prop}{YP:World->Heap->Prop}{d:DefRec}{K:Params->yZP}{CX:World->CXT}{sp:World->Sp}{x:Str}
  (hn:l.most=some n) (hn2:n<=sizeLine) (hdf:d.params.defaults=[]) (hr:Room k callerA)
  (hY:∀(w:World) (h:Heap),YP w h->(K w.params).In h)
  (F:∀(w:World) (mg:Str->Option Value) (fa:Addr) (h:Heap),(K w.params).In h->h.Ns mainGlobals mg->mg d.name=some (.ref fa)->
   ∃fd:FuncData,(∀(s:Shared) (u:Value),BindsTo s fd ⟨[u],[]⟩ [(x,u)])/\
    ∀base:Heap,(K w.params).In base->base.Ns mainGlobals mg->FnOk l.prog w (K w.params) mg base (CX w) k fa fd [x] (sp w))
  (hsp:∀(w:World) (H:Hp) (a:Addr) (ns:List Int),ns.length<=n->Only H->SqL (K w.params) H a (ns.map V.int)->sp w [.ref a] H (fun v _=>v=.bl true) fun _ _ _=>False)
  (hCX:∀(w:World) (H:Hp) (s:Shared) (e:Value) (s':Shared),CX w [] H s (fun _ _ _=>False) e s'->False):
  PySem.W.WalkO q loose XP YP l.row.toRowW d [] (fun f vs=>PySem.call f vs):=by
 refine Att.attach_call hn hdf fun w s₀ s₁ mg mb fa o pm cd doc a vs ns G Y ho hd hcd hmg hobj hints hlen hg=>?_
 have KX:=hY w _ Y
 obtain⟨fd,hb,hF⟩:=F w mg fa _ KX G.T.g hmg
 exact qTj KX G.T.g G.T.b G.T.builtins G.T.nolimit hg hobj hints (yZJ hlen hn2) hr hF hb (fun H hO hS=>hsp w H a ns hlen hO hS) fun H e s'=>hCX w H s₁ e s'
end L2
namespace L2
open PySem PySem.Spec PyProof.Rows
abbrev CX0:CXT:=fun _ _ _ _ _ _=>False
abbrev E0:XK:=fun _ _ _=>False
theorem pass0 {X:Cx}:Passes CX0 X E0:=fun _ _ _ _ _ _ _ h=>h.elim
structure Fun (K:yZP)(x qual:Str)(st:Stmt)(f:Addr)(fd:FuncData):Prop where
 ex:∃(oc:Value) (od:Option Addr) (kV doc pm:Value) (an:Option Addr) (zy ct:Value) (osl:Array (Option Value)),
  fd=PySem.W.fnOf x qual (xD st) (xC st) (xB st) .none kV doc pm an zy ct/\K.lookup f=some ⟨oc,od,.func fd,osl⟩/\PySem.W.codeIn K zy qual=true
 kp:PySem.W.keepIn K (.ref f)=true
section
variable {P:Program}{w:World}{K:yZP}{mg:Str->Option Value}{base:Heap}
theorem Fun.ok {x qual:Str}{st:Stmt}{f:Addr}{fd:FuncData}{N ps:List Str}{k:Nat}{sp:Sp}(F:Fun K x qual st f fd)(S:xH N ps (xB st))(len:∀vs H Q E,sp vs H Q E->vs.length=ps.length)
  (hbody:∀(zy:Value) (A:Around) (outer:List Env) (s:Shared) (H:Hp) (vs:List V) (Q:VK) (E:XK),Room k (A.deeper (envOfC qual (xB st) s.heap.objs.size f zy))->sp vs H Q E->
   ∃t,PSs (cxOf CX0 P w K mg base N qual (xB st) f zy A outer s H E).nox (xC st) t/\t { nx:=fun _ H'=>Q .non H',rt:=Q } (start N vs) H):FnOk P w K mg base CX0 (k+1) f fd ps sp:=by
 obtain⟨oc,od,kV,doc,pm,an,zy,ct,osl,rfl,lk,hcd⟩:=F.ex
 refine xWb lk hcd S len fun A outer s H vs Q E hr hsp=>?_
 obtain⟨t,h,q⟩:=hbody zy A outer s H vs Q E hr hsp
 exact⟨t,h.nox,q⟩
theorem Fun.binds {x qual:Str}{st:Stmt}{f:Addr}{fd:FuncData}{ps:List Str}(F:Fun K x qual st f fd)
  (h:∀(kV doc pm:Value) (an:Option Addr) (zy ct:Value) (us:List Value),us.length=ps.length->bindArgs (PySem.W.fnOf x qual (xD st) (xC st) (xB st) .none kV doc pm an zy ct) ⟨us,[]⟩=pure (ps.zip us)):Binds K fd ps []:=by
 obtain⟨oc,od,kV,doc,pm,an,zy,ct,osl,rfl,lk,hcd⟩:=F.ex
 exact .all (h kV doc pm an zy ct)
theorem qOq {x qual:Str}{st:Stmt}{f:Addr}{oc:Value}{od an:Option Addr}{osl:Array (Option Value)}{kV doc pm zy ct:Value}(l:K.lookup f=some ⟨oc,od,.func (PySem.W.fnOf x qual (xD st) (xC st) (xB st) .none kV doc pm an zy ct),osl⟩)
  (c:PySem.W.codeIn K zy qual=true) (k:PySem.W.keepIn K (.ref f)=true):Fun K x qual st f (PySem.W.fnOf x qual (xD st) (xC st) (xB st) .none kV doc pm an zy ct):=⟨⟨oc,od,kV,doc,pm,an,zy,ct,osl,rfl,l,c⟩,k⟩
end
theorem qWh {A:Around}{k:Nat}(hr:Room k A):A.units+1<cLine:=yZI (Nat.add_le_add_left (by decide:1<=64) _) hr.units
section
variable {X:Cx}
theorem pv (i:Nat){x:Str}{pos:Pos}(hN:X.N[i]? = some x:=by rfl)(hv:Vis X.env.scope x:=by first | exact Or.inl rfl | exact Or.inr (Or.inl rfl) | exact Or.inr (Or.inr rfl))(hd:(x == ("__debug__" : Str))=false:=by decide)
  (hcd:(x == ("__classdict__" : Str))=false:=by decide):PE X (.Name x pos) (tVar i):=xVq hN hv hd hcd
end
theorem iteF {A B:Prop}(h:B):if false=true then A else B:=by
 rw[if_neg yZL]
 exact h
theorem iteT {A B:Prop}(h:A):if true=true then A else B:=by
 rw[if_pos rfl]
 exact h
theorem ite2 {c A B:Prop}[Decidable c](h1:c->A)(h2:¬c->B):if c then A else B:=by
 by_cases h:c
 .rw[if_pos h]
  exact h1 h
 .rw[if_neg h]
  exact h2 h
def Same (H H':Hp):Prop:=∀b o,H b=some o->H' b=some o
theorem Same.refl (H:Hp):Same H H:=fun _ _ h=>h
theorem Same.trans {H H1 H2:Hp}(a:Same H H1)(b:Same H1 H2):Same H H2:=fun c o h=>b c o (a c o h)
theorem Same.free {H H':Hp}(e:Same H H'){l:Addr}(h:H' l=Option.none):H l=Option.none:=by
 cases q:H l with
 | none=>rfl
 | some o=>
  rw[e l o q] at h
  cases h
theorem Same.seq {K:yZP}{H H':Hp}{a:Addr}{xs:List V}(e:Same H H')(h:SqL K H a xs):SqL K H' a xs:=by
 rcases h with(h | ⟨o,h⟩) | h
 .exact .inl (.inl (e _ _ h))
 .exact .inl (.inr ⟨o,e _ _ h⟩)
 .exact .inr h
end L2
namespace L2
open PySem PySem.Spec PyProof.Rows
theorem qYq {scope:Scope}{env:Env}(h:∀p∈scope.names,p.2=.free->∃c,env.cells.lookup p.1=some c):
  ∃cl,closureFor scope env=pure cl/\(∀x c,cl.lookup x=some c->env.cells.lookup x=some c)/\(∀p∈scope.names,p.2=.free->∃c,cl.lookup p.1=some c):=by
 have key:∀(names:List (Str×NameKind)) (acc:List (Str×Addr)),(∀p∈names,p.2=.free->∃c,env.cells.lookup p.1=some c)->(∀x c,acc.lookup x=some c->env.cells.lookup x=some c)->
   ∃cl,(forIn names acc (fun(x:Str×NameKind) (r:List (Str×Addr))=>(if (x.2 == NameKind.free)=true then (do let a <- cellOf env x.1;pure (ForInStep.yield ((x.1,a)::r))) else pure (ForInStep.yield r):Sem (ForInStep (List (Str×Addr))))):Sem (List (Str×Addr)))=pure cl/\
    (∀x c,cl.lookup x=some c->env.cells.lookup x=some c)/\(∀x c,acc.lookup x=some c->∃c,cl.lookup x=some c)/\(∀p∈names,p.2=.free->∃c,cl.lookup p.1=some c):=by
  intro names
  induction names with
  | nil=>intro acc _ ha;exact⟨acc,rfl,ha,fun x c e=>⟨c,e⟩,fun p hp=>by cases hp⟩
  | cons p r ih=>
   intro acc hn ha
   obtain⟨n,k⟩:=p
   by_cases hk:k=.free
   .subst hk
    obtain⟨c,hc⟩:=hn (n,.free) yYG rfl
    have ha':∀x d,((n,c)::acc).lookup x=some d->env.cells.lookup x=some d:=fun x d e=>by
     rw[List.lookup_cons] at e
     cases hx:x == n with
     | true=>rw[hx] at e;cases e;rw[eq_of_beq hx];exact hc
     | false=>rw[hx] at e;exact ha x d e
    obtain⟨cl,e,h1,h2,h3⟩:=ih ((n,c)::acc) (fun p hp=>hn p (yYH _ hp)) ha'
    have hcell:cellOf env n=pure c:=by unfold cellOf;rw[hc]
    refine⟨cl,?_,h1,fun x d ex=>?_,fun p hp hf=>?_⟩
    .rw[List.forIn_cons]
     show(if (NameKind.free == NameKind.free)=true then (do let a <- cellOf env n;pure (ForInStep.yield ((n,a)::acc))) else _) >>= _=_
     rw[if_pos (show(NameKind.free == NameKind.free)=true from rfl),hcell]
     exact e
    .cases hx:x == n with
     | true=>exact h2 x c (by rw[List.lookup_cons,hx])
     | false=>exact h2 x d (by rw[List.lookup_cons,hx];exact ex)
    .rcases yYK.mp hp with rfl | hp
     .exact h2 n c (by rw[List.lookup_cons,beq_self_eq_true])
     .exact h3 p hp hf
   .obtain⟨cl,e,h1,h2,h3⟩:=ih acc (fun p hp=>hn p (yYH _ hp)) ha
    refine⟨cl,?_,h1,h2,fun p hp hf=>?_⟩
    .rw[List.forIn_cons]
     show(if (k == NameKind.free)=true then _ else _) >>= _=_
     rw[if_neg (by simpa using hk)]
     exact e
    .rcases yYK.mp hp with rfl | hp
     .exact absurd hf hk
     .exact h3 p hp hf
 obtain⟨cl,e,h1,_,h3⟩:=key scope.names [] h (fun x c e=>by cases e)
 refine⟨cl,?_,h1,h3⟩
 show(forIn scope.names [] _ >>= fun r=>pure r)=pure cl
 rw[bind_pure]
 exact e
theorem yO {α:Type}(x:Str)(k:α)(l:List (Str×α)):List.lookup x ((x,k)::l)=some k:=by rw[List.lookup_cons,beq_self_eq_true]
theorem yY {α:Type}{x n:Str}(k:α)(l:List (Str×α))(h:(x == n)=false):List.lookup x ((n,k)::l)=List.lookup x l:=by rw[List.lookup_cons,h]
theorem vD {env:Env}{x:Str}:∀(names:List (Str×NameKind)),
  (names.map fun(n,k)=>if (k == NameKind.free && env.scope.kind == .function && env.kindOf n == some .cell) then (n,NameKind.cell) else (n,k)).lookup x=
   (names.lookup x).map fun k=>if (k == NameKind.free && env.scope.kind == .function && env.kindOf x == some .cell) then NameKind.cell else k
 | []=>rfl
 | (n,k)::r=>by
  have ih:=@vD env x r
  show List.lookup x ((if (k == NameKind.free && env.scope.kind == .function && env.kindOf n == some .cell)=true then (n,NameKind.cell) else (n,k))::_)=_
  cases hx:x == n with
  | true=>
   have e:x=n:=eq_of_beq hx
   subst e
   rw[yO]
   by_cases hc:(k == NameKind.free && env.scope.kind == .function && env.kindOf x == some .cell)=true
   .rw[if_pos hc,yO]
    show _=some (if (k == NameKind.free && env.scope.kind == .function && env.kindOf x == some .cell)=true then NameKind.cell else k)
    rw[if_pos hc]
   .rw[if_neg hc,yO]
    show _=some (if (k == NameKind.free && env.scope.kind == .function && env.kindOf x == some .cell)=true then NameKind.cell else k)
    rw[if_neg hc]
  | false=>
   rw[yY _ _ hx]
   by_cases hc:(k == NameKind.free && env.scope.kind == .function && env.kindOf n == some .cell)=true
   .rw[if_pos hc,yY _ _ hx];exact ih
   .rw[if_neg hc,yY _ _ hx];exact ih
def cxC (X:Cx)(scope:Scope)(cl:List (Str×Addr))(N:List Str)(fp:List Addr)(s:Shared)(H:Hp):Cx where
 prog:=X.prog
 w:=X.w
 K:=X.K
 mg:=X.mg
 base:=X.base
 A:=X.A
 N:=N
 s₀:=s
 H₀:=H
 env:=compEnvC scope cl s.heap.objs.size X.env
 outer:=X.stack
 stack:=X.stack
 ex:=fp
 fn:=fun _=>false
 calm:=X.calm
 pn:=[]
 xe:=fun _ _=>False
def PTs (X:Cx)(ifs:List Expr)(t:TT):Prop:=
 ∀(zz:List (Addr×Obj)) (s:Shared) (σ:St) (H:Hp) (Q:Bool->Hp->Prop),Inv X zz σ H s->t σ H Q->
  wpAny (model X.prog X.w) X.A (forIn ifs true fun c r=>if r=true then do let ok <- isTrue c X.env (eval c X.env);pure (ForInStep.yield ok) else pure (ForInStep.yield r)) (TP X zz σ Q) X.xe s
def tYes:TT:=fun _ H Q=>Q true H
theorem zF {X:Cx}:PTs X [] tYes:=fun _ _ _ H _ I h=>wpAny_tests_nil ⟨H,I,h⟩
theorem kQ {X:Cx}{c:Expr}{t:TT}(h:PT X c t):PTs X [c] t:=fun zz s σ H Q I q=>wpAny_tests_one (h zz s σ H Q I q)
def frees (js:List Nat)(σ:St):St:=js.map fun j=>σ.getD j none
abbrev stC (k:Nat)(js:List Nat)(σ:St):St:=List.replicate k none++frees js σ
def rdC (k:Nat)(js:List Nat)(g:TG)(tt:TT)(te:TE)(J:It)(σ:St)(H1:Hp)(Q:VK):Prop:=∀D,H1 D=none->
 ∃W:Nat->Nat->List V->Hp->Prop,(∃m,W 0 m [] (upd H1 D (.lst [])))/\∀i m ys H2,W i m ys H2->H2 D=some (.lst ys)/\
  ((J.stop i H2/\Q (.ref D) H2)\/(J.go i H2/\∀x H3,J.yld i H2 x H3->g x (stC k js σ) H3 fun σ4 H4=>(∃ow:St,ow.length=k/\σ4=ow++frees js σ)/\
   tt σ4 H4 fun b H5=>if b=true then te σ4 H5 fun y H6=>H6 D=some (.lst ys)/\ys.length<sizeLine/\∃m',m'<m/\W (i+1) m' (ys++[y]) (upd H6 D (.lst (ys++[y])))
    else ∃m',m'<m/\W (i+1) m' ys H5))
def tComp (k:Nat)(js:List Nat)(wi:TI)(g:TG)(tt:TT)(te:TE):TE:=fun σ H Q=>wi σ H fun J H1=>rdC k js g tt te J σ H1 Q
structure CompOk (sc:Scope)(N0:List Str)(scope:Scope)(N:List Str)(k:Nat)(js:List Nat):Prop where
 kind:scope.kind=.function
 cell:∀y∈scope.names,y.2≠.cell
 names:∀y∈scope.names,y.2=.local->scope.names.lookup y.1=some .local
 free:∀p∈scope.names,p.2=.free->sc.names.lookup p.1=some .cell\/sc.names.lookup p.1=some .free
 fn:∀x∈N.drop k,scope.names.lookup x=some .free
 at':js.map (fun j=>N0[j]?)=(N.drop k).map some
 le:k<=N.length
 nd:N.Nodup
theorem kJ {names:List (Str×NameKind)}{x:Str}{k:NameKind}(h:names.lookup x=some k):(x,k)∈names:=PySem.mem_of_lookup h
section
variable {X:Cx}{elt tg iter:Expr}{ifs:List Expr}{scope:Scope}{cpos:Pos}{N:List Str}{k:Nat}{js:List Nat}{cl:List (Str×Addr)}{g:TG}{tt:TT}{te:TE}
theorem qNh {zz:List (Addr×Obj)}{σ:St}{H:Hp}{s:Shared}{fp:List Addr}{h₁:Heap}{t':Nat}{m:Str->Option Value}(C:CompOk X.env.scope X.N scope N k js)
  (hcl1:∀x c,cl.lookup x=some c->X.env.cells.lookup x=some c) (hcl2:∀p∈scope.names,p.2=.free->∃c,cl.lookup p.1=some c)
  (I:Inv X zz σ H s) (f2:∀b∈fp,FpOk X zz H b) (flt:∀b∈fp,b<s.heap.objs.size) (hns:h₁.Ns s.heap.objs.size m) (keep:∀b o,s.heap.get? b=some o->h₁.get? b=some o):
  Inv (cxC X scope cl N fp s H) [] (stC k js σ) H { s with heap:=h₁,toks:=t' }:=by
 have relk:∀x,(cxC X scope cl N fp s H).env.kindOf x=(scope.names.lookup x).map fun k=>if (k == NameKind.free && X.env.scope.kind == .function && X.env.kindOf x == some .cell) then NameKind.cell else k:=fun x=>vD scope.names
 have wasfree:∀x,((cxC X scope cl N fp s H).env.kindOf x=some .cell\/(cxC X scope cl N fp s H).env.kindOf x=some .free)->scope.names.lookup x=some .free:=fun x hx=>by
  rw[relk x] at hx
  cases e:scope.names.lookup x with
  | none=>rw[e] at hx;rcases hx with hx | hx <;> cases hx
  | some kd=>
   rw[e] at hx
   by_cases hk:kd=.free
   .rw[hk]
   .have hk':(kd == NameKind.free)=false:=by simpa using hk
    rw[yZO,hk',Bool.false_and,Bool.false_and,if_neg yZL] at hx
    rcases hx with hx | hx
    .exact absurd (Option.some.inj hx) (C.cell _ (kJ e))
    .exact absurd (Option.some.inj hx) hk
 have clt:∀x c,cl.lookup x=some c->c<s.heap.objs.size:=fun x c e=>by
  obtain⟨v,z⟩:=I.cell x c (hcl1 x c e)
  exact z.lt
 have ok:(cxC X scope cl N fp s H).Ok:=
  {mod:=I.ok.mod
   kind:=by show(relabel scope X.env).kind=_;exact C.kind
   glob:=I.ok.glob
   blt:=I.ok.blt
   above:=yZD _
   inj:=fun x y c e1 e2=>I.ok.inj x y c (hcl1 x c e1) (hcl1 y c e2)
   has:=fun x hx=>hcl2 (x,.free) (kJ (wasfree x hx)) rfl
   cab:=fun x c z=>by cases z
   hd:=I.ok.hd
   frames:=I.ok.frames
   stk:=.inl rfl
   exf:=fun b hb=>⟨yZF (flt b hb),fun x c e=>(f2 b hb).2.2.2.2.1 x c (hcl1 x c e)⟩
   bs:=fun b o e=>I.bs b o e
   bsz:=yZJ I.ok.bsz I.sz
   noex:=fun b o e hb=>by
    rcases(f2 b hb).2.2.2.1 with z | z
    .exact I.ok.noex b o e z
    .exact absurd (yZE (yZA (I.ok.bs b o e).1) z) (Nat.lt_irrefl _)
   exfs:=fun b hb z=>by
    rcases yYK.mp (I.stkSub b z) with q | q
    .exact(f2 b hb).2.1 q
    .exact(f2 b hb).2.2.1 q
   funs:=I.stack
   frf:=I.stkFree }
 have hlen:(stC k js σ).length=N.length:=by
  have q:=congrArg List.length C.at'
  rw[yYC,yYC,List.length_drop] at q
  have:=C.le
  show(List.replicate k none++frees js σ).length=N.length
  rw[yYI,List.length_replicate,frees,yYC]
  omega
 refine⟨ok,rfl,I.bare,Un.kept keep,⟨m,hns,fun i x v e1 e2 e3=>?_⟩,fun x c e=>?_,I.hok.fresh (yZD _),fun x c e=>I.freeC x c (hcl1 x c e),fun p hp=>absurd (show p∈([]:List (Addr×Obj)) from hp) (by simp),I.hok.kept keep,hlen⟩
 .have e1:N[i]? = some x:=e1
  have hik:k<=i:=by
   by_cases hik:k<=i
   .exact hik
   .have e2':(List.replicate k (none:Option V)++frees js σ)[i]? = some (some v):=e2
    rw[List.getElem?_append_left (by rw[List.length_replicate];omega),List.getElem?_replicate] at e2'
    split at e2' <;> cases e2'
  obtain⟨d,rfl⟩:∃d,i=k+d:=⟨i - k,by omega⟩
  have e2':(List.replicate k (none:Option V)++frees js σ)[k+d]? = some (some v):=e2
  rw[List.getElem?_append_right (by rw[List.length_replicate];omega),List.length_replicate,Nat.add_sub_cancel_left,frees,yYO] at e2'
  have ed:(N.drop k)[d]? = some x:=by rw[List.getElem?_drop];exact e1
  cases ej:js[d]? with
  | none=>rw[ej] at e2';cases e2'
  | some j=>
   rw[ej] at e2'
   have ev:σ.getD j none=some v:=Option.some.inj e2'
   have ej2:X.N[j]? = some x:=by
    have q:=congrArg (fun l=>l[d]?) C.at'
    simp only[yYO,ej,ed,yZO] at q
    exact Option.some.inj q
   have eσ:σ[j]? = some (some v):=by
    rw[List.getD_eq_getElem?_getD] at ev
    cases z:σ[j]? with
    | none=>rw[z] at ev;cases ev
    | some w=>rw[z] at ev;exact congrArg some ev
   have hfx:scope.names.lookup x=some .free:=C.fn x (yYE ed)
   have hX:X.env.scope.names.lookup x=some .cell\/X.env.scope.names.lookup x=some .free:=C.free (x,.free) (kJ hfx) rfl
   obtain⟨mX,_,lX⟩:=I.loc
   obtain⟨u,ru,lu⟩:=lX j x v ej2 eσ (hX.elim (fun z=>.inr (.inl z)) fun z=>.inr (.inr z))
   refine⟨u,ru,.inr ⟨?_,?_⟩⟩
   .rw[relk x,hfx]
    show some (if _ then _ else _)=_\/some (if _ then _ else _)=_
    split
    .exact .inl rfl
    .exact .inr rfl
   .rcases lu with⟨z,_⟩ | ⟨_,c,ec,ic⟩
    .have z:X.env.scope.names.lookup x=some .local:=z
     rcases hX with q | q <;> rw[q] at z <;> cases z
    .obtain⟨c',ec'⟩:=hcl2 (x,.free) (kJ hfx) rfl
     have:c'=c:=Option.some.inj ((hcl1 x c' ec').symm.trans ec)
     subst this
     obtain⟨o,ho,hd⟩:=ic
     exact⟨c',ec',o,keep _ _ ho,hd⟩
 .obtain⟨v,o,ho,hd⟩:=I.cell x c (hcl1 x c e)
  exact⟨v,o,keep _ _ ho,hd⟩
theorem qEd {zz:List (Addr×Obj)}{σ:St}{H2:Hp}{s2:Shared}{E:Value->Shared->Prop}{it:Addr}{fp:List Addr}{tn:Nat->Heap->Prop}{J:It}{Q:VK}{RR:Value->Addr->Result->Shared->Prop}
  (hc:X.calm=true) (C:CompOk X.env.scope X.N scope N k js) (hcl1:∀x c,cl.lookup x=some c->X.env.cells.lookup x=some c) (hcl2:∀p∈scope.names,p.2=.free->∃c,cl.lookup p.1=some c)
  (hg:∀fp s H,PG (cxC X scope cl N fp s H) tg g) (ht:∀fp s H,PTs (cxC X scope cl N fp s H) ifs tt) (he:∀fp s H,PE (cxC X scope cl N fp s H) elt te)
  (I:Inv X zz σ H2 s2) (T:Turn X.prog X.w X.K tg J fp it tn) (st:tn 0 s2.heap) (f2:∀b∈fp,FpOk X zz H2 b) (rd:rdC k js g tt te J σ H2 Q)
  (fin:∀D L H' s',Inv X zz σ H' s'->FpOk X zz H' L->(∃m,s'.heap.Ns L m)->Q (.ref D) H'->RR (.ref D) L (.ok .next) s'):
  wpAny (model X.prog X.w) X.A (newList []) (fun acc s₃=>wpAny (model X.prog X.w) X.A (newFunctionEnv scope X.env.globals cl [] X.env.qual none .none (some X.env)) (fun cenv s₄=>
   codeAny (model X.prog X.w) X.A (.compStart (.ListComp elt [⟨tg,iter,ifs,0⟩] scope cpos) 0 (.ref it) acc { cenv with scope:=relabel scope X.env }) (RR acc cenv.locals) s₄) E s₃) E s2:=by
 refine wpAny_newObj_type (wpAny_newFunctionEnv C.cell (by intro y hy;simp at hy) (fun h₁ hns₁ hsb₁=>?_) C.kind)
 dsimp only at hns₁ hsb₁ ⊢
 have hD:H2 s2.heap.objs.size=none:=I.hok.fresh (yZD _)
 have Id:Inv X zz σ (upd H2 s2.heap.objs.size (.lst [])) { s2 with heap:=s2.heap.push { cls:=.type "list",dict:=none,data:=.seq ([]:List Value).toArray } }:=
  I.laid (t':=s2.toks) (fun b u e=>yYZ _ e) (yZD _) ⟨yZG _,[],0,.nil,yZB _ rfl⟩
 have kD:∀b o,s2.heap.get? b=some o->(s2.heap.push { cls:=.type "list",dict:=none,data:=.seq ([]:List Value).toArray }).get? b=some o:=fun b o e=>yYZ _ e
 generalize hHd:s2.heap.push { cls:=.type "list",dict:=none,data:=.seq ([]:List Value).toArray }=Hd at hns₁ hsb₁ Id kD ⊢
 have szd:Hd.objs.size=s2.heap.objs.size+1:=by rw[<- hHd,yZC]
 have keep:∀b o,Hd.get? b=some o->h₁.get? b=some o:=fun b o e=>hsb₁.extBut b o (yZF (yZA e)) (yYZ _ e)
 have flt2:∀b∈fp,b<s2.heap.objs.size:=fun b hb=>by
  obtain⟨o,e,_⟩:=T.obj _ _ st b hb
  exact yZA e
 have fd:∀b∈fp,FpOk X zz (upd H2 s2.heap.objs.size (.lst [])) b:=fun b hb=>
  ⟨by rw[qA (yZF (flt2 b hb))];exact(f2 b hb).1,(f2 b hb).2⟩
 obtain⟨W,⟨m0,w0⟩,turn⟩:=rd _ hD
 generalize hY:cxC X scope cl N fp { s2 with heap:=Hd } (upd H2 s2.heap.objs.size (.lst []))=Y
 have hg:=hg fp { s2 with heap:=Hd } (upd H2 s2.heap.objs.size (.lst []))
 have ht:=ht fp { s2 with heap:=Hd } (upd H2 s2.heap.objs.size (.lst []))
 have he:=he fp { s2 with heap:=Hd } (upd H2 s2.heap.objs.size (.lst []))
 have loop:∀s₃:Shared,s₃={ s2 with heap:=h₁,toks:=s2.toks+([]:List (Str×Value)).length }->
   codeAny (model X.prog X.w) X.A (.compLoop (.ListComp elt [⟨tg,iter,ifs,0⟩] scope cpos) 0 (.ref it) (.ref s2.heap.objs.size) (compEnvC scope cl Hd.objs.size X.env))
    (RR (.ref s2.heap.objs.size) Hd.objs.size) s₃:=by
  rintro s₃ rfl
  have IY:Inv Y [] (stC k js σ) (upd H2 s2.heap.objs.size (.lst [])) { s2 with heap:=h₁,toks:=s2.toks+([]:List (Str×Value)).length }:=by
   rw[<- hY]
   exact qNh (t':=s2.toks+([]:List (Str×Value)).length) C hcl1 hcl2 Id fd (fun b hb=>yZE (flt2 b hb) (by show s2.heap.objs.size<=Hd.objs.size;omega)) hns₁ keep
  rw[hY] at hg ht he
  have yprog:Y.prog=X.prog:=by rw[<- hY];rfl
  have yw:Y.w=X.w:=by rw[<- hY];rfl
  have yK:Y.K=X.K:=by rw[<- hY];rfl
  have yA:Y.A=X.A:=by rw[<- hY];rfl
  have yc:Y.calm=true:=by rw[<- hY];exact hc
  have yenv:Y.env=compEnvC scope cl Hd.objs.size X.env:=by rw[<- hY];rfl
  have yxe:Y.xe=fun _ _=>False:=by rw[<- hY];rfl
  have ybase:∀{pn σ' H' s'},Inv Y pn σ' H' s'->Un (frs X.stack) fp (upd H2 s2.heap.objs.size (.lst [])) H' Hd s'.heap/\s'.os=s2.os:=fun{pn σ' H' s'} J=>by
   have u:=J.base
   have o:=J.os
   rw[<- hY] at u o
   exact⟨u,o⟩
  have statY:∀{H':Hp},(∀b∈fp,H' b=none)->∀b∈fp,FpOk Y [] H' b:=fun{H'} hn b hb=>by
   rw[<- hY]
   refine⟨hn b hb,yZF (yZE (flt2 b hb) (by show s2.heap.objs.size<=Hd.objs.size;omega)),?_,.inl hb,fun x c e=>(f2 b hb).2.2.2.2.1 x c (hcl1 x c e),fun p hp=>absurd (show p∈([]:List (Addr×Obj)) from hp) (by simp)⟩
   intro z
   rcases yYK.mp (I.stkSub b z) with q | q
   .exact(f2 b hb).2.1 q
   .exact(f2 b hb).2.2.1 q
  have st₁:tn 0 h₁:=T.keep _ _ _ st fun b hb o e=>keep b o (kD b o e)
  refine codeAny_loop rfl (fun n s'=>∃i ys H',Inv Y [] (stC k js σ) H' s'/\tn i s'.heap/\(∀b∈fp,H' b=none)/\W i n ys H') ?_ m0 ⟨0,[],_,IY,st₁,fun b hb=>(fd b hb).1,w0⟩
  rintro n s3 ⟨i,ys,H3,I3,st3,fr3,w3⟩
  show wpAny _ X.A ((compTurn (.ListComp elt [⟨tg,iter,ifs,0⟩] scope cpos) 0 (.ref it) (.ref s2.heap.objs.size) (compEnvC scope cl Hd.objs.size X.env)).onRaise (fun x=>do noteFrame x (compEnvC scope cl Hd.objs.size X.env);theTreesLotGoes x)) _ _ s3
  refine wpAny_noted ?_
  rw[compTurn_list]
  obtain⟨hDs,tr⟩:=turn i n ys H3 w3
  have hPE:∀{α:Type} {t:Sem α} {R R':α->Shared->Prop} {E':Value->Shared->Prop} {s:Shared},wpAny (model Y.prog Y.w) Y.A t R Y.xe s->(∀a s,R a s->R' a s)->wpAny (model X.prog X.w) X.A t R' E' s:=fun{α t R R' E' s} h hQ=>by
   rw[yprog,yw,yA,yxe] at h
   exact wpAny_mono h hQ fun _ _ z=>z.elim
  rcases tr with⟨stop,qn⟩ | ⟨go,step⟩
  .refine yYX (wpAny_standAt (yYX ?_))
   have dn:=T.done Y yprog yw yK yc i [] s3 (stC k js σ) H3 (fun _ _=>False) I3 (statY fr3) st3 stop
   rw[yA] at dn
   refine wpAny_mono dn (fun r s4 ⟨hr,I4⟩=>?_) fun _ _ z=>z.elim
   subst hr
   obtain⟨u4,o4⟩:=ybase I4
   refine yYY (fin _ _ H3 s4 ?_ ?_ ?_ qn)
   .refine I.call' (ch:=fp) o4 ((Un.laid (fun b o e=>kD b o e) (yZD _) hD).trans u4) (by have:=I4.hok;rw[yprog,yw] at this;exact this) I4.bare fun b hb=>?_
    obtain⟨_,q1,q2,q3,q4,q5⟩:=f2 b hb
    exact⟨q3,q1,q4,q5⟩
   .refine I.fpOk (by show s2.heap.objs.size<=Hd.objs.size;omega) ?_
    have:=I4.free
    rw[yenv] at this
    exact this
   .obtain⟨m,hn,_⟩:=I4.loc
    rw[yenv] at hn
    exact⟨m,hn⟩
  .refine yYX (wpAny_standAt (yYX ?_))
   have itm:=T.item Y yprog yw yK yc i [] s3 (stC k js σ) H3 (fun _ _=>False) I3 (statY fr3) st3 go
   rw[yA] at itm
   refine wpAny_mono itm (fun r s4 ⟨u,hr,h4⟩=>?_) fun _ _ z=>z.elim
   subst hr
   refine yYX (wpAny_mono h4 (fun _ s5 ⟨x,H5,I5,r5,y5,st5,fr5⟩=>?_) fun _ _ z=>z.elim)
   have I5':=I5.pinned (statY fr5) (T.obj _ _ st5)
   have as:=hg _ s5 (stC k js σ) H5 x u _ I5' r5 (step x H5 y5)
   rw[yenv] at as
   refine yYX (hPE as fun _ s6 ⟨σ6,H6,I6,⟨ow,eow,e6⟩,q6⟩=>?_)
   have again:∀{H7:Hp} {s7:Shared} {zs:List V},Inv Y ([]++pinsAt fp s5.heap) σ6 H7 s7->(∃m',m'<n/\W (i+1) m' zs H7)->
     ∃m,m<n/\∃i ys H',Inv Y [] (stC k js σ) H' s7/\tn i s7.heap/\(∀b∈fp,H' b=none)/\W i m ys H':=fun{H7 s7 zs} I7 ⟨m',hm,w7⟩=>by
    have J7:Inv Y ([]++pinsAt fp s5.heap) (stC k js σ) H7 s7:=by
     refine I7.weak ?_ fun j v e=>?_
     .rw[e6]
      show(List.replicate k none++frees js σ).length=_
      rw[yYI,yYI,List.length_replicate,eow]
     .have e:(List.replicate k (none:Option V)++frees js σ)[j]? = some (some v):=e
      rw[e6]
      by_cases hj:j<k
      .rw[List.getElem?_append_left (by rw[List.length_replicate];exact hj),List.getElem?_replicate] at e
       split at e <;> cases e
      .rw[List.getElem?_append_right (by rw[List.length_replicate];omega),List.length_replicate] at e
       rw[List.getElem?_append_right (by omega),eow]
       exact e
    refine⟨m',hm,i+1,zs,H7,J7.unpinned,T.keep _ _ _ st5 fun b hb o e=>(I7.pin (b,o) (yYN _ (yYN _ (vW hb e)))).1,fun b hb=>?_,w7⟩
    obtain⟨o,e,d⟩:=T.obj _ _ st5 b hb
    exact(I7.pin (b,o) (yYN _ (yYN _ (vW hb e)))).2.1
   have tst:=ht _ s6 σ6 H6 _ I6 q6
   rw[yenv] at tst
   refine yYX (hPE tst fun b s7 ⟨H7,I7,q7⟩=>?_)
   cases b with
   | false=>exact yYY ⟨rfl,again I7 q7⟩
   | true=>
    have ev:=he _ s7 σ6 H7 _ I7 q7
    rw[yenv] at ev
    refine yYX (yYX (hPE ev fun v s8 ⟨y,H8,I8,r8,q8,z8,w8⟩=>?_))
    refine yYX (hPE (zR (X:=Y) _ s8 σ6 H8 (.ref s2.heap.objs.size) [y] (.ref s2.heap.objs.size) [v] (fun _ H9=>H9=upd H8 s2.heap.objs.size (.lst (ys++[y]))) I8 rfl (.cons r8 .nil) ⟨_,ys,y,rfl,rfl,q8,z8,rfl⟩) fun _ s9 ⟨_,H9,I9,_,e9⟩=>?_)
    subst e9
    exact yYY (yYY ⟨rfl,again I9 w8⟩)
 exact codeAny_compStart_list (loop _ rfl) (T.self _ 0 _ _ _ (T.keep _ _ _ st fun b hb o e=>keep b o (kD b o e)) (loop _ rfl))
theorem xQn {zz:List (Addr×Obj)}{σ:St}{H:Hp}{s:Shared}(I:Inv X zz σ H s)(C:CompOk X.env.scope X.N scope N k js):∀p∈scope.names,p.2=.free->∃c,X.env.cells.lookup p.1=some c:=
 fun p hp hf=>I.ok.has p.1 (C.free p hp hf)
theorem zJ {wi:TI}{sc:Scope}{N0:List Str}(hc:X.calm=true)(C:CompOk sc N0 scope N k js)(hi:PI X tg iter wi)
  (hg:∀cl fp s H,PG (cxC X scope cl N fp s H) tg g) (ht:∀cl fp s H,PTs (cxC X scope cl N fp s H) ifs tt) (he:∀cl fp s H,PE (cxC X scope cl N fp s H) elt te)
  (hs:∀x,foldedSetIterable iter X.env x=pure x:=by intro _;rfl) (hsc:X.env.scope=sc:=by rfl) (hN0:X.N=N0:=by rfl):PE X (.ListComp elt [⟨tg,iter,ifs,0⟩] scope cpos) (tComp k js wi g tt te):=by
 subst hsc hN0
 intro zz s σ H Q I h
 obtain⟨cl,e,h1,h2⟩:=qYq (xQn I C)
 rw[eval_ListComp]
 refine wpAny_comprehension_free (use:=none) rfl hs e C.kind C.names (thn (hi zz s σ H _ I h) fun v s1 q=>thn q fun itv s2 q2=>?_)
 obtain⟨it,fp,tn,J,H2,rfl,I2,T,st,f2,rd⟩:=q2
 refine qEd (RR:=fun acc L=>compPost (model X.prog X.w) X.A X.xe none (EP X zz σ Q) acc L) hc C h1 h2 (hg cl) (ht cl) (he cl) I2 T st f2 rd ?_
 intro D L H' s' I' ⟨f0,f1,_,f3,f4,f5⟩ ⟨m,hn⟩ q
 refine⟨m,hn,fun h' sb=>⟨.ref D,H',?_,rfl,q⟩⟩
 exact I'.turned (t':=s'.toks) (fun b o hb e=>(sb.2 b hb).trans e) f0 f1 f3 f4 f5
theorem yI {wi:TI}{i:Nat}{x:Str}{pos pos':Pos}{sc:Scope}{N0:List Str}(hN:X.N.Nodup)(hi':X.N[i]? = some x)(hx:Loc X.env.scope x)(hc:X.calm=true)(C:CompOk sc N0 scope N k js)(hi:PI X tg iter wi)
  (hg:∀cl fp s H,PG (cxC X scope cl N fp s H) tg g) (ht:∀cl fp s H,PTs (cxC X scope cl N fp s H) ifs tt) (he:∀cl fp s H,PE (cxC X scope cl N fp s H) elt te)
  (hsw:swapsWith (.ListComp elt [⟨tg,iter,ifs,0⟩] scope cpos) (some (.Name x pos')) pos.line X.env=pure true:=by rfl)
  (hs:∀x,foldedSetIterable iter X.env x=pure x:=by intro _;rfl) (hsc:X.env.scope=sc:=by rfl) (hN0:X.N=N0:=by rfl) (hf:X.fn x=true\/X.env.scope.names.lookup x=some .local:=by first | exact .inl rfl | exact .inr rfl | assumption):
  PS X (.Assign [.Name x pos'] (.ListComp elt [⟨tg,iter,ifs,0⟩] scope cpos) pos) (tAsg (tComp k js wi g tt te) (gName i)):=by
 subst hsc hN0
 intro zz s σ H D I h
 obtain⟨cl,e,h1,h2⟩:=qYq (xQn I C)
 rw[exec_Assign_Name_used _ _ _ _ hsw]
 refine yYX (wpAny_standAt (yYX ?_))
 show wpAny _ X.A (do let _ <- comprehension (.ListComp elt [⟨tg,iter,ifs,0⟩] scope cpos) scope X.env _ (newList []) false (eval iter X.env) (some (assign (.Name x pos') X.env))) _ _ s
 refine yYX (wpAny_mono (wpAny_comprehension_free (use:=some (assign (.Name x pos') X.env)) (Q:=fun _ s'=>SP X zz D .next s') rfl hs e C.kind C.names
  (thn (hi zz s σ H _ I h) fun v s1 q=>thn q fun itv s2 q2=>?_)) (fun _ s' hq=>yYY (yYY hq)) fun _ _ z=>z)
 obtain⟨it,fp,tn,J,H2,rfl,I2,T,st,f2,rd⟩:=q2
 refine qEd (RR:=fun acc L=>compPost (model X.prog X.w) X.A X.xe (some (assign (.Name x pos') X.env)) (fun _ s'=>SP X zz D .next s') acc L) hc C h1 h2 (hg cl) (ht cl) (he cl) I2 T st f2 rd ?_
 intro A' L H' s' I' ⟨f0,f1,f2',f3,f4,f5⟩ ⟨m,hn⟩ q
 show wpAny _ X.A (assign (.Name x pos') X.env (.ref A')) _ _ s'
 refine wpAny_assign_Name (qVv (v:=V.ref A') I' hN hi' hx rfl (fun s'' I'' ⟨a,sb,ha⟩=>?_) hf)
 have hLa:L≠a:=by
  rcases ha with rfl | ha
  .exact f1
  .exact fun z=>f4 x a ha z.symm
 refine⟨m,hn.sameBut sb hLa,fun h' sb'=>⟨σ.set i (some (.ref A')),H',?_,q⟩⟩
 exact I''.turned (t':=s''.toks) (fun b o hb e=>(sb'.2 b hb).trans e) f0 f1 f3 f4 f5
end
abbrev turnC (k:Nat)(js:List Nat)(g:TG)(tt:TT)(te:TE)(σ:St)(D:Addr)(x:V)(ys:List V)(H:Hp)(N:List V->Hp->Prop):Prop:=
 g x (stC k js σ) H fun σ4 H4=>(∃ow:St,ow.length=k/\σ4=ow++frees js σ)/\
  tt σ4 H4 fun b H5=>if b=true then te σ4 H5 fun y H6=>H6 D=some (.lst ys)/\ys.length<sizeLine/\N (ys++[y]) (upd H6 D (.lst (ys++[y]))) else N ys H5
section
variable {K:yZP}{a:Addr}{xs:List V}{k:Nat}{js:List Nat}{g:TG}{tt:TT}{te:TE}{σ:St}{H1:Hp}{Q:VK}
theorem zZ (Pv:Addr->Nat->List V->Hp->Prop)(h0:∀D,H1 D=none->Pv D 0 [] (upd H1 D (.lst [])))
  (hl:∀D i ys H,i<=xs.length->Pv D i ys H->SqL K H a xs)
  (hs:∀D i x ys H (N:List V->Hp->Prop),H1 D=none->H D=some (.lst ys)->xs[i]? = some x->Pv D i ys H->(∀zs H',H' D=some (.lst zs)->Pv D (i+1) zs H'->N zs H')->turnC k js g tt te σ D x ys H N)
  (hd:∀D ys H,H1 D=none->H D=some (.lst ys)->Pv D xs.length ys H->Q (.ref D) H):rdC k js g tt te (Itl K a) σ H1 Q:=by
 intro D hD
 refine⟨fun i m ys H=>m=xs.length - i/\i<=xs.length/\H D=some (.lst ys)/\Pv D i ys H,⟨xs.length,by simp,yZG _,qW,h0 D hD⟩,?_⟩
 rintro i m ys H ⟨rfl,hi,hDy,p⟩
 refine⟨hDy,?_⟩
 have q:=hl D i ys H hi p
 by_cases hlt:i<xs.length
 .refine .inr ⟨⟨xs,xs[i],q,by simp[hlt]⟩,fun x H' y=>?_⟩
  obtain⟨e,y⟩:=y
  subst e
  exact hs D i x ys _ (fun zs H'=>∃m',m'<xs.length - i/\m'=xs.length - (i+1)/\i+1<=xs.length/\H' D=some (.lst zs)/\Pv D (i+1) zs H') hD hDy (y xs q) p fun zs H' e p'=>⟨xs.length - (i+1),by omega,rfl,hlt,e,p'⟩
 .have e:i=xs.length:=by omega
  subst e
  exact .inl ⟨⟨xs,q,yZD _⟩,hd D ys H hD hDy p⟩
theorem qJl {lo:Int}{n:Nat}(Pv:Addr->Nat->List V->Hp->Prop)(h0:∀D,H1 D=none->Pv D 0 [] (upd H1 D (.lst [])))
  (hs:∀D i ys H (N:List V->Hp->Prop),H1 D=none->H D=some (.lst ys)->i<n->Pv D i ys H->(∀zs H',H' D=some (.lst zs)->Pv D (i+1) zs H'->N zs H')->turnC k js g tt te σ D (.int (lo+i)) ys H N)
  (hd:∀D ys H,H1 D=none->H D=some (.lst ys)->Pv D n ys H->Q (.ref D) H):rdC k js g tt te (Itr lo n) σ H1 Q:=by
 intro D hD
 refine⟨fun i m ys H=>m=n - i/\i<=n/\H D=some (.lst ys)/\Pv D i ys H,⟨n,by simp,yZG _,qW,h0 D hD⟩,?_⟩
 rintro i m ys H ⟨rfl,hi,hDy,p⟩
 refine⟨hDy,?_⟩
 by_cases hlt:i<n
 .refine .inr ⟨hlt,fun x H' y=>?_⟩
  obtain⟨e,y⟩:=y
  subst e y
  exact hs D i ys _ (fun zs H'=>∃m',m'<n - i/\m'=n - (i+1)/\i+1<=n/\H' D=some (.lst zs)/\Pv D (i+1) zs H') hD hDy hlt p fun zs H' e p'=>⟨n - (i+1),by omega,rfl,hlt,e,p'⟩
 .have e:i=n:=by omega
  subst e
  exact .inl ⟨yZD _,hd D ys H hD hDy p⟩
end
def qId (e:Expr):Scope:=match e with
 | .ListComp _ _ s _=>s
 | _=>{ kind:=.function,names:=[],isGenerator:=false,isCoroutine:=false }
def argOf (e:Expr)(i:Nat):Expr:=match e with
 | .Call _ as _ _=>as.getD i (.Constant .none 0 ⟨0,0,0,0⟩)
 | _=>.Constant .none 0 ⟨0,0,0,0⟩
def stAt (l:List Stmt)(i:Nat):Stmt:=l.getD i (.Pass ⟨0,0,0,0⟩)
def asgVal (s:Stmt):Expr:=match s with
 | .Assign _ v _=>v
 | .Return (some v) _=>v
 | _=>.Constant .none 0 ⟨0,0,0,0⟩
end L2
namespace L2
open PySem PySem.Spec PyProof.Rows
theorem log2_lt {n k:Nat}(h:n<2 ^ (k+1)):n.log2<=k:=by
 by_cases h0:n=0
 .subst h0;simp
 .exact Nat.lt_succ_iff.mp ((Nat.log2_lt h0).mpr h)
theorem qRx {a:Int}(h:a.natAbs<2 ^ 1000):Builtin.Int.intBits a<=2 ^ 20:=by
 unfold Builtin.Int.intBits
 split
 .exact yZG _
 .have:=log2_lt (n:=a.natAbs) (k:=999) h
  have e:(2:Nat) ^ 20=1048576:=by decide
  omega
theorem mulOk {a b:Int}(ha:a.natAbs<2 ^ 1000)(hb:b.natAbs<2 ^ 1000):IntMulOk a b:=IntMulOk.of_bits (qRx ha) (qRx hb)
section
variable {X:Cx}{a b:Expr}{ta tb:TE}{pos:Pos}
theorem qKq:OpR X (binaryOp .Mult) (rI (fun i j=>i.natAbs<2 ^ 1000/\j.natAbs<2 ^ 1000) fun i j=>.int (i * j)):=opI fun _ _ _ _ _ _ _ hc q=>mul_int q (mulOk hc.1 hc.2)
theorem qSn:OpR X (binaryOp .FloorDiv) (rI (fun _ j=>0<j/\j.natAbs<2 ^ 1000) fun i j=>.int (i / j)):=opI fun i j _ _ _ _ _ hc q=>by
 have h0:j≠0:=by have:=hc.1;omega
 have e:i.fdiv j=i / j:=Int.fdiv_eq_ediv_of_nonneg _ (by have:=hc.1;omega)
 refine floordiv_int h0 (by rw[e];exact q) (.inl (PyProof.noPylong_of_log2 ?_))
 have:=log2_lt (n:=j.natAbs) (k:=999) hc.2
 omega
inductive DEq (K:yZP)(H:Hp):Nat->V->V->Prop
 | int {n} (i:Int):DEq K H n (.int i) (.int i)
 | str {n} (x:Str):DEq K H n (.str x) (.str x)
 | bl {n} (b:Bool):DEq K H n (.bl b) (.bl b)
 | non {n}:DEq K H n .non .non
 | same {n} (a:Addr):DEq K H n (.ref a) (.ref a)
 | lst {n} {a b:Addr} {xs ys:List V}:SqL K H a xs->SqL K H b ys->xs.length=ys.length->(∀(j:Nat) x y,xs[j]? = some x->ys[j]? = some y->DEq K H n x y)->DEq K H (n+1) (.ref a) (.ref b)
 | tup {n} {a b:Addr} {xs ys:List V}:SqT K H a xs->SqT K H b ys->xs.length=ys.length->(∀(j:Nat) x y,xs[j]? = some x->ys[j]? = some y->DEq K H n x y)->DEq K H (n+1) (.ref a) (.ref b)
theorem qXq (n:Nat):(List.range n).all (fun _=>true)=true:=List.all_eq_true.mpr fun _ _=>rfl
theorem Inv.deq {zz:List (Addr×Obj)}{σ:St}{H:Hp}{s:Shared}(I:Inv X zz σ H s):∀{n:Nat} {x y:V},DEq X.K H n x y->∀{A:Around} {u v:Value},RelV x u->RelV y v->A.units+n<cLine->SeqAt.EqAt A s u v true:=by
 intro n x y d
 induction d with
 | int i=>intro A u v r q _;obtain⟨t,rfl⟩:=r;obtain⟨t',rfl⟩:=q;have:=SeqAt.EqAt.int_int (A:=A) (s:=s) i t i t';rwa [beq_self_eq_true] at this
 | str i=>intro A u v r q _;obtain⟨t,rfl⟩:=r;obtain⟨t',rfl⟩:=q;have:=SeqAt.EqAt.str_str (A:=A) (s:=s) i t i t';rwa [beq_self_eq_true] at this
 | bl i=>intro A u v r q _;cases r;cases q;exact SeqAt.EqAt.same _
 | non=>intro A u v r q _;cases r;cases q;exact SeqAt.EqAt.same _
 | same a=>intro A u v r q _;cases r;cases q;exact SeqAt.EqAt.same _
 | @lst n a b xs ys ha hb hl _ ih=>
  intro A u v r q hu
  cases r;cases q
  obtain⟨its,r1,p1,_⟩:=I.list ha
  obtain⟨its2,r2,p2,_⟩:=I.list hb
  by_cases hab:a=b
  .subst hab;exact SeqAt.EqAt.same _
  .refine SeqAt.EqAt.of_refs hab ?_
   have sz:its.toArray.size=its2.toArray.size:=by rw[yYD,yYD,<- r1.length,<- r2.length,hl]
   have:=SeqAt.RcAt.lists (A:=A) (s:=s) (e:=fun _=>true) p1.isList p2.isList sz (by omega) fun j h1 h2=>?_
   .rwa [qXq] at this
   .have h1':j<xs.length:=by rw[r1.length];simpa using h1
    have h2':j<ys.length:=by rw[<- hl];exact h1'
    obtain⟨u1,e1,q1⟩:=r1.get (yYA h1')
    obtain⟨u2,e2,q2⟩:=r2.get (yYA h2')
    have g1:its.toArray[j]=u1:=by
     have:its[j]? = some its.toArray[j]:=by simp
     exact Option.some.inj (this.symm.trans e1)
    have g2:its2.toArray[j]=u2:=by
     have:its2[j]? = some its2.toArray[j]:=by simp
     exact Option.some.inj (this.symm.trans e2)
    rw[g1,g2]
    exact ih j _ _ (yYA h1') (yYA h2') q1 q2 (by show A.units+1+n<cLine;omega)
 | @tup n a b xs ys ha hb hl _ ih=>
  intro A u v r q hu
  cases r;cases q
  obtain⟨its,r1,p1,_⟩:=I.tuple ha
  obtain⟨its2,r2,p2,_⟩:=I.tuple hb
  by_cases hab:a=b
  .subst hab;exact SeqAt.EqAt.same _
  .refine SeqAt.EqAt.of_refs hab ?_
   have sz:its.toArray.size=its2.toArray.size:=by rw[yYD,yYD,<- r1.length,<- r2.length,hl]
   have:=SeqAt.RcAt.tuples (A:=A) (s:=s) (e:=fun _=>true) (show s.heap.IsTuple a its.toArray from p1) (show s.heap.IsTuple b its2.toArray from p2) (by omega) fun j h1 h2=>?_
   .rw[qXq,sz,beq_self_eq_true] at this
    exact this
   .have h1':j<xs.length:=by rw[r1.length];simpa using h1
    have h2':j<ys.length:=by rw[<- hl];exact h1'
    obtain⟨u1,e1,q1⟩:=r1.get (yYA h1')
    obtain⟨u2,e2,q2⟩:=r2.get (yYA h2')
    have g1:its.toArray[j]=u1:=by
     have:its[j]? = some its.toArray[j]:=by simp
     exact Option.some.inj (this.symm.trans e1)
    have g2:its2.toArray[j]=u2:=by
     have:its2[j]? = some its2.toArray[j]:=by simp
     exact Option.some.inj (this.symm.trans e2)
    rw[g1,g2]
    exact ih j _ _ (yYA h1') (yYA h2') q1 q2 (by show A.units+1+n<cLine;omega)
def rEqL (K:yZP)(k:Bool):R2:=fun x y H Q=>∃n a b xs ys,n<=60/\x=.ref a/\y=.ref b/\SqL K H a xs/\SqL K H b ys/\xs.length=ys.length/\(∀(j:Nat) x y,xs[j]? = some x->ys[j]? = some y->DEq K H n x y)/\Q (.bl k) H
theorem qWe {zz:List (Addr×Obj)}{σ:St}{H:Hp}{s:Shared}(I:Inv X zz σ H s){n:Nat}{xs ys:List V}{its its2:List Value}(r1:Vals xs its)(r2:Vals ys its2)(hl:xs.length=ys.length)
  (hd:∀(j:Nat) x y,xs[j]? = some x->ys[j]? = some y->DEq X.K H n x y) {A:Around} (hu:A.units+n<cLine):∀j (h1:j<its.toArray.size) (h2:j<its2.toArray.size),SeqAt.EqAt A s its.toArray[j] its2.toArray[j] true:=by
 intro j h1 h2
 have h1':j<xs.length:=by rw[r1.length];simpa using h1
 have h2':j<ys.length:=by rw[<- hl];exact h1'
 obtain⟨u1,e1,q1⟩:=r1.get (yYA h1')
 obtain⟨u2,e2,q2⟩:=r2.get (yYA h2')
 have g1:its.toArray[j]=u1:=by
  have:its[j]? = some its.toArray[j]:=by simp
  exact Option.some.inj (this.symm.trans e1)
 have g2:its2.toArray[j]=u2:=by
  have:its2[j]? = some its2.toArray[j]:=by simp
  exact Option.some.inj (this.symm.trans e2)
 rw[g1,g2]
 exact I.deq (hd j _ _ (yYA h1') (yYA h2')) q1 q2 hu
theorem xQg (hu:X.A.units+64<cLine):OpR X (compareOp .Eq) (rEqL X.K true):=by
 intro zz s σ H x y v u Q I rx ry h
 obtain⟨n,a,b,xs,ys,hn,rfl,rfl,ha,hb,hl,hd,q⟩:=h
 cases rx;cases ry
 obtain⟨its,r1,p1,_⟩:=I.list ha
 obtain⟨its2,r2,p2,_⟩:=I.list hb
 have sz:its.toArray.size=its2.toArray.size:=by rw[yYD,yYD,<- r1.length,<- r2.length,hl]
 refine SeqAt.RcAt.lists (e:=fun _=>true) p1.isList p2.isList sz (by omega) (qWe I r1 r2 hl hd (by show X.A.units+1+n<cLine;omega)) _ _ _ _ ?_
 rw[qXq]
 exact⟨.bl true,H,I,rfl,q⟩
theorem xQf (hu:X.A.units+64<cLine):OpR X (compareOp .NotEq) (rEqL X.K false):=by
 intro zz s σ H x y v u Q I rx ry h
 obtain⟨n,a,b,xs,ys,hn,rfl,rfl,ha,hb,hl,hd,q⟩:=h
 cases rx;cases ry
 obtain⟨its,r1,p1,_⟩:=I.list ha
 obtain⟨its2,r2,p2,_⟩:=I.list hb
 have sz:its.toArray.size=its2.toArray.size:=by rw[yYD,yYD,<- r1.length,<- r2.length,hl]
 refine SeqAt.RcNeAt.lists (e:=fun _=>true) p1.isList p2.isList sz (by omega) (qWe I r1 r2 hl hd (by show X.A.units+1+n<cLine;omega)) _ _ _ _ ?_
 rw[qXq]
 exact⟨.bl false,H,I,rfl,q⟩
theorem xVa (hu:X.A.units+64<cLine):OpR X (compareOp .NotEq) (fun x y H Q=>∃a b xs,x=.ref a/\y=.ref b/\SqL X.K H a xs/\SqL X.K H b []/\Q (.bl (!xs.isEmpty)) H):=by
 intro zz s σ H x y v u Q I rx ry h
 obtain⟨a,b,xs,rfl,rfl,ha,hb,q⟩:=h
 cases xs with
 | nil=>exact xQf hu zz s σ H _ _ v u Q I rx ry ⟨0,a,b,[],[],by omega,rfl,rfl,ha,hb,rfl,fun j x y e=>by simp at e,q⟩
 | cons z zs=>
  cases rx;cases ry
  obtain⟨its,r1,p1,_⟩:=I.list ha
  obtain⟨its2,r2,p2,_⟩:=I.list hb
  have l1:=r1.length
  have l2:=r2.length
  refine SeqAt.RcNeAt.lists_lengths p1.isList p2.isList ?_ (by omega) _ _ _ _ ⟨.bl true,H,I,rfl,q⟩
  simp only[yYT,yYU] at l1 l2
  rw[bne_iff_ne,yYD,yYD]
  omega
theorem qCe:CallR X (.builtin "isinstance") (fun xs H Q=>∃x T t b,xs=[x,.ty T]/\TyOf X.K H x t/\PySem.W.kitOne X.K t (.type T)=some b/\Q (.bl b) H):=by
 intro zz s σ H xs us Q I r h
 obtain⟨x,T,t,b,rfl,ty,e,q⟩:=h
 obtain⟨u,v,rfl,ru,rv⟩:=vals2 r
 cases rv
 exact qNf I ru ty e fun tk=>⟨.bl b,H,I.tok _,rfl,q⟩
theorem qSf {x:Str}{T:String}{pos:Pos}(hg:Gl X x)(hm:X.mg x=none)(hv:bootBuiltins x=some (.type T))(hn:x ≠ "__name__" := by decide)(hd:(x == ("__debug__" : Str))=false:=by decide):PE X (.Name x pos) (tC (.ty T)):=
 xZh hg hm hv rfl hn hd
end
def But (d:Addr)(H H':Hp):Prop:=∀b o,b≠d->H b=some o->H' b=some o
theorem But.refl {d:Addr}(H:Hp):But d H H:=fun _ _ _ h=>h
theorem But.trans {d:Addr}{H H1 H2:Hp}(a:But d H H1)(b:But d H1 H2):But d H H2:=fun c o n h=>b c o n (a c o n h)
theorem Same.but {d:Addr}{H H':Hp}(s:Same H H'):But d H H':=fun b o _ h=>s b o h
theorem But.upd {d:Addr}{H:Hp}{o:HO}:But d H (upd H d o):=fun b u n h=>by rw[qA n];exact h
theorem qV {H:Hp}{p:Addr}(h:H p=none)(o:HO):Same H (upd H p o):=fun b u q=>by rw[qA (qB q h)];exact q
theorem qKl {α:Type}(x:α)(xs:List α):atI (x::xs) 0=some x:=qKm (xs:=x::xs) (j:=0) rfl
theorem vI:bootBuiltins "len" = some (.builtin "len"):=by wtm_at"d"
theorem zO:bootBuiltins "isinstance" = some (.builtin "isinstance"):=by wtm_at"d"
theorem vT:bootBuiltins "list" = some (.type "list"):=by wtm_at"d"
theorem qUn:bootBuiltins "tuple" = some (.type "tuple"):=by wtm_at"d"
theorem qPo:bootBuiltins "int" = some (.type "int"):=by wtm_at"d"
theorem qRq:bootBuiltins "bool" = some (.type "bool"):=by wtm_at"d"
theorem vU:bootBuiltins "dict" = some (.type "dict"):=by wtm_at"d"
end L2
namespace L2
open PySem PySem.Spec PyProof.Rows
theorem qQq {α β:Type}{F:α->β->Prop}:∀{a c:List α} {b d:List β},Paired F a b->Paired F c d->Paired F (a++c) (b++d)
 | _,_,_,_,.nil,q=>q
 | _,_,_,_,.cons f p,q=>.cons f (qQq p q)
theorem xV {α β:Type}{F:α->β->Prop}:∀{a:List α} {b:List β} {i:Nat} {x:α} {y:β},Paired F a b->a[i]? = some x->b[i]? = some y->F x y
 | _,_,_,_,_,.nil,e,_=>by simp at e
 | _,_,0,_,_,.cons f _,e1,e2=>by simp at e1 e2;subst e1 e2;exact f
 | _,_,i+1,_,_,.cons _ p,e1,e2=>xV (i:=i) p (by simpa using e1) (by simpa using e2)
end L2
namespace PySem
namespace FD
theorem list_no_keys:typeLookup (.type "list") "keys" = pure none:=by rw[typeLookup_type,builtinLookup_eq_fast];kernel_rfl
theorem zip_no_keys:typeLookup (.type "zip") "keys" = pure none:=by rw[typeLookup_type,builtinLookup_eq_fast];kernel_rfl
theorem zip_no_getattr:typeLookup (.type "zip") "__getattr__" = pure none:=by rw[typeLookup_type,builtinLookup_eq_fast];kernel_rfl
theorem entry_zip_ga:entryFor table "zip.__getattribute__" = some Builtin.«object.__getattribute__»:=
 entryFor_alias (id' := "object.__getattribute__") (by kernel_rfl) (by wtm_at"d") (by wtm_at"d") (by kernel_rfl)
theorem keys_len:("keys" : Str).length+100<=sizeLine:=by wtm_at"d"
theorem keys_name:(["__module__","__name__","__qualname__","__doc__","__annotations__"]:List Str).contains "keys" = false:=by wtm_at"d"
end FD
theorem qBo (z:Addr)(vs:Array Value)(u:Tok):
  Meets (Builtin.«object.__getattribute__» ⟨[.ref z,.str "keys" u],[]⟩) (fun A R s=>s.heap.get? z=some { cls:=.type "zip",dict:=none,data:=.fields vs,slots:=#[] }/\raisesAttr (.ref z) "keys" A R s):=
 Meets.of_wp fun prog w A R s hs=>by
  obtain⟨hp,g,d,tk,os⟩:=s
  obtain⟨hx,hs⟩:=hs
  have hT:(⟨hp,g,d,tk,os⟩:Shared).TypeIs (.ref z) "zip" := ⟨_,hx,rfl⟩
  have f1:=FD.zip_no_keys
  unfold Builtin.«object.__getattribute__»
  repeat (any_goals (first | assumption | wp_step))
  try (simp only[FD.keys_name,yZK,if_false];repeat (any_goals (first | assumption | wp_step)))
  exact wpAny_raiseAttrError hs.1 hs.2 (attrMsg_fits (by wtm_at"d") FD.keys_len)
section
variable {prog:Program}{w:World}{A:Around}{E:Value->Shared->Prop}{s:Shared}
theorem qKj {z:Addr}{vs:Array Value}{Q:Option Value->Shared->Prop}(hx:s.heap.get? z=some { cls:=.type "zip",dict:=none,data:=.fields vs,slots:=#[] })(hA:A.handled=none)
  (h:∀h' tk,(∀b o,s.heap.get? b=some o->h'.get? b=some o)->Q none { s with heap:=h',toks:=tk }):wpAny (model prog w) A (getAttr? (.ref z) "keys") Q E s:=by
 obtain⟨hp,g,d,tk,os⟩:=s
 have hT:∀tk',(⟨hp,g,d,tk',os⟩:Shared).TypeIs (.ref z) "zip" := fun _=>⟨_,hx,rfl⟩
 have f1:=sub_AttributeError
 have f3:=F.slot_zip_getattribute.lookup
 have f4:=F.slot_zip_getattribute.bind (.ref z)
 have f5:=FD.zip_no_getattr
 unfold getAttr? getAttrBy? getAttrBy
 repeat (any_goals (first | assumption | exact hT _ | ((with_reducible show wpAny _ _ (call (Value.builtin "zip.__getattribute__") _ _) _ _ _);refine call_meets F.slot_zip_getattribute (hT _) FD.entry_zip_ga (F.args_zip_getattribute_2 _ _) (qBo z vs _) ⟨hx,hA,fun h' tk' e hx'=>?_⟩) | wp_step))
 obtain⟨t',u',he⟩:=hx'.there
 show wpAny _ _ (getattributeRaised _ _ _ _ _ _ _) _ _ _
 unfold getattributeRaised
 repeat (any_goals (first | assumption | wp_step))
 exact h _ _ hx'.keeps
theorem vE {a:Addr}{xs:Array Value}{k:Nat}{Q:Option Value->Shared->Prop}(hx:s.heap.get? a=some { cls:=.type "list",data:=.seq xs k })(hA:A.handled=none)
  (h:∀h' tk,(∀b o,s.heap.get? b=some o->h'.get? b=some o)->Q none { s with heap:=h',toks:=tk }):wpAny (model prog w) A (getAttr? (.ref a) "keys") Q E s:=by
 obtain⟨hp,g,d,tk,os⟩:=s
 have hT:∀tk',(⟨hp,g,d,tk',os⟩:Shared).TypeIs (.ref a) "list" := fun _=>⟨_,hx,rfl⟩
 have f1:=sub_AttributeError
 have f3:=F.slot_list_getattribute.lookup
 have f4:=F.slot_list_getattribute.bind (.ref a)
 have f5:=am_list_getattr_none
 unfold getAttr? getAttrBy? getAttrBy
 repeat (any_goals (first | assumption | exact hT _ | ((with_reducible show wpAny _ _ (call (Value.builtin "list.__getattribute__") _ _) _ _ _);refine call_meets F.slot_list_getattribute (hT _) am_entry_list_getattribute (F.args_list_getattribute_2 _ _) (meets_getattribute_miss_list a xs k #[] _ _ FD.list_no_keys FD.keys_name FD.keys_len) ⟨hx,hA,fun h' tk' e hx'=>?_⟩) | wp_step))
 obtain⟨t',u',he⟩:=hx'.there
 show wpAny _ _ (getattributeRaised _ _ _ _ _ _ _) _ _ _
 unfold getattributeRaised
 repeat (any_goals (first | assumption | wp_step))
 exact h _ _ hx'.keeps
theorem qQk {it t:Addr}{i:Nat}{items:Array Value}{x:Value}{Q:Value->Shared->Prop}(hit:s.heap.IsTupleIter it t i)(ht:s.heap.IsTuple t items)(hx:items[i]? = some x)
  (hQ:∀h',h'.IsTupleIter it t (i+1)->Heap.SameBut it s.heap h'->Q x { s with heap:=h' }):wpAny (model prog w) A (Builtin.SmallTypes.nextOf (.ref it)) Q E s:=by
 obtain⟨o,ho,hc,hd⟩:=id hit
 obtain⟨ol,hol,_,nl,hdl⟩:=ht
 unfold Builtin.SmallTypes.nextOf
 refine yYX (wpAny_callSpecial?_slot (name:=Str.ofString "__next__") hit.typeIs F.slot_tuple_iterator_next (wpAny_call_entry F.slot_tuple_iterator_next hit.typeIs F.entry_tuple_iterator_next ?_ (F.args_tuple_iterator_next_1 _)))
 refine yYX (m:=field (.ref it) 0) (wpAny_field ho hd (x:=.ref t) rfl ?_)
 show wpAny _ _ (if (Value.ref t == Value.none)=true then _ else _) _ _ s;rw[if_neg (show¬((Value.ref t == Value.none)=true) from yZL)]
 refine yYX (m:=field (.ref it) 1) (wpAny_field ho hd (x:=.int i 0) rfl ?_)
 refine yYX (m:=seqItems? (.ref t)) (wpAny_seqItems hol hdl ?_)
 simp only[Int.toNat_natCast,hx]
 refine yYX (wpAny_setField ho hd (by simp) (yYY ⟨x,rfl,yYY (hQ _ ?_ (Heap.SameBut.update ..))⟩))
 exact⟨_,Heap.get?_update_self _ ho (Obj.isFreed_of_fields (Obj.data_mapFields hd _)),(Obj.cls_mapFields ..).trans hc,by rw[Obj.data_mapFields hd];simp[rawInt]⟩
abbrev ZipAt (h:Heap)(z TI TO:Addr)(f0 f1:Value):Prop:=h.get? z=some { cls:=.type "zip",dict:=none,data:=.fields #[f0,f1,.bool false,.ref TI,.ref TO],slots:=#[] }
abbrev zH1 (h:Heap)(l:Addr):Heap:=h.push { cls:=.type "list_iterator",data:=.fields #[.ref l,.int 0 0] }
abbrev zH2 (h:Heap)(l t:Addr):Heap:=(zH1 h l).push { cls:=.type "tuple_iterator",data:=.fields #[.ref t,.int 0 0] }
abbrev zH3 (h:Heap)(l t:Addr):Heap:=(zH2 h l t).push { cls:=.type "tuple",data:=.seq #[.ref h.objs.size,.ref (zH1 h l).objs.size] }
abbrev zH4 (h:Heap)(l t:Addr):Heap:=(zH3 h l t).push { cls:=.type "tuple",data:=.seq #[.none,.none] }
abbrev zH5 (h:Heap)(l t:Addr):Heap:=(zH4 h l t).push { cls:=.type "zip",data:=.fields #[.none,.bool false,.bool false,.ref (zH2 h l t).objs.size,.ref (zH3 h l t).objs.size] }
theorem qWc (l t:Addr)(xs ys:Array Value):
  Meets (Builtin.«zip.__new__» ⟨[.type "zip",.ref l,.ref t],[]⟩) (fun _ R s=>s.heap.IsList l xs/\s.heap.IsTuple t ys/\R (.ok (.ret (.ref (zH4 s.heap l t).objs.size))) { s with heap:=zH5 s.heap l t }):=
 .of_wp fun prog w A R s h=>by
  obtain⟨hp,g,d,tk,os⟩:=s;obtain⟨hl,ht,h⟩:=h
  have hsub:=sub_zip
  have hL1:Heap.IsList (Shared.heap ⟨hp,g,d,tk,os⟩) l xs:=hl
  have hL2:Heap.IsTuple (Shared.heap ⟨hp.push { cls:=.type "list_iterator",data:=.fields #[.ref l,.int 0 0] },g,d,tk,os⟩) t ys:=by
   obtain⟨o,ho,r⟩:=ht
   exact⟨o,yYZ _ ho,r⟩
  wp_walk using wpAny_pyIter_list hL1,wpAny_pyIter_tuple hL2
  exact⟨_,rfl,h⟩
structure ZipSt (h:Heap)(z TI TO i1 i2 l t:Addr)(k:Nat):Prop where
 zip:ZipAt h z TI TO .none (.bool false)\/∃(T:Addr) (f:Bool),ZipAt h z TI TO (rawInt T) (.bool f)/\(∃o,h.get? T=some o)/\T≠z/\T≠TO/\T≠i1/\T≠i2
 its:IsPair h TI (.ref i1) (.ref i2)
 own:∃a b,IsPair h TO a b
 one:h.IsListIter i1 l k
 two:h.IsTupleIter i2 t k
structure ZApart (z TI TO i1 i2:Addr):Prop where
 TIz:TI≠z
 TOz:TO≠z
 i1z:i1≠z
 i2z:i2≠z
 TITO:TI≠TO
 TIi1:TI≠i1
 TIi2:TI≠i2
 TOi1:TO≠i1
 TOi2:TO≠i2
 i12:i1≠i2
theorem qCc {l t:Addr}{xs ys:Array Value}{Q:Value->Shared->Prop}(hl:s.heap.IsList l xs)(ht:s.heap.IsTuple t ys)
  (h:∀h' z TI TO i1 i2,ZApart z TI TO i1 i2->ZipSt h' z TI TO i1 i2 l t 0->s.heap.objs.size<=z->s.heap.objs.size<=TI->s.heap.objs.size<=TO->s.heap.objs.size<=i1->s.heap.objs.size<=i2->
   (∀c o,s.heap.get? c=some o->h'.get? c=some o)->Q (.ref z) { s with heap:=h' }):
  wpAny (model prog w) A (call (.type "zip") [.ref l,.ref t]) Q E s:=by
 refine callType_new F.called_zip (by decide) (F.typeCall_zip_2 _ _) (F.newCall_zip_2 _ _) (fun obj=>F.args_object_init_3 obj _ _) F.entry_zip_new (qWc l t xs ys) ⟨hl,ht,?_⟩
 have z1:(zH1 s.heap l).objs.size=s.heap.objs.size+1:=yZC ..
 have z2:(zH2 s.heap l t).objs.size=s.heap.objs.size+2:=by rw[yZC,z1]
 have z3:(zH3 s.heap l t).objs.size=s.heap.objs.size+3:=by rw[yZC,z2]
 have z4:(zH4 s.heap l t).objs.size=s.heap.objs.size+4:=by rw[yZC,z3]
 have g5:(zH5 s.heap l t).get? (zH4 s.heap l t).objs.size=some _:=yZB _ rfl
 have g4:(zH5 s.heap l t).get? (zH3 s.heap l t).objs.size=some _:=yYZ _ (yZB _ rfl)
 have g3:(zH5 s.heap l t).get? (zH2 s.heap l t).objs.size=some _:=yYZ _ (yYZ _ (yZB _ rfl))
 have g2:(zH5 s.heap l t).get? (zH1 s.heap l).objs.size=some _:=yYZ _ (yYZ _ (yYZ _ (yZB _ rfl)))
 have g1:(zH5 s.heap l t).get? s.heap.objs.size=some _:=yYZ _ (yYZ _ (yYZ _ (yYZ _ (yZB _ rfl))))
 refine⟨⟨_,g5,rfl⟩,h _ _ (zH2 s.heap l t).objs.size (zH3 s.heap l t).objs.size s.heap.objs.size (zH1 s.heap l).objs.size ?_ ⟨.inl g5,g3,⟨_,_,g4⟩,⟨_,g1,rfl,rfl⟩,⟨_,g2,rfl,rfl⟩⟩ (by omega) (by omega) (by omega) (yZD _) (by omega) ?_⟩
 .constructor <;> (intro e;have e':@Eq Nat _ _:=e;omega)
 .exact fun c o e=>yYZ _ (yYZ _ (yYZ _ (yYZ _ (yYZ _ e))))
end
end PySem
namespace PySem
section
variable {prog:Program}{w:World}{A:Around}{E:Value->Shared->Prop}{s:Shared}
theorem qYj {z TI TO i1 i2 l t:Addr}{k:Nat}{xs ys:Array Value}{x y:Value}{Q:Value->Shared->Prop}(D:ZApart z TI TO i1 i2)(S:ZipSt s.heap z TI TO i1 i2 l t k)
  (hl:s.heap.IsList l xs) (ht:s.heap.IsTuple t ys) (nl:l≠z/\l≠TO/\l≠i1/\l≠i2) (nt:t≠z/\t≠TO/\t≠i1/\t≠i2) (hx:xs[k]? = some x) (hy:ys[k]? = some y)
  (hQ:∀h' T,ZipSt h' z TI TO i1 i2 l t (k+1)->IsPair h' T x y->(∀c o,c≠z->c≠TO->c≠i1->c≠i2->s.heap.get? c=some o->h'.get? c=some o)->Q (.ref T) { s with heap:=h' }):
  wpAny (model prog w) A (Builtin.«zip.__next__» ⟨[.ref z],[]⟩) (fun fin s'=>∃v,fin=.done (.ret v)/\Q v s') E s:=by
 obtain⟨hz,hTI,⟨a,b,hTO⟩,h1,h2⟩:=S
 rcases hz with hz | ⟨T,f,hz,⟨oT,hT⟩,n1,n2,n3,n4⟩
 .refine yYX (m:=field (.ref z) 2) (wpAny_field hz rfl (x:=.bool false) rfl ?_)
  refine yYX (m:=field (.ref z) 3) (wpAny_field hz rfl (x:=.ref TI) rfl ?_)
  refine yYX (wpAny_seqItems hTI rfl ?_)
  refine yYX (m:=Builtin.SmallTypes.ownedTupleIsFree (.ref z)) ?_
  unfold Builtin.SmallTypes.ownedTupleIsFree
  refine yYX (wpAny_field hz rfl (x:=.none) rfl (yYY ?_))
  simp only[if_true]
  refine yYX (wpAny_rule (yYX (wpAny_field hz rfl (x:=.ref TO) rfl (yYX (wpAny_setField_rec hz (by simp) fun h₁ hz₁ hs₁=>?_)))))
  replace hz₁:ZipAt h₁ z TI TO .ellipsis (.bool false):=hz₁
  refine yYX ?_
  simp only[List.zipIdx_cons,List.zipIdx_nil,List.forIn_cons,List.forIn_nil]
  refine yYX (yYX (wpAny_onRaise ?_))
  refine yYX (m:=Builtin.SmallTypes.nextOf (.ref i1)) (wpAny_nextOf_list_item (h1.extBut hs₁.extBut D.i1z) (hl.extBut hs₁.extBut nl.1) hx fun h₂ h1₂ hs₂=>yYY ?_)
  have hTO₂:IsPair h₂ TO a b:=hs₂.extBut _ _ D.TOi1 (hs₁.extBut _ _ D.TOz hTO)
  refine yYX (wpAny_seqItems hTO₂ rfl (yYX (wpAny_updateSeq_pair hTO₂ fun h₃ hTO₃ hs₃=>?_)))
  replace hTO₃:IsPair h₃ TO x b:=hTO₃
  refine yYX (wpAny_letGo (yYY ?_))
  refine yYX (yYX (wpAny_onRaise ?_))
  have ht₃:h₃.IsTuple t ys:=by
   obtain⟨o,ho,r⟩:=ht
   exact⟨o,hs₃.extBut _ _ nt.2.1 (hs₂.extBut _ _ nt.2.2.1 (hs₁.extBut _ _ nt.1 ho)),r⟩
  have h2₃:h₃.IsTupleIter i2 t k:=h2.at fun o e=>hs₃.extBut _ _ (Ne.symm D.TOi2) (hs₂.extBut _ _ (Ne.symm D.i12) (hs₁.extBut _ _ D.i2z e))
  refine yYX (m:=Builtin.SmallTypes.nextOf (.ref i2)) (qQk h2₃ ht₃ hy fun h₄ h2₄ hs₄=>yYY ?_)
  have hTO₄:IsPair h₄ TO x b:=hs₄.extBut _ _ D.TOi2 hTO₃
  refine yYX (wpAny_seqItems hTO₄ rfl (yYX (wpAny_updateSeq_pair hTO₄ fun h₅ hTO₅ hs₅=>?_)))
  replace hTO₅:IsPair h₅ TO x y:=hTO₅
  refine yYX (wpAny_letGo (yYY (yYY (yYX (wpAny_seqItems hTO₅ rfl (yYX (wpAny_newTuple ?_)))))))
  have hz₅:ZipAt h₅ z TI TO .ellipsis (.bool false):=hs₅.extBut _ _ D.TOz.symm (hs₄.extBut _ _ D.i2z.symm (hs₃.extBut _ _ D.TOz.symm (hs₂.extBut _ _ D.i1z.symm hz₁)))
  have hk₅:∀c o,c≠z->c≠TO->c≠i1->c≠i2->s.heap.get? c=some o->h₅.get? c=some o:=fun c o c1 c2 c3 c4 e=>hs₅.extBut _ _ c2 (hs₄.extBut _ _ c4 (hs₃.extBut _ _ c2 (hs₂.extBut _ _ c3 (hs₁.extBut _ _ c1 e))))
  have h1₅:h₅.IsListIter i1 l (k+1):=h1₂.at fun o e=>hs₅.extBut _ _ (Ne.symm D.TOi1) (hs₄.extBut _ _ D.i12 (hs₃.extBut _ _ (Ne.symm D.TOi1) e))
  have h2₅:h₅.IsTupleIter i2 t (k+1):=h2₄.at fun o e=>hs₅.extBut _ _ (Ne.symm D.TOi2) e
  refine yYX (m:=Builtin.SmallTypes.ownedTupleHandOut (.ref z) (.ref h₅.objs.size)) ?_
  unfold Builtin.SmallTypes.ownedTupleHandOut
  have hz₆:ZipAt (h₅.push { cls:=.type "tuple",data:=.seq #[x,y] }) z TI TO .ellipsis (.bool false):=yYZ _ hz₅
  refine yYX (wpAny_setField_rec hz₆ (by simp) fun h₇ hz₇ hs₇=>?_)
  replace hz₇:ZipAt h₇ z TI TO (rawInt h₅.objs.size) (.bool false):=hz₇
  refine wpAny_setField_rec hz₇ (by simp) fun h₈ hz₈ hs₈=>?_
  replace hz₈:ZipAt h₈ z TI TO (rawInt h₅.objs.size) (.bool false):=hz₈
  have up:∀c o,c≠z->h₅.get? c=some o->h₈.get? c=some o:=fun c o c1 e=>hs₈.extBut _ _ c1 (hs₇.extBut _ _ c1 (yYZ _ e))
  have hzlt:z<h₅.objs.size:=yZA hz₅
  have hT₈:IsPair h₈ h₅.objs.size x y:=hs₈.extBut _ _ (yZH hzlt) (hs₇.extBut _ _ (yZH hzlt) (yZB _ rfl))
  have lt1:i1<h₅.objs.size:=by obtain⟨_,e,_⟩:=h1₅;exact yZA e
  have lt2:i2<h₅.objs.size:=by obtain⟨_,e,_⟩:=h2₅;exact yZA e
  refine yYY ⟨_,rfl,hQ h₈ _ ⟨.inr ⟨_,_,hz₈,⟨_,hT₈⟩,yZH hzlt,yZH (yZA hTO₅),yZH lt1,yZH lt2⟩,up _ _ D.TIz (hk₅ _ _ D.TIz D.TITO D.TIi1 D.TIi2 hTI),⟨_,_,up _ _ D.TOz hTO₅⟩,h1₅.at fun o e=>up _ o D.i1z e,h2₅.at fun o e=>up _ o D.i2z e⟩ hT₈ fun c o c1 c2 c3 c4 e=>up c o c1 (hk₅ c o c1 c2 c3 c4 e)⟩
 .refine yYX (m:=field (.ref z) 2) (wpAny_field hz rfl (x:=.bool false) rfl ?_)
  refine yYX (m:=field (.ref z) 3) (wpAny_field hz rfl (x:=.ref TI) rfl ?_)
  refine yYX (wpAny_seqItems hTI rfl ?_)
  refine yYX (m:=Builtin.SmallTypes.ownedTupleIsFree (.ref z)) ?_
  have step:∀{α:Type} (N:Bool->Sem α) (QQ:α->Shared->Prop),(∀h₁,ZipAt h₁ z TI TO (rawInt T) (.bool true)->Heap.SameBut z s.heap h₁->wpAny (model prog w) A (N false) QQ E { s with heap:=h₁ })->
    wpAny (model prog w) A (Builtin.SmallTypes.ownedTupleIsFree (.ref z)) (fun b s'=>wpAny (model prog w) A (N b) QQ E s') E s:=fun N QQ hN=>by
   unfold Builtin.SmallTypes.ownedTupleIsFree
   refine yYX (wpAny_field hz rfl (x:=rawInt T) rfl ?_)
   show wpAny _ _ (loadIfAlive ((T:Int).toNat) >>= _) _ _ _
   rw[Int.toNat_natCast]
   refine yYX (W.kdx_alive hT ?_)
   simp only[Option.isNone_some,yZK,if_false]
   refine yYX (wpAny_field hz rfl (x:=.bool f) rfl ?_)
   cases f with
   | true=>rw[if_neg (show¬((Value.bool true != Value.bool true)=true) from yZL)];exact yYY (hN _ hz (.refl ..))
   | false=>rw[if_pos (show(Value.bool false != Value.bool true)=true from rfl)];exact yYX (wpAny_setField_rec hz (by simp) fun h₁ hz₁ hs₁=>yYY (hN h₁ hz₁ hs₁))
  refine step _ _ fun h₁ hz₁ hs₁=>?_
  simp only[yZK,if_false]
  refine yYX ?_
  rw[<- Array.forIn_toList]
  simp only[List.forIn_cons,List.forIn_nil]
  refine yYX (yYX (wpAny_holding ?_))
  refine yYX (m:=Builtin.SmallTypes.nextOf (.ref i1)) (wpAny_nextOf_list_item (h1.extBut hs₁.extBut D.i1z) (hl.extBut hs₁.extBut nl.1) hx fun h₂ h1₂ hs₂=>yYY (yYY ?_))
  refine yYX (yYX (wpAny_holding ?_))
  have ht₂:h₂.IsTuple t ys:=by
   obtain⟨o,ho,r⟩:=ht
   exact⟨o,hs₂.extBut _ _ nt.2.2.1 (hs₁.extBut _ _ nt.1 ho),r⟩
  have h2₂:h₂.IsTupleIter i2 t k:=h2.at fun o e=>hs₂.extBut _ _ (Ne.symm D.i12) (hs₁.extBut _ _ D.i2z e)
  refine yYX (m:=Builtin.SmallTypes.nextOf (.ref i2)) (qQk h2₂ ht₂ hy fun h₃ h2₃ hs₃=>yYY (yYY (yYY ?_)))
  refine yYX (wpAny_newTuple ?_ (show 2<=sizeLine by decide))
  have k₃:∀c o,c≠z->c≠i1->c≠i2->s.heap.get? c=some o->h₃.get? c=some o:=fun c o c1 c2 c3 e=>hs₃.extBut _ _ c3 (hs₂.extBut _ _ c2 (hs₁.extBut _ _ c1 e))
  have hz₃:ZipAt h₃ z TI TO (rawInt T) (.bool true):=hs₃.extBut _ _ (Ne.symm D.i2z) (hs₂.extBut _ _ (Ne.symm D.i1z) hz₁)
  refine yYY ⟨_,rfl,hQ _ _ ⟨.inr ⟨T,true,yYZ _ hz₃,⟨_,yYZ _ (k₃ _ _ n1 n3 n4 hT)⟩,n1,n2,n3,n4⟩,yYZ _ (k₃ _ _ D.TIz D.TIi1 D.TIi2 hTI),⟨_,_,yYZ _ (k₃ _ _ D.TOz D.TOi1 D.TOi2 hTO)⟩,h1₂.at fun o e=>yYZ _ (hs₃.extBut _ _ D.i12 e),h2₃.at fun o e=>yYZ _ e⟩ (yZB _ rfl) fun c o c1 _ c3 c4 e=>yYZ _ (k₃ c o c1 c3 c4 e)⟩
theorem qYz {z TI TO i1 i2 l t:Addr}{k:Nat}{xs:Array Value}{Q:Fin->Shared->Prop}(hh:A.handled=none)(D:ZApart z TI TO i1 i2)(S:ZipSt s.heap z TI TO i1 i2 l t k)
  (hl:s.heap.IsList l xs) (nl:l≠z/\l≠TO/\l≠i1/\l≠i2) (hx:xs[k]? = none)
  (hE:∀h' e,(∀c o,c≠z->c≠TO->c≠i1->c≠i2->s.heap.get? c=some o->h'.get? c=some o)->(∃o,h'.get? e=some o/\o.cls=.type "StopIteration")->E (.ref e) { s with heap:=h' }):
  wpAny (model prog w) A (Builtin.«zip.__next__» ⟨[.ref z],[]⟩) Q E s:=by
 obtain⟨hz,hTI,⟨a,b,hTO⟩,h1,h2⟩:=S
 rcases hz with hz | ⟨T,f,hz,⟨oT,hT⟩,n1,n2,n3,n4⟩
 .refine yYX (m:=field (.ref z) 2) (wpAny_field hz rfl (x:=.bool false) rfl ?_)
  refine yYX (m:=field (.ref z) 3) (wpAny_field hz rfl (x:=.ref TI) rfl ?_)
  refine yYX (wpAny_seqItems hTI rfl ?_)
  refine yYX (m:=Builtin.SmallTypes.ownedTupleIsFree (.ref z)) ?_
  unfold Builtin.SmallTypes.ownedTupleIsFree
  refine yYX (wpAny_field hz rfl (x:=.none) rfl (yYY ?_))
  simp only[if_true]
  refine yYX (wpAny_rule (yYX (wpAny_field hz rfl (x:=.ref TO) rfl (yYX (wpAny_setField_rec hz (by simp) fun h₁ hz₁ hs₁=>?_)))))
  replace hz₁:ZipAt h₁ z TI TO .ellipsis (.bool false):=hz₁
  refine yYX ?_
  simp only[List.zipIdx_cons,List.zipIdx_nil,List.forIn_cons,List.forIn_nil]
  refine yYX (yYX (wpAny_onRaise ?_))
  refine yYX (m:=Builtin.SmallTypes.nextOf (.ref i1)) (wpAny_nextOf_list_end hh (h1.extBut hs₁.extBut D.i1z) (hl.extBut hs₁.extBut nl.1) hx fun h₂ e hs₂ he=>?_)
  obtain⟨oe,hoe,hce⟩:=he
  have hz₂:ZipAt h₂ z TI TO .ellipsis (.bool false):=hs₂ _ _ D.i1z.symm hz₁
  have hez:e≠z:=fun x=>by subst x;rw[hz₂] at hoe;cases hoe;simp at hce
  exact wpAny_setField_rec hz₂ (by simp) fun h₃ _ hs₃=>hE h₃ e (fun c o c1 _ c3 _ x=>hs₃.extBut _ _ c1 (hs₂ _ _ c3 (hs₁.extBut _ _ c1 x))) ⟨oe,hs₃.extBut _ _ hez hoe,hce⟩
 .refine yYX (m:=field (.ref z) 2) (wpAny_field hz rfl (x:=.bool false) rfl ?_)
  refine yYX (m:=field (.ref z) 3) (wpAny_field hz rfl (x:=.ref TI) rfl ?_)
  refine yYX (wpAny_seqItems hTI rfl ?_)
  refine yYX (m:=Builtin.SmallTypes.ownedTupleIsFree (.ref z)) ?_
  have step:∀{α:Type} (N:Bool->Sem α) (QQ:α->Shared->Prop),(∀h₁,ZipAt h₁ z TI TO (rawInt T) (.bool true)->Heap.SameBut z s.heap h₁->wpAny (model prog w) A (N false) QQ E { s with heap:=h₁ })->
    wpAny (model prog w) A (Builtin.SmallTypes.ownedTupleIsFree (.ref z)) (fun b s'=>wpAny (model prog w) A (N b) QQ E s') E s:=fun N QQ hN=>by
   unfold Builtin.SmallTypes.ownedTupleIsFree
   refine yYX (wpAny_field hz rfl (x:=rawInt T) rfl ?_)
   show wpAny _ _ (loadIfAlive ((T:Int).toNat) >>= _) _ _ _
   rw[Int.toNat_natCast]
   refine yYX (W.kdx_alive hT ?_)
   simp only[Option.isNone_some,yZK,if_false]
   refine yYX (wpAny_field hz rfl (x:=.bool f) rfl ?_)
   cases f with
   | true=>rw[if_neg (show¬((Value.bool true != Value.bool true)=true) from yZL)];exact yYY (hN _ hz (.refl ..))
   | false=>rw[if_pos (show(Value.bool false != Value.bool true)=true from rfl)];exact yYX (wpAny_setField_rec hz (by simp) fun h₁ hz₁ hs₁=>yYY (hN h₁ hz₁ hs₁))
  refine step _ _ fun h₁ hz₁ hs₁=>?_
  simp only[yZK,if_false]
  refine yYX ?_
  rw[<- Array.forIn_toList]
  simp only[List.forIn_cons,List.forIn_nil]
  refine yYX (yYX (wpAny_holding ?_))
  refine yYX (m:=Builtin.SmallTypes.nextOf (.ref i1)) (wpAny_nextOf_list_end hh (h1.extBut hs₁.extBut D.i1z) (hl.extBut hs₁.extBut nl.1) hx fun h₂ e hs₂ he=>hE h₂ e (fun c o c1 _ c3 _ x=>hs₂ _ _ c3 (hs₁.extBut _ _ c1 x)) he)
theorem qFv {z TI TO i1 i2 l t:Addr}{k:Nat}{xs ys:Array Value}{x y:Value}{Q:Option Value->Shared->Prop}(D:ZApart z TI TO i1 i2)(S:ZipSt s.heap z TI TO i1 i2 l t k)
  (hl:s.heap.IsList l xs) (ht:s.heap.IsTuple t ys) (nl:l≠z/\l≠TO/\l≠i1/\l≠i2) (nt:t≠z/\t≠TO/\t≠i1/\t≠i2) (hx:xs[k]? = some x) (hy:ys[k]? = some y)
  (hQ:∀h' T,ZipSt h' z TI TO i1 i2 l t (k+1)->IsPair h' T x y->(∀c o,c≠z->c≠TO->c≠i1->c≠i2->s.heap.get? c=some o->h'.get? c=some o)->Q (some (.ref T)) { s with heap:=h' }):
  wpAny (model prog w) A (pyNext (.ref z)) Q E s:=by
 have hT:s.TypeIs (.ref z) "zip" := by
  rcases S.zip with h | ⟨_,_,h,_⟩ <;> exact⟨_,h,rfl⟩
 unfold pyNext
 exact yYX (wpAny_attempt (wpAny_callSpecial?_slot (name:=Str.ofString "__next__") hT F.slot_zip_next (wpAny_call_entry F.slot_zip_next hT F.entry_zip_next
   (qYj D S hl ht nl nt hx hy fun h' T a1 a2 a3=>yYY (hQ h' T a1 a2 a3)) (F.args_zip_next_1 _))))
theorem qXf {z TI TO i1 i2 l t:Addr}{k:Nat}{xs:Array Value}{Q:Option Value->Shared->Prop}(hh:A.handled=none)(D:ZApart z TI TO i1 i2)(S:ZipSt s.heap z TI TO i1 i2 l t k)
  (hl:s.heap.IsList l xs) (nl:l≠z/\l≠TO/\l≠i1/\l≠i2) (hx:xs[k]? = none)
  (hQ:∀h',(∀c o,c≠z->c≠TO->c≠i1->c≠i2->s.heap.get? c=some o->h'.get? c=some o)->Q none { s with heap:=h' }):wpAny (model prog w) A (pyNext (.ref z)) Q E s:=by
 have hT:s.TypeIs (.ref z) "zip" := by
  rcases S.zip with h | ⟨_,_,h,_⟩ <;> exact⟨_,h,rfl⟩
 unfold pyNext
 refine yYX (wpAny_attempt (wpAny_callSpecial?_slot (name:=Str.ofString "__next__") hT F.slot_zip_next (wpAny_call_entry F.slot_zip_next hT F.entry_zip_next (qYz hh D S hl nl hx fun h' e hk he=>?_) (F.args_zip_next_1 _))))
 obtain⟨o,ho,hc⟩:=he
 exact yYX (wpAny_isInstance (T := "StopIteration") (b:=true) ⟨o,ho,hc⟩ isSubtype_stop (yYY (hQ _ hk)))
theorem qFw {z TI TO i1 i2 l t:Addr}{k:Nat}{Q:Value->Shared->Prop}(S:ZipSt s.heap z TI TO i1 i2 l t k)(h:Q (.ref z) s):wpAny (model prog w) A (pyIter (.ref z)) Q E s:=by
 have hT:s.TypeIs (.ref z) "zip" := by
  rcases S.zip with h | ⟨_,_,h,_⟩ <;> exact⟨_,h,rfl⟩
 exact wpAny_pyIter_slot hT F.slot_zip_iter (wpAny_call_entry F.slot_zip_iter hT F.entry_zip_iter (yYY ⟨_,rfl,"zip",_,hT,F.slot_zip_next.lookup,h⟩) (F.args_zip_iter_1 _))
end
end PySem
namespace PySem
namespace FD
theorem entry_upd_loop:entryFor table "dict.update.loop" = some Builtin.«dict.update.loop»:=entryFor_of_tree (by kernel_rfl)
theorem plain_upd_loop:plainId "dict.update.loop" = true:=by wtm_at"d"
end FD
structure PairIt (prog:Program)(w:World)(A:Around)(d it:Addr)(fp:List Addr)(kvs:List (Value×Value))(St:Nat->Heap->Prop):Prop where
 frame:∀i h h',St i h->Heap.SameBut d h h'->(∃o,h'.get? d=some o)->St i h'
 item:∀(i:Nat) (s:Shared) (Q:Option Value->Shared->Prop) (E:Value->Shared->Prop) (k v:Value),kvs[i]? = some (k,v)->St i s.heap->
  (∀T h' tk n,St (i+1) h'->(∃o,h'.get? T=some o/\o.cls=.type "tuple" /\ o.data=.seq #[k,v] n)->(∀b o,b∉fp->s.heap.get? b=some o->h'.get? b=some o)->Q (some (.ref T)) { s with heap:=h',toks:=tk })->wpAny (model prog w) A (pyNext (.ref it)) Q E s
 done:∀(s:Shared) (Q:Option Value->Shared->Prop) (E:Value->Shared->Prop),St kvs.length s.heap->
  (∀h' tk,(∀b o,b∉fp->s.heap.get? b=some o->h'.get? b=some o)->Q none { s with heap:=h',toks:=tk })->wpAny (model prog w) A (pyNext (.ref it)) Q E s
section
variable {prog:Program}{w:World}{K:Type}[DecidableEq K]{knd:KeyKind prog w K}{A:Around}
abbrev Keyed (knd:KeyKind prog w K):List (K×Value)->List (Value×Value)->Prop:=Paired fun p q=>knd.is p.1 q.1=true/\p.2=q.2
theorem qNb {ks:List (K×Value)}{kvs:List (Value×Value)}(h:Keyed knd ks kvs):∀{i:Nat} {p:K×Value},ks[i]? = some p->∃q,kvs[i]? = some q/\knd.is p.1 q.1=true/\p.2=q.2:=by
 induction h with
 | nil=>intro i p e;simp at e
 | cons f _ ih=>
  intro i p e
  cases i with
  | zero=>simp at e;subst e;exact⟨_,rfl,f⟩
  | succ i=>exact ih (i:=i) (by simpa using e)
theorem qCl {d it:Addr}{fp:List Addr}{kvs:List (Value×Value)}{ks:List (K×Value)}{St:Nat->Heap->Prop}(P:PairIt prog w A.in1 d it fp kvs St)(hk:Keyed knd ks kvs)(hd:d∉fp)(hz:ks.length<=1000){R:Result->Shared->Prop}{s₀:Shared}
  (hR:∀h' tk,(∀b o,b∉fp->b≠d->s₀.heap.get? b=some o->h'.get? b=some o)->h'.DictOf knd d (merged [] ks)->R (.ok (.ret .none)) { s₀ with heap:=h',toks:=tk }):
  ∀(m i:Nat) (h:Heap) (tk:Nat),ks.length - i=m->i<=ks.length->St i h->h.DictOf knd d (merged [] (ks.take i))->(∀b o,b∉fp->b≠d->s₀.heap.get? b=some o->h.get? b=some o)->
   codeAny (model prog w) A (.builtin "dict.update.loop" ⟨[.ref d,.ref it,rawInt i,.none],[]⟩) R { s₀ with heap:=h,toks:=tk }:=by
 intro m
 induction m with
 | zero=>
  intro i h tk hm hi st hD keep
  have e:i=ks.length:=by omega
  subst e
  refine codeAny_builtin FD.entry_upd_loop ?_
  rw[Around.under_plainId FD.plain_upd_loop _]
  rw[hk.length] at st
  refine yYX (m:=pyNext (.ref it)) (P.done { s₀ with heap:=h,toks:=tk } _ _ st fun h' tk' kp=>?_)
  rw[yYJ] at hD
  refine yYX (m:=Builtin.Dict.addKeywords d []) (yYY (yYY ?_))
  refine hR h' tk' (fun b o b1 b2 e=>kp b o b1 (keep b o b1 b2 e)) ?_
  obtain⟨o,es,ep,ho,r⟩:=hD
  exact⟨o,es,ep,kp _ _ hd ho,r⟩
 | succ m ih=>
  intro i h tk hm hi st hD keep
  have hlt:i<ks.length:=by omega
  obtain⟨p,ep⟩:∃p,ks[i]? = some p:=⟨_,yYA hlt⟩
  obtain⟨⟨kv,vv⟩,eq,hkey,hval⟩:=qNb hk ep
  have hval:p.2=vv:=hval
  refine codeAny_builtin FD.entry_upd_loop ?_
  rw[Around.under_plainId FD.plain_upd_loop _]
  refine yYX (m:=pyNext (.ref it)) (P.item i { s₀ with heap:=h,toks:=tk } _ _ kv vv eq st fun T h' tk' n st' hT kp=>?_)
  obtain⟨oT,hT,hTc,hTd⟩:=hT
  have hTy:Shared.TypeIs { s₀ with heap:=h',toks:=tk' } (.ref T) "tuple" := ⟨_,hT,hTc⟩
  have hD':h'.DictOf knd d (merged [] (ks.take i)):=by
   obtain⟨o,es,ep,ho,r⟩:=hD
   exact⟨o,es,ep,kp _ _ hd ho,r⟩
  refine yYX (wpAny_holding ?_)
  refine yYX (wpAny_tryCatch ?_)
  unfold Builtin.Dict.pairItems
  refine yYX (wpAny_typeOf hTy ?_)
  rw[if_pos (by decide)]
  refine yYX (wpAny_seqItems hT hTd (yYY ?_))
  refine wpAny_holding (wpAny_dictSet_pairs hkey hD' (fun h'' hD'' sb=>?_) ?_)
  .refine yYY ⟨plainId_quiet FD.plain_upd_loop _,?_⟩
   have e1:merged [] (ks.take (i+1))=stored (merged [] (ks.take i)) p.1 p.2:=merged_take_succ [] ks i p ep
   rw[<- hval] at hD''
   have:=ih (i+1) h'' (tk'+1) (by omega) hlt (P.frame _ _ _ st' sb (by obtain⟨o,_,_,ho,_⟩:=hD'';exact⟨o,ho⟩)) (by rw[e1];exact hD'') fun b o b1 b2 e=>(sb.2 b b2).trans (kp b o b1 (keep b o b1 b2 e))
   exact this
  .have:=merged_length_le ([]:List (K×Value)) (ks.take i)
   rw[yYF,yYU] at this
   have e:sizeLine=16777216:=by decide
   omega
theorem kB {E:Value->Shared->Prop}{s:Shared}{a:Addr}{T:String}{Q:Value->Shared->Prop}(hT:s.TypeIs (.ref a) T)(hne:(Value.type T != Value.type "dict")=true)
  (h:∀E':Value->Shared->Prop,wpAny (model prog w) A.in1.in1 (getAttr? (.ref a) "keys") (fun r s2=>r=none/\wpAny (model prog w) A.in1.in1 (pyIter (.ref a)) (fun it s3=>codeAny (model prog w) A.in1 (.builtin "dict.update.loop" ⟨[.ref s.heap.objs.size,it,rawInt 0,.none],[]⟩)
   (wants (fun r s₂=>r=.none/\Q (.ref s.heap.objs.size) s₂) E) s3) E' s2) E' { s with heap:=s.heap.push { cls:=.type "dict",data:=.dict #[] } }):
  wpAny (model prog w) A (call (.type "dict") [.ref a]) Q E s:=by
 refine callType_codes (Q₁:=fun obj s₁=>obj=.ref s.heap.objs.size/\s₁={ s with heap:=s.heap.push { cls:=.type "dict",data:=.dict #[] } }) F.kt_called_dict (F.kt_typeCall_dict_1 _) F.entry_dict_init (kt_code_dict_new _ ⟨rfl,rfl⟩) ?_
 rintro obj s₁ ⟨rfl,rfl⟩
 have gd:(s.heap.push { cls:=.type "dict",data:=.dict #[] }).get? s.heap.objs.size=some { cls:=.type "dict",data:=.dict #[] }:=yZB _ rfl
 have hnew:Shared.TypeIs { s with heap:=s.heap.push { cls:=.type "dict",data:=.dict #[] } } (.ref s.heap.objs.size) "dict" := ⟨_,gd,rfl⟩
 have hT':Shared.TypeIs { s with heap:=s.heap.push { cls:=.type "dict",data:=.dict #[] } } (.ref a) T:=by
  obtain⟨o,ho,hc⟩:=hT
  exact⟨o,yYZ _ ho,hc⟩
 refine⟨hnew,F.args_dict_init_2 _ _,?_⟩
 unfold Builtin.«dict.__init__»
 refine yYX ?_
 unfold Builtin.Dict.selfAndRest
 refine yYX (wpAny_notOrdered_dict hnew ?_)
 show wpAny _ _ (pure (s.heap.objs.size,[Value.ref a])) _ _ _
 refine yYY ?_
 show wpAny _ _ (Builtin.Dict.updateFrom "dict.__init__" s.heap.objs.size (.ref a) [] .none) _ _ _
 unfold Builtin.Dict.updateFrom
 refine yYX (wpAny_typeOf hT' ?_)
 rw[if_pos hne]
 refine yYX (wpAny_mono (h _) (fun r s2 hr=>?_) fun _ _ x=>x)
 obtain⟨rfl,hr⟩:=hr
 simp only[Option.isNone_none,if_true]
 refine yYX (wpAny_rule (yYX (wpAny_mono hr (fun it s3 hc=>?_) fun _ _ x=>x)))
 exact yYY ⟨plainId_quiet FD.plain_upd_loop _,hc⟩
end
section
variable {prog:Program}{w:World}{K:Type}[DecidableEq K]{knd:KeyKind prog w K}{A:Around}{E:Value->Shared->Prop}{s:Shared}
theorem qXn (h:Heap):(h.push { cls:=.type "dict",data:=.dict #[] }).DictOf knd h.objs.size []:=Heap.DictOf.new h
theorem qKf {l t:Addr}{xs ys:Array Value}{ks:List (K×Value)}{Q:Value->Shared->Prop}(hh:A.handled=none)(hl:s.heap.IsList l xs)(ht:s.heap.IsTuple t ys)(hsz:xs.size=ys.size)(hk:Keyed knd ks (xs.toList.zip ys.toList))(hz:ks.length<=1000)
  (hQ:∀p h' tk,s.heap.objs.size<=p->(∀b o,s.heap.get? b=some o->h'.get? b=some o)->h'.DictOf knd p (merged [] ks)->Q (.ref p) { s with heap:=h',toks:=tk }):
  wpAny (model prog w) A (call (.type "zip") [.ref l,.ref t]) (fun z s1=>wpAny (model prog w) A (call (.type "dict") [z]) Q E s1) E s:=by
 refine qCc hl ht fun h1 z TI TO i1 i2 D S z1 z2 z3 z4 z5 keep1=>?_
 have hT:Shared.TypeIs { s with heap:=h1 } (.ref z) "zip" := by
  rcases S.zip with h | ⟨_,_,h,_⟩ <;> exact⟨_,h,rfl⟩
 have llt:l<s.heap.objs.size:=by obtain⟨o,e,_⟩:=hl;exact yZA e
 have tlt:t<s.heap.objs.size:=by obtain⟨o,e,_⟩:=ht;exact yZA e
 have zlt:∀x,x=z\/x=TI\/x=TO\/x=i1\/x=i2->x<h1.objs.size:=fun x hx=>by
  rcases hx with rfl | rfl | rfl | rfl | rfl
  .rcases S.zip with h | ⟨_,_,h,_⟩ <;> exact yZA h
  .exact yZA S.its
  .obtain⟨_,_,h⟩:=S.own;exact yZA h
  .obtain⟨_,h,_⟩:=S.one;exact yZA h
  .obtain⟨_,h,_⟩:=S.two;exact yZA h
 refine kB hT (by decide) fun E'=>?_
 have S2:ZipSt (h1.push { cls:=.type "dict",data:=.dict #[] }) z TI TO i1 i2 l t 0:=by
  refine⟨?_,yYZ _ S.its,?_,S.one.at fun o e=>yYZ _ e,S.two.at fun o e=>yYZ _ e⟩
  .rcases S.zip with h | ⟨T,f,h,⟨o,e⟩,r⟩
   .exact .inl (yYZ _ h)
   .exact .inr ⟨T,f,yYZ _ h,⟨o,yYZ _ e⟩,r⟩
  .obtain⟨a,b,e⟩:=S.own
   exact⟨a,b,yYZ _ e⟩
 have dz:∀x,x=z\/x=TI\/x=TO\/x=i1\/x=i2->h1.objs.size≠x:=fun x hx=>yZH (zlt x hx)
 have old:s.heap.objs.size<=h1.objs.size:=Nat.le_of_lt (yZI z1 (zlt z (.inl rfl)))
 obtain⟨vs,hzip⟩:∃vs,(h1.push { cls:=.type "dict",data:=.dict #[] }).get? z=some { cls:=.type "zip",dict:=none,data:=.fields vs,slots:=#[] }:=by
  rcases S2.zip with h | ⟨_,_,h,_⟩ <;> exact⟨_,h⟩
 refine qKj hzip hh fun h2 tk2 kp2=>⟨rfl,?_⟩
 have S3:ZipSt h2 z TI TO i1 i2 l t 0:=by
  refine⟨?_,kp2 _ _ S2.its,?_,S2.one.at fun o e=>kp2 _ _ e,S2.two.at fun o e=>kp2 _ _ e⟩
  .rcases S2.zip with h | ⟨T,f,h,⟨o,e⟩,r⟩
   .exact .inl (kp2 _ _ h)
   .exact .inr ⟨T,f,kp2 _ _ h,⟨o,kp2 _ _ e⟩,r⟩
  .obtain⟨a,b,e⟩:=S2.own
   exact⟨a,b,kp2 _ _ e⟩
 refine qFw S3 ?_
 have hlen:(xs.toList.zip ys.toList).length=xs.size:=by rw[List.length_zip];simp[hsz]
 have ndl:l≠z/\l≠TO/\l≠i1/\l≠i2:=⟨yZF (yZE llt z1),yZF (yZE llt z3),yZF (yZE llt z4),yZF (yZE llt z5)⟩
 have ndt:t≠z/\t≠TO/\t≠i1/\t≠i2:=⟨yZF (yZE tlt z1),yZF (yZE tlt z3),yZF (yZE tlt z4),yZF (yZE tlt z5)⟩
 have nl5:l≠h1.objs.size:=yZF (yZE llt old)
 have nt5:t≠h1.objs.size:=yZF (yZE tlt old)
 have P:PairIt prog w A.in1.in1 h1.objs.size z [z,TO,i1,i2] (xs.toList.zip ys.toList) (fun i h=>ZipSt h z TI TO i1 i2 l t i/\h.IsList l xs/\h.IsTuple t ys):=
  {frame:=fun i h h' ⟨S,hl,ht⟩ sb ⟨od,hod⟩=>by
    have k:∀b o,b≠h1.objs.size->h.get? b=some o->h'.get? b=some o:=fun b o hb e=>(sb.2 b hb).trans e
    refine⟨⟨?_,k _ _ (dz TI (.inr (.inl rfl))).symm S.its,?_,S.one.at fun o e=>k _ _ (dz i1 (by simp)).symm e,S.two.at fun o e=>k _ _ (dz i2 (by simp)).symm e⟩,?_,?_⟩
    .rcases S.zip with h | ⟨T,f,h,⟨o,e⟩,r⟩
     .exact .inl (k _ _ (dz z (.inl rfl)).symm h)
     .refine .inr ⟨T,f,k _ _ (dz z (.inl rfl)).symm h,?_,r⟩
      by_cases hTd:T=h1.objs.size
      .exact⟨od,by rw[hTd];exact hod⟩
      .exact⟨o,k _ _ hTd e⟩
    .obtain⟨a,b,e⟩:=S.own
     exact⟨a,b,k _ _ (dz TO (by simp)).symm e⟩
    .obtain⟨o,ho,r⟩:=hl;exact⟨o,k _ _ nl5 ho,r⟩
    .obtain⟨o,ho,r⟩:=ht;exact⟨o,k _ _ nt5 ho,r⟩
   item:=fun i s Q E k v e ⟨S,hl,ht⟩ hQ=>by
    obtain⟨e1,e2⟩:=List.getElem?_zip_eq_some.mp e
    refine qFv D S hl ht ndl ndt (x:=k) (y:=v) (by simpa using e1) (by simpa using e2) fun h' T S' hT kp=>?_
    refine hQ T h' s.toks 0 ⟨S',?_,?_⟩ ⟨_,hT,rfl,rfl⟩ fun b o hb e=>kp b o (fun z=>hb (by simp[z])) (fun z=>hb (by simp[z])) (fun z=>hb (by simp[z])) (fun z=>hb (by simp[z])) e
    .obtain⟨o,ho,r⟩:=hl;exact⟨o,kp _ _ ndl.1 ndl.2.1 ndl.2.2.1 ndl.2.2.2 ho,r⟩
    .obtain⟨o,ho,r⟩:=ht;exact⟨o,kp _ _ ndt.1 ndt.2.1 ndt.2.2.1 ndt.2.2.2 ho,r⟩
   done:=fun s Q E ⟨S,hl,ht⟩ hQ=>by
    refine qXf (A:=A.in1.in1) hh D S hl ndl (by rw[hlen];simp) fun h' kp=>?_
    exact hQ h' s.toks fun b o hb e=>kp b o (fun z=>hb (by simp[z])) (fun z=>hb (by simp[z])) (fun z=>hb (by simp[z])) (fun z=>hb (by simp[z])) e }
 have kl:∀b o,s.heap.get? b=some o->h2.get? b=some o:=fun b o e=>kp2 _ _ (yYZ _ (keep1 _ _ e))
 have hd0:h2.DictOf knd h1.objs.size (merged [] (ks.take 0)):=by
  obtain⟨o,es,ep,ho,r⟩:=qXn (knd:=knd) h1
  exact⟨o,es,ep,kp2 _ _ ho,r⟩
 refine qCl (A:=A.in1) (s₀:={ s with heap:=h2,toks:=tk2 }) P hk (by simp[dz z,dz TO,dz i1,dz i2]) hz (fun h' tk kp hD=>⟨rfl,?fin⟩) ks.length 0 h2 tk2 (by simp) (yZG _) ⟨S3,?sl,?st⟩ hd0 (fun _ _ _ _ e=>e)
 case fin=>
  refine hQ _ h' tk old (fun b o e=>kp b o ?_ ?_ (kl b o e)) hD
  .have bl:=yZA e
   intro hb
   simp only[yYK,List.not_mem_nil,or_false] at hb
   rcases hb with rfl | rfl | rfl | rfl
   .exact absurd (yZE bl z1) (Nat.lt_irrefl _)
   .exact absurd (yZE bl z3) (Nat.lt_irrefl _)
   .exact absurd (yZE bl z4) (Nat.lt_irrefl _)
   .exact absurd (yZE bl z5) (Nat.lt_irrefl _)
  .exact yZF (yZE (yZA e) old)
 case sl=>obtain⟨o,ho,r⟩:=hl;exact⟨o,kl _ _ ho,r⟩
 case st=>obtain⟨o,ho,r⟩:=ht;exact⟨o,kl _ _ ho,r⟩
theorem qJq {l:Addr}{xs:Array Value}{n:Nat}{kvs:List (Value×Value)}{ks:List (K×Value)}{Q:Value->Shared->Prop}(hh:A.handled=none)(hl:s.heap.get? l=some { cls:=.type "list",data:=.seq xs n })
  (hp:∀(i:Nat) p,kvs[i]? = some p->∃T o m,xs[i]? = some (.ref T)/\s.heap.get? T=some o/\o.cls=.type "tuple" /\ o.data=.seq #[p.1,p.2] m) (hlen:kvs.length=xs.size) (hk:Keyed knd ks kvs) (hz:ks.length<=1000)
  (hQ:∀p h' tk,s.heap.objs.size<=p->(∀b o,s.heap.get? b=some o->h'.get? b=some o)->h'.DictOf knd p (merged [] ks)->Q (.ref p) { s with heap:=h',toks:=tk }):
  wpAny (model prog w) A (call (.type "dict") [.ref l]) Q E s:=by
 refine kB (T := "list") ⟨_,hl,rfl⟩ (by decide) fun E'=>?_
 have kd:∀b o,s.heap.get? b=some o->(s.heap.push { cls:=.type "dict",data:=.dict #[] }).get? b=some o:=fun b o e=>yYZ _ e
 refine vE (kd _ _ hl) hh fun h2 tk2 kp2=>⟨rfl,?_⟩
 have kl:∀b o,s.heap.get? b=some o->h2.get? b=some o:=fun b o e=>kp2 _ _ (kd _ _ e)
 have L2:h2.IsList l xs:=⟨_,kl _ _ hl,rfl,n,rfl⟩
 refine wpAny_pyIter_list (s:={ s with heap:=h2,toks:=tk2 }) L2 ?_
 have k3:∀b o,h2.get? b=some o->(h2.push { cls:=.type "list_iterator",data:=.fields #[.ref l,.int 0 0] }).get? b=some o:=fun b o e=>yYZ _ e
 have dlt:s.heap.objs.size<h2.objs.size:=yZA (kp2 _ _ (yZB _ rfl))
 have P:PairIt prog w A.in1.in1 s.heap.objs.size h2.objs.size [h2.objs.size] kvs (fun i h=>h.IsListIter h2.objs.size l i/\∀b o,s.heap.get? b=some o->h.get? b=some o):=
  {frame:=fun i h h' ⟨S,kp⟩ sb _=>⟨S.at fun o e=>(sb.2 _ (yZH dlt)).trans e,fun b o e=>(sb.2 b (yZF (yZA e))).trans (kp b o e)⟩
   item:=fun i s' Q E k v e ⟨S,kp⟩ hQ=>by
    obtain⟨T,o,m,ex,ho,hc,hd⟩:=hp i (k,v) e
    refine wpAny_pyNext_list_item S ⟨_,kp _ _ hl,rfl,n,rfl⟩ ex fun h' S' sb=>?_
    have nb:∀b o,s.heap.get? b=some o->b≠h2.objs.size:=fun b o e=>yZF (Nat.lt_trans (yZA e) dlt)
    exact hQ T h' s'.toks m ⟨S',fun b o e=>(sb.2 b (nb b o e)).trans (kp b o e)⟩ ⟨o,(sb.2 T (nb T o ho)).trans (kp _ _ ho),hc,hd⟩ fun b o hb e=>(sb.2 b (fun z=>hb (by simp[z]))).trans e
   done:=fun s' Q E ⟨S,kp⟩ hQ=>by
    refine wpAny_pyNext_list_end (A:=A.in1.in1) hh S ⟨_,kp _ _ hl,rfl,n,rfl⟩ (by rw[hlen];simp) fun h' eb=>?_
    exact hQ h' s'.toks fun b o hb e=>eb b o (fun z=>hb (by simp[z])) e }
 have hd0:(h2.push { cls:=.type "list_iterator",data:=.fields #[.ref l,.int 0 0] }).DictOf knd s.heap.objs.size (merged [] (ks.take 0)):=by
  obtain⟨o,es,ep,ho,r⟩:=qXn (knd:=knd) s.heap
  exact⟨o,es,ep,k3 _ _ (kp2 _ _ ho),r⟩
 refine qCl (A:=A.in1) (s₀:={ s with heap:=h2.push { cls:=.type "list_iterator",data:=.fields #[.ref l,.int 0 0] },toks:=tk2 }) P hk (by simp;exact yZF dlt) hz (fun h' tk kp hD=>⟨rfl,?_⟩) ks.length 0 _ tk2 (by simp) (yZG _) ⟨⟨_,yZB _ rfl,rfl,rfl⟩,fun b o e=>k3 _ _ (kl _ _ e)⟩ hd0 (fun _ _ _ _ e=>e)
 refine hQ _ h' tk (yZD _) (fun b o e=>kp b o ?_ (yZF (yZA e)) (k3 _ _ (kl b o e))) hD
 simp only[yYL]
 exact yZF (Nat.lt_trans (yZA e) dlt)
end
end PySem
namespace L2
open PySem PySem.Spec PyProof.Rows
theorem xXz:bootBuiltins "zip" = some (.type "zip"):=by wtm_at"d"
def zipK (ns:List Str)(xs:List V):List (Key×V):=(ns.zip xs).map fun p=>(Sum.inr p.1,p.2)
def pairK (kvs:List (Str×V)):List (Key×V):=kvs.map fun p=>(Sum.inr p.1,p.2)
theorem qKo {P:Program}{w:World}:∀{ns:List Str} {xs:List V} {us vs:List Value},Vals (ns.map V.str) us->Vals xs vs->ns.length=xs.length->∃ks:List (Key×Value),Keyed (xR P w) ks (us.zip vs)/\KV (zipK ns xs) ks/\ks.length=ns.length
 | [],[],_,_,.nil,.nil,_=>⟨[],.nil,.nil,rfl⟩
 | n::ns,x::xs,_,_,.cons r1 t1,.cons (b:=v) r2 t2,hl=>by
  obtain⟨ks,h1,h2,h3⟩:=qKo (P:=P) (w:=w) t1 t2 (by simpa using hl)
  obtain⟨t,rfl⟩:=r1
  exact⟨(Sum.inr n,v)::ks,.cons ⟨kZ P w n t,rfl⟩ h1,.cons ⟨rfl,r2⟩ h2,by simp[h3]⟩
 | [],_::_,_,_,_,_,hl=>by simp at hl
 | _::_,[],_,_,_,_,hl=>by simp at hl
section
variable {X:Cx}{zz:List (Addr×Obj)}{σ:St}{H:Hp}{s:Shared}
theorem Inv.newDict {Q:VK}{p:Addr}{h':Heap}{tk:Nat}{kvs:List (Key×V)}{ks:List (Key×Value)}(I:Inv X zz σ H s)(hp:s.heap.objs.size<=p)(keep:∀b o,s.heap.get? b=some o->h'.get? b=some o)
  (rel:KV kvs ks) (hk:ks.length<=1000) (hD:h'.DictOf (xR X.prog X.w) p (merged [] ks)) (q:Q (.ref p) (upd H p (.dK (mergeK [] kvs)))):EP X zz σ Q (.ref p) { s with heap:=h',toks:=tk }:=by
 refine⟨.ref p,upd H p (.dK (mergeK [] kvs)),I.laid (o:=.dK (mergeK [] kvs)) keep hp ⟨?_,?_,merged [] ks,KV.merge rel .nil,hD⟩,rfl,q⟩
 .have l1:=kK kvs []
  have l2:=rel.length
  have e:sizeLine=16777216:=by decide
  rw[yYU] at l1
  omega
 .have:=I.big
  have ne:p≠sysModules:=yZH (yZE this hp)
  exact beq_eq_false_iff_ne.mpr ne
def qRg (K:yZP)(ta:TA):TE:=fun σ H Q=>ta σ H fun vs H1=>∃l t ns xs,vs=[.ref l,.ref t]/\SqL K H1 l (ns.map V.str)/\SqT K H1 t xs/\ns.length=xs.length/\ns.length<=1000/\
 ∀p,H1 p=none->Q (.ref p) (upd H1 p (.dK (mergeK [] (zipK ns xs))))
theorem qBk {a b:Expr}{ta:TA}{p p2 pos pos2:Pos}(hc:X.calm=true)(hg:Gl X "dict")(hm:X.mg "dict" = none)(hg2:Gl X "zip")(hm2:X.mg "zip" = none)(ha:PA X [a,b] ta)
  (he:starEach [.Call (.Name "zip" p2) [a,b] [] pos2] X.env=[(false,eval (.Call (.Name "zip" p2) [a,b] [] pos2) X.env)]:=by rfl)
  (he2:starEach [a,b] X.env=[(false,eval a X.env),(false,eval b X.env)]:=by rfl) (he3:starEach [b] X.env=[(false,eval b X.env)]:=by rfl):
  PE X (.Call (.Name "dict" p) [.Call (.Name "zip" p2) [a,b] [] pos2] [] pos) (qRg X.K ta):=by
 intro zz s σ H Q I h
 refine Call_ (qQv I hg hm vU (PyProof.Rows.callWith_type1 ?_ he rfl))
 rw[he]
 refine Calls.spliced_cons (Call_ (qQv I hg2 hm2 xXz (PyProof.Rows.callWith_type1 (thn (ha pos2 zz s σ H _ I h) fun us s1 ⟨vs,H1,I1,r1,q1⟩=>?_) (by rw[he2,he3]) (by rw[he3];rfl))))
 obtain⟨l,t,ns,xs,rfl,hl,ht,hlen,h1000,q⟩:=q1
 obtain⟨u,v,rfl,ru,rv⟩:=vals2 r1
 cases ru;cases rv
 obtain⟨its,r2,p2',_⟩:=I1.list hl
 obtain⟨its2,r3,p3,_⟩:=I1.tuple ht
 obtain⟨ks,k1,k2,k3⟩:=qKo (P:=X.prog) (w:=X.w) r2 r3 hlen
 have e1:=r2.length
 have e2:=r3.length
 rw[yYC] at e1
 refine thn (qKf (knd:=xR X.prog X.w) (ks:=ks) (I1.ok.hd hc) p2'.isList (show s1.heap.IsTuple t its2.toArray from p3) (by simp only[yYD];omega) (by simpa using k1) (by omega) fun p' h' tk hp keep hD=>?_) fun z s2 hz=>Calls.spliced_nil hz
 exact I1.newDict hp keep k2 (by omega) hD (q p' (I1.hok.fresh hp))
def PairIn (H:Hp)(kv:Str×V)(u:V):Prop:=∃a,u=.ref a/\H a=some (.tup [.str kv.1,kv.2])
theorem qBv (I:Inv X zz σ H s):∀{kvs:List (Str×V)} {us:List V} {its:List Value},Paired (PairIn H) kvs us->Vals us its->∃(vv:List (Value×Value)) (ks:List (Key×Value)),
  (∀(i:Nat) p,vv[i]? = some p->∃T o m,its[i]? = some (.ref T)/\s.heap.get? T=some o/\o.cls=.type "tuple" /\ o.data=.seq #[p.1,p.2] m)/\vv.length=its.length/\Keyed (xR X.prog X.w) ks vv/\KV (pairK kvs) ks/\ks.length=kvs.length:=by
 intro kvs us its hp
 induction hp generalizing its with
 | nil=>
  intro hv
  cases hv
  exact⟨[],[],fun i p e=>by simp at e,rfl,.nil,.nil,rfl⟩
 | @cons kv _ _ _ f t ih=>
  intro hv
  cases hv with
  | cons r t2=>
  obtain⟨n,x⟩:=kv
  obtain⟨vv,ks,h1,h2,h3,h4,h5⟩:=ih t2
  obtain⟨a,rfl,ha⟩:=f
  cases r
  obtain⟨z,its,rv,o,ho,hc,m,hd,_⟩:=I.hok a _ ha
  obtain⟨u,v,rfl,ru,rv'⟩:=vals2 rv
  obtain⟨tk,rfl⟩:=ru
  refine⟨(.str n tk,v)::vv,(Sum.inr n,v)::ks,fun i p e=>?_,by simp[h2],.cons ⟨kZ _ _ n tk,rfl⟩ h3,.cons ⟨rfl,rv'⟩ h4,by simp[h5]⟩
  cases i with
  | zero=>
   simp at e
   subst e
   exact⟨a,o,m,rfl,ho,hc,hd⟩
  | succ i=>exact h1 i p (by simpa using e)
theorem qQc (hc:X.calm=true):CallR X (.type "dict") (fun vs H Q=>∃l us kvs,vs=[.ref l]/\H l=some (.lst us)/\Paired (PairIn H) kvs us/\kvs.length<=1000/\∀p,H p=none->Q (.ref p) (upd H p (.dK (mergeK [] (pairK kvs))))):=by
 intro zz s σ H vs us Q I r h
 obtain⟨l,xs,kvs,rfl,hl,hp,h1000,q⟩:=h
 obtain⟨u,rfl,ru⟩:=vals1 r
 cases ru
 obtain⟨z,its,n,rv,hlen,e⟩:=I.lstM hl
 obtain⟨vv,ks,k1,k2,k3,k4,k5⟩:=qBv I hp rv
 refine qJq (knd:=xR X.prog X.w) (ks:=ks) (kvs:=vv) (I.ok.hd hc) e (fun i p ep=>?_) (by simp[k2]) k3 (by omega) fun p h' tk hp' keep hD=>I.newDict hp' keep k4 (by omega) hD (q p (I.hok.fresh hp'))
 obtain⟨T,o,m,a1,a2⟩:=k1 i p ep
 exact⟨T,o,m,by simpa using a1,a2⟩
end
end L2
namespace FP
open PySem L2
theorem xF {X:Cx}{a b:Expr}{ta tb:TE}{pos:Pos}{r:R2}(hr:IxR X r)(ha:PE X a ta)(hb:PE X b tb)(hs:qRk b:=by exact fun _ _=>rfl):PE X (.Subscript a b pos) (tOp r ta tb):=xAi hr ha hb hs
theorem xG {X:Cx}{pos:Pos}{i:Nat}{x:Str}{e:Expr}{te:TE}{pos':Pos}(hN:X.N.Nodup)(hi:X.N[i]? = some x)(he:PE X e te)(hx:Loc X.env.scope x:=by first | exact Or.inl rfl | exact Or.inr rfl)(hs:swapsWith e (some (.Name x pos')) pos.line X.env=pure false:=by rfl)(hf:X.fn x=true\/X.env.scope.names.lookup x=some .local:=by first | exact .inl rfl | exact .inr rfl | assumption):PS X (.Assign [.Name x pos'] e pos) (tAsg te (gName i)):=qN hN hi hx he hs hf
inductive Th where
 | num (n:Int) | box (x:Str) | nul (k:Str) | un (k:Str) (a:Th) | bin (k:Str) (a b:Th)
namespace Th
def Op (k:Str):Prop:=k ≠ "box" /\ k ≠ "number"
def Ok:Th->Prop
 | num _=>True
 | box _=>True
 | nul k=>Op k
 | un k a=>Op k/\a.Ok
 | bin k a b=>Op k/\a.Ok/\b.Ok
def dep:Th->Nat
 | num _=>1
 | box _=>1
 | nul _=>1
 | un _ a=>a.dep+1
 | bin _ a b=>max a.dep b.dep+1
def cnt:Th->Nat
 | num _=>1
 | box _=>1
 | nul _=>1
 | un _ a=>a.cnt+1
 | bin _ a b=>a.cnt+b.cnt+1
def names:Th->List Str
 | num _=>[]
 | box x=>[x]
 | nul _=>[]
 | un _ a=>a.names
 | bin _ a b=>a.names++b.names
theorem xYk:∀t:Th,1<=t.cnt
 | num _=>yZD _
 | box _=>yZD _
 | nul _=>yZD _
 | un _ a=>by show 1<=a.cnt+1;omega
 | bin _ a b=>by show 1<=a.cnt+b.cnt+1;omega
theorem names_le:∀t:Th,t.names.length<=t.cnt
 | num _=>yZG _
 | box _=>yZD _
 | nul _=>yZG _
 | un _ a=>by have:=names_le a;show a.names.length<=a.cnt+1;omega
 | bin _ a b=>by
  have:=names_le a
  have:=names_le b
  show(a.names++b.names).length<=a.cnt+b.cnt+1
  rw[yYI];omega
theorem qEe:∀t:Th,t.cnt+1<=2 ^ t.dep
 | num _=>by show 1+1<=2 ^ 1;decide
 | box _=>by show 1+1<=2 ^ 1;decide
 | nul _=>by show 1+1<=2 ^ 1;decide
 | un _ a=>by
  have:=qEe a
  have:=xYk a
  show a.cnt+1+1<=2 ^ (a.dep+1)
  rw[Nat.pow_succ];omega
 | bin _ a b=>by
  have ha:=qEe a
  have hb:=qEe b
  show a.cnt+b.cnt+1+1<=2 ^ (max a.dep b.dep+1)
  have h1:2 ^ a.dep<=2 ^ (max a.dep b.dep):=Nat.pow_le_pow_right (by decide) (Nat.le_max_left _ _)
  have h2:2 ^ b.dep<=2 ^ (max a.dep b.dep):=Nat.pow_le_pow_right (by decide) (Nat.le_max_right _ _)
  rw[Nat.pow_succ];omega
theorem cnt_small {t:Th}(h:t.dep<=12):t.cnt<=4096:=by
 have h1:=qEe t
 have h2:2 ^ t.dep<=2 ^ 12:=Nat.pow_le_pow_right (by decide) h
 have e:2 ^ 12=4096:=by decide
 omega
theorem dep_pos:∀t:Th,1<=t.dep
 | num _=>yZD _
 | box _=>yZD _
 | nul _=>yZD _
 | un _ a=>by show 1<=a.dep+1;omega
 | bin _ a b=>by show 1<=max a.dep b.dep+1;omega
def At (H:Hp):Th->V->Prop
 | num n,v=>∃a,v=.ref a/\H a=some (.tup [.str "number",.int n])
 | box x,v=>∃a,v=.ref a/\H a=some (.tup [.str "box",.str x])
 | nul k,v=>∃a,v=.ref a/\H a=some (.tup [.str k])
 | un k t,v=>∃a u,v=.ref a/\H a=some (.tup [.str k,u])/\t.At H u
 | bin k t r,v=>∃a u w,v=.ref a/\H a=some (.tup [.str k,u,w])/\t.At H u/\r.At H w
def _root_.FP.Tups (H H':Hp):Prop:=∀b xs,H b=some (.tup xs)->H' b=some (.tup xs)
theorem At.mono {H H':Hp}(h:Tups H H'):∀{t:Th} {v:V},t.At H v->t.At H' v
 | num _,_,⟨a,e,q⟩=>⟨a,e,h _ _ q⟩
 | box _,_,⟨a,e,q⟩=>⟨a,e,h _ _ q⟩
 | nul _,_,⟨a,e,q⟩=>⟨a,e,h _ _ q⟩
 | un _ t,_,⟨a,u,e,q,r⟩=>⟨a,u,e,h _ _ q,At.mono h r⟩
 | bin _ t r,_,⟨a,u,w,e,q,r1,r2⟩=>⟨a,u,w,e,h _ _ q,At.mono h r1,At.mono h r2⟩
end Th
theorem qC {H H':Hp}(s:Same H H'):Tups H H':=fun b xs h=>s b _ h
theorem Tups.trans {H H1 H2:Hp}(a:Tups H H1)(b:Tups H1 H2):Tups H H2:=fun c xs h=>b c xs (a c xs h)
inductive View (H:Hp)(t:Th)(v:V):Prop
 | box (a:Addr) (x:Str):t=.box x->v=.ref a->H a=some (.tup [.str "box",.str x])->View H t v
 | num (a:Addr) (n:Int):t=.num n->v=.ref a->H a=some (.tup [.str "number",.int n])->View H t v
 | op (a:Addr) (k:Str) (us:List V) (ts:List Th):v=.ref a->H a=some (.tup (.str k::us))->Th.Op k->us.length=ts.length->us.length<=2->
   (∀(i:Nat) u r,us[i]? = some u->ts[i]? = some r->r.At H u/\r.Ok/\r.dep+1<=t.dep)->t.names=ts.flatMap Th.names->(ts.map Th.cnt).sum+1=t.cnt->View H t v
theorem view {H:Hp}:∀{t:Th} {v:V},t.At H v->t.Ok->View H t v
 | .num n,_,⟨a,e,q⟩,_=>.num a n rfl e q
 | .box x,_,⟨a,e,q⟩,_=>.box a x rfl e q
 | .nul k,_,⟨a,e,q⟩,ok=>.op a k [] [] e q ok rfl (by decide) (fun i u r h=>by simp at h) rfl rfl
 | .un k t,_,⟨a,u,e,q,r⟩,ok=>by
  refine .op a k [u] [t] e q ok.1 rfl (by show 1<=2;decide) (fun i u' r' h1 h2=>?_) (by simp[Th.names]) (by simp[Th.cnt])
  match i,h1,h2 with
  | 0,h1,h2=>
   cases h1;cases h2
   exact⟨r,ok.2,yZD _⟩
  | i+1,h1,_=>simp at h1
 | .bin k t s,_,⟨a,u,w,e,q,r1,r2⟩,ok=>by
  refine .op a k [u,w] [t,s] e q ok.1 rfl (by show 2<=2;decide) (fun i u' r' h1 h2=>?_) (by simp[Th.names]) (by simp[Th.cnt])
  match i,h1,h2 with
  | 0,h1,h2=>
   cases h1;cases h2
   exact⟨r1,ok.2.1,by show t.dep+1<=max t.dep s.dep+1;omega⟩
  | 1,h1,h2=>
   cases h1;cases h2
   exact⟨r2,ok.2.2,by show s.dep+1<=max t.dep s.dep+1;omega⟩
  | i+2,h1,_=>simp at h1
theorem qVk {ts:List Th}{i:Nat}{t:Th}(h:ts[i]? = some t):(ts.take (i+1)).flatMap Th.names=(ts.take i).flatMap Th.names++t.names:=by
 rw[yYM,h,List.flatMap_append]
 simp
theorem qRf {ts:List Th}(i:Nat):((ts.take i).flatMap Th.names).length<=(ts.flatMap Th.names).length:=by
 have e:ts.flatMap Th.names=(ts.take i).flatMap Th.names++(ts.drop i).flatMap Th.names:=by rw[<- List.flatMap_append,List.take_append_drop]
 rw[e,yYI];omega
theorem cut1 (k:V)(us:List V):cutV (k::us) (some 1) none=us:=by
 unfold cutV
 have e1:HT.sIx (k::us).length 0 (some (1:Int))=1:=by
  have:=HT.sIx_nat (k::us).length 0 1
  rw[yYT] at this ⊢
  have e:min 1 (us.length+1)=1:=by omega
  rw[e] at this
  exact this
 rw[e1,HT.sIx_none,List.drop_one,List.tail_cons,yYT,Nat.add_sub_cancel,yYJ]
theorem notwhole (k:V)(us:List V):¬(HT.sIx (k::us).length 0 (some 1)=0/\HT.sIx (k::us).length (k::us).length none=(k::us).length):=by
 intro z
 have:=HT.sIx_nat (k::us).length 0 1
 rw[yYT] at this
 have e:min 1 (us.length+1)=1:=by omega
 rw[e] at this
 have z1:=z.1
 rw[yYT] at z1
 exact absurd (this.symm.trans z1) (by decide)
theorem small {n:Nat}(h:n<=10000):n<sizeLine:=yZI h (by decide)
theorem smallE {n:Nat}(h:n<=10000):n<=sizeLine:=Nat.le_of_lt (small h)
theorem xVh:("number" : Str) ≠ "box" := by wtm_at"d"
theorem xW {a b:Str}(h:a≠b):decide (V.str a=V.str b)=false:=decide_eq_false (by intro z;cases z;exact h rfl)
theorem jZ (a:Str):decide (V.str a=V.str a)=true:=decide_eq_true rfl
abbrev strsV (ws:List Str):List V:=ws.map V.str
theorem xA (ws:List Str):(strsV ws).length=ws.length:=yYC _
theorem jJ (a b:List Str):strsV (a++b)=strsV a++strsV b:=yYW
abbrev intsV (ns:List Int):List V:=ns.map V.int
theorem qQz (a:List Int)(x:Int):intsV (a++[x])=intsV a++[.int x]:=yYW
theorem zS (ws:List Int):(intsV ws).length=ws.length:=yYC _
end FP
namespace L2
open PySem PySem.Spec PyProof.Rows
section
variable {X:Cx}{K:yZP}
theorem qU (hK:X.K=K:=by rfl):IxR X (rIxL K):=by subst hK;exact xJb
theorem qT (hK:X.K=K:=by rfl):IxR X (rIxT K):=by subst hK;exact xWv
theorem qDh (hK:X.K=K:=by rfl):SlR X (rSlL K):=by subst hK;exact xXh
theorem xXg (hK:X.K=K:=by rfl):SlR X (rSlT K):=by subst hK;exact xKc
def rLen (K:yZP):List V->Hp->VK->Prop:=fun xs H Q=>∃p ys,xs=[.ref p]/\(SqL K H p ys\/SqT K H p ys)/\Q (.int ys.length) H
theorem jV (hK:X.K=K:=by rfl):CallR X (.builtin "len") (rLen K):=by subst hK;exact qAz
def xXn (K:yZP):List V->Hp->VK->Prop:=fun xs H Q=>∃p ys,xs=[.ref p]/\(SqL K H p ys\/SqT K H p ys)/\∀l,H l=none->Q (.ref l) (upd H l (.lst ys))
theorem jG (hK:X.K=K:=by rfl):CallR X (.type "list") (xXn K):=by subst hK;exact qAx
def rTupOf (K:yZP):List V->Hp->VK->Prop:=fun xs H Q=>∃p ys,xs=[.ref p]/\SqL K H p ys/\∀l,H l=none->Q (.ref l) (upd H l (.tup ys))
theorem qCd (hK:X.K=K:=by rfl):CallR X (.type "tuple") (rTupOf K):=by
 subst hK
 intro zz s σ H xs us Q I r h
 obtain⟨p,ys,e,hs,q⟩:=h
 exact qKd zz s σ H xs us Q I r ⟨p,ys,e,.inl ⟨hs,q⟩⟩
def rIsIn (K:yZP):List V->Hp->VK->Prop:=fun xs H Q=>∃x T t b,xs=[x,.ty T]/\TyOf K H x t/\PySem.W.kitOne K t (.type T)=some b/\Q (.bl b) H
theorem vX (hK:X.K=K:=by rfl):CallR X (.builtin "isinstance") (rIsIn K):=by subst hK;exact qCe
theorem xVd (hK:X.K=K:=by rfl):OpR X (compareOp .In) (rIn K false):=by subst hK;exact qMi
theorem qWj (hK:X.K=K:=by rfl):OpR X (compareOp .NotIn) (rIn K true):=by subst hK;exact qWz
theorem xZl (hu:X.A.units+64<cLine)(hK:X.K=K:=by rfl):OpR X (compareOp .Eq) (rEqL K true):=by subst hK;exact xQg hu
theorem qMf (hu:X.A.units+64<cLine)(hK:X.K=K:=by rfl):OpR X (compareOp .NotEq) (rEqL K false):=by subst hK;exact xQf hu
def rNeE (K:yZP):R2:=fun x y H Q=>∃a b xs,x=.ref a/\y=.ref b/\SqL K H a xs/\SqL K H b []/\Q (.bl (!xs.isEmpty)) H
theorem qMg (hu:X.A.units+64<cLine)(hK:X.K=K:=by rfl):OpR X (compareOp .NotEq) (rNeE K):=by subst hK;exact xVa hu
def rEqE (K:yZP):R2:=fun x y H Q=>∃a b xs,x=.ref a/\y=.ref b/\SqL K H a xs/\SqL K H b []/\Q (.bl xs.isEmpty) H
theorem xZm (hu:X.A.units+64<cLine)(hK:X.K=K:=by rfl):OpR X (compareOp .Eq) (rEqE K):=by
 subst hK
 intro zz s σ H x y v u Q I rx ry h
 obtain⟨a,b,xs,rfl,rfl,ha,hb,q⟩:=h
 cases xs with
 | nil=>exact xQg hu zz s σ H _ _ v u Q I rx ry ⟨0,a,b,[],[],by omega,rfl,rfl,ha,hb,rfl,fun j x y e=>by simp at e,q⟩
 | cons z zs=>
  cases rx;cases ry
  obtain⟨its,r1,p1,_⟩:=I.list ha
  obtain⟨its2,r2,p2,_⟩:=I.list hb
  have l1:=r1.length
  have l2:=r2.length
  refine SeqAt.RcAt.lists_lengths p1.isList p2.isList ?_ (by omega) _ _ _ _ ⟨.bl false,H,I,rfl,q⟩
  simp only[yYT,yYU] at l1 l2
  rw[bne_iff_ne,yYD,yYD]
  omega
variable {tg l o e:Expr}{es:List Expr}{tl to:TE}{t:TA}{name:Str}{pos apos cpos:Pos}{T id:String}{r:V->List V->Hp->VK->Prop}
theorem xQ (hl:PE X l tl)(hK:X.K=K:=by rfl):PI X tg l (iList K tl):=by subst hK;exact qMv hl
theorem xZb (hl:PE X l tl)(hK:X.K=K:=by rfl):PI X tg l (iTup K tl):=by subst hK;exact xKo hl
theorem zH {es:List Expr}{k:Nat}{t:TGs}{n:Nat}(hc:X.calm=true)(h:PGs X es t)
  (hn:(assignEach es X.env).length=n:=by rfl) (hst:(assignEach es X.env).findIdx? (·.1)=none:=by rfl) (hK:X.K=K:=by rfl):PG X (.Tuple es k pos) (gTup K n t):=by subst hK;exact xQw hc h hn hst
theorem qMd (pa:PlainAttrs T)(slot:Slot T name id)(hty:typeOf (.builtin id)=pure (.type "method_descriptor"))(hm:MtR X id r)(ho:PE X o to)
  (hbase:attributeBase o name X.env (eval o X.env)=eval o X.env:=by rfl) (hline:(apos.endLine == cpos.line)=true:=by rfl) (hK:X.K=K:=by rfl):PE X (.Call (.Attribute o name apos) [] [] cpos) (tBM0 K T r to):=by
 subst hK;exact xVj pa slot hty hm ho hbase hline
theorem yN (pa:PlainAttrs T)(slot:Slot T name id)(hty:typeOf (.builtin id)=pure (.type "method_descriptor"))(hm:MtR X id r)(ho:PE X o to)(ha:PA X (e::es) t)
  (hbase:attributeBase o name X.env (eval o X.env)=eval o X.env:=by rfl)
  (hfew:((backTo cpos (starEach (e::es) X.env)).all (fun x=>!x.1) && (backToKw cpos (keywordEach [] X.env)).all (fun x=>x.1.isSome)
   && decide ((e::es).length+([]:List Keyword).length+(if ([]:List Keyword).isEmpty then 0 else 1)<30))=true:=by rfl)
  (hline:(apos.endLine == cpos.line)=true:=by rfl) (hs:starEach (e::es) X.env=(false,eval e X.env)::starEach es X.env:=by rfl) (hplain:(backTo cpos (starEach es X.env)).any (·.1)=false:=by rfl) (hK:X.K=K:=by rfl):
  PE X (.Call (.Attribute o name apos) (e::es) [] cpos) (tBM K T r to t):=by
 subst hK;exact xAm pa slot hty hm ho ha hbase hfew hline hs hplain
end
structure Dn (P:Program)(w:World)(K:yZP)(mg:Str->Option Value)(base:Heap)(x:Str)(k:Nat)(ps:List Str)(sp:Sp):Prop where
 ex:∃f fd,FnOk P w K mg base CX0 k f fd ps sp/\mg x=some (.ref f)/\PySem.W.keepIn K (.ref f)=true/\Binds K fd ps []
section
variable {X:Cx}{P:Program}{w:World}{K:yZP}{mg:Str->Option Value}{base:Heap}{j k:Nat}{ps:List Str}{sp:Sp}{x:Str}{p pos:Pos}{e:Expr}{es:List Expr}{t:TA}
theorem qD (D:Dn P w K mg base x j ps sp)(hr:Room k X.A)(ha:PA X (e::es) t)(hjk:j<=k:=by first | decide | omega)(hg:Gl X x:=by rfl)
  (h1:X.prog=P:=by rfl) (h2:X.w=w:=by rfl) (h3:X.K=K:=by rfl) (h4:X.mg=mg:=by rfl) (h5:X.base=base:=by rfl)
  (hdb:(x == ("__debug__" : Str))=false:=by decide) (he:starEach (e::es) X.env=(false,eval e X.env)::starEach es X.env:=by rfl) (hpl:(backTo pos (starEach es X.env)).any (·.1)=false:=by rfl):
  PE X (.Call (.Name x p) (e::es) [] pos) (tCall sp [] E0 t):=by
 subst h1 h2 h3 h4 h5
 obtain⟨f,fd,F,a,b,c⟩:=D.ex
 exact qXh (F.mono hjk) hr hg a b c .nil pass0 ha hdb he hpl
end
def kidsE:Expr->List Expr
 | .BoolOp _ vs _=>vs
 | .BinOp l _ r _=>[l,r]
 | .UnaryOp _ a _=>[a]
 | .IfExp a b c _=>[a,b,c]
 | .ListComp e gs _ _=>e::gs.flatMap fun g=>g.iter::g.ifs
 | .Compare l _ cs _=>l::cs
 | .Call f as _ _=>f::as
 | .Attribute v _ _=>[v]
 | .Subscript a b _=>[a,b]
 | .List es _=>es
 | .Tuple es _ _=>es
 | .Slice a b c _=>a.toList++b.toList++c.toList
 | _=>[]
def downE (e:Expr):List Nat->Expr
 | []=>e
 | i::p=>downE ((kidsE e).getD i (.Constant .none 0 ⟨0,0,0,0⟩)) p
def exprS:Stmt->Expr
 | .Assign _ v _=>v
 | .Return (some v) _=>v
 | .Expr v _=>v
 | .If t _ _ _=>t
 | .While t _ _ _=>t
 | .For _ it _ _ _=>it
 | _=>.Constant .none 0 ⟨0,0,0,0⟩
def blockS:Stmt->List Stmt
 | .If _ a b _=>a++b
 | .For _ _ b _ _=>b
 | .While _ b _ _=>b
 | _=>[]
def stmtAt (body:List Stmt):List Nat->Stmt
 | []=>.Pass ⟨0,0,0,0⟩
 | [i]=>body.getD i (.Pass ⟨0,0,0,0⟩)
 | i::j::p=>stmtAt (blockS (body.getD i (.Pass ⟨0,0,0,0⟩))) (j::p)
abbrev scAt (body:List Stmt)(p q:List Nat):Scope:=qId (downE (exprS (stmtAt body p)) q)
def tCut (t u:TS):TS:=fun D σ H=>∃Pv:St->Hp->Prop,t { D with nx:=Pv } σ H/\∀σ' H',Pv σ' H'->u D σ' H'
theorem qK {X:Cx}{st:Stmt}{rest:List Stmt}{t u:TS}(h1:PS X st t)(h2:PSs X rest u):PSs X (st::rest) (tCut t u):=by
 intro zz s σ H D I h
 obtain⟨Pv,q1,q2⟩:=h
 refine wpAny_execs_cons (thn (h1 zz s σ H { D with nx:=Pv } I q1) fun f s1 q=>?_)
 cases f with
 | next=>
  obtain⟨σ',H',I',q⟩:=q
  exact h2 zz s1 σ' H' D I' (q2 σ' H' q)
 | ret v=>exact q
 | brk=>exact q
 | cont=>exact q
section
variable {σ:St}{H:Hp}{Q:VK}{R:Bool->Hp->Prop}{S:St->Hp->Prop}{L:List V->Hp->Prop}{O:Option Int->Hp->Prop}{D:Ends}{ta tb tc:TE}{t u:TT}{a b:TS}{x y v:V}{i j:Int}{c:Bool}{K:yZP}
theorem w_var {k:Nat}(h:σ[k]? = some (some v))(q:Q v H):tVar k σ H Q:=⟨v,h,q⟩
theorem w_c (q:Q v H):tC v σ H Q:=q
theorem w_op {r:R2}(q:ta σ H fun x H1=>tb σ H1 fun y H2=>r x y H2 Q):tOp r ta tb σ H Q:=q
theorem w_I0 {g:Int->Int->V}(q:Q (g i j) H):rI0 g (.int i) (.int j) H Q:=⟨i,j,rfl,rfl,q⟩
theorem w_I {C:Int->Int->Prop}{g:Int->Int->V}(h:C i j)(q:Q (g i j) H):rI C g (.int i) (.int j) H Q:=⟨i,j,rfl,rfl,h,q⟩
theorem w_eq (h:scal x y=true)(q:Q (.bl (decide (x=y))) H):rEq x y H Q:=⟨h,q⟩
theorem w_ne (h:scal x y=true)(q:Q (.bl (!decide (x=y))) H):rNe x y H Q:=⟨h,q⟩
theorem xAc {p:Addr}{xs:List V}(h:SqL K H p xs)(e:atI xs i=some v)(q:Q v H):rIxL K (.ref p) (.int i) H Q:=⟨p,xs,i,v,rfl,rfl,h,e,q⟩
theorem xAb {p:Addr}{xs:List V}(h:SqT K H p xs)(e:atI xs i=some v)(q:Q v H):rIxT K (.ref p) (.int i) H Q:=⟨p,xs,i,v,rfl,rfl,h,e,q⟩
theorem xYd (q:ta σ H fun x H'=>∃k,x=.bl k/\R k H'):tTest ta σ H R:=q
theorem w_B (q:ta σ H fun x H'=>∃k,x=.bl k/\R k H'):tB ta σ H R:=q
theorem w_bl {F:Bool->Prop}(q:F c):∃k,V.bl c=.bl k/\F k:=⟨c,rfl,q⟩
theorem w_not (q:t σ H fun c H1=>R (!c) H1):tNot t σ H R:=q
theorem w_and (q:t σ H fun c H1=>if c=true then u σ H1 R else R false H1):tAnd t u σ H R:=q
theorem w_or (q:t σ H fun c H1=>if c=true then R true H1 else u σ H1 R):tOr t u σ H R:=q
theorem xKa (q:ta σ H fun x H1=>∃c,x=.bl c/\if c=true then tb σ H1 Q else Q (.bl false) H1):tAndV ta tb σ H Q:=q
theorem xYg (q:ta σ H fun x H1=>∃c,x=.bl c/\Q (.bl (!c)) H1):tNotV ta σ H Q:=q
theorem w_if (q:t σ H fun c H1=>if c=true then ta σ H1 Q else tb σ H1 Q):tIf t ta tb σ H Q:=q
theorem xYh (q:D.nx σ H):tNext D σ H:=q
theorem xAk (q:a { D with nx:=b D } σ H):tSeq a b D σ H:=q
theorem xKz (q:ta σ H fun _ H1=>D.nx σ H1):tDrop ta D σ H:=q
theorem xAv (q:ta σ H D.rt):tRet ta D σ H:=q
theorem xAd (q:t σ H fun c H1=>if c=true then a D σ H1 else b D σ H1):tIfS t a b D σ H:=q
theorem xAh {g:TG}(q:ta σ H fun x H1=>g x σ H1 D.nx):tAsg ta g D σ H:=q
theorem xYi {k:Nat}(q:S (σ.set k (some v)) H):gName k v σ H S:=q
theorem xYn (q:S σ H):gNil [] σ H S:=⟨rfl,q⟩
theorem xXc {g:TG}{gs:TGs}{vs:List V}(q:g v σ H fun σ' H'=>gs vs σ' H' S):gCons g gs (v::vs) σ H S:=⟨v,vs,rfl,q⟩
theorem xYm {n:Nat}{gs:TGs}{p:Addr}{xs:List V}(h:SqT K H p xs)(e:xs.length=n)(q:gs xs σ H S):gTup K n gs (.ref p) σ H S:=⟨p,xs,rfl,h,e,q⟩
theorem xAw (q:L [] H):tNil σ H L:=q
theorem xKv {ts:TA}(q:ta σ H fun x H1=>ts σ H1 fun xs H2=>L (x::xs) H2):tCons ta ts σ H L:=q
theorem xAj {ts:TA}(q:ts σ H fun xs H1=>xs.length<=sizeLine/\∀p,H1 p=none->Q (.ref p) (upd H1 p (.tup xs))):tTup ts σ H Q:=q
theorem xAa {ts:TA}(q:ts σ H fun xs H1=>xs.length<=sizeLine/\∀p,H1 p=none->Q (.ref p) (upd H1 p (.lst xs))):tLst ts σ H Q:=q
theorem xKw {sp:Sp}{dvs:List V}{E:XK}{ts:TA}(q:ts σ H fun vs H1=>sp (vs++dvs) H1 Q E):tCall sp dvs E ts σ H Q:=q
theorem w_cb {r:List V->Hp->VK->Prop}{ts:TA}(q:ts σ H fun vs H1=>r vs H1 Q):tCB r ts σ H Q:=q
theorem xAg {T:String}{r:V->List V->Hp->VK->Prop}(q:ta σ H fun x H1=>tyV K T x H1/\r x [] H1 Q):tBM0 K T r ta σ H Q:=q
theorem w_bm {T:String}{r:V->List V->Hp->VK->Prop}{ts:TA}(q:ta σ H fun x H1=>tyV K T x H1/\ts σ H1 fun xs H2=>r x xs H2 Q):tBM K T r ta ts σ H Q:=q
theorem qVx {p:Addr}{xs:List V}{A:Prop}(h:SqL K H p xs)(q:A):tyV K "list" (.ref p) H/\A:=⟨.inl ⟨rfl,xs,h⟩,q⟩
theorem qRw (q:O none H):qHo σ H O:=q
theorem xYf (q:ta σ H fun x H1=>∃i,x=.int i/\O (some i) H1):tPart ta σ H O:=q
theorem xAf {F:Int->Prop}(q:F i):∃k,V.int i=.int k/\F k:=⟨i,rfl,q⟩
theorem w_sl {r:V->Option Int->Option Int->Hp->VK->Prop}{tl th:TO}(q:ta σ H fun x H1=>tl σ H1 fun l H2=>th σ H2 fun u H3=>r x l u H3 Q):tSl r ta tl th σ H Q:=q
theorem w_len {p:Addr}{xs:List V}(h:SqL K H p xs\/SqT K H p xs)(q:Q (.int xs.length) H):rLen K [.ref p] H Q:=⟨p,xs,rfl,h,q⟩
theorem xKk {td ty:TE}(q:td σ H fun x H1=>ty σ H1 fun y H2=>∃a v,x=.ref a/\DGet H2 a y (some v)/\Q v H2):tDGet td ty σ H Q:=q
theorem xKj {td ty tv:TE}(q:tv σ H fun v H1=>td σ H1 fun x H2=>ty σ H2 fun y H3=>∃a H4,x=.ref a/\DPut H3 a y v H4/\D.nx σ H4):sDPut td ty tv D σ H:=q
theorem qRc {p:Addr}{xs:List V}(h:H p=some (.lst xs))(e:xs.length<sizeLine)(q:Q .non (upd H p (.lst (xs++[y])))):qIi (.ref p) [y] H Q:=⟨p,xs,y,rfl,rfl,h,e,q⟩
theorem xXb {W:It->Hp->Prop}(q:ta σ H fun x H1=>∃a,x=.ref a/\(∃xs,SqL K H1 a xs)/\W (Itl K a) H1):iList K ta σ H W:=q
theorem xYe {W:It->Hp->Prop}{ts:TA}(q:ts σ H fun vs H1=>∃j:Int,vs=[.int j]/\-(2 ^ 62)<=j/\j<2 ^ 62/\W (Itr 0 j.toNat) H1):iRng1 ts σ H W:=q
theorem xYo {p:Addr}{xs:List V}{F:Addr->Prop}(h:SqL K H p xs)(q:F p):∃a,V.ref p=.ref a/\(∃xs,SqL K H a xs)/\F a:=⟨p,rfl,⟨xs,h⟩,q⟩
theorem xKq {F:Int->Prop}(h1 : -(2 ^ 62)<=i)(h2:i<2 ^ 62)(q:F i):∃j:Int,[V.int i]=[.int j]/\-(2 ^ 62)<=j/\j<2 ^ 62/\F j:=⟨i,rfl,h1,h2,q⟩
theorem xYc {A B:Prop}(h:c=true)(q:A):if c=true then A else B:=by rw[if_pos h];exact q
theorem kI {A B:Prop}(h:c=false)(q:B):if c=true then A else B:=by rw[h];exact iteF q
def forK (g:TG)(tb:TS)(D:Ends)(σ:St):It->Hp->Prop:=fun J H1=>∃W:Nat->Nat->St->Hp->Prop,(∃m,W 0 m σ H1)/\∀i m σ H,W i m σ H->
 (J.stop i H/\D.nx σ H)\/(J.go i H/\∃N:St->Hp->Prop,(∀σ' H',N σ' H'->∃m',m'<m/\W (i+1) m' σ' H')/\∀x H',J.yld i H x H'->g x σ H' fun σ2 H2=>tb { D with nx:=N,ct:=N,bk:=D.nx } σ2 H2)
theorem xAe {wi:TI}{g:TG}(q:wi σ H (forK g a D σ)):tFor wi g a D σ H:=q
theorem xQx {k:Nat}{js:List Nat}{wi:TI}{g:TG}(q:wi σ H fun J H1=>rdC k js g t ta J σ H1 Q):tComp k js wi g t ta σ H Q:=q
theorem iteNT {A B:Prop}(q:B):if (!true)=true then A else B:=iteF q
theorem iteNF {A B:Prop}(q:A):if (!false)=true then A else B:=iteT q
theorem xVo {T:String}:PySem.W.kitOne K (.type T) (.type T)=some true:=by simp[PySem.W.kitOne]
end
structure Fd (K:yZP)(mg:Str->Option Value)(x:Str)(st:Stmt)(ps:List Str):Prop where
 ex:∃f fd,Fun K x x st f fd/\mg x=some (.ref f)/\PySem.W.keepIn K (.ref f)=true/\Binds K fd ps []
section
variable {P:Program}{w:World}{K:yZP}{mg:Str->Option Value}{base:Heap}{x:Str}{st:Stmt}{k:Nat}{N ps:List Str}{sp:Sp}
theorem Fd.ok (F:Fd K mg x st ps)(S:xH N ps (xB st))(len:∀vs H Q E,sp vs H Q E->vs.length=ps.length)
  (hbody:∀(f:Addr) (zy:Value) (A:Around) (outer:List Env) (s:Shared) (H:Hp) (vs:List V) (Q:VK) (E:XK),Room k (A.deeper (envOfC x (xB st) s.heap.objs.size f zy))->sp vs H Q E->
   ∃t,PSs (cxOf CX0 P w K mg base N x (xB st) f zy A outer s H E).nox (xC st) t/\t { nx:=fun _ H'=>Q .non H',rt:=Q } (start N vs) H):Dn P w K mg base x (k+1) ps sp:=
 let ⟨f,fd,F,a,b,c⟩:=F.ex
 ⟨f,fd,F.ok S len (hbody f),a,b,c⟩
theorem Fd.never (F:Fd K mg x st ps)(no:∀vs H Q E,¬sp vs H Q E):Dn P w K mg base x k ps sp:=
 let ⟨f,fd,F,a,b,c⟩:=F.ex
 ⟨f,fd,⟨fun vs H Q E h=>absurd h (no vs H Q E),fun A outer s H args us vs Q E _ _ _ _ h=>absurd h (no vs H Q E)⟩,a,b,c⟩
end
end L2
namespace PySem
section
variable {prog:Program}{w:World}{κ:Type}[DecidableEq κ]{knd:KeyKind prog w κ}
theorem qDl {h:Heap}{a:Addr}{S S':κ->Bool}{n n':Nat}(x:h.SetOf knd a S n)(e:∀k,S k=S' k)(en:n=n'):h.SetOf knd a S' n':=by
 obtain rfl:S=S':=funext e
 subst en
 exact x
def metBy (key:Nat->κ)(i:Nat)(x:κ):Bool:=(List.range i).any fun j=>decide (key j=x)
theorem qFf (key:Nat->κ)(i:Nat)(x:κ):metBy key (i+1) x=(metBy key i x || decide (x=key i)):=by
 unfold metBy
 rw[List.range_succ,List.any_append]
 congr 1
 simp only[List.any_cons,List.any_nil,Bool.or_false]
 exact decide_eq_decide.mpr ⟨Eq.symm,Eq.symm⟩
theorem qNz {key:Nat->κ}{n i:Nat}(hd:∀a b,a<n->b<n->key a=key b->a=b)(hi:i<n):metBy key i (key i)=false:=by
 unfold metBy
 refine Bool.eq_false_iff.mpr fun z=>?_
 obtain⟨j,hj,e⟩:=List.any_eq_true.mp z
 have hj':=List.mem_range.mp hj
 have:=hd j i (by omega) hi (of_decide_eq_true e)
 omega
variable {A:Around}{R:Result->Shared->Prop}{I:Addr}{fp wr:List Addr}{G:Array GenState->Array GenState->Prop}{n:Nat}{P:Nat->Value->Prop}{St:Nat->Shared->Prop}
theorem qRl (W:WalksS prog w A.in1 I fp wr G n P St)(T:Addr)(hT:T∉fp)(key:Nat->κ)(hkey:∀i v,P i v->knd.is (key i) v=true/\v.scannable=true)(hd:∀a b,a<n->b<n->key a=key b->a=b)(hb:n+1<scanBound):
  ∀(k i:Nat) (s:Shared),n - i=k->i<=n->St i s->s.heap.SetOf knd T (metBy key i) i->(∀s',Moved (T::wr) G s s'->s'.heap.SetOf knd T (metBy key n) n->R (.ok (.ret .none)) s')->
   codeAny (model prog w) A (.builtin "set.update.loop" ⟨[.ref T,.ref I],[]⟩) R s:=by
 have hTw:T∉wr:=fun z=>hT (W.sub _ z)
 have up:∀b∈wr,b∈T::wr:=fun b z=>yYH _ z
 have carry:∀{s s':Shared} {S:κ->Bool} {m:Nat},Moved wr G s s'->s.heap.SetOf knd T S m->s'.heap.SetOf knd T S m:=fun mv ⟨o,es,ep,t,e,r⟩=>⟨o,es,ep,t,mv.heap T _ hTw e,r⟩
 intro k
 induction k with
 | zero=>
  intro i s hk hi st hS hR
  obtain rfl:i=n:=by omega
  refine codeAny_builtin PyProof.Rows.F.entry_set_update_loop ?_
  rw[Around.under_plainId PyProof.Rows.F.plain_set_update_loop _]
  refine yYX (m:=pyNext (.ref I)) (W.done s _ _ st fun s' mv=>?_)
  exact yYY (hR s' (mv.mono up) (carry mv hS))
 | succ k ih=>
  intro i s hk hi st hS hR
  have lt:i<n:=by omega
  refine codeAny_builtin PyProof.Rows.F.entry_set_update_loop ?_
  rw[Around.under_plainId PyProof.Rows.F.plain_set_update_loop _]
  refine yYX (m:=pyNext (.ref I)) (W.item i s _ _ lt st fun v s' hP st' mv=>?_)
  obtain⟨hv,sc⟩:=hkey i v hP
  have hS1:=carry mv hS
  refine yYX (m:=holding [v] (setAdd T v)) (wpAny_holding ?_)
  unfold setAdd
  refine wpAny_holding (yYX (knd.pyHash (k:=key i) hv ?_))
  refine wpAny_setAddHashed_of (knd:=knd) (s:={ s' with toks:=s'.toks+1 }) hv sc hS1 (by omega) fun h' sb hS2=>?_
  have hS3:h'.SetOf knd T (metBy key (i+1)) (i+1):=by
   refine qDl hS2 (fun x=>(qFf key i x).symm) ?_
   rw[qNz hd lt]
   rfl
  refine yYY ⟨plainId_quiet PyProof.Rows.F.plain_set_update_loop _,ih (i+1) _ (by omega) lt (W.frame _ s' _ _ st' (Nat.le_succ _) fun b hb' o e=>?_) hS3 fun s'' mv2 hS4=>?_⟩
  .rw[sb.2 b (fun z=>hT (z▸hb'))];exact e
  .refine hR s'' (Moved.trans W.gtrans ((mv.mono up).then_heap (Nat.le_succ _) fun b o hb' e=>?_) mv2) hS4
   rw[sb.2 b (fun z=>hb' (z▸yYG))];exact e
end
section
variable {prog:Program}{w:World}{κ:Type}[DecidableEq κ]{knd:KeyKind prog w κ}{A:Around}{E:Value->Shared->Prop}{s:Shared}
abbrev setObj (led:Bool):Obj:={ cls:=.type "set",dict:=none,data:=.set #[] 0 (.fresh 0 0 led) }
theorem qKe {l:Addr}{items:Array Value}{key:Nat->κ}{Q:Value->Shared->Prop}(hh:A.handled=none)(hl:s.heap.IsList l items)(hkey:∀(i:Nat) v,items[i]? = some v->knd.is (key i) v=true/\v.scannable=true)
  (hd:∀a b,a<items.size->b<items.size->key a=key b->a=b) (hb:items.size+1<scanBound)
  (fin:∀(h':Heap) (tk:Nat),h'.SetOf knd s.heap.objs.size (metBy key items.size) items.size->(∀b o,s.heap.get? b=some o->h'.get? b=some o)->Q (.ref s.heap.objs.size) { s with heap:=h',toks:=tk }):
  wpAny (model prog w) A (call (.type "set") [.ref l]) Q E s:=by
 obtain⟨c0,tl0,m0⟩:=F.called_set.mro
 have m1:=F.called_set.made
 have m2:=F.called_set.sub
 refine wpAny_call (codeAny_of_tree ?_)
 show wpAny _ _ (callAny (.type "set") _) _ _ _
 refine yYY ⟨Code.quiet_builtin _ (by wtm_at"d"),codeAny_builtin F.entry_type_call ?_⟩
 rw[Around.under_plain (weight_type_call_type "set" [.ref l] []) rfl]
 have m3:=F.called_set.notType
 have m4:=F.called_set.canCreate
 have m5:=F.typeCall_set_1 (.ref l)
 repeat (any_goals (first | assumption | wp_step))
 refine codeAny_mono (code_set_new_1 (.ref l) (E:=E) (Q₁:=fun obj s₁=>∃led:Bool,obj=.ref s.heap.objs.size/\s₁={ s with heap:=s.heap.push (setObj led) }) fun led=>⟨led,rfl,rfl⟩) fun r s₁ hr=>?_
 cases r with
 | error e=>exact hr
 | ok fl=>
 cases fl with
 | ret obj=>
  obtain⟨led,rfl,rfl⟩:=hr
  have at0:(s.heap.push (setObj led)).get? s.heap.objs.size=some (setObj led):=yZB _ rfl
  have ty0:Shared.TypeIs { s with heap:=s.heap.push (setObj led) } (.ref s.heap.objs.size) "set" := ⟨_,at0,rfl⟩
  have m6:=F.called_set.init.lookup
  have m7:=F.called_set.init.bind (.ref s.heap.objs.size)
  repeat (any_goals (first | assumption | wp_step))
  refine codeAny_mono (codeAny_call_builtin (R:=wants (fun r s₂=>r=.none/\∃h' tk,s₂={ s with heap:=h',toks:=tk }/\h'.SetOf knd s.heap.objs.size (metBy key items.size) items.size/\(∀b o,s.heap.get? b=some o->h'.get? b=some o)) E)
   F.called_set.init.plain F.entry_set_init (check_set_init_1 ty0 ?_)) fun r₂ s₂ hr₂=>?_
  .obtain⟨⟨oc,od,oda,osl⟩,g,kc,nl,kd⟩:=hl
   simp only at kc kd
   subst kc kd
   have g1:(s.heap.push (setObj led)).get? l=some { cls:=.type "list",dict:=od,data:=.seq items nl,slots:=osl }:=yYZ _ g
   have n1:=F.sub_list_set
   have n2:=F.sub_list_frozenset
   have n3:(Value.type "list" == Value.type "dict")=false:=by decide
   have l1:(s.heap.push (setObj led)).IsList l items:=⟨_,g1,rfl,nl,rfl⟩
   unfold Builtin.«set.__init__» noKeywords Builtin.Frozenset.updateFrom
   generalize hPI:pyIter=PI
   wp_walk
   subst hPI
   refine wpAny_pyIter_list l1 (yYX (wpAny_runValue ?_))
   have lt:l<s.heap.objs.size:=yZA g
   have sz:(s.heap.push (setObj led)).objs.size=s.heap.objs.size+1:=yZC _ _
   have ne1:l≠(s.heap.push (setObj led)).objs.size:=by rw[sz];exact yZF (Nat.lt_succ_of_lt lt)
   have out:s.heap.objs.size∉[(s.heap.push (setObj led)).objs.size,l]:=by
    rw[sz]
    intro z
    simp only[yYK,List.not_mem_nil,or_false] at z
    rcases z with z | z
    .exact absurd z (yZF (Nat.lt_succ_self _))
    .exact absurd z (yZH lt)
   refine qRl ((Walks.list (by simp[hh]) _ l ne1 items).toS) s.heap.objs.size out key hkey hd hb (items.size - 0) 0 _ (by omega) (yZG _) ⟨⟨_,yZB _ rfl,rfl,rfl⟩,(l1.push _)⟩ ?start ?done
   case start=>
    refine qDl ((PyProof.Rows.setObjOf_fresh (knd:=knd) led).setOf (yYZ _ at0) (by unfold scanBound;omega)) (fun _=>rfl) rfl
   case done=>
    intro s' mv hS'
    obtain⟨h',g',d',tk',os'⟩:=s'
    obtain rfl:g'=s.gens:=mv.gens
    obtain rfl:d'=s.drawn:=mv.drawn
    obtain rfl:os'=s.os:=mv.os
    refine yYY ?_
    refine yYY ⟨rfl,h',tk',rfl,hS',fun b o e=>?_⟩
    have lb:=yZA e
    refine mv.heap b o (fun z=>?_) (yYZ _ (yYZ _ e))
    simp only[yYK,List.not_mem_nil,or_false] at z
    rcases z with z | z
    .exact absurd z (yZF lb)
    .exact absurd z (by rw[sz];exact yZF (Nat.lt_succ_of_lt lb))
  .cases r₂ with
   | error e=>exact hr₂
   | ok fl₂=>
   cases fl₂ with
   | ret r=>
    obtain⟨rfl,h',tk,rfl,hS',keep⟩:=hr₂
    repeat (any_goals (first | assumption | wp_step))
    exact fin _ _ hS' keep
   | _=>exact hr₂.elim
 | _=>exact hr.elim
end
end PySem
namespace L2
open PySem PySem.Spec PyProof.Rows
def rCatN (K:yZP):R2:=fun x y H Q=>∃a b xs ys,x=.ref a/\y=.ref b/\SqT K H a xs/\SqT K H b ys/\ys≠[]/\xs.length+ys.length<=sizeLine/\
 (xs=[]->Q (.ref b) H)/\(xs≠[]->∀p,H p=none->Q (.ref p) (upd H p (.tup (xs++ys))))
section
variable {X:Cx}{K:yZP}
theorem qEz (hK:X.K=K:=by rfl):OpR X (binaryOp .Add) (rCatN K):=by
 subst hK
 intro zz s σ H x y v u Q I rx ry h
 obtain⟨a,b,xs,ys,rfl,rfl,ha,hb,hy,hz,q0,q1⟩:=h
 by_cases hx:xs=[]
 .subst hx
  cases rx;cases ry
  obtain⟨i1,r1,⟨⟨c1,d1,t1,l1⟩,g1,k1,n1,e1⟩,_⟩:=I.tuple ha
  obtain⟨i2,r2,⟨⟨c2,d2,t2,l2⟩,g2,k2,n2,e2⟩,_⟩:=I.tuple hb
  cases r1
  simp only at k1 e1 k2 e2
  subst k1 e1 k2 e2
  exact concat_meets ⟨_,g1,rfl⟩ ⟨_,g2,rfl⟩ noFill_tuple_add seq_tuple_add PySem.F.slot_tuple_add PySem.F.entry_tuple_add (PySem.F.args_tuple_add_2 _ _) (tuple_addW0 a b _ _ n1 n2 d1 d2 l1 l2 (by simp)) ⟨g1,g2,⟨.ref b,H,I,rfl,q0 rfl⟩⟩
 .exact xZn zz s σ H _ _ v u Q I rx ry ⟨a,b,xs,ys,rfl,rfl,ha,hb,hx,hz,fun z=>absurd z hy,fun _=>q1 hx⟩
end
def SetN (P:Program)(w:World)(a:Addr)(n:Nat):HO:=.ext fun h=>∃S,h.SetOf (xR P w) a S n
def rSetOf (P:Program)(w:World)(K:yZP):List V->Hp->VK->Prop:=fun xs H Q=>∃(l:Addr) (ws:List Str),xs=[.ref l]/\SqL K H l (ws.map V.str)/\ws.Nodup/\ws.length<=1000/\∀p,H p=none->Q (.ref p) (upd H p (SetN P w p ws.length))
def rLenS (P:Program)(w:World):List V->Hp->VK->Prop:=fun xs H Q=>∃p n,xs=[.ref p]/\H p=some (SetN P w p n)/\n<=1000/\Q (.int n) H
theorem xXj:bootBuiltins "set" = some (.type "set"):=by wtm_at"d"
theorem qPn:bootBuiltins "sorted" = some (.builtin "sorted"):=by wtm_at"d"
section
variable {X:Cx}{P:Program}{w:World}{K:yZP}
theorem qPg (hc:X.calm=true)(hP:X.prog=P:=by rfl)(hw:X.w=w:=by rfl)(hK:X.K=K:=by rfl):CallR X (.type "set") (rSetOf P w K):=by
 subst hK hP hw
 intro zz s σ H xs us Q I r h
 obtain⟨l,ws,rfl,hl,nd,hz,q⟩:=h
 obtain⟨u,rfl,ru⟩:=vals1 r
 cases ru
 obtain⟨its,r1,p1,_⟩:=I.list hl
 have len:=r1.length
 rw[yYC] at len
 have l1:its.toArray.size=ws.length:=by simp[len]
 have sc:scanBound=4096:=rfl
 refine qKe (knd:=xR X.prog X.w) (key:=fun i=>Sum.inr (ws.getD i "")) (I.ok.hd hc) p1.isList (fun i v e=>?_) (fun a b ha hb e=>?_) (by omega) fun h' tk hS keep=>?_
 .have hi:i<ws.length:=by
   have:=(Array.getElem?_eq_some_iff.mp e).1
   omega
  have e0:(ws.map V.str)[i]? = some (.str ws[i]):=by rw[yYO,yYA hi];rfl
  obtain⟨u,e1,q1⟩:=r1.get e0
  have:its.toArray[i]? = some u:=by simpa using e1
  rw[this] at e
  cases e
  obtain⟨t,rfl⟩:=q1
  have d:ws.getD i "" = ws[i]:=by rw[List.getD_eq_getElem?_getD,yYA hi];rfl
  rw[d]
  exact⟨kZ _ _ _ t,rfl⟩
 .have ha:a<ws.length:=by omega
  have hb:b<ws.length:=by omega
  have e':=Sum.inr.inj e
  rw[List.getD_eq_getElem?_getD,List.getD_eq_getElem?_getD,yYA ha,yYA hb] at e'
  exact(List.getElem_inj nd).mp e'
 .rw[l1] at hS
  refine⟨.ref s.heap.objs.size,_,I.laid (t':=tk) (o:=SetN X.prog X.w s.heap.objs.size ws.length) keep (yZD _) ⟨⟨_,hS⟩,?_,?_⟩,rfl,q _ (I.hok.fresh (yZD _))⟩
  .obtain⟨o,_,_,_,e,_⟩:=hS
   exact⟨o,e⟩
  .rintro h1 h2 ⟨S,o,es,ep,t,e,r⟩ k
   exact⟨S,o,es,ep,t,k o e,r⟩
theorem qPh (hP:X.prog=P:=by rfl)(hw:X.w=w:=by rfl):CallR X (.builtin "len") (rLenS P w):=by
 subst hP hw
 intro zz s σ H xs us Q I r h
 obtain⟨p,n,rfl,hp,hn,q⟩:=h
 obtain⟨u,rfl,ru⟩:=vals1 r
 cases ru
 obtain⟨⟨S,o,es,ep,t,e,ex,ed,_,_,_,ef,en⟩,_⟩:=I.hok p _ hp
 subst en
 exact call_len_set e ex ed ef (by omega) ⟨.int _,H,I.tok _,⟨_,rfl⟩,q⟩
end
structure Gi (mg:Str->Option Value)(x:Str)(i:Int):Prop where
 ex:∃t,mg x=some (.int i t)
structure Gs (K:yZP)(mg:Str->Option Value)(x:Str)(ws:List Str):Prop where
 ex:∃p,mg x=some (.ref p)/\∀H,SqT K H p (ws.map V.str)
section
variable {X:Cx}{mg:Str->Option Value}{K:yZP}{x:Str}{i:Int}{ws:List Str}{pos:Pos}
theorem xZf (g:Gi mg x i)(hg:Gl X x:=by rfl)(hm:X.mg=mg:=by rfl)(hd:(x == ("__debug__" : Str))=false:=by decide):PE X (.Name x pos) (tC (.int i)):=by
 subst hm
 obtain⟨t,e⟩:=g.ex
 exact qBj hg e ⟨t,rfl⟩ hd
def tGs (K:yZP)(ws:List Str):TE:=fun _ H Q=>∀p,SqT K H p (ws.map V.str)->Q (.ref p) H
theorem xAl (g:Gs K mg x ws)(hg:Gl X x:=by rfl)(hm:X.mg=mg:=by rfl)(hd:(x == ("__debug__" : Str))=false:=by decide):PE X (.Name x pos) (tGs K ws):=by
 subst hm
 obtain⟨p,e,sq⟩:=g.ex
 intro zz s σ H Q I h
 exact qBj (v:=.ref p) hg e rfl hd zz s σ H Q I (h p (sq H))
end
end L2
namespace L2
open PySem PySem.Spec PyProof.Rows
def qIh:List V->Hp->VK->Prop:=fun xs H Q=>∃(d:Addr) (kvs:List (Key×V)),xs=[.ref d]/\H d=some (.dK kvs)/\∀p,H p=none->Q (.ref p) (upd H p (.dK kvs))
section
variable {X:Cx}{K:yZP}
theorem yF:CallR X (.type "dict") qIh:=by
 intro zz s σ H xs us Q I r h
 obtain⟨d,kvs,rfl,hd,q⟩:=h
 obtain⟨u,rfl,ru⟩:=vals1 r
 cases ru
 exact qUh I (.inl hd) fun p s' hp I'=>⟨.ref p,_,I',rfl,q p hp⟩
end
section
variable {α:Type}
theorem qBf {x:Str}:∀{l:List (Str×α)},x∉l.map (·.1)->l.lookup x=none
 | [],_=>rfl
 | (n,v)::l,h=>by
  have h1:x≠n:=fun z=>h (z▸yYG)
  rw[yY _ _ (by simpa using h1)]
  exact qBf fun z=>h (yYH _ z)
theorem qZz {x:Str}{v:α}:∀{l:List (Str×α)} {i:Nat},(l.map (·.1)).Nodup->l[i]? = some (x,v)->l.lookup x=some v
 | (n,u)::l,0,_,e=>by
  cases e
  exact yO _ _ _
 | (n,u)::l,i+1,nd,e=>by
  have e:l[i]? = some (x,v):=e
  have nd':=List.nodup_cons.mp nd
  have h1:x≠n:=fun z=>nd'.1 (z▸yYP.mpr ⟨_,yYE e,rfl⟩)
  rw[yY _ _ (by simpa using h1)]
  exact qZz nd'.2 e
end
theorem wW {x:Str}:∀(kvs:List (Str×V)) (acc:List (Key×V)),(kvs.map (·.1)).Nodup->valV (mergeK acc (pairK kvs)) (Sum.inr x)=(match kvs.lookup x with | some v=>some v | none=>valV acc (Sum.inr x))
 | [],acc,_=>rfl
 | (n,v)::kvs,acc,nd=>by
  have nd':=List.nodup_cons.mp nd
  show valV (mergeK (putK acc (Sum.inr n) v) (pairK kvs)) (Sum.inr x)=_
  rw[wW kvs _ nd'.2]
  by_cases e:x=n
  .subst e
   rw[qBf nd'.1,yO]
   show valV (putK acc (Sum.inr x) v) (Sum.inr x)=some v
   rw[vJ,if_pos rfl]
  .rw[yY v kvs (by simpa using e)]
   cases kvs.lookup x with
   | some u=>rfl
   | none=>
    show valV (putK acc (Sum.inr n) v) (Sum.inr x)=valV acc (Sum.inr x)
    rw[vJ,if_neg (fun z=>e (Sum.inr.inj z))]
end L2
namespace L2
open PySem PySem.Spec PyProof.Rows
def Ite (K:yZP)(a:Addr):It:=
 ⟨fun i H=>∃xs x,SqL K H a xs/\xs[i]? = some x,
   fun i H x H'=>∃T vx,x=.ref T/\H T=none/\H'=upd H T (.tup [.int (i:Int),vx])/\∀xs,SqL K H a xs->xs[i]? = some vx,
   fun i H=>∃xs,SqL K H a xs/\xs.length<=i⟩
theorem qHl {P:Program}{w:World}{K:yZP}{es:List Expr}{kk:Nat}{tp:Pos}(a e it:Addr)(nei:e≠it):
  Turn P w K (.Tuple es kk tp) (Ite K a) [e,it] e (fun i h=>(∃old,IsEnum h e it ((i:Nat):Int) old)/\h.IsListIter it a i) where
 mem:=by simp
 obj:=fun i h S b hb=>by
  obtain⟨⟨old,he⟩,o,ho,hc,hd⟩:=S
  simp only[yYK,List.not_mem_nil,or_false] at hb
  rcases hb with rfl | rfl
  .exact⟨_,he,fun v q=>by cases(show Data.fields _=Data.cell v from q)⟩
  .exact⟨o,ho,fun v q=>by rw[hd] at q;cases q⟩
 keep:=fun i h h' S k=>by
  obtain⟨⟨old,he⟩,hit⟩:=S
  exact⟨⟨old,k e (by simp) _ he⟩,hit.at fun o q=>k it (by simp) o q⟩
 item:=by
  intro X hP hw hK hc i zz s σ H E I hf S hg
  subst hP hw hK
  obtain⟨⟨old,he⟩,hit⟩:=S
  obtain⟨xs,x,hq,hx⟩:=hg
  obtain⟨its,rv,p,_⟩:=I.list hq
  obtain⟨u,hu,ru⟩:=rv.get hx
  have elt:e<s.heap.objs.size:=yZA he
  have ilt:it<s.heap.objs.size:=by obtain⟨o,ho,_⟩:=hit;exact yZA ho
  refine wpAny_pyNext_enum_item he hit p.isList (x:=u) (by simpa using hu) nei fun h' a1 a2 a3 a4 a5=>?_
  refine⟨.ref s.heap.objs.size,rfl,?_⟩
  refine wpAny_letOwnedTupleGo_enum (s:={ s with heap:=h',toks:=s.toks+1 }) a1 fun h'' he'' sb=>?_
  have k2:∀c o,c≠e->h'.get? c=some o->h''.get? c=some o:=fun c o c1 q=>sb.extBut _ _ c1 q
  have keep:∀c o,c∉[e,it]->s.heap.get? c=some o->h''.get? c=some o:=fun c o hcx q=>by
   simp only[yYK,List.not_mem_nil,or_false,not_or] at hcx
   exact k2 _ _ hcx.1 (a5 c o hcx.1 hcx.2 q)
  have hT'':=k2 _ _ (yZH elt) a3
  have fresh:H s.heap.objs.size=none:=I.hok.fresh (yZD _)
  have nfp:∀b o,H b=some o->b∉[e,it]:=fun b o q hb=>by
   have:=(hf b hb).1
   rw[q] at this;cases this
  have I1:Inv X zz σ (upd H s.heap.objs.size (.tup [.int (i:Int),x])) { s with heap:=h'',toks:=s.toks+1 }:=by
   refine I.step (h':=h'') (H':=upd H s.heap.objs.size (.tup [.int (i:Int),x])) (g':=s.gens) (d':=s.drawn) (t':=s.toks+1) (ch:=[e,it]) (fun b hb=>?_) (fun b o _ _ hc' q _=>keep b o hc' q) (fun b o _ _ hc' q _=>⟨o.slots,keep b o hc' q⟩) (fun b o hc' q n=>?_)
    (fun b o hc' q=>⟨o,keep b o hc' q⟩) (fun b zs q=>?_) (fun b o q' q=>?_) (fun b ps q=>⟨#[],?_⟩) (fun m hm=>?_) (fun b ob q=>?_) I.bare
   .obtain⟨f0,f1,f2,f3,f4,f5⟩:=hf b hb
    exact⟨f3,f1,f4,f5⟩
   .rw[qA (yZF (yZA q))];exact n
   .rw[qA (qB q fresh)];exact q
   .rw[qA (qB q fresh)];exact q
   .rw[qA (qB q fresh),q];simp
   .obtain⟨o,es',ep,ho,r⟩:=hm
    exact⟨o,es',ep,keep _ o (fun hb=>(hf _ hb).2.1 rfl) ho,r⟩
   .by_cases hb:b=s.heap.objs.size
    .subst hb
     rw[qW] at q
     cases q
     exact⟨by show 2<=sizeLine;decide,[.int (i:Int) s.toks,u],.cons ⟨_,rfl⟩ (.cons ru .nil),⟨_,hT'',rfl,0,rfl,rfl⟩⟩
    .rw[qA hb] at q
     refine(I.hok b ob q).stay (fun c o hc' q'=>keep c o ?_ q') (fun c q'=>by rw[qA (qB q' fresh)];exact q') fun c zs q'=>by rw[qA (qB q' fresh)];exact q'
     rcases hc' with rfl | hc'
     .exact nfp _ _ q
     .exact nfp _ _ hc'
  refine⟨.ref s.heap.objs.size,_,I1,rfl,⟨_,_,rfl,fresh,rfl,fun zs hz=>by rw[I.list_inj hz hq];exact hx⟩,⟨⟨u,by rw[Int.natCast_add];exact he''⟩,a2.at fun o q=>k2 _ _ (Ne.symm nei) q⟩,fun b hb=>?_⟩
  rw[qA ?_]
  .exact(hf b hb).1
  .simp only[yYK,List.not_mem_nil,or_false] at hb
   rcases hb with rfl | rfl
   .exact yZF elt
   .exact yZF ilt
 done:=by
  intro X hP hw hK hc i zz s σ H E I hf S hg
  subst hP hw hK
  obtain⟨⟨old,he⟩,hit⟩:=S
  obtain⟨xs,hq,hx⟩:=hg
  obtain⟨its,rv,p,_⟩:=I.list hq
  obtain⟨f0,f1,f2,f3,f4,f5⟩:=hf it (by simp)
  have hl:=rv.length
  exact wpAny_pyNext_enum_end (I.ok.hd hc) he hit p.isList (by simp;omega) fun h' eb=>⟨rfl,I.turned (t':=s.toks) (fun b o hb q=>eb b o hb q) f0 f1 f3 f4 f5⟩
 self:=fun _ _ _ _ _ S h=>by
  obtain⟨⟨old,he⟩,_⟩:=S
  exact wpAny_pyIter_enum he h
theorem qAk:bootBuiltins "enumerate" = some (.type "enumerate"):=by wtm_at"d"
theorem xWl:bootBuiltins "abs" = some (.builtin "abs"):=by wtm_at"d"
section
variable {X:Cx}{K:yZP}
def iEnum (K:yZP)(ta:TA):TI:=fun σ H R=>ta σ H fun vs H1=>∃l xs,vs=[.ref l]/\SqL K H1 l xs/\R (Ite K l) H1
theorem qSe {es:List Expr}{kk:Nat}{tp p pos:Pos}{a:Expr}{ta:TA}(hg:Gl X "enumerate")(hm:X.mg "enumerate" = none)(ha:PA X [a] ta)
  (hs:starEach [a] X.env=[(false,eval a X.env)]:=by rfl) (hK:X.K=K:=by rfl):PI X (.Tuple es kk tp) (.Call (.Name "enumerate" p) [a] [] pos) (iEnum K ta):=by
 subst hK
 intro zz s σ H R I h
 refine Call_ (qQv I hg hm qAk (PyProof.Rows.callWith_type1 (thn (ha pos zz s σ H _ I h) fun us s1 ⟨vs,H1,I1,r1,q1⟩=>?_) hs rfl))
 obtain⟨l,xs,rfl,hq,q⟩:=q1
 cases r1 with
 | cons r rr=>
  cases rr
  cases r
  obtain⟨its,r2,p2,_⟩:=I1.list hq
  refine call_enumerate_list p2.isList fun h' hE hI hsz hk=>?_
  have I2:Inv X zz σ H1 { s1 with heap:=h' }:=I1.kept (t':=s1.toks) hk
  refine wpAny_pyIter_enum (s:={ s1 with heap:=h' }) hE ?_
  refine⟨s1.heap.objs.size+1,[s1.heap.objs.size+1,s1.heap.objs.size],_,_,H1,rfl,I2,qHl l _ _ (Nat.succ_ne_self _),⟨⟨_,hE⟩,hI⟩,fun b hb=>?_,q⟩
  have hb':s1.heap.objs.size<=b:=by
   simp only[yYK,List.not_mem_nil,or_false] at hb
   rcases hb with rfl | rfl
   .exact Nat.le_succ _
   .exact yZD _
  exact I1.fpOk hb' (I1.hok.fresh hb')
end
theorem qTl {K:yZP}{a:Addr}{xs:List V}{g:TG}{tb:TS}{D:Ends}{σ:St}{H:Hp}(Pv:Nat->St->Hp->Prop)(h0:Pv 0 σ H)(hl:∀i σ H,i<=xs.length->Pv i σ H->SqL K H a xs)
  (hs:∀(N:St->Hp->Prop) (rt:VK) (bk:St->Hp->Prop) i x T σ H,xs[i]? = some x->H T=none->Pv i σ H->(∀σ H,Pv (i+1) σ H->N σ H)->g (.ref T) σ (upd H T (.tup [.int (i:Int),x])) fun σ2 H2=>tb ⟨N,rt,bk,N⟩ σ2 H2) (hd:∀σ H,Pv xs.length σ H->D.nx σ H):
  forK g tb D σ (Ite K a) H:=by
 refine⟨fun i m σ H=>m=xs.length - i/\i<=xs.length/\Pv i σ H,⟨xs.length,by simp,yZG _,h0⟩,?_⟩
 rintro i m σ H ⟨rfl,hi,p⟩
 have q1:=hl i σ H hi p
 by_cases hlt:i<xs.length
 .refine .inr ⟨⟨xs,xs[i],q1,by simp[hlt]⟩,Pv (i+1),fun σ' H' p'=>⟨xs.length - (i+1),by omega,rfl,hlt,p'⟩,fun x H' y=>?_⟩
  obtain⟨T,vx,rfl,nT,rfl,e1⟩:=y
  exact hs _ _ _ i vx T σ H (e1 xs q1) nT p fun _ _ z=>z
 .have e:i=xs.length:=by omega
  subst e
  exact .inl ⟨⟨xs,q1,yZD _⟩,hd σ H p⟩
open FP
end L2
namespace TM
open PySem PyProof.Rows
section
variable {prog:Program}{w:World}{A:Around}{E:Value->Shared->Prop}{s:Shared}{O:KeyOrd}{key:Value->O.α}{κ:SortKind}{a₀:Array Keyed}
def AskS (prog:Program)(w:World)(A:Around)(s:Shared)(key:Value->O.α)(κ:SortKind)(a₀:Array Keyed):Prop:=
 ∀x y:Keyed,x∈a₀.toList->y∈a₀.toList->∀(E:Value->Shared->Prop) (Q:Bool->Shared->Prop),Q (O.blt (key x.1) (key y.1)) s->wpAny (model prog w) A (keyLt' κ x.1 y.1) Q E s
end
end TM
namespace TM
open PySem PyProof.Rows
section
variable {prog:Program}{w:World}{A:Around}{E:Value->Shared->Prop}{s:Shared}{O:KeyOrd}{key:Value->O.α}{κ:SortKind}{a₀:Array Keyed}
def le (key:Value->O.α)(x y:Keyed):Prop:=O.kle (key x.1) (key y.1)
end
end TM
namespace TM
open PySem PyProof.Rows PySem.W
section
variable {prog:Program}{w:World}{A:Around}{E:Value->Shared->Prop}{s:Shared}{O:KeyOrd}{key:Value->O.α}{κ:SortKind}{vs:List Value}
structure Sorts (prog:Program)(w:World)(s:Shared)(key:Value->O.α)(κ:SortKind)(vs:List Value):Prop where
 kind:∀(A:Around) (E:Value->Shared->Prop) (h':Heap),(∀b o,s.heap.get? b=some o->h'.get? b=some o)->2<=vs.length->∀Q:SortKind->Shared->Prop,Q κ { s with heap:=h' }->wpAny (model prog w) A (keyKind' vs.toArray) Q E { s with heap:=h' }
 ask:∀(A:Around) (h':Heap),(∀b o,s.heap.get? b=some o->h'.get? b=some o)->AskS prog w A { s with heap:=h' } key κ (pairsOf vs)
theorem qMe {xs:Array Keyed}(hp:xs.Perm (pairsOf vs))(so:xs.toList.Pairwise (le key)):(xs.map (·.2)).toList.Perm vs/\(xs.map (·.2)).toList.Pairwise (fun x y=>O.kle (key x) (key y)):=by
 have pl:=Array.perm_iff_toList_perm.mp hp
 rw[pairsOf_toList] at pl
 have same:∀p∈xs.toList,p.1=p.2:=fun p hm=>by
  have:=pl.mem_iff.mp hm
  obtain⟨i,hi,e⟩:=List.getElem_of_mem this
  rw[List.getElem_zip] at e
  rw[<- e]
 rw[Array.toList_map]
 refine⟨?_,?_⟩
 .have:=pl.map (·.2)
  rw[List.map_snd_zip (by omega)] at this
  exact this
 .rw[List.pairwise_map]
  refine List.Pairwise.imp_of_mem (fun{p q} hp hq h=>?_) so
  rw[<- same p hp,<- same q hq];exact h
theorem xWc {l:List Keyed}(h:l.length<2):l.Pairwise (le key):=by
 cases l with
 | nil=>exact .nil
 | cons x l=>
  cases l with
  | nil=>exact List.pairwise_singleton _ _
  | cons y l=>
   rw[yYT,yYT] at h
   omega
end
theorem qFl (a:List Int):HT.lexLt a a=false:=by
 induction a with
 | nil=>rfl
 | cons x a ih=>rw[HT.lexLt_cons,if_pos rfl];exact ih
theorem qNk (a b c:List Int)(h1:HT.lexLt a b=true)(h2:HT.lexLt b c=true):HT.lexLt a c=true:=by
 induction a generalizing b c with
 | nil=>
  cases c with
  | nil=>
   cases b with
   | nil=>cases h1
   | cons y b=>cases h2
  | cons z c=>rfl
 | cons x a ih=>
  cases b with
  | nil=>cases h1
  | cons y b=>
   cases c with
   | nil=>cases h2
   | cons z c=>
    rw[HT.lexLt_cons] at h1 h2 ⊢
    by_cases e1:x=y
    .subst e1
     rw[if_pos rfl] at h1
     by_cases e2:x=z
     .subst e2;rw[if_pos rfl] at h2 ⊢;exact ih b c h1 h2
     .rw[if_neg e2] at h2 ⊢;exact h2
    .rw[if_neg e1] at h1
     have l1:=of_decide_eq_true h1
     by_cases e2:y=z
     .subst e2;rw[if_neg e1];exact h1
     .rw[if_neg e2] at h2
      have l2:=of_decide_eq_true h2
      rw[if_neg (by omega)]
      exact decide_eq_true (by omega)
theorem xJk (a b c:List Int)(h:HT.lexLt a c=true):HT.lexLt a b=true\/HT.lexLt b c=true:=by
 induction a generalizing b c with
 | nil=>
  cases b with
  | nil=>exact .inr h
  | cons y b=>exact .inl rfl
 | cons x a ih=>
  cases c with
  | nil=>cases h
  | cons z c=>
   cases b with
   | nil=>exact .inr rfl
   | cons y b=>
    rw[HT.lexLt_cons] at h ⊢
    rw[HT.lexLt_cons]
    by_cases e1:x=y
    .subst e1
     rw[if_pos rfl]
     by_cases e2:x=z
     .subst e2;rw[if_pos rfl] at h ⊢;exact ih b c h
     .rw[if_neg e2] at h ⊢;exact .inr h
    .rw[if_neg e1]
     by_cases l:x<y
     .exact .inl (decide_eq_true l)
     .right
      by_cases e2:x=z
      .subst e2;rw[if_neg (by omega)];exact decide_eq_true (by omega)
      .rw[if_neg e2] at h
       have:=of_decide_eq_true h
       rw[if_neg (by omega)];exact decide_eq_true (by omega)
theorem lex_total (a b:List Int)(h1:HT.lexLt a b=false)(h2:HT.lexLt b a=false):a=b:=by
 induction a generalizing b with
 | nil=>
  cases b with
  | nil=>rfl
  | cons y b=>cases h1
 | cons x a ih=>
  cases b with
  | nil=>cases h2
  | cons y b=>
   rw[HT.lexLt_cons] at h1 h2
   by_cases e:x=y
   .subst e
    rw[if_pos rfl] at h1 h2
    rw[ih b h1 h2]
   .rw[if_neg e] at h1
    rw[if_neg (Ne.symm e)] at h2
    have l1:=of_decide_eq_false h1
    have l2:=of_decide_eq_false h2
    omega
def lexO:KeyOrd:=⟨List Int,HT.lexLt,qFl,qNk,xJk,lex_total⟩
def tupKey (h:Heap):Value->List Int
 | .ref a=>match h.get? a with
  | some o=>match o.data with
   | .seq items _=>items.toList.map numOf
   | _=>[]
  | none=>[]
 | _=>[]
section
variable {prog:Program}{w:World}{A:Around}{E:Value->Shared->Prop}{s:Shared}{vs:List Value}
theorem qTv {b:Bool}{Q:Bool->Shared->Prop}{xs ys:List Value}{ns ms:List Int}(i:Nat)(p:IntsAre xs ns)(q:IntsAre ys ms)(h:Q (HT.lexLt ns ms) s):KatLex prog w A b (decide (xs.length<ys.length)) Q (xs.zip ys) i s:=by
 induction p generalizing ys ms i with
 | nil=>
  cases q with
  | nil=>exact h
  | cons m u q=>
   show Q (decide (0<_+1)) s
   rw[decide_eq_true (Nat.succ_pos _)];exact h
 | @cons n t xs ns r ih=>
  cases q with
  | nil=>
   show Q (decide (_+1<0)) s
   rw[decide_eq_false (Nat.not_lt_zero _)];exact h
  | @cons m u ys ms q=>
   rw[List.zip_cons_cons]
   refine kat_cons (wpAny_eqBool_int ?_)
   rw[HT.lexLt_cons] at h
   have e:(decide ((Value.int n t::xs).length<(Value.int m u::ys).length))=decide (xs.length<ys.length):=by
    rw[yYT,yYT];exact decide_eq_decide.mpr (by omega)
   by_cases c:n=m
   .subst c
    rw[if_pos rfl] at h
    rw[beq_self_eq_true,e]
    exact kat_yes (ih (i+1) q h)
   .rw[if_neg c] at h
    rw[show(n == m)=false from beq_eq_false_iff_ne.mpr c]
    refine kat_no ?_
    cases(b && i == 0) with
    | true=>exact oneLt_int h
    | false=>exact kat_one _ _ (PyProof.Rows.lt_int h)
def IsTI (h:Heap)(v:Value)(ns:List Int):Prop:=∃a o xs n,v=.ref a/\h.get? a=some o/\o.cls=.type "tuple" /\ o.data=.seq xs n/\IntsAre xs.toList ns/\ns≠[]
theorem IsTI.kept {h h':Heap}{v:Value}{ns:List Int}(t:IsTI h v ns)(k:∀b o,h.get? b=some o->h'.get? b=some o):IsTI h' v ns:=let ⟨a,o,xs,n,e1,e2,r⟩:=t;⟨a,o,xs,n,e1,k _ _ e2,r⟩
theorem IsTI.key {h:Heap}{v:Value}{ns:List Int}(t:IsTI h v ns):tupKey h v=ns:=by
 obtain⟨a,o,xs,n,rfl,e,_,d,i,_⟩:=t
 unfold tupKey
 dsimp only
 rw[e]
 dsimp only
 rw[d]
 exact i.nums
theorem qFx (ht:∀v∈vs,∃ns,IsTI s.heap v ns):Sorts (O:=lexO) prog w s (tupKey s.heap) (tuples' (Value.type "int" != Value.type "tuple")) vs:=by
 refine⟨fun A E h' keep h2 Q hq=>?_,fun A h' keep x y hx hy E Q hq=>?_⟩
 .have:∃fs:List Value,KatTups h' vs fs/\fs.length=vs.length/\∀f∈fs,∃n t,f=.int n t:=by
   clear h2 hq
   induction vs with
   | nil=>exact⟨[],.nil,rfl,fun f hf=>by cases hf⟩
   | cons v vs ih=>
    obtain⟨fs,k,l,hf⟩:=ih fun v hv=>ht v (yYH _ hv)
    obtain⟨ns,t⟩:=ht v yYG
    obtain⟨a,o,xs,n,rfl,e,c,d,i,ne⟩:=t.kept keep
    cases ns with
    | nil=>exact absurd rfl ne
    | cons m ns=>
     generalize hxs:xs.toList=xl at i
     cases i with
     | cons _ tk i=>
      have e0:xs[0]? = some (.int m tk):=by rw[<- yZN,hxs];rfl
      exact⟨_::fs,KatTups.cons e c d e0 k,by rw[yYT,yYT,l],fun f hm=>by
       rcases yYK.mp hm with rfl | hm
       .exact⟨_,_,rfl⟩
       .exact hf f hm⟩
  obtain⟨fs,k,l,hf⟩:=this
  refine kat_kind (T:=.type "int") k (by omega) (fun v hv=>?_) rfl hq
  obtain⟨n,t,rfl⟩:=hf v hv
  exact .now
 .have mem:∀p:Keyed,p∈(pairsOf vs).toList->p.1∈vs:=fun p hp=>by
   rw[pairsOf_toList] at hp
   exact(List.of_mem_zip hp).1
  obtain⟨ns,t1⟩:=ht _ (mem x hx)
  obtain⟨ms,t2⟩:=ht _ (mem y hy)
  have k1:=t1.key
  have k2:=t2.key
  obtain⟨a,o,xs,n,e1,e2,c,d,i,_⟩:=t1.kept keep
  obtain⟨a',o',xs',n',e1',e2',c',d',i',_⟩:=t2.kept keep
  rw[k1,k2] at hq
  rw[e1,e1']
  refine kat_lt e2 d e2' d' ?_
  have:=qTv (prog:=prog) (w:=w) (A:=A) (b:=(Value.type "int" != Value.type "tuple")) (Q:=Q) 0 i i' hq
  rw[yZM,yZM] at this
  exact this
end
end TM
namespace L2
open PySem PySem.Spec PyProof.Rows TM
def TIn (H:Hp)(ns:List Int)(u:V):Prop:=∃a,u=.ref a/\H a=some (.tup (ns.map V.int))
section
variable {X:Cx}{K:yZP}
theorem qTd {ns:List Int}{its:List Value}(h:Vals (ns.map V.int) its):IntsAre its ns:=by
 induction ns generalizing its with
 | nil=>cases h;exact .nil
 | cons n ns ih=>
  cases h with
  | cons r t=>
   obtain⟨tk,rfl⟩:=r
   exact .cons n tk (ih t)
def refV:V->Value
 | .ref a=>.ref a
 | _=>.none
theorem qHf {H:Hp}{ss:List (List Int)}{us:List V}{its:List Value}(p:Paired (TIn H) ss us)(v:Vals us its):its=us.map refV:=by
 induction p generalizing its with
 | nil=>cases v;rfl
 | cons h t ih=>
  cases v with
  | cons r v=>
   obtain⟨a,rfl,_⟩:=h
   cases r
   rw[ih v];rfl
end
end L2
namespace SI
open PySem PyProof.Rows
def Ris (p:Array Nat):Prop:=p.toList.Pairwise (·<·)
theorem Ris.get {p:Array Nat}(h:Ris p){i j:Nat}(hij:i<j)(hj:j<p.size):p.getD i 0<p.getD j 0:=by
 have e:∀k (hk:k<p.size),p.getD k 0=p[k]:=fun k hk=>by simp[Array.getD,hk]
 rw[e i (by omega),e j hj]
 have:=List.pairwise_iff_getElem.mp h i j (by simp;omega) (by simp;exact hj) hij
 simpa using this
theorem qKi {p:Array Nat}(h:Ris p)(j:Nat):∀(f lo hi:Nat),lo<=hi->hi<=p.size->hi - lo<=f->(∀i,i<lo->p.getD i 0<j)->(∀i,hi<=i->i<p.size->j<=p.getD i 0)->
  SetTable.below.go p j f lo hi<=p.size/\(∀i,i<SetTable.below.go p j f lo hi->p.getD i 0<j)/\(∀i,SetTable.below.go p j f lo hi<=i->i<p.size->j<=p.getD i 0)
 | 0,lo,hi,a,b,c,d,e=>by
  have:lo=hi:=by omega
  subst this
  exact⟨b,d,e⟩
 | f+1,lo,hi,a,b,c,d,e=>by
  unfold SetTable.below.go
  by_cases lt:lo<hi
  .rw[if_pos lt]
   dsimp only
   have hm:(lo+hi) / 2<p.size:=by omega
   have eg:p.getD ((lo+hi) / 2) j=p.getD ((lo+hi) / 2) 0:=by simp[Array.getD,hm]
   rw[eg]
   by_cases c2:p.getD ((lo+hi) / 2) 0<j
   .rw[if_pos c2]
    refine qKi h j f _ hi (by omega) b (by omega) (fun i hi'=>?_) e
    by_cases x:i=(lo+hi) / 2
    .rw[x];exact c2
    .exact Nat.lt_trans (h.get (by omega) hm) c2
   .rw[if_neg c2]
    refine qKi h j f lo _ (by omega) (by omega) (by omega) d fun i x y=>?_
    by_cases z:i=(lo+hi) / 2
    .rw[z];omega
    .have:=h.get (show(lo+hi) / 2<i by omega) y
     omega
  .rw[if_neg lt]
   have:lo=hi:=by omega
   subst this
   exact⟨b,d,e⟩
theorem wF {p:Array Nat}(h:Ris p)(j:Nat):SetTable.below p j<=p.size/\(∀i,i<SetTable.below p j->p.getD i 0<j)/\(∀i,SetTable.below p j<=i->i<p.size->j<=p.getD i 0):=
 qKi h j _ 0 _ (yZG _) (yZD _) (by omega) (fun i hi=>by omega) (fun i a b=>by omega)
structure TOk (b:Bool)(t:SetTable):Prop where
 led:t.led=b
 dum:t.dummies=#[]
 ris:Ris t.place
theorem qEv {t:SetTable}(h:t.dummies=#[])(j:Nat):t.slot j≠.dummy:=fun e=>by
 unfold SetTable.slot at e
 dsimp only at e
 split at e
 .cases e
 .rw[h] at e
  unfold SetTable.has at e
  simp at e
theorem xZk {t:SetTable}(h:Ris t.place){j:Nat}(e:t.slot j=.empty):Ris (t.put j).1.place:=by
 show(SetTable.insertAt t.place (SetTable.below t.place j) j).toList.Pairwise (·<·)
 obtain⟨b1,b2,b3⟩:=wF h j
 have ne:t.place[SetTable.below t.place j]? ≠ some j:=fun z=>by
  unfold SetTable.slot at e
  dsimp only at e
  rw[if_pos (by rw[z];simp)] at e
  cases e
 generalize SetTable.below t.place j=p at b1 b2 b3 ne
 rw[SetTable.toList_insertAt]
 have g:∀k (hk:k<t.place.size),t.place.toList[k]'(by simpa using hk)=t.place.getD k 0:=fun k hk=>by simp[Array.getD,hk]
 have gt:∀k,p<=k->k<t.place.size->j<t.place.getD k 0:=fun k hk hs=>by
  have:=b3 k hk hs
  by_cases x:k=p
  .subst x
   have e2:t.place[k]? = some (t.place.getD k 0):=by simp[Array.getD,hs]
   rw[e2] at ne
   have:t.place.getD k 0≠j:=fun z=>ne (by rw[z])
   omega
  .have h1:=b3 p (yZD _) (by omega)
   have h2:=h.get (show p<k by omega) hs
   omega
 refine List.pairwise_append.mpr ⟨h.sublist (List.take_sublist _ _),List.pairwise_cons.mpr ⟨fun y hy=>?_,h.sublist (List.drop_sublist _ _)⟩,fun x hx y hy=>?_⟩
 .obtain⟨k,hk,rfl⟩:=List.getElem_of_mem hy
  rw[List.length_drop,yZM] at hk
  rw[List.getElem_drop,g _ (by omega)]
  exact gt _ (by omega) (by omega)
 .obtain⟨i,hi,rfl⟩:=List.getElem_of_mem hx
  rw[yYF,yZM] at hi
  have lx:t.place.getD i 0<j:=b2 i (by omega)
  rw[List.getElem_take,g _ (by omega)]
  rcases yYK.mp hy with rfl | hy
  .exact lx
  .obtain⟨k,hk,rfl⟩:=List.getElem_of_mem hy
   rw[List.length_drop,yZM] at hk
   rw[List.getElem_drop,g _ (by omega)]
   have:=gt (p+k) (by omega) (by omega)
   omega
theorem TOk.put {b:Bool}{t:SetTable}(h:TOk b t){j:Nat}(e:t.slot j=.empty):TOk b (t.put j).1:=by
 refine⟨h.led,?_,xZk h.ris e⟩
 show(if SetTable.has t.dummies j then _ else t.dummies)=_
 rw[h.dum]
 rw[if_neg (by unfold SetTable.has;simp)]
end SI
namespace SI
open PySem PyProof.Rows
def byText (w:World):Bool:=w.params.followText "set-order"
section
variable {prog:Program}{w:World}{A:Around}{E:Value->Shared->Prop}{s:Shared}
theorem xJz (a:Value){Q₁:Value->Shared->Prop}(h:Q₁ (.ref s.heap.objs.size) { s with heap:=s.heap.push (setObj (!byText w)) }):
  codeAny (model prog w) A (.call (.builtin "set.__new__") ⟨[.type "set",a],[]⟩) (wants Q₁ E) s:=by
 refine codeAny_of_tree ?_
 show wpAny _ A.in1 (do checkBuiltinCall "set.__new__" ⟨[.type "set",a],[]⟩;again (.builtin "set.__new__" ⟨[.type "set",a],[]⟩)) _ _ s
 refine yYX (wpAny_of_eq (F.newCall_set_1 a) (yYY ⟨plainId_quiet F.plain_set_new _,codeAny_builtin F.entry_set_new ?_⟩))
 rw[Around.under_plainId F.plain_set_new _]
 unfold Builtin.«set.__new__» Builtin.Frozenset.newClass
 have hsub:=sub_set_self
 obtain⟨hp,g,d,tk,os⟩:=s
 dsimp only
 wp_walk
 refine wpAny_askSetting (yYY ?_)
 dsimp only
 simp only[newObj]
 refine yYX (wpAny_alloc (yYY ?_))
 exact yYY h
end
end SI
namespace SI
open PySem PyProof.Rows
theorem qZn:entryFor table "set.__iter__" = some Builtin.«frozenset.__iter__»:=entryFor_alias (id' := "frozenset.__iter__") (by kernel_rfl) rfl (by wtm_at"d") (by kernel_rfl)
theorem zQ:Slot "set_iterator" "__next__" "set_iterator.__next__" :=
 .of (owner := "set_iterator") (n := "__next__") (by rw[typeLookup_type,builtinLookup_eq_fast];kernel_rfl) (by wtm_at"d") (by wtm_at"d") (by wtm_at"d")
  (by first | exact .inl (by wtm_at"d") | exact .inr (by wtm_at"d")) (by rw[isSubtype_type];kernel_rfl)
theorem yV:entryFor table "set_iterator.__next__" = some Builtin.«set_iterator.__next__»:=entryFor_of_tree (by kernel_rfl)
theorem yG (a:Value):argsOk "set_iterator.__next__" ⟨[a],[]⟩:=by unfold argsOk;kernel_rfl
section
variable {M:Model}{A:Around}{E:Value->Shared->Prop}{s:Shared}
theorem wp_choose {src:Source}{n:Nat}{Q:Nat->Shared->Prop}(hn:n≠0)(h:∀i,i<n->Q i { s with drawn:=s.drawn.bump src }):wpAny M A (choose src n) Q E s:=fun Γ p hΓ=>by
 show Sem.wp M Γ (.choose src n .pure) _ _ p s
 rw[Sem.wp_choose]
 exact⟨hn,h _ (Nat.mod_lt _ (Nat.pos_of_ne_zero hn))⟩
theorem qJi {α:Type}{xs:List α}{i:Nat}{x:α}(h:xs[i]? = some x):(x::xs.eraseIdx i).Perm xs:=by
 obtain⟨hi,rfl⟩:=yYB.mp h
 rw[List.eraseIdx_eq_take_drop_succ]
 have e:xs=xs.take i++xs[i]::xs.drop (i+1):=by rw[List.getElem_cons_drop,List.take_append_drop]
 conv=>rhs;rw[e]
 exact List.perm_middle.symm
theorem qGz {α:Type}{Q:List α->Shared->Prop}:∀(n:Nat) (xs:List α) (s:Shared),xs.length=n->(∀ys d,ys.Perm xs->Q ys { s with drawn:=d })->wpAny M A (drawOrder n xs) Q E s:=by
 intro n
 induction n generalizing Q with
 | zero=>
  intro xs s hl h
  have:xs=[]:=List.length_eq_zero_iff.mp hl
  subst this
  unfold drawOrder
  exact yYY (by have:=h [] s.drawn .nil;cases s;exact this)
 | succ n ih=>
  intro xs s hl h
  cases xs with
  | nil=>cases hl
  | cons x0 xr=>
   unfold drawOrder
   refine yYX (wp_choose (by simp) fun i hi=>?_)
   have e:(x0::xr)[i]? = some ((x0::xr)[i]):=yYA hi
   rw[e]
   dsimp only
   refine yYX (ih (Q:=fun ys s'=>wpAny M A (pure ((x0::xr)[i]::ys)) Q E s') ((x0::xr).eraseIdx i) _ (by rw[List.length_eraseIdx_of_lt hi];simp only[yYT] at hl ⊢;omega) fun ys d p=>?_)
   exact yYY (h _ d ((p.cons _).trans (qJi e)))
end
theorem xZa {α:Type}(next:Nat->Nat):∀(f k:Nat) (left:List α) (out:Array α),f=left.length->(pickOrder.go next f k left out).toList.Perm (out.toList++left):=by
 intro f
 induction f with
 | zero=>
  intro k left out h
  have:left=[]:=List.length_eq_zero_iff.mp h.symm
  subst this
  unfold pickOrder.go
  rw[List.append_nil]
 | succ f ih=>
  intro k left out h
  have hi:next k % left.length<left.length:=Nat.mod_lt _ (by omega)
  have e:left[next k % left.length]? = some left[next k % left.length]:=yYA hi
  unfold pickOrder.go
  rw[e]
  dsimp only
  refine(ih (k+1) _ _ (by rw[List.length_eraseIdx_of_lt hi];omega)).trans ?_
  rw[Array.toList_push,yYQ]
  exact List.Perm.append_left _ (qJi e)
theorem qMj {α:Type}(next:Nat->Nat)(xs:Array α):(pickOrder next xs).toList.Perm xs.toList:=by
 have:=xZa next xs.size 0 xs.toList #[] (by simp)
 exact this
abbrev itObj (first:Value)(i:Nat)(a:Addr)(n ep:Nat):Obj:={ cls:=.type "set_iterator",data:=.fields #[first,.int i 0,.ref a,.int n 0,.int ep 0] }
structure Lies (h:Heap)(a:Addr)(o:Obj)(es:Array (Int×Value))(ep:Nat)(t:SetTable):Prop where
 at':h.get? a=some o
 ex:o.ExactSet
 data:o.data=.set es ep t
 fits:t.fits es.size=true
theorem Lies.kept {h h':Heap}{a:Addr}{o:Obj}{es:Array (Int×Value)}{ep:Nat}{t:SetTable}(x:Lies h a o es ep t)(k:∀o,h.get? a=some o->h'.get? a=some o):Lies h' a o es ep t:=⟨k _ x.at',x.ex,x.data,x.fits⟩
section
variable {prog:Program}{w:World}{A:Around}{E:Value->Shared->Prop}{s:Shared}{I a:Addr}{o:Obj}{es:Array (Int×Value)}{ep:Nat}{t:SetTable}{i:Nat}
theorem qWw {slot:Nat}{Q:Option Value->Shared->Prop}(hi:s.heap.get? I=some (itObj (.int slot 0) i a es.size ep))(L:Lies s.heap a o es ep t)
  {x:Value} {nx:Nat} (hn:∀(Q':Option (Value×Nat)->Shared->Prop) (A':Around) (E':Value->Shared->Prop),Q' (some (x,nx)) s->wpAny (model prog w) A' (setNext a slot i ep) Q' E' s)
  (h:∀h',h'.get? I=some (itObj (.int nx 0) (i+1) a es.size ep)->Heap.SameBut I s.heap h'->Q (some x) { s with heap:=h' }):wpAny (model prog w) A (pyNext (.ref I)) Q E s:=by
 have hT:s.TypeIs (.ref I) "set_iterator" := ⟨_,hi,rfl⟩
 unfold pyNext
 refine yYX (wpAny_attempt (wpAny_callSpecial?_slot (name:=Str.ofString "__next__") hT zQ (wpAny_call_entry zQ hT yV ?_ (yG _))))
 unfold Builtin.«set_iterator.__next__» slotArgs
 simp only[List.isEmpty_nil,Bool.not_true,yZK,↓reduceIte,bind_assoc,yYU,bne_self_eq_false]
 refine yYX (yYY ?_)
 refine yYX (wpAny_fieldsOf hi rfl ?_)
 dsimp only
 refine yYX (wpAny_setEntries_of L.at' L.data L.fits ?_)
 simp only[bne_self_eq_false,yZK,↓reduceIte]
 rw[Int.toNat_natCast,Int.toNat_natCast,Int.toNat_natCast]
 refine yYX (hn _ _ _ ?_)
 dsimp only
 refine yYX (wpAny_setField hi rfl (by simp) ?_)
 have e1:(s.heap.update I (Obj.mapFields fun vs=>vs.setIfInBounds 0 (rawInt nx))).get? I=some (itObj (.int nx 0) i a es.size ep):=Heap.get?_update_self _ hi rfl
 refine yYX (wpAny_setField e1 rfl (by simp) ?_)
 refine yYY ⟨x,rfl,yYY (h _ ?_ ((Heap.SameBut.update ..).trans (Heap.SameBut.update ..)))⟩
 exact Heap.get?_update_self _ e1 rfl
theorem qTx {first:Value}{Q:Option Value->Shared->Prop}(hh:A.handled=none)(hi:s.heap.get? I=some (itObj first i a es.size ep))(L:Lies s.heap a o es ep t)
  (hn:∀slot:Nat,first=.int slot 0->∀(Q':Option (Value×Nat)->Shared->Prop) (A':Around) (E':Value->Shared->Prop),Q' none s->wpAny (model prog w) A' (setNext a slot i ep) Q' E' s)
  (hp:(∃slot:Nat,first=.int slot 0)\/∃p op ys n,first=.ref p/\s.heap.get? p=some op/\op.data=.seq ys n/\ys.size=i)
  (h:∀h',Heap.ExtBut I s.heap h'->Q none { s with heap:=h' }):wpAny (model prog w) A (pyNext (.ref I)) Q E s:=by
 have hT:s.TypeIs (.ref I) "set_iterator" := ⟨_,hi,rfl⟩
 have stop:∀h1 (f:Value),h1.get? I=some (itObj f i a es.size ep)->Heap.SameBut I s.heap h1->wpAny (model prog w) A.in1 (do
   setField (Value.ref I) 2 Value.none
   let e <- newExc (Value.type "StopIteration") []
   (raiseNew e:Sem PySem.Fin)) (fun fin s'=>∃v,fin=Fin.done (Flow.ret v)/\wpAny (model prog w) A (pure (some v)) Q E s')
   (fun e s'=>wpAny (model prog w) A (do
     let c <- isInstance e (Value.type "StopIteration")
     if c=true then pure none else throw e) Q E s') { s with heap:=h1 }:=fun h1 f e1 sb=>by
  refine yYX (wpAny_setField (s:={ s with heap:=h1 }) e1 rfl (by simp) ?_)
  refine yYX ?_
  simp only[newExc,newTuple]
  refine yYX (wpAny_newObj_type ?_ (by size_fits))
  refine yYX (m:=firstArgMember _ _) (wpAny_of_eq (a:=Value.none) (by first | rfl | (simp only[firstArgMember];rfl)) ?_)
  refine wpAny_newObj_type ?_ (by size_fits)
  simp only[raiseNew]
  refine yYX (wpAny_handled ?_)
  rw[show A.in1.handled=none from hh]
  refine yYX (yYY (wpAny_throw ?_))
  refine yYX (wpAny_isInstance (T := "StopIteration") (b:=true) ⟨_,yZB _ rfl,rfl⟩ isSubtype_stop ?_)
  exact yYY (h _ (((sb.trans (Heap.SameBut.update ..)).extBut.push _).push _))
 unfold pyNext
 refine yYX (wpAny_attempt (wpAny_callSpecial?_slot (name:=Str.ofString "__next__") hT zQ (wpAny_call_entry zQ hT yV ?_ (yG _))))
 unfold Builtin.«set_iterator.__next__» slotArgs
 simp only[List.isEmpty_nil,Bool.not_true,yZK,↓reduceIte,bind_assoc,yYU,bne_self_eq_false]
 refine yYX (yYY ?_)
 refine yYX (wpAny_fieldsOf hi rfl ?_)
 dsimp only
 refine yYX (wpAny_setEntries_of L.at' L.data L.fits ?_)
 simp only[bne_self_eq_false,yZK,↓reduceIte]
 rcases hp with⟨slot,rfl⟩ | ⟨p,op,ys,n,rfl,e2,d2,z⟩
 .dsimp only
  rw[Int.toNat_natCast,Int.toNat_natCast,Int.toNat_natCast]
  refine yYX (hn slot rfl _ _ _ ?_)
  dsimp only
  exact stop s.heap _ hi (Heap.SameBut.refl ..)
 .dsimp only
  refine yYX (wpAny_seqItems e2 d2 ?_)
  dsimp only
  rw[Int.toNat_natCast,show ys[i]? = none by simp[z]]
  dsimp only
  refine yYX (wpAny_setField hi rfl (by simp) ?_)
  have e1:(s.heap.update I (Obj.mapFields fun vs=>vs.setIfInBounds 0 (rawInt 0))).get? I=some (itObj (.int 0 0) i a es.size ep):=Heap.get?_update_self _ hi rfl
  exact stop _ _ e1 (Heap.SameBut.update ..)
theorem qFd {p:Addr}{op:Obj}{ys:Array Value}{n:Nat}{pl:Nat}{x:Int×Value}{Q:Option Value->Shared->Prop}(hi:s.heap.get? I=some (itObj (.ref p) i a es.size ep))(L:Lies s.heap a o es ep t)
  (e2:s.heap.get? p=some op) (d2:op.data=.seq ys n) (ey:ys[i]? = some (.int pl 0)) (ex:es[pl]? = some x)
  (h:∀h',h'.get? I=some (itObj (.ref p) (i+1) a es.size ep)->Heap.SameBut I s.heap h'->Q (some x.2) { s with heap:=h' }):wpAny (model prog w) A (pyNext (.ref I)) Q E s:=by
 have hT:s.TypeIs (.ref I) "set_iterator" := ⟨_,hi,rfl⟩
 unfold pyNext
 refine yYX (wpAny_attempt (wpAny_callSpecial?_slot (name:=Str.ofString "__next__") hT zQ (wpAny_call_entry zQ hT yV ?_ (yG _))))
 unfold Builtin.«set_iterator.__next__» slotArgs
 simp only[List.isEmpty_nil,Bool.not_true,yZK,↓reduceIte,bind_assoc,yYU,bne_self_eq_false]
 refine yYX (yYY ?_)
 refine yYX (wpAny_fieldsOf hi rfl ?_)
 dsimp only
 refine yYX (wpAny_setEntries_of L.at' L.data L.fits ?_)
 simp only[bne_self_eq_false,yZK,↓reduceIte]
 refine yYX (wpAny_seqItems e2 d2 ?_)
 dsimp only
 rw[Int.toNat_natCast,ey]
 dsimp only
 rw[Int.toNat_natCast,Int.toNat_natCast]
 refine yYX ?_
 unfold setNextDrawn
 refine yYX (wpAny_setState_of L.at' L.data L.fits ?_)
 dsimp only
 rw[if_neg (by simp),ex]
 refine yYY ?_
 refine yYX (wpAny_setField hi rfl (by simp) ?_)
 exact yYY ⟨_,rfl,yYY (h _ (Heap.get?_update_self _ hi rfl) (Heap.SameBut.update ..))⟩
end
end SI
namespace SI
open PySem PyProof.Rows
theorem vC:Slot "set_iterator" "__iter__" "set_iterator.__iter__" :=
 .of (owner := "set_iterator") (n := "__iter__") (by rw[typeLookup_type,builtinLookup_eq_fast];kernel_rfl) (by wtm_at"d") (by wtm_at"d") (by wtm_at"d")
  (by first | exact .inl (by wtm_at"d") | exact .inr (by wtm_at"d")) (by rw[isSubtype_type];kernel_rfl)
theorem qZc:entryFor table "set_iterator.__iter__" = some Builtin.«dict_keyiterator.__iter__»:=entryFor_alias (id' := "dict_keyiterator.__iter__") (by kernel_rfl) rfl (by wtm_at"d") (by kernel_rfl)
theorem qJx (a:Value):argsOk "set_iterator.__iter__" ⟨[a],[]⟩:=by unfold argsOk;kernel_rfl
section
variable {prog:Program}{w:World}{A:Around}{E:Value->Shared->Prop}{s:Shared}{I a:Addr}{o:Obj}{es:Array (Int×Value)}{ep:Nat}{t:SetTable}{i slot:Nat}
theorem qKg {Q:Bool->Shared->Prop}(h:Q (byText w) s):wpAny (model prog w) A setsByText Q E s:=by
 unfold setsByText
 exact yYX (wpAny_askSetting (yYY h))
theorem qIb (ht:byText w=true)(L:Lies s.heap a o es ep t){Q:Option (Value×Nat)->Shared->Prop}(h:Q ((pickOrder (w.params.setOrder a ep) es)[i]?.map fun e=>(e.2,slot)) s):wpAny (model prog w) A (setNext a slot i ep) Q E s:=by
 unfold setNext
 refine yYX (wpAny_setState_of L.at' L.data L.fits ?_)
 dsimp only
 refine yYX (qKg ?_)
 rw[ht]
 simp only[↓reduceIte,bne_self_eq_false,yZK]
 refine yYX ?_
 unfold setWalk
 refine yYX (wpAny_setState_of L.at' L.data L.fits ?_)
 dsimp only
 refine yYX (qKg ?_)
 rw[ht]
 simp only[↓reduceIte]
 refine yYX (wpAny_askSetting (yYY ?_))
 exact yYY h
theorem qDf (hf:byText w=false)(nd:(!t.plain && decide (es.size>1))=false)(led:t.led=true)(L:Lies s.heap a o es ep t){Q:Option (Value×Nat)->Shared->Prop}
  (h:Q (match es[SetTable.below t.place slot]?,t.place[SetTable.below t.place slot]? with | some (_,x),some j=>some (x,j+1) | _,_=>none) s):wpAny (model prog w) A (setNext a slot i ep) Q E s:=by
 unfold setNext
 refine yYX (wpAny_setState_of L.at' L.data L.fits ?_)
 dsimp only
 refine yYX (qKg ?_)
 rw[hf]
 simp only[↓reduceIte,yZK]
 show wpAny _ _ (if (!t.plain && decide (es.size>1))=true then _ else _) _ _ _
 rw[nd]
 simp only[↓reduceIte,yZK]
 refine yYX (m:=if (!t.led && !es.isEmpty)=true then unsupported "set:maker-not-led" else pure ()) ?_
 rw[led]
 simp only[Bool.not_true,Bool.false_and,yZK,↓reduceIte]
 exact yYY (yYY h)
inductive Way (w:World)(h:Heap)(a:Addr)(es:Array (Int×Value))(ep:Nat)(t:SetTable)(i:Nat):List (Int×Value)->Value->Prop
 | text (slot:Nat):byText w=true->Way w h a es ep t i (pickOrder (w.params.setOrder a ep) es).toList (.int slot 0)
 | place (slot:Nat):byText w=false->(!t.plain && decide (es.size>1))=false->t.led=true->Ris t.place->SetTable.below t.place slot=i->Way w h a es ep t i es.toList (.int slot 0)
 | drawn (p:Addr) (op:Obj) (ks:List Nat) (n:Nat):h.get? p=some op->op.data=.seq (ks.map fun k=>Value.int (k:Nat) 0).toArray n->ks.Perm (List.range es.size)->Way w h a es ep t i (ks.filterMap fun k=>es[k]?) (.ref p)
structure ItSt (w:World)(I a:Addr)(o:Obj)(es:Array (Int×Value))(ep:Nat)(t:SetTable)(ord:List (Int×Value))(fp:List Addr)(i:Nat)(s:Shared):Prop where
 lies:Lies s.heap a o es ep t
 it:∃first,s.heap.get? I=some (itObj first i a es.size ep)/\Way w s.heap a es ep t i ord first/\∀p,first=.ref p->p∈fp/\p≠I
theorem Way.kept {h h':Heap}{ord:List (Int×Value)}{first:Value}(x:Way w h a es ep t i ord first)(k:∀p o,first=.ref p->h.get? p=some o->h'.get? p=some o):Way w h' a es ep t i ord first:=by
 cases x with
 | text slot b=>exact .text slot b
 | place slot b c d e f=>exact .place slot b c d e f
 | drawn p op ks n e d pm=>exact .drawn p op ks n (k p op rfl e) d pm
theorem qTm {es:Array (Int×Value)}{ks:List Nat}(h:∀k∈ks,k<es.size)(i:Nat):(ks.filterMap fun k=>es[k]?)[i]? = ks[i]?.bind fun k=>es[k]? := by
 induction ks generalizing i with
 | nil=>rfl
 | cons k ks ih=>
  have hk:=h k yYG
  rw[List.filterMap_cons_some (b:=es[k]) (getElem?_pos es k hk)]
  cases i with
  | zero=>exact(getElem?_pos es k hk).symm
  | succ i=>
   rw[List.getElem?_cons_succ,List.getElem?_cons_succ]
   exact ih (fun k hk=>h k (yYH _ hk)) i
theorem qHz {p:Array Nat}(h:Ris p){i:Nat}(hi:i<p.size):SetTable.below p (p.getD i 0+1)=i+1:=by
 obtain⟨b1,b2,b3⟩:=wF h (p.getD i 0+1)
 have l1:i<SetTable.below p (p.getD i 0+1):=by
  by_cases c:i<SetTable.below p (p.getD i 0+1)
  .exact c
  .have:=b3 i (by omega) hi
   omega
 by_cases c:i+1<SetTable.below p (p.getD i 0+1)
 .have h1:=b2 (i+1) c
  have h2:=h.get (show i<i+1 by omega) (show i+1<p.size by omega)
  omega
 .omega
theorem qOj {t:SetTable}{n:Nat}(h:t.fits n=true):t.place.size=n:=by
 simp only[SetTable.fits,Bool.and_eq_true,beq_iff_eq] at h
 exact h.1
theorem qHc (hh:A.handled=none)(hne:a≠I){fp:List Addr}(hIf:I∈fp)(haf:a∈fp)(o:Obj)(es:Array (Int×Value))(ep:Nat)(t:SetTable)(ord:List (Int×Value))(lo:ord.length=es.size):
  WalksS prog w A I fp [I] (fun a b=>b=a) es.size (fun i v=>∃k,ord[i]? = some (k,v)) (ItSt w I a o es ep t ord fp) where
 sub:=fun b hb=>by rw[yYL.mp hb];exact hIf
 grefl:=fun _=>rfl
 gtrans:=fun _ _ _ x y=>y.trans x
 frame:=fun i s h' tk st _ hk=>by
  obtain⟨first,e,wy,hp⟩:=st.it
  exact⟨st.lies.kept fun o e=>hk a haf o e,first,hk I hIf _ e,wy.kept fun p o ep e=>hk p (hp p ep).1 o e,hp⟩
 item:=fun i s Q E hi st hQ=>by
  obtain⟨first,e,wy,hp⟩:=st.it
  have L:=st.lies
  have fin:∀(x:Int×Value) (f':Value) (h':Heap),ord[i]? = some x->h'.get? I=some (itObj f' (i+1) a es.size ep)->Heap.SameBut I s.heap h'->Way w h' a es ep t (i+1) ord f'->(∀p,f'=.ref p->p∈fp/\p≠I)->Q (some x.2) { s with heap:=h' }:=fun x f' h' ex e1 sb wy' hp'=>
   hQ x.2 _ ⟨x.1,ex⟩ ⟨L.kept fun o e=>(sb.2 a hne).trans e,f',e1,wy',hp'⟩ ⟨fun b o hb e=>(sb.2 b (fun z=>hb (by rw[z];exact yYL.mpr rfl))).trans e,rfl,rfl,rfl,yZD _⟩
  cases wy with
  | text slot b=>
   have ex:(pickOrder (w.params.setOrder a ep) es)[i]? = some ((pickOrder (w.params.setOrder a ep) es).toList[i]'(by omega)):=by rw[<- yZN];exact yYA _
   refine qWw (x:=_) (nx:=slot) e L (fun Q' A' E' hq=>qIb b L (by rw[ex];exact hq)) fun h' e1 sb=>?_
   exact fin _ _ h' (yYA (by omega)) e1 sb (.text slot b) fun p z=>by cases z
  | place slot b c d ris bl=>
   have zp:=qOj L.fits
   have ex:es[i]? = some es[i]:=getElem?_pos es i hi
   have ep':t.place[i]? = some (t.place.getD i 0):=by simp[Array.getD,zp,hi]
   refine qWw (x:=es[i].2) (nx:=t.place.getD i 0+1) e L (fun Q' A' E' hq=>qDf b c d L (by rw[bl,ex,ep'];exact hq)) fun h' e1 sb=>?_
   exact fin es[i] _ h' (by rw[yZN];exact ex) e1 sb (.place _ b c d ris (qHz ris (by omega))) fun p z=>by cases z
  | drawn p op ks n e2 d2 pm=>
   have lk:ks.length=es.size:=by rw[pm.length_eq,List.length_range]
   have kb:∀k∈ks,k<es.size:=fun k hk=>List.mem_range.mp (pm.mem_iff.mp hk)
   have ek:ks[i]? = some (ks[i]'(by omega)):=yYA _
   have bk:=kb _ (List.getElem_mem (h:=(by omega:i<ks.length)))
   have ey:(ks.map fun k=>Value.int (k:Nat) 0).toArray[i]? = some (.int ((ks[i]'(by omega):Nat)) 0):=by
    rw[List.getElem?_toArray,yYO,ek];rfl
   refine qFd e L e2 d2 ey (getElem?_pos es _ bk) fun h' e1 sb=>?_
   refine fin _ _ h' (by rw[qTm kb,ek];exact getElem?_pos es _ bk) e1 sb (.drawn p op ks n ((sb.2 p (hp p rfl).2).trans e2) d2 pm) fun p' z=>by cases z;exact hp p rfl
 done:=fun s Q E st hQ=>by
  obtain⟨first,e,wy,hp⟩:=st.it
  have L:=st.lies
  refine qTx hh e L (fun slot ef Q' A' E' hq=>?_) ?_ fun h' x=>hQ _ ⟨fun b o hb e=>x b o (fun z=>hb (by rw[z];exact yYL.mpr rfl)) e,rfl,rfl,rfl,yZD _⟩
  .cases wy with
   | text slot' b=>
    refine qIb b L ?_
    rw[<- yZN,List.getElem?_eq_none (by omega)]
    exact hq
   | place slot' b c d ris bl=>
    cases ef
    refine qDf b c d L ?_
    rw[bl,Array.getElem?_eq_none (yZD _)]
    exact hq
   | drawn p op ks n e2 d2 pm=>cases ef
  .cases wy with
   | text slot b=>exact .inl ⟨slot,rfl⟩
   | place slot b c d ris bl=>exact .inl ⟨slot,rfl⟩
   | drawn p op ks n e2 d2 pm=>exact .inr ⟨p,op,_,n,rfl,e2,d2,by rw[yYD,yYC,pm.length_eq,List.length_range]⟩
 self:=fun i s Q E st hQ=>by
  obtain⟨first,e,_,_⟩:=st.it
  have hT:s.TypeIs (.ref I) "set_iterator" := ⟨_,e,rfl⟩
  refine wpAny_pyIter_slot hT vC (wpAny_call_entry vC hT qZc ?_ (qJx _))
  show wpAny _ _ (ret (.ref I)) _ _ s
  exact yYY ⟨_,rfl,"set_iterator",_,hT,zQ.lookup,hQ⟩
theorem qTc (L:Lies s.heap a o es ep t){Q:Bool->Shared->Prop}(h:Q (!byText w && (!t.plain && decide (es.size>1))) s):wpAny (model prog w) A (setDrawn a) Q E s:=by
 unfold setDrawn
 refine yYX (wpAny_setState_of L.at' L.data L.fits ?_)
 dsimp only
 refine yYX (qKg ?_)
 exact yYY h
theorem qTb (L:Lies s.heap a o es ep t)(ok:TOk (!byText w) t)(hz:es.size<=5000){Q:Value->Shared->Prop}
  (h:∀(I:Addr) (ord:List (Int×Value)) (fp:List Addr) (h':Heap) (d:Drawn),ord.Perm es.toList->s.heap.objs.size<=I->I∈fp->a∈fp->(∀b∈fp,b=a\/s.heap.objs.size<=b)->(∀b∈fp,b<h'.objs.size)->(∀b o,s.heap.get? b=some o->h'.get? b=some o)->
   ItSt w I a o es ep t ord fp 0 { s with heap:=h',drawn:=d }->Q (.ref I) { s with heap:=h',drawn:=d }):wpAny (model prog w) A (pyIter (.ref a)) Q E s:=by
 have hT:s.TypeIs (.ref a) "set" := ⟨o,L.at',L.ex.1⟩
 have la:a<s.heap.objs.size:=yZA L.at'
 refine wpAny_pyIter_slot hT PySem.F.slot_set_iter (wpAny_call_entry PySem.F.slot_set_iter hT qZn ?_ (PySem.F.args_set_iter_1 _))
 unfold Builtin.«frozenset.__iter__» Builtin.Frozenset.slot0 slotArgs
 simp only[List.isEmpty_nil,Bool.not_true,yZK,↓reduceIte,bind_assoc,yYU,bne_self_eq_false]
 unfold Builtin.Frozenset.addrOf Builtin.Frozenset.sizeOf
 refine yYX (yYY ?_)
 refine yYX (yYY ?_)
 refine yYX (yYX (wpAny_setEntries_of L.at' L.data L.fits (yYY ?_)))
 refine yYX (qTc L ?_)
 have fin:∀(first:Value) (h1:Heap) (d:Drawn) (ord:List (Int×Value)) (fp:List Addr),(∀b o,s.heap.get? b=some o->h1.get? b=some o)->s.heap.objs.size<=h1.objs.size->ord.Perm es.toList->Way w h1 a es ep t 0 ord first->(∀p,first=.ref p->p∈fp)->(∀b∈fp,s.heap.objs.size<=b/\b<h1.objs.size)->
   wpAny (model prog w) A.in1 (do
    let e <- setEpoch a
    let it <- newFields "set_iterator" [first,rawInt 0,.ref a,rawInt es.size,rawInt e]
    ret it) (fun fin s'=>∃v,fin=Fin.done (Flow.ret v)/\∃T' r,s'.TypeIs v T'/\typeLookup (.type T') "__next__" = pure (some r)/\Q v s') E { s with heap:=h1,drawn:=d }:=fun first h1 d ord fp kp hs pm wy hp hf=>by
  have L1:Lies h1 a o es ep t:=L.kept fun o e=>kp a o e
  refine yYX (wpAny_setEpoch_of (s:={ s with heap:=h1,drawn:=d }) L1.at' L1.data L1.fits ?_)
  refine yYX (wpAny_newObj_type ?_)
  have nI:∀b∈fp,b≠h1.objs.size:=fun b hb=>yZF (hf b hb).2
  refine yYY ⟨_,rfl,"set_iterator",_,⟨_,yZB _ rfl,rfl⟩,zQ.lookup,?_⟩
  refine h h1.objs.size ord (h1.objs.size::a::fp) _ d pm hs yYG (yYH _ yYG) (fun b hb=>?_) (fun b hb=>?_) (fun b o e=>yYZ _ (kp b o e)) ⟨L1.kept fun o e=>yYZ _ e,first,yZB _ rfl,wy.kept fun p o _ e=>yYZ _ e,fun p e=>⟨yYH _ (yYH _ (hp p e)),nI p (hp p e)⟩⟩
  .rcases yYK.mp hb with rfl | hb
   .exact .inr hs
   .rcases yYK.mp hb with rfl | hb
    .exact .inl rfl
    .exact .inr (hf b hb).1
  .rw[yZC]
   rcases yYK.mp hb with rfl | hb
   .exact Nat.lt_succ_self _
   .rcases yYK.mp hb with rfl | hb
    .exact Nat.lt_succ_of_lt (yZE la hs)
    .exact Nat.lt_succ_of_lt (hf b hb).2
 cases c:(!byText w && (!t.plain && decide (es.size>1))) with
 | true=>
  simp only[↓reduceIte]
  refine yYX (qGz es.size (List.range es.size) s (by rw[List.length_range]) fun ks d pm=>?_)
  refine yYX (wpAny_newTuple ?_ (by rw[yYC,pm.length_eq,List.length_range];rw[sizeLine_eq];omega))
  refine fin _ _ d _ [s.heap.objs.size] (fun b o e=>yYZ _ e) (by rw[yZC];exact Nat.le_succ _) ?_ (.drawn s.heap.objs.size _ ks 0 (yZB _ rfl) rfl pm) (fun p e=>by cases e;exact yYL.mpr rfl) (fun b hb=>by rw[yYL.mp hb,yZC];exact⟨yZD _,Nat.lt_succ_self _⟩)
  have:=pm.filterMap fun k=>es[k]?
  rw[filterMap_getElem?_range] at this
  exact this
 | false=>
  simp only[yZK,↓reduceIte]
  refine yYX (yYY ?_)
  cases b:byText w with
  | true=>
   have:=fin (.int (0:Nat) 0) s.heap s.drawn _ [] (fun _ _ e=>e) (yZD _) (qMj (w.params.setOrder a ep) es) (.text 0 b) (fun p e=>by cases e) (fun b hb=>by cases hb)
   cases s;exact this
  | false=>
   rw[b] at c ok
   have:=fin (.int (0:Nat) 0) s.heap s.drawn _ [] (fun _ _ e=>e) (yZD _) (List.Perm.refl _) (.place 0 b (by simpa using c) ok.led ok.ris (by
    obtain⟨_,b2,_⟩:=wF ok.ris 0
    by_cases z:SetTable.below t.place 0=0
    .exact z
    .exact absurd (b2 0 (by omega)) (Nat.not_lt_zero _))) (fun p e=>by cases e) (fun b hb=>by cases hb)
   cases s;exact this
end
end SI
namespace SI
open PySem PyProof.Rows
theorem qAi:isSubtype (.type "set") (.type "set")=pure true:=by rw[isSubtype_type];kernel_rfl
section
variable {prog:Program}{w:World}{A:Around}{E:Value->Shared->Prop}{s:Shared}{a:Addr}{o:Obj}{es:Array (Int×Value)}{ep:Nat}{t:SetTable}
theorem qTe (hT:s.TypeIs (.ref a) "set"){Q:Bool->Shared->Prop}(h:Q false s):wpAny (model prog w) A (Builtin.List.listLengthHint (.ref a)) Q E s:=by
 unfold Builtin.List.listLengthHint
 refine yYX (wpAny_specialOf hT PySem.F.slot_set_len.lookup ?_)
 dsimp only
 rw[show splitId "set.__len__" = some ("set","__len__") by wtm_at"d"]
 dsimp only
 refine yYX (wpAny_isInstance hT qAi ?_)
 simp only[Bool.not_true,yZK,↓reduceIte]
 refine wpAny_ite_split (fun _=>?_) (fun hab=>absurd (by wtm_at"d") hab)
 refine yYX (wpAny_typeOf hT ?_)
 exact yYY h
theorem qCb (hh:A.handled=none)(L:Lies s.heap a o es ep t)(ok:TOk (!byText w) t)(hz:es.size<=5000){Q:List Value->Shared->Prop}
  (h:∀(ord:List (Int×Value)) (s':Shared),ord.Perm es.toList->(∀b o,s.heap.get? b=some o->s'.heap.get? b=some o)->s'.gens=s.gens->s'.os=s.os->s.toks<=s'.toks->s.heap.objs.size<=s'.heap.objs.size->Q (ord.map (·.2)) s'):wpAny (model prog w) A (collect (.ref a)) Q E s:=by
 have la:a<s.heap.objs.size:=yZA L.at'
 have hT:s.TypeIs (.ref a) "set" := ⟨o,L.at',L.ex.1⟩
 unfold collect
 refine yYX (wpAny_runValue (codeAny_builtin PySem.F.entry_proto_collect ?_))
 rw[Around.under_plainId PySem.F.plain_proto_collect _]
 show wpAny _ A.in1 (newList [] >>= fun l=>again (.builtin "list.__iadd__" ⟨[l,.ref a],[]⟩)) _ _ s
 refine yYX (wpAny_newObj_type ?_)
 refine yYY ⟨plainId_quiet PySem.F.plain_list_iadd _,codeAny_builtin PySem.F.entry_list_iadd ?_⟩
 rw[Around.under_plainId PySem.F.plain_list_iadd _]
 have L1:Lies (s.heap.push { cls:=.type "list",data:=.seq ([]:List Value).toArray }) a o es ep t:=L.kept fun o e=>yYZ _ e
 have hS0:(s.heap.push { cls:=.type "list",data:=.seq ([]:List Value).toArray }).get? s.heap.objs.size=some { cls:=.type "list",data:=.seq ([]:List Value).toArray }:=yZB _ rfl
 have z0:(s.heap.push { cls:=.type "list",data:=.seq ([]:List Value).toArray }).objs.size=s.heap.objs.size+1:=yZC _ _
 have hk0:∀b o,s.heap.get? b=some o->(s.heap.push { cls:=.type "list",data:=.seq ([]:List Value).toArray }).get? b=some o:=fun b o e=>yYZ _ e
 show wpAny _ A.in1 (Builtin.List.listExtendWith (.ref s.heap.objs.size) (.ref a) (.ref s.heap.objs.size)) _ _ { s with heap:=s.heap.push { cls:=.type "list",data:=.seq ([]:List Value).toArray } }
 generalize s.heap.push { cls:=.type "list",data:=.seq ([]:List Value).toArray }=h1 at L1 hS0 z0 hk0
 have hT1:Shared.TypeIs { s with heap:=h1 } (.ref a) "set" := ⟨o,L1.at',L.ex.1⟩
 unfold Builtin.List.listExtendWith
 refine yYX (wpAny_typeOf hT1 ?_)
 have e1:Builtin.List.listSameRef (.ref s.heap.objs.size) (.ref a)=false:=by
  have:s.heap.objs.size≠a:=yZH la
  simp[Builtin.List.listSameRef,this]
 have e2:(Value.type "set" == Value.type "list")=false:=by decide
 have e3:(Value.type "set" == Value.type "tuple")=false:=by decide
 simp only[e1,e2,e3,Bool.or_false,yZK,if_false]
 refine yYX (qTb (s:={ s with heap:=h1 }) L1 ok hz fun I ord fp h2 d pm hI Ifp afp hnew hlt hk2 st=>?_)
 have hS2:=hk2 _ _ hS0
 refine yYX (wpAny_holding (qTe (s:={ s with heap:=h2,drawn:=d }) ⟨o,hk2 _ _ L1.at',L.ex.1⟩ ?_))
 have Sn:s.heap.objs.size∉fp:=fun hb=>by
  rcases hnew _ hb with z | z
  .exact absurd z (yZH la)
  .have z:h1.objs.size<=s.heap.objs.size:=z
   omega
 refine wpAny_ite_split (fun _=>?_) (fun hab=>absurd (by wtm_at"d") hab)
 refine yYX (wpAny_rule ?_)
 refine yYX ?_
 show wpAny _ A.in1 (updateSeq s.heap.objs.size (·.push .none) >>= fun _=>updateSeq s.heap.objs.size (·.pop)) _ _ _
 refine yYX (wpAny_updateSeq hS2 rfl ?_)
 have hS3:=Heap.get?_update_self (Obj.mapSeq (·.push Value.none)) hS2 rfl
 refine wpAny_updateSeq hS3 rfl ?_
 have hS4:=Heap.get?_update_self (Obj.mapSeq (·.pop)) hS3 rfl
 have oth:∀b o,b≠s.heap.objs.size->h2.get? b=some o->((h2.update s.heap.objs.size (Obj.mapSeq (·.push Value.none))).update s.heap.objs.size (Obj.mapSeq (·.pop))).get? b=some o:=
  fun b o hb e=>(Heap.get?_update_other _ _ (Ne.symm hb)).trans ((Heap.get?_update_other _ _ (Ne.symm hb)).trans e)
 have lord:ord.length=es.size:=by rw[pm.length_eq,yZM]
 have hI':s.heap.objs.size<=I:=yZJ (by omega:s.heap.objs.size<=h1.objs.size) hI
 have aI:a≠I:=yZF (yZE la hI')
 have W:=qHc (prog:=prog) (w:=w) (A:=A.in1) (by simp[hh]) aI Ifp afp o es ep t ord lord
 refine yYY ⟨plainId_quiet PySem.F.plain_extend_loop _,codeAny_extend_loopS W (by rw[sizeLine_eq];omega) _ Sn _ es.size 0 _ _ _ rfl (yZG _)
  (W.frame 0 ({ s with heap:=h2,drawn:=d }:Shared) _ s.toks st (yZD _) fun b hb o e=>oth b o (fun z=>Sn (z▸hb)) e) hS4 (ItemsOf.nil _) fun s' acc' c' hm hS' hacc=>?_⟩
 show wpAny _ A (load s.heap.objs.size >>= _) _ _ s'
 refine yYX (wpAny_load hS' ?_)
 have ea:acc'.toList=ord.map (·.2):=by
  refine List.ext_getElem? fun i=>?_
  rw[yYO,yZN]
  by_cases c:i<es.size
  .have g:acc'[i]? = some (acc'[i]'(by rw[hacc.1];exact c)):=getElem?_pos acc' i (by rw[hacc.1];exact c)
   obtain⟨k,ek⟩:=hacc.2 i _ g
   rw[g,ek];rfl
  .rw[Array.getElem?_eq_none (by rw[hacc.1];omega),List.getElem?_eq_none (by omega)];rfl
 refine yYY ?_
 rw[ea]
 have kk:∀b o,s.heap.get? b=some o->s'.heap.get? b=some o:=fun b o e=>by
  have lb:=yZA e
  refine hm.heap b o (fun z=>?_) (oth b o (yZF lb) (hk2 _ _ (hk0 _ _ e)))
  rcases yYK.mp z with z | z
  .exact absurd z (yZF lb)
  .exact absurd (yYL.mp z) (yZF (yZE lb hI'))
 exact h ord s' pm kk hm.gens hm.os hm.toks (Nat.le_of_lt (yZA hS'))
end
end SI
namespace L2
open PySem PySem.Spec PyProof.Rows
section
variable {X:Cx}{zz:List (Addr×Obj)}{σ:St}{H H':Hp}{s:Shared}
theorem Inv.laidD {a:Addr}{o:HO}{s':Shared}(I:Inv X zz σ H s)(k:∀b u,s.heap.get? b=some u->s'.heap.get? b=some u)(hp:s.heap.objs.size<=a)(new:ObjOk X.prog X.w (upd H a o) s'.heap a o)(hg:s'.gens=s.gens)(hos:s'.os=s.os):
  Inv X zz σ (upd H a o) s':=by
 obtain⟨h',g',d',t',o'⟩:=s'
 have e1:g'=s.gens:=hg
 have e2:o'=s.os:=hos
 subst e1 e2
 have u:Un X.fs [] H (upd H a o) s.heap h':=Un.laid k hp (I.hok.fresh hp)
 obtain⟨m,⟨ol,es,ep,ho,r⟩,_⟩:=id I.loc
 obtain⟨sl,hL⟩:=u.any ho I.free (by simp)
 exact I.step (g':=s.gens) (d':=d') (ch:=[]) (fun _ z=>nomatch z) (fun b o _ hb _ e n=>u.keep b o e n hb (by simp)) (fun b o _ hb _ e n=>u.slot b o e n hb (by simp)) (fun b o _ e n=>u.free b o e n (by simp)) (fun b o _ e=>u.there b o e (by simp)) u.tups u.frzs u.tbls (fun m' hm=>by
  obtain⟨o',es',ep',ho',r'⟩:=hm
  rw[ho] at ho';cases ho'
  exact⟨_,es',ep',hL,r'⟩) (I.hok.laid k hp new) I.bare
end
end L2
namespace L2
open PySem PySem.Spec PyProof.Rows
section
variable {X:Cx}{zz:List (Addr×Obj)}{σ:St}{H:Hp}{s:Shared}
def ItemsV (v d:Addr):HO:=.ext fun h=>h.IsItemsView v d
end
end L2
namespace ST
open PySem PyProof.Rows
open PySem.SetTable (runEnd leap bits turns)
def nx (N x:Nat):Nat:=(5 * x+1) % N
def orb (N x:Nat):Nat->Nat
 | 0=>x
 | k+1=>nx N (orb N x k)
theorem qXi (N x a:Nat):∀b,orb N x (a+b)=orb N (orb N x a) b
 | 0=>rfl
 | b+1=>by show nx N (orb N x (a+b))=nx N (orb N (orb N x a) b);rw[qXi N x a b]
theorem qEx (N x k:Nat):orb N x (k+1)=orb N (nx N x) k:=by
 rw[Nat.add_comm,qXi];rfl
def cyc (N:Nat):Nat->Nat->Nat->Nat×Nat
 | 0,x,acc=>(x,acc)
 | f+1,x,acc=>cyc N f (nx N x) (acc ||| 2 ^ x)
theorem qPa (N:Nat):∀f x acc,(cyc N f x acc).1=orb N x f
 | 0,x,acc=>rfl
 | f+1,x,acc=>by rw[qEx];exact qPa N f _ _
theorem qPw (N:Nat):∀f x acc j,(cyc N f x acc).2.testBit j=true->acc.testBit j=true\/∃k,k<f/\orb N x k=j
 | 0,x,acc,j,h=>.inl h
 | f+1,x,acc,j,h=>by
  rcases qPw N f _ _ j h with h | ⟨k,hk,e⟩
  .rw[Nat.testBit_or,Bool.or_eq_true] at h
   rcases h with h | h
   .exact .inl h
   .refine .inr ⟨0,Nat.succ_pos _,?_⟩
    rw[Nat.testBit_two_pow] at h
    exact of_decide_eq_true h
  .exact .inr ⟨k+1,by omega,by rw[qEx];exact e⟩
def Full (N:Nat):Prop:=(∀j,j<N->∃k,k<N/\orb N 0 k=j)/\orb N 0 N=0
theorem qKw {N:Nat}(h:cyc N N 0 0=(0,2 ^ N - 1)):Full N:=by
 refine⟨fun j hj=>?_,by rw[<- qPa N N 0 0,h]⟩
 have t:(cyc N N 0 0).2.testBit j=true:=by
  rw[h]
  show(2 ^ N - 1).testBit j=true
  rw[Nat.testBit_two_pow_sub_one]
  exact decide_eq_true hj
 rcases qPw N N 0 0 j t with h | h
 .simp at h
 .exact h
theorem full8:Full 8:=qKw (by wtm_at"d")
theorem full32:Full 32:=qKw (by wtm_at"d")
theorem full128:Full 128:=qKw (by wtm_at"d")
theorem full512:Full 512:=qKw (by wtm_at"d")
theorem Full.from {N:Nat}(F:Full N){i j:Nat}(hi:i<N)(hj:j<N):∃d,d<N/\orb N i d=j:=by
 obtain⟨a,ha,ea⟩:=F.1 i hi
 obtain⟨b,hb,eb⟩:=F.1 j hj
 by_cases c:a<=b
 .refine⟨b - a,by omega,?_⟩
  rw[<- ea,<- qXi,show a+(b - a)=b by omega]
  exact eb
 .refine⟨N - a+b,by omega,?_⟩
  rw[<- ea,<- qXi,show a+(N - a+b)=N+b by omega,qXi,F.2]
  exact eb
def lp (mask:Nat)(h:Int):Nat->Nat×Nat
 | 0=>(bits h % (mask+1),bits h)
 | k+1=>leap mask (lp mask h k).1 (lp mask h k).2
theorem xVm (mask:Nat)(h:Int):∀k,(lp mask h k).1<mask+1
 | 0=>Nat.mod_lt _ (Nat.succ_pos _)
 | k+1=>Nat.mod_lt _ (Nat.succ_pos _)
theorem xQi (mask:Nat)(h:Int):∀k,(lp mask h k).2=bits h / 32 ^ k
 | 0=>by rw[Nat.pow_zero,Nat.div_one];rfl
 | k+1=>by
  show(lp mask h k).2 / 32=_
  rw[xQi mask h k,Nat.div_div_eq_div_mul,Nat.pow_succ]
theorem xYv (h:Int):bits h<2 ^ 64:=by
 unfold SetTable.bits
 have h1:=Int.emod_nonneg h (show(2 ^ 64:Int)≠0 by decide)
 have h2:=Int.emod_lt_of_pos h (show(0:Int)<2 ^ 64 by decide)
 omega
theorem xJj (mask:Nat)(h:Int){k:Nat}(hk:13<=k):(lp mask h k).2=0:=by
 rw[xQi]
 refine Nat.div_eq_of_lt (yZE (xYv h) ?_)
 exact yZJ (show 2 ^ 64<=32 ^ 13 by decide) (Nat.pow_le_pow_right (by decide) hk)
theorem xQl (mask:Nat)(h:Int){k:Nat}(hk:13<=k):∀d,(lp mask h (k+d)).1=orb (mask+1) (lp mask h k).1 d
 | 0=>rfl
 | d+1=>by
  show((lp mask h (k+d)).1 * 5+1+(lp mask h (k+d)).2 / 32) % (mask+1)=nx (mask+1) (orb (mask+1) (lp mask h k).1 d)
  rw[xJj mask h (by omega),xQl mask h hk d]
  unfold nx
  rw[Nat.zero_div,Nat.add_zero,Nat.mul_comm]
theorem xVn {mask:Nat}(F:Full (mask+1))(h:Int)(k:Nat){j:Nat}(hj:j<=mask):∃d,d<=mask+13/\(lp mask h (k+d)).1=j:=by
 have hk:13<=k+13:=by omega
 obtain⟨d,hd,e⟩:=F.from (xVm mask h (k+13)) (show j<mask+1 by omega)
 refine⟨13+d,by omega,?_⟩
 rw[show k+(13+d)=k+13+d by omega,xQl mask h hk,e]
def run (mask i:Nat):Nat:=runEnd mask i - i
theorem xQj (mask i:Nat):run mask i<=9:=by
 unfold run SetTable.runEnd
 split <;> omega
theorem xKe {mask i:Nat}(h:i<=mask):i+run mask i<=mask:=by
 unfold run SetTable.runEnd
 split <;> omega
def pr (mask:Nat)(h:Int)(k m:Nat):SetTable.Probe:={ j:=(lp mask h k).1+m,more:=run mask (lp mask h k).1 - m,i:=(lp mask h k).1,perturb:=(lp mask h k).2,dummy:=none }
theorem xAx (t:SetTable){h:Int}{k m:Nat}(hm:m<run t.mask (lp t.mask h k).1):t.advance (pr t.mask h k m)=pr t.mask h k (m+1):=by
 unfold SetTable.advance pr
 dsimp only
 rw[if_pos (by omega)]
 congr 1
theorem xYa (t:SetTable){h:Int}{k m:Nat}(hm:run t.mask (lp t.mask h k).1<=m):t.advance (pr t.mask h k m)=pr t.mask h (k+1) 0:=by
 unfold SetTable.advance pr
 dsimp only
 rw[if_neg (by omega)]
 rfl
def wk (mask:Nat)(h:Int):Nat->Nat×Nat
 | 0=>(0,0)
 | n+1=>if (wk mask h n).2<run mask (lp mask h (wk mask h n).1).1 then ((wk mask h n).1,(wk mask h n).2+1) else ((wk mask h n).1+1,0)
def stp (mask:Nat)(h:Int)(n:Nat):SetTable.Probe:=pr mask h (wk mask h n).1 (wk mask h n).2
def pos (mask:Nat)(h:Int)(n:Nat):Nat:=(lp mask h (wk mask h n).1).1+(wk mask h n).2
theorem xAz (mask:Nat)(h:Int):∀n,(wk mask h n).2<=run mask (lp mask h (wk mask h n).1).1
 | 0=>yZG _
 | n+1=>by
  unfold wk
  split
  .rename_i c;exact c
  .exact yZG _
theorem xKn (mask:Nat)(h:Int)(n:Nat):pos mask h n<=mask:=by
 have h1:=xVm mask h (wk mask h n).1
 have h2:=xAz mask h n
 have h3:=xKe (mask:=mask) (i:=(lp mask h (wk mask h n).1).1) (by omega)
 unfold pos
 omega
theorem qRh (t:SetTable)(h:Int)(n:Nat):t.advance (stp t.mask h n)=stp t.mask h (n+1):=by
 have e:wk t.mask h (n+1)=if (wk t.mask h n).2<run t.mask (lp t.mask h (wk t.mask h n).1).1 then ((wk t.mask h n).1,(wk t.mask h n).2+1) else ((wk t.mask h n).1+1,0):=rfl
 unfold stp
 by_cases c:(wk t.mask h n).2<run t.mask (lp t.mask h (wk t.mask h n).1).1
 .rw[e,if_pos c];exact xAx t c
 .rw[e,if_neg c];exact xYa t (by omega)
theorem qHa (mask:Nat)(h:Int):∀(r n k m:Nat),wk mask h n=(k,m)->run mask (lp mask h k).1 - m=r->wk mask h (n+r+1)=(k+1,0)
 | 0,n,k,m,e,hr=>by
  show(if (wk mask h n).2<run mask (lp mask h (wk mask h n).1).1 then _ else _)=_
  rw[e]
  exact if_neg (by show¬m<run mask (lp mask h k).1;omega)
 | r+1,n,k,m,e,hr=>by
  have e1:wk mask h (n+1)=(k,m+1):=by
   show(if (wk mask h n).2<run mask (lp mask h (wk mask h n).1).1 then _ else _)=_
   rw[e]
   exact if_pos (by show m<run mask (lp mask h k).1;omega)
  have:=qHa mask h r (n+1) k (m+1) e1 (by omega)
  rw[show n+(r+1)+1=n+1+r+1 by omega]
  exact this
theorem qCg (mask:Nat)(h:Int){n k:Nat}(e:wk mask h n=(k,0)):∀d,∃s,s<=10 * d/\wk mask h (n+s)=(k+d,0)
 | 0=>⟨0,yZD _,e⟩
 | d+1=>by
  obtain⟨s,hs,es⟩:=qCg mask h e d
  have h9:=xQj mask (lp mask h (k+d)).1
  have:=qHa mask h _ (n+s) (k+d) 0 es rfl
  refine⟨s+run mask (lp mask h (k+d)).1+1,by omega,?_⟩
  rw[show n+(s+run mask (lp mask h (k+d)).1+1)=n+s+(run mask (lp mask h (k+d)).1 - 0)+1 by omega]
  exact this
theorem qMz {mask:Nat}(F:Full (mask+1))(h:Int)(n:Nat){j:Nat}(hj:j<=mask):∃s,s<10 * turns mask/\pos mask h (n+s)=j:=by
 have h9:=xQj mask (lp mask h (wk mask h n).1).1
 have e1:=qHa mask h _ n _ _ (show wk mask h n=((wk mask h n).1,(wk mask h n).2) from rfl) rfl
 obtain⟨d,hd,ed⟩:=xVn F h ((wk mask h n).1+1) hj
 obtain⟨s,hs,es⟩:=qCg mask h e1 d
 refine⟨run mask (lp mask h (wk mask h n).1).1 - (wk mask h n).2+1+s,?_,?_⟩
 .show _<10 * (mask+15)
  omega
 .unfold pos
  rw[show n+(run mask (lp mask h (wk mask h n).1).1 - (wk mask h n).2+1+s)=n+(run mask (lp mask h (wk mask h n).1).1 - (wk mask h n).2)+1+s by omega,es]
  exact ed
end ST
namespace ST
open PySem PyProof.Rows SI
open PySem.SetTable (runEnd leap bits turns)
theorem nd_le {α:Type}[DecidableEq α]:∀(l1 l2:List α),l1.Nodup->(∀x∈l1,x∈l2)->l1.length<=l2.length
 | [],_,_,_=>yZG _
 | x::l1,l2,nd,sub=>by
  have nd':=List.nodup_cons.mp nd
  have hx:=sub x yYG
  have h1:=nd_le l1 (l2.erase x) nd'.2 (fun y hy=>(List.mem_erase_of_ne (fun e:y=x=>nd'.1 (by rw[<- e];exact hy))).mpr (sub y (yYH _ hy)))
  rw[List.length_erase_of_mem hx] at h1
  have h2:=List.length_pos_of_mem hx
  rw[yYT];omega
section
variable {t:SetTable}
theorem qXw {j i:Nat}(h:t.slot j=.live i):t.place[i]? = some j:=by
 unfold SetTable.slot at h
 dsimp only at h
 split at h
 .rename_i c
  cases h
  exact eq_of_beq c
 .split at h <;> cases h
theorem qDg (hr:Ris t.place){j:Nat}(h:j∈t.place.toList):∃i,t.slot j=.live i:=by
 obtain⟨i,hi,e⟩:=List.getElem_of_mem h
 rw[yZM] at hi
 have e':t.place.getD i 0=j:=by
  rw[<- e];simp[Array.getD,hi]
 obtain⟨b1,b2,b3⟩:=wF hr j
 have ei:SetTable.below t.place j=i:=by
  rcases Nat.lt_trichotomy (SetTable.below t.place j) i with c | c | c
  .have h1:=b3 _ (yZD _) (by omega)
   have h2:=hr.get c hi
   omega
  .exact c
  .have:=b2 i c
   omega
 refine⟨i,?_⟩
 unfold SetTable.slot
 dsimp only
 rw[ei,if_pos (by
  have:t.place[i]? = some j:=by rw[<- e];simp[hi]
  rw[this];simp)]
theorem wO (hr:Ris t.place)(hd:t.dummies=#[])(j:Nat):t.slot j=.empty↔j∉t.place.toList:=by
 constructor
 .intro h m
  obtain⟨i,e⟩:=qDg hr m
  rw[h] at e
  cases e
 .intro h
  cases e:t.slot j with
  | empty=>rfl
  | dummy=>exact absurd e (qEv hd j)
  | live i=>
   have:=qXw e
   exact absurd (by
    have h1:=Array.mem_of_getElem? this
    exact Array.mem_toList_iff.mpr h1) h
end
structure Tab (t:SetTable)(es:Array (Int×Value)):Prop where
 dum:t.dummies=#[]
 ris:Ris t.place
 full:Full (t.mask+1)
 odd:t.gaveWay=false
 size:t.place.size=es.size
 inn:∀j∈t.place.toList,j<=t.mask
 room:es.size<=t.mask
 reach:∀(i j:Nat) (e:Int×Value),t.place[i]? = some j->es[i]? = some e->∃m,pos t.mask e.1 m=j/\∀l,l<m->t.slot (pos t.mask e.1 l)≠.empty
section
variable {t:SetTable}{es:Array (Int×Value)}
theorem Tab.free (T:Tab t es):∃j,j<=t.mask/\t.slot j=.empty:=by
 apply Classical.byContradiction
 intro h
 have all:∀j∈List.range (t.mask+1),j∈t.place.toList:=fun j hj=>Classical.byContradiction fun z=>h ⟨j,by have:=List.mem_range.mp hj;omega,(wO T.ris T.dum j).mpr z⟩
 have:=nd_le _ _ List.nodup_range all
 rw[List.length_range,yZM,T.size] at this
 have:=T.room
 omega
theorem qDm (hd:t.dummies=#[])(ha:Nat->Int)(h:Int):∀(f n:Nat),(∃s,s<f/\t.slot (pos t.mask h (n+s))=.empty)->
  ∃s,(∀l,l<s->t.slot (pos t.mask h (n+l))≠.empty/\∀i,t.slot (pos t.mask h (n+l))=.live i->ha i≠h)/\
   ((t.slot (pos t.mask h (n+s))=.empty/\SetTable.probe.go t ha h f (stp t.mask h n)=some (.empty (pos t.mask h (n+s)) none))\/
     ∃i,t.slot (pos t.mask h (n+s))=.live i/\ha i=h/\SetTable.probe.go t ha h f (stp t.mask h n)=some (.candidate (pos t.mask h (n+s)) i (stp t.mask h (n+s+1))))
 | 0,n,⟨s,hs,_⟩=>absurd hs (Nat.not_lt_zero _)
 | f+1,n,⟨s,hs,es⟩=>by
  have go:SetTable.probe.go t ha h (f+1) (stp t.mask h n)=(match t.slot (pos t.mask h n) with
    | .empty=>some (.empty (pos t.mask h n) none)
    | .dummy=>SetTable.probe.go t ha h f (t.advance { stp t.mask h n with dummy:=some (pos t.mask h n) })
    | .live i=>if ha i == h then some (.candidate (pos t.mask h n) i (t.advance (stp t.mask h n))) else SetTable.probe.go t ha h f (t.advance (stp t.mask h n))):=by
   rw[SetTable.probe.go]
   rfl
  cases c:t.slot (pos t.mask h n) with
  | empty=>
   refine⟨0,fun l hl=>absurd hl (Nat.not_lt_zero _),.inl ⟨c,?_⟩⟩
   rw[go,c]
   rfl
  | dummy=>exact absurd c (qEv hd _)
  | live i=>
   rw[c] at go
   dsimp only at go
   rw[qRh] at go
   by_cases e:ha i=h
   .refine⟨0,fun l hl=>absurd hl (Nat.not_lt_zero _),.inr ⟨i,c,e,?_⟩⟩
    rw[go,if_pos (by rw[e];exact beq_self_eq_true h)]
    rfl
   .rw[if_neg (by rw[beq_iff_eq];exact e)] at go
    have s0:s≠0:=fun z=>by rw[z,Nat.add_zero,c] at es;cases es
    obtain⟨s',h1,h2⟩:=qDm hd ha h f (n+1) ⟨s - 1,by omega,by rw[show n+1+(s - 1)=n+s by omega];exact es⟩
    rw[<- go] at h2
    refine⟨s'+1,fun l hl=>?_,?_⟩
    .cases l with
     | zero=>
      refine⟨(by rw[Nat.add_zero,c];exact fun z=>SetTable.Slot.noConfusion z),fun i' ei=>?_⟩
      rw[Nat.add_zero,c] at ei
      cases ei
      exact e
     | succ l=>
      have:=h1 l (by omega)
      rw[show n+1+l=n+(l+1) by omega] at this
      exact this
    .rw[show n+1+s'=n+(s'+1) by omega] at h2
     exact h2
theorem Tab.probe (T:Tab t es)(ha:Nat->Int)(h:Int)(n:Nat):
  ∃s,(∀l,l<s->t.slot (pos t.mask h (n+l))≠.empty/\∀i,t.slot (pos t.mask h (n+l))=.live i->ha i≠h)/\
   ((t.slot (pos t.mask h (n+s))=.empty/\t.probe ha h (stp t.mask h n)=some (.empty (pos t.mask h (n+s)) none))\/
     ∃i,t.slot (pos t.mask h (n+s))=.live i/\ha i=h/\t.probe ha h (stp t.mask h n)=some (.candidate (pos t.mask h (n+s)) i (stp t.mask h (n+s+1)))):=by
 obtain⟨j,hj,ej⟩:=T.free
 obtain⟨s,hs,e⟩:=qMz T.full h n hj
 exact qDm T.dum ha h _ n ⟨s,hs,by rw[e];exact ej⟩
end
theorem ins_get {α:Type}(xs:Array α){p:Nat}(hp:p<=xs.size)(x:α)(i:Nat):(SetTable.insertAt xs p x)[i]? = if i<p then xs[i]? else if i=p then some x else xs[i - 1]? := by
 have e:(SetTable.insertAt xs p x)[i]? = (SetTable.insertAt xs p x).toList[i]? := by simp
 rw[e,SetTable.toList_insertAt]
 have lt:(xs.toList.take p).length=p:=by rw[yYF,yZM];omega
 by_cases c:i<p
 .rw[if_pos c,List.getElem?_append_left (by omega),List.getElem?_take_of_lt c]
  simp
 .rw[if_neg c,List.getElem?_append_right (by omega),lt]
  by_cases c2:i=p
  .rw[if_pos c2,c2,Nat.sub_self];rfl
  .rw[if_neg c2,show i - p=(i - p - 1)+1 by omega,List.getElem?_cons_succ,List.getElem?_drop,show p+(i - p - 1)=i - 1 by omega]
   simp
section
variable {t:SetTable}{es:Array (Int×Value)}
theorem qIn {j k:Nat}:k∈(t.put j).1.place.toList↔k=j\/k∈t.place.toList:=by
 have:=(SetTable.insertAt_perm t.place (SetTable.below t.place j) j).mem_iff (a:=k)
 show k∈(SetTable.insertAt t.place (SetTable.below t.place j) j).toList↔_
 rw[this,Array.toList_push,yYS,yYL]
 exact or_comm
theorem Tab.put (T:Tab t es){h:Int}{m:Nat}(he:t.slot (pos t.mask h m)=.empty)(bef:∀l,l<m->t.slot (pos t.mask h l)≠.empty)(hroom:es.size+1<=t.mask)(x:Value):
  Tab (t.put (pos t.mask h m)).1 (SetTable.insertAt es (t.put (pos t.mask h m)).2 (h,x)):=by
 have ok:TOk t.led t:=⟨rfl,T.dum,T.ris⟩
 have ok':=ok.put he
 have hp:(t.put (pos t.mask h m)).2<=t.place.size:=(wF T.ris _).1
 have hpe:(t.put (pos t.mask h m)).2<=es.size:=by rw[<- T.size];exact hp
 have ne:∀k,t.slot k≠.empty->(t.put (pos t.mask h m)).1.slot k≠.empty:=fun k hk=>by
  rw[Ne,wO ok'.ris ok'.dum,Classical.not_not]
  rw[Ne,wO T.ris T.dum,Classical.not_not] at hk
  exact qIn.mpr (.inr hk)
 have sz:∀{α:Type} (xs:Array α) (p:Nat) (x:α),p<=xs.size->(SetTable.insertAt xs p x).size=xs.size+1:=fun xs p x hp=>by
  rw[<- yZM,(SetTable.insertAt_perm xs p x).length_eq];simp
 refine⟨ok'.dum,ok'.ris,T.full,T.odd,?_,fun j hj=>?_,?_,fun i j e e1 e2=>?_⟩
 .have e1:(t.put (pos t.mask h m)).1.place.size=t.place.size+1:=sz _ _ _ hp
  rw[e1,sz _ _ _ hpe,T.size]
 .rcases qIn.mp hj with rfl | hj
  .exact xKn _ _ _
  .exact T.inn j hj
 .rw[sz _ _ _ hpe];exact hroom
 .have e1:(SetTable.insertAt t.place (t.put (pos t.mask h m)).2 (pos t.mask h m))[i]? = some j:=e1
  rw[ins_get _ hp] at e1
  rw[ins_get _ hpe] at e2
  by_cases c:i<(t.put (pos t.mask h m)).2
  .rw[if_pos c] at e1 e2
   obtain⟨m',h1,h2⟩:=T.reach i j e e1 e2
   exact⟨m',h1,fun l hl=>ne _ (h2 l hl)⟩
  .rw[if_neg c] at e1 e2
   by_cases c2:i=(t.put (pos t.mask h m)).2
   .rw[if_pos c2] at e1 e2
    cases e1
    cases e2
    exact⟨m,rfl,fun l hl=>ne _ (bef l hl)⟩
   .rw[if_neg c2] at e1 e2
    obtain⟨m',h1,h2⟩:=T.reach _ j e e1 e2
    exact⟨m',h1,fun l hl=>ne _ (h2 l hl)⟩
end
end ST
namespace ST
open PySem PyProof.Rows SI L2
open PySem.SetTable (runEnd leap bits turns)
section
variable {t:SetTable}{es:Array (Int×Value)}
theorem Tab.fits (T:Tab t es):t.fits es.size=true:=by
 unfold SetTable.fits SetTable.fill
 rw[T.size,T.dum,Bool.and_eq_true,decide_eq_true_eq]
 exact⟨beq_self_eq_true _,T.room⟩
theorem Tab.live (T:Tab t es){j i:Nat}(h:t.slot j=.live i):i<es.size:=by
 have:=qXw h
 rw[<- T.size]
 exact(Array.getElem?_eq_some_iff.mp this).1
theorem xQh (T:Tab t es)(ha:Nat->Int)(hha:∀i e,es[i]? = some e->ha i=e.1)(h:Int)(n:Nat):
  ∃s,(∀l,l<s->t.slot (pos t.mask h (n+l))≠.empty/\∀i e,t.slot (pos t.mask h (n+l))=.live i->es[i]? = some e->e.1≠h)/\
   ((t.slot (pos t.mask h (n+s))=.empty/\t.probe ha h (stp t.mask h n)=some (.empty (pos t.mask h (n+s)) none))\/
     ∃i e,t.slot (pos t.mask h (n+s))=.live i/\es[i]? = some e/\e.1=h/\t.probe ha h (stp t.mask h n)=some (.candidate (pos t.mask h (n+s)) i (stp t.mask h (n+s+1)))):=by
 obtain⟨s,h1,h2⟩:=T.probe ha h n
 refine⟨s,fun l hl=>⟨(h1 l hl).1,fun i e es1 es2 z=>(h1 l hl).2 i es1 (by rw[hha i e es2];exact z)⟩,?_⟩
 rcases h2 with h2 | ⟨i,a,b,c⟩
 .exact .inl h2
 .have hi:=T.live a
  refine .inr ⟨i,es[i],a,Array.getElem?_eq_getElem hi,?_,c⟩
  rw[<- b]
  exact(hha i _ (Array.getElem?_eq_getElem hi)).symm
end
section
variable {prog:Program}{w:World}{A:Around}{E:Value->Shared->Prop}{s:Shared}
abbrev IsK (prog:Program)(w:World)(h:Heap)(ks:List Key)(a:Addr):Prop:=IsTupleKey (xR prog w) h ks a
abbrev hK (prog:Program)(w:World)(ks:List Key):Int:=tupleKeyHash (xR prog w) ks
def ent (prog:Program)(w:World)(x:List Key×Addr):Int×Value:=(hK prog w x.1,.ref x.2)
structure TS (prog:Program)(w:World)(h:Heap)(a:Addr)(b:Bool)(xs:List (List Key×Addr))(o:Obj)(es:Array (Int×Value))(ep:Nat)(t:SetTable):Prop where
 at':h.get? a=some o
 ex:o.ExactSet
 data:o.data=.set es ep t
 ents:es.toList=xs.map (ent prog w)
 nd:(xs.map (·.1)).Nodup
 tab:Tab t es
 led:t.led=b
 len:xs.length<=300
 mask:t.mask=7\/t.mask=31\/t.mask=127\/t.mask=511
 full:t.fill * 5<t.mask * 3
section
variable {h:Heap}{a:Addr}{b:Bool}{xs:List (List Key×Addr)}{o:Obj}{es:Array (Int×Value)}{ep:Nat}{t:SetTable}
theorem TS.size (x:TS prog w h a b xs o es ep t):es.size=xs.length:=by rw[<- yZM,x.ents,yYC]
theorem TS.get (x:TS prog w h a b xs o es ep t){i:Nat}{e:Int×Value}(h:es[i]? = some e):∃y,xs[i]? = some y/\e=ent prog w y:=by
 rw[<- yZN,x.ents,yYO] at h
 obtain⟨y,h1,h2⟩:=Option.map_eq_some_iff.mp h
 exact⟨y,h1,h2.symm⟩
end
theorem qEw {ks:List Key}{c:Addr}{Q:Bool->Shared->Prop}(hk:IsK prog w s.heap ks c)(h:Q false s):wpAny (model prog w) A (ofAClassStatement 8 (.ref c)) Q E s:=by
 have hT:=hk.typeIs
 obtain⟨o,items,n,ho,_,hd,hi⟩:=hk
 unfold ofAClassStatement
 refine yYX (wpAny_typeOf hT ?_)
 dsimp only
 rw[if_pos (show("tuple" == "tuple")=true from rfl)]
 refine yYX (yYY ?_)
 simp only[Bool.not_true,yZK,if_false]
 refine yYX (wpAny_seqItems ho hd ?_)
 dsimp only
 refine yYX ?_
 rw[<- Array.forIn_toList]
 refine wpAny_forIn_list _ (fun rest r s'=>r.1=none/\s'=s/\∀v∈rest,carriedByValue v=true) _ ?_ ?_ _ _ ⟨rfl,rfl,hi.byValue⟩
 .rintro v rest r s' ⟨hr,rfl,hall⟩
  have hv:=hall v yYG
  have e:ofAClassStatement 7 v=pure false:=by
   cases v with
   | ref a=>simp[carriedByValue] at hv
   | _=>first | rfl | simp[ofAClassStatement] | (unfold ofAClassStatement;rfl)
  rw[e]
  refine yYX (yYY ?_)
  simp only[yZK,if_false]
  exact yYY ⟨rfl,rfl,fun u hu'=>hall u (yYH _ hu')⟩
 .rintro⟨r1,r2⟩ s' ⟨hr,rfl,_⟩
  simp only at hr
  subst hr
  exact yYY h
theorem qUm {ks:List Key}{c:Addr}{Q:Bool->Shared->Prop}(hk:IsK prog w s.heap ks c)(h:∀v,Q v s):wpAny (model prog w) A (hashByValue 8 (.ref c)) Q E s:=by
 have hT:=hk.typeIs
 obtain⟨o,items,n,ho,_,hd,hi⟩:=hk
 unfold hashByValue
 refine yYX (wpAny_specialOf hT F.slot_tuple_hash.lookup ?_)
 show wpAny _ _ (seqItems? (.ref c) >>= _) Q E s
 refine yYX (wpAny_seqItems ho hd ?_)
 dsimp only[Option.getD_some]
 refine yYX ?_
 rw[<- Array.forIn_toList]
 refine wpAny_forIn_list _ (fun rest r s'=>(r.1=none\/∃v,r.1=some v)/\s'=s/\∀v∈rest,carriedByValue v=true) _ ?_ ?_ _ _ ⟨.inl rfl,rfl,hi.byValue⟩
 .rintro v rest r s' ⟨hr,rfl,hall⟩
  have hv:=hall v yYG
  have e:∃b,hashByValue 7 v=pure b:=by
   cases v with
   | ref a=>simp[carriedByValue] at hv
   | _=>first | exact⟨_,rfl⟩ | (unfold hashByValue;exact⟨_,rfl⟩)
  obtain⟨b,e⟩:=e
  rw[e]
  refine yYX (yYY ?_)
  cases b with
  | true=>
   simp only[Bool.not_true,yZK,if_false]
   exact yYY ⟨.inl rfl,rfl,fun u hu'=>hall u (yYH _ hu')⟩
  | false=>
   simp only[Bool.not_false,if_true]
   exact yYY (show wpAny (model prog w) A (pure false) Q E _ from yYY (h false))
 .rintro⟨r1,r2⟩ s' ⟨hr,rfl,_⟩
  cases r1 with
  | none=>exact yYY (h true)
  | some v=>exact yYY (h v)
theorem qSo {ks:List Key}{c:Addr}{ys:List (List Key×Addr)}{Q:Bool->Shared->Prop}(hk:IsK prog w s.heap ks c)(hy:∀y∈ys,IsK prog w s.heap y.1 y.2)(h:Q false s):
  wpAny (model prog w) A (searchCouldBeSeen (.ref c) (ys.map fun y=>Value.ref y.2)) Q E s:=by
 unfold searchCouldBeSeen
 refine yYX ?_
 refine wpAny_forIn_list _ (fun rest r s'=>r.1=none/\s'=s/\∃zs:List (List Key×Addr),rest=zs.map (fun y=>Value.ref y.2)/\∀y∈zs,IsK prog w s.heap y.1 y.2) _ ?_ ?_ _ _ ⟨rfl,rfl,ys,rfl,hy⟩
 .rintro v rest r s' ⟨hr,rfl,zs,hz,hall⟩
  cases zs with
  | nil=>cases hz
  | cons z zs=>
   rw[List.map_cons] at hz
   obtain⟨rfl,rfl⟩:=List.cons.inj hz
   have nx:∀{B:Prop},(⟨none,()⟩:MProd (Option Bool) PUnit).1=none/\s'=s'/\∃zs':List (List Key×Addr),zs.map (fun y=>Value.ref y.2)=zs'.map (fun y=>Value.ref y.2)/\∀y∈zs',IsK prog w s'.heap y.1 y.2:=⟨rfl,rfl,zs,rfl,fun y hy=>hall y (yYH _ hy)⟩
   dsimp only
   split
   .exact yYY (nx (B:=True))
   .refine yYX (wpAny_eqIsQuiet_tuple hk ?_)
    simp only[Bool.not_true,yZK,if_false]
    refine yYX (wpAny_eqIsQuiet_tuple (hall z yYG) ?_)
    simp only[Bool.not_true,yZK,if_false]
    refine yYX (qEw hk ?_)
    simp only[yZK,if_false]
    refine yYX (qEw (hall z yYG) ?_)
    simp only[yZK,if_false]
    exact yYY (nx (B:=True))
 .rintro⟨r1,r2⟩ s' ⟨hr,rfl,_⟩
  simp only at hr
  subst hr
  exact yYY h
theorem qVe {a:Addr}{b:Bool}{xs:List (List Key×Addr)}{o:Obj}{es:Array (Int×Value)}{ep:Nat}{t:SetTable}(X:TS prog w s.heap a b xs o es ep t)(room:A.units<cLine){ks:List Key}{c:Addr}(hk:IsK prog w s.heap ks c)
  (hx:∀y∈xs,IsK prog w s.heap y.1 y.2) {Q:SetFound->Shared->Prop} (q1:ks∈xs.map (·.1)->Q (.there none) s)
  (q2:∀m,ks∉xs.map (·.1)->t.slot (pos t.mask (hK prog w ks) m)=.empty->(∀l,l<m->t.slot (pos t.mask (hK prog w ks) l)≠.empty)->Q (.free (pos t.mask (hK prog w ks) m) false) s)
  {e0:Nat} (he0:t.slot (pos t.mask (hK prog w ks) e0)=.empty):∀(f n:Nat) (stand:Option SetTable.Probe),stand.getD (t.probeStart (hK prog w ks))=stp t.mask (hK prog w ks) n->n<=e0->e0<n+f->
   (∀l,l<n->t.slot (pos t.mask (hK prog w ks) l)≠.empty/\∀i y,t.slot (pos t.mask (hK prog w ks) l)=.live i->xs[i]? = some y->y.1≠ks)->
   wpAny (model prog w) A (setSearchFrom a (.ref c) (hK prog w ks) true f stand) Q E s
 | 0,n,stand,est,hn,hf,bef=>absurd hf (by omega)
 | f+1,n,stand,est,hn,hf,bef=>by
  have T:=X.tab
  unfold setSearchFrom
  refine yYX (wpAny_setState_of X.at' X.data T.fits ?_)
  dsimp only
  rw[T.odd,est]
  simp only[yZK,if_false]
  have hk1:∀i e (ha:Nat->Int),(ha=fun i=>(es[i]?.map (·.1)).getD 0)->es[i]? = some e->ha i=e.1:=fun i e ha h1 h2=>by rw[h1];dsimp only;rw[h2];rfl
  split
  .rename_i met hq
   refine(fun ha (hha:ha=fun i=>(es[i]?.map (·.1)).getD 0) (hq:t.probe ha (hK prog w ks) (stp t.mask (hK prog w ks) n)=some met)=>?_) _ ?_ hq
   .obtain⟨st,h1,h2⟩:=xQh T ha (fun i e h=>hk1 i e ha hha h) (hK prog w ks) n
    have bef2:∀l,l<n+st->t.slot (pos t.mask (hK prog w ks) l)≠.empty/\∀i y,t.slot (pos t.mask (hK prog w ks) l)=.live i->xs[i]? = some y->y.1≠ks:=fun l hl=>by
     by_cases c:l<n
     .exact bef l c
     .obtain⟨q,rfl⟩:∃q,l=n+q:=⟨l - n,by omega⟩
      refine⟨(h1 q (by omega)).1,fun i y e1 e2 z=>?_⟩
      have e3:es[i]? = some (ent prog w y):=by rw[<- yZN,X.ents,yYO,e2];rfl
      exact(h1 q (by omega)).2 i _ e1 e3 (by rw[<- z];rfl)
    rcases h2 with⟨h2,h3⟩ | ⟨i,e,h2,h3,h4,h5⟩
    .rw[hq] at h3
     cases h3
     dsimp only
     refine yYY (q2 _ ?_ h2 fun l hl=>(bef2 l hl).1)
     intro hm
     obtain⟨y,hy,ey⟩:=yYP.mp hm
     obtain⟨i,hi⟩:=List.mem_iff_getElem?.mp hy
     have e3:es[i]? = some (ent prog w y):=by rw[<- yZN,X.ents,yYO,hi];rfl
     have hpi:i<t.place.size:=by rw[T.size];exact(Array.getElem?_eq_some_iff.mp e3).1
     obtain⟨m,hm1,hm2⟩:=T.reach i _ _ (Array.getElem?_eq_getElem hpi) e3
     have e4:(ent prog w y).1=hK prog w ks:=by rw[<- ey];rfl
     rw[e4] at hm1 hm2
     have live:t.slot (pos t.mask (hK prog w ks) m)=.live i:=by
      have hmem:pos t.mask (hK prog w ks) m∈t.place.toList:=by rw[hm1];exact Array.getElem_mem_toList hpi
      obtain⟨i',ei⟩:=qDg T.ris hmem
      have e5:=qXw ei
      rw[hm1] at e5
      have:i'=i:=by
       rcases Nat.lt_trichotomy i' i with c | c | c
       .have h6:=T.ris.get c hpi
        have h7:=(Array.getElem?_eq_some_iff.mp e5)
        rw[Array.getD_eq_getD_getElem?,Array.getD_eq_getD_getElem?,e5,Array.getElem?_eq_getElem hpi] at h6
        exact absurd h6 (Nat.lt_irrefl _)
       .exact c
       .have h7:=(Array.getElem?_eq_some_iff.mp e5).1
        have h6:=T.ris.get c h7
        rw[Array.getD_eq_getD_getElem?,Array.getD_eq_getD_getElem?,e5,Array.getElem?_eq_getElem hpi] at h6
        exact absurd h6 (Nat.lt_irrefl _)
      rw[ei,this]
     rcases Nat.lt_trichotomy m (n+st) with c | c | c
     .exact(bef2 m c).2 i y live hi ey
     .rw[c,h2] at live;cases live
     .exact hm2 (n+st) c h2
    .rw[hq] at h5
     cases h5
     obtain⟨y,hy,rfl⟩:=X.get h3
     have hky:=hx y (yYE hy)
     have lt:n+st<e0:=by
      rcases Nat.lt_trichotomy (n+st) e0 with c | c | c
      .exact c
      .rw[c,he0] at h2;cases h2
      .exact absurd he0 (bef2 e0 c).1
     dsimp only
     have h3':es[i]? = some (hK prog w y.1,Value.ref y.2):=h3
     have ef:List.map (fun x=>x.snd) (Array.filter (fun x=>x.fst == hK prog w ks) es).toList=(xs.filter fun y=>(ent prog w y).1 == hK prog w ks).map fun y=>Value.ref y.2:=by
      rw[Array.toList_filter,X.ents,List.filter_map,List.map_map];rfl
     have sm:t.sameMemory t.moves t.mask=some true:=by
      unfold SetTable.sameMemory
      rw[if_pos (beq_self_eq_true _)]
     cases c0:t.led
     case' true=>simp only[Bool.not_true,yZK,if_false]
     case' false=>
      simp only[Bool.not_false,if_true]
      refine yYX ?_
      rw[ef]
      refine qSo hk (fun y hy=>hx y (yYR.mp hy).1) ?_
      simp only[yZK,if_false]
     all_goals
      rw[h3']
      dsimp only
      refine yYX (wpAny_holding (wpAny_eqBool_tuple room hky hk ?_))
      refine yYX (wpAny_setState_of X.at' X.data T.fits ?_)
      dsimp only
      by_cases ek:y.1=ks
      .rw[decide_eq_true ek]
       simp only[Bool.and_self,if_true]
       exact yYY (q1 (yYP.mpr ⟨y,yYE hy,ek⟩))
      .rw[decide_eq_false ek]
       simp only[Bool.and_false,yZK,if_false]
       rw[sm]
       simp only[if_true]
       rw[h2]
       dsimp only
       rw[h3']
       dsimp only
       refine yYX (wpAny_isSame_ref_self ?_)
       simp only[if_true]
       refine yYX (yYY ?_)
       dsimp only
       refine qVe X room hk hx q1 q2 he0 f (n+st+1) (some _) rfl (by omega) (by omega) fun l hl=>?_
       by_cases c1:l<n+st
       .exact bef2 l c1
       .obtain rfl:l=n+st:=by omega
        refine⟨by rw[h2];exact fun z=>SetTable.Slot.noConfusion z,fun i' y' e1 e2=>?_⟩
        rw[h2] at e1
        cases e1
        rw[hy] at e2
        cases e2
        exact ek
   .rfl
  .rename_i hq
   refine(fun ha (hha:ha=fun i=>(es[i]?.map (·.1)).getD 0) (hq:∀met,t.probe ha (hK prog w ks) (stp t.mask (hK prog w ks) n)=some met->False)=>?_) _ ?_ hq
   .obtain⟨st,h1,h2⟩:=xQh T ha (fun i e h=>hk1 i e ha hha h) (hK prog w ks) n
    rcases h2 with⟨h2,h3⟩ | ⟨i,e,h2,h3,h4,h5⟩
    .exact(hq _ h3).elim
    .exact(hq _ h5).elim
   .rfl
end
end ST
namespace ST
open PySem PyProof.Rows SI L2
open PySem.SetTable (runEnd leap bits turns)
theorem qYn {α β:Type}{f:α->β}{l m:List β}(p:l.Perm m):∀xs:List α,m=xs.map f->∃ys:List α,ys.Perm xs/\l=ys.map f:=by
 induction p with
 | nil=>
  intro xs e
  exact⟨[],by rw[List.map_eq_nil_iff.mp e.symm],rfl⟩
 | cons x _ ih=>
  intro xs e
  obtain⟨y,ys,rfl,e1,e2⟩:=List.map_eq_cons_iff.mp e.symm
  obtain⟨zs,p1,e3⟩:=ih ys e2.symm
  exact⟨y::zs,p1.cons y,by rw[List.map_cons,e3,e1]⟩
 | swap x y l=>
  intro xs e
  obtain⟨a,ys,rfl,e1,e2⟩:=List.map_eq_cons_iff.mp e.symm
  obtain⟨b,zs,rfl,e3,e4⟩:=List.map_eq_cons_iff.mp e2
  exact⟨b::a::zs,.swap a b zs,by rw[List.map_cons,List.map_cons,e1,e3,e4]⟩
 | trans _ _ ih1 ih2=>
  intro xs e
  obtain⟨ys,p1,e1⟩:=ih2 xs e
  obtain⟨zs,p2,e2⟩:=ih1 ys e1
  exact⟨zs,p2.trans p1,e2⟩
theorem Tab.off {t:SetTable}{es:Array (Int×Value)}(T:Tab t es):Tab { t with plain:=false } es:=⟨T.dum,T.ris,T.full,T.odd,T.size,T.inn,T.room,T.reach⟩
section
variable {prog:Program}{w:World}{A:Around}{E:Value->Shared->Prop}{s:Shared}
theorem qKk {h h':Heap}{ks:List Key}{c:Addr}(x:IsK prog w h ks c)(k:∀o,h.get? c=some o->h'.get? c=some o):IsK prog w h' ks c:=let ⟨o,i,n,e,r⟩:=x;⟨o,i,n,k o e,r⟩
theorem masks {m:Nat}(h:m=7\/m=31\/m=127\/m=511):Full (m+1)/\m % 2≠0/\m<=511:=by
 rcases h with rfl | rfl | rfl | rfl
 .exact⟨full8,by decide,by decide⟩
 .exact⟨full32,by decide,by decide⟩
 .exact⟨full128,by decide,by decide⟩
 .exact⟨full512,by decide,by decide⟩
theorem qSw {h:Heap}{a:Addr}{o:Obj}{es:Array (Int×Value)}{ep:Nat}{t:SetTable}(ho:h.get? a=some o)(hd:o.data=.set es ep t)(es':Array (Int×Value))(t':SetTable):
  (h.update a (Obj.putSet es' t')).get? a=some { o with data:=.set es' (ep+1) t' }:=by
 have:=Heap.get?_update_self (Obj.putSet es' t') ho (by rw[putSet_of es' t' hd];rfl)
 rw[putSet_of es' t' hd] at this;exact this
end
end ST
namespace ST
open PySem PyProof.Rows SI L2
def Made (its:List (List Key×Addr))(i:Nat)(xs:List (List Key×Addr)):Prop:=(∀x∈xs,x∈its.take i)/\∀y∈its.take i,y.1∈xs.map (·.1)
end ST
namespace ST
open PySem PyProof.Rows SI L2 TM
def ik (ns:List Int):List Key:=ns.map Sum.inl
theorem ik_inj {a b:List Int}(h:ik a=ik b):a=b:=by
 unfold ik at h
 exact(List.map_inj_right (fun x y e=>Sum.inl.inj e)).mp h
theorem ik_kV (ns:List Int):(ik ns).map kV=ns.map V.int:=by
 unfold ik
 rw[List.map_map];rfl
def kx (x:List Int×Addr):List Key×Addr:=(ik x.1,x.2)
end ST
namespace L2
open PySem PySem.Spec PyProof.Rows
def SetT (P:Program)(w:World)(a:Addr)(xs:List (List Int×Addr)):HO:=.ext fun h=>∃o es ep t,ST.TS P w h a (!SI.byText w) (xs.map ST.kx) o es ep t
end L2
namespace DT
open PySem PyProof.Rows
structure At (h:Heap)(d:Addr)(o:Obj)(es:Array DictEntry)(ep:Nat):Prop where
 at':h.get? d=some o
 ex:o.ExactDict
 data:o.data=.dict es ep
section
variable {prog:Program}{w:World}{A:Around}{E:Value->Shared->Prop}{s:Shared}{d I:Addr}{o:Obj}{es:Array DictEntry}{ep:Nat}
theorem iter (hd:(d == sysModules)=false)(D:At s.heap d o es ep){Q:Value->Shared->Prop}
  (h:∀h',h'.IsKeyIter s.heap.objs.size d 0 es.size ep->(∀b o,s.heap.get? b=some o->h'.get? b=some o)->Q (.ref s.heap.objs.size) { s with heap:=h' }):wpAny (model prog w) A (pyIter (.ref d)) Q E s:=by
 have hT:s.TypeIs (.ref d) "dict" := ⟨o,D.at',D.ex.1⟩
 refine wpAny_pyIter_slot hT F.slot_dict_iter (wpAny_call_entry F.slot_dict_iter hT F.entry_dict_iter ?_ (F.args_dict_iter_1 _))
 unfold Builtin.«dict.__iter__» Builtin.Dict.dictSlotNone
 refine yYX (yYX (wpAny_notOrdered_dict hT (yYY ?_)))
 show wpAny _ _ (Builtin.Dict.showsAll d >>= _) _ _ s
 unfold Builtin.Dict.showsAll
 rw[hd]
 refine yYX (yYY (yYX (wpAny_dictEntries D.at' D.data (yYX (wpAny_dictEpoch D.at' D.data (yYX (wpAny_newObj_type (yYY ⟨_,rfl,"dict_keyiterator",_,⟨_,yZB _ rfl,rfl⟩,F.slot_dict_keyiterator_next.lookup,?_⟩))))))))
 exact h _ ⟨_,yZB _ rfl,rfl,by simp[rawInt]⟩ fun b o e=>yYZ _ e
theorem next {i:Nat}(hit:s.heap.IsKeyIter I d i es.size ep)(D:At s.heap d o es ep)(hi:i<es.size){Q:Option Value->Shared->Prop}
  (h:∀h',h'.IsKeyIter I d (i+1) es.size ep->Heap.SameBut I s.heap h'->Q (some es[i].key) { s with heap:=h' }):wpAny (model prog w) A (pyNext (.ref I)) Q E s:=by
 obtain⟨oi,e1,e2,e3⟩:=id hit
 have T:=hit.typeIs
 unfold pyNext
 refine yYX (wpAny_attempt (wpAny_callSpecial?_slot (name:=Str.ofString "__next__") T F.slot_dict_keyiterator_next (wpAny_call_entry F.slot_dict_keyiterator_next T F.entry_dict_keyiterator_next ?_ (F.args_dict_keyiterator_next_1 _))))
 refine yYX (yYY (yYX (yYX (yYX ?_))))
 refine wpAny_typeNameOfWhole_keyiter T (yYY (yYX (wpAny_fieldsOf e1 e3 ?_)))
 rw[show Builtin.Dict_items.ownsTuple "dict_keyiterator" = false by decide]
 simp only[yZK,if_false]
 show wpAny _ _ (if (Value.ref d == Value.none)=true then _ else _) _ _ s
 refine wpAny_ite_split (fun z=>absurd z yZL) fun _=>?_
 refine yYX (yYY (yYX (wpAny_dictEntries D.at' D.data ?_)))
 refine wpAny_ite_split (fun z=>absurd z (by simp)) fun _=>?_
 refine yYX (yYY (yYX (wpAny_dictEpoch D.at' D.data ?_)))
 refine wpAny_ite_split (fun z=>absurd z (by simp)) fun _=>?_
 refine yYY ?_
 simp only[show¬((i:Int)<0) from by omega,if_false,Int.toNat_natCast,Array.getElem?_eq_getElem hi]
 refine yYX (yYX (wpAny_typeNameOfWhole_keyiter T (yYY (yYX (wpAny_isOneOf_keyiter T ?_)))))
 show wpAny _ _ (setField (.ref I) 1 (rawInt ((i:Int)+1)) >>= _) _ _ s
 refine yYX (wpAny_setField e1 e3 (by simp) ?_)
 have hit':(s.heap.update I (Obj.mapFields (·.setIfInBounds 1 (rawInt ((i:Int)+1))))).IsKeyIter I d (i+1) es.size ep:=
  ⟨_,Heap.get?_update_self _ e1 (Obj.isFreed_of_fields (Obj.data_mapFields e3 _)),(Obj.cls_mapFields ..).trans e2,by rw[Obj.data_mapFields e3];simp[rawInt]⟩
 refine yYX (wpAny_holding (yYX (wpAny_isOneOf_keyiter (s:={ s with heap:=s.heap.update I (Obj.mapFields (·.setIfInBounds 1 (rawInt ((i:Int)+1)))) }) hit'.typeIs ?_)))
 exact yYY (yYY ⟨_,rfl,yYY (h _ hit' (Heap.SameBut.update ..))⟩)
end
end DT
namespace L2
open PySem PySem.Spec PyProof.Rows
def without (h:Heap)(S:List Addr):Heap:=⟨h.objs.mapIdx fun i o=>if i∈S then { o with data:=.freed } else o,h.life⟩
theorem yH {h:Heap}{S:List Addr}{b:Addr}(hb:b∈S):(without h S).get? b=none:=by
 unfold without Heap.get?
 rw[Array.getElem?_mapIdx]
 cases e:h.objs[b]? with
 | none=>rfl
 | some o=>
  show(match some (if b∈S then { o with data:=.freed } else o) with | some ⟨_,_,.freed,_⟩=>none | o=>o)=none
  rw[if_pos hb]
theorem vM {h:Heap}{S:List Addr}{b:Addr}(hb:b∉S):(without h S).get? b=h.get? b:=by
 unfold without Heap.get?
 rw[Array.getElem?_mapIdx]
 cases e:h.objs[b]? with
 | none=>rfl
 | some o=>
  show(match some (if b∈S then { o with data:=.freed } else o) with | some ⟨_,_,.freed,_⟩=>none | o=>o)=_
  rw[if_neg hb]
  rfl
theorem wQ (h:Heap)(S:List Addr):(without h S).StaysIn h:=fun b o e=>by
 by_cases hb:b∈S
 .rw[yH hb] at e;cases e
 .rw[vM hb] at e;exact e
theorem yP {h base:Heap}{S:List Addr}{l:List Env}(hl:h.FunFrames base l)(hS:∀b∈frs l,b∈S):h.FunFrames (without h S) l:=by
 induction l with
 | nil=>trivial
 | cons env rest ih=>
  obtain⟨hk,⟨L,o,hf,_,ho,hd⟩,hr⟩:=hl
  have hm:∀b,env.frame=some b->b∈frs (env::rest):=fun b e=>by
   unfold frs
   rw[List.filterMap_cons,e]
   exact yYG
  refine⟨hk,⟨L,o,hf,yH (hS _ (hm L hf)),ho,hd⟩,ih hr fun b hb=>hS b ?_⟩
  unfold frs at hb ⊢
  rw[List.filterMap_cons,hf]
  exact yYH _ hb
def Fly (h:Heap)(x T:Addr)(cls:Value):Prop:=
 ∃oe vs oT ts,h.get? x=some oe/\oe.cls=cls/\oe.data=.fields vs/\vs[1]? = some (.ref T)/\T≠x/\h.get? T=some oT/\oT.data=.fields ts/\ts[3]? = some .none
def CX1 (P:Program)(w:World):CXT:=fun outer H s E e s'=>∃x T cls H',e=.ref x/\s'.os=s.os/\AllBare s'.gens/\Un (frs outer) [] H H' s.heap s'.heap/\HOk P w H' s'.heap/\
 s.heap.get? x=none/\s.heap.get? T=none/\H' x=none/\H' T=none/\Fly s'.heap x T cls/\E cls none H'
section
variable {M:Model}{A:Around}{E:Value->Shared->Prop}{s:Shared}
theorem qWd {h h':Heap}{l:List Env}{S:List Addr}{x:Addr}{cls:Value}(left:Heap.Left (without h S) l x cls h h')(hl:h.FunFrames (without h S) l):
  ∃T',Fly h' x T' cls/\T'∉frs l/\(T'∈S\/h.get? T'=none)/\(∀b o,b∉S->h.get? b=some o->h'.get? b=some o)/\∀b o,b∈frs l->h.get? b=some o->∃sl,h'.get? b=some { o with slots:=sl }:=by
 obtain⟨k1,k2,k3,k4⟩:=left
 obtain⟨oe',vs',T',oT',ts',f1,f2,f3,f4,f5,f6,f7,f8,f9⟩:=k3
 refine⟨T',⟨oe',vs',oT',ts',f1,f2,f3,f4,f6,f7,f8,f9⟩,fun hb=>?_,?_,fun b o hb e=>k1 b o (by rw[vM hb];exact e),fun b o hb e=>?_⟩
 .obtain⟨_,o,ho,hd⟩:=k2.mem hb
  rw[f7] at ho
  cases ho
  exact hd _ f8
 .by_cases hT:T'∈S
  .exact .inl hT
  .rw[vM hT] at f5
   exact .inr f5
 .obtain⟨_,o',ho',hd⟩:=hl.mem hb
  rw[e] at ho'
  cases ho'
  exact k4 b o e hd
theorem qJg {base:Heap}{env:Env}{outer:List Env}{L x T:Addr}{cls:Value}{Q:Unit->Shared->Prop}(hfr:A.frames=some (env::outer))(hl:s.heap.FunFrames base (env::outer))(hf:env.frame=some L)(fl:Fly s.heap x T cls)
  (h:∀h' T',Fly h' x T' cls->T'∉frs (env::outer)->(T'=x\/T'=T\/s.heap.get? T'=none)->(∀b o,b∉frs (env::outer)->b≠x->b≠T->s.heap.get? b=some o->h'.get? b=some o)->
   (∀b o,b∈frs (env::outer)->s.heap.get? b=some o->∃sl,h'.get? b=some { o with slots:=sl })->Q () { s with heap:=h' }):
  wpAny M A (leaving env (.ref x)) Q E s:=by
 obtain⟨oe,vs,oT,ts,e1,e2,e3,e4,e5,e6,e7,e8⟩:=fl
 have S1:∀b∈frs (env::outer),b∈x::T::frs (env::outer):=fun b hb=>yYH _ (yYH _ hb)
 have hl':=yP hl S1
 refine wpAny_leaving_next (base:=without s.heap (x::T::frs (env::outer))) hfr hl' hf ⟨oe,vs,T,oT,ts,e1,e2,e3,e4,yH (by simp),e5,e6,e7,e8⟩ (wQ _ _) (yH (by simp)) fun h' left=>?_
 obtain⟨T',fl',nT,wT,k,ks⟩:=qWd left hl'
 refine h h' T' fl' nT ?_ (fun b o n1 n2 n3 e=>k b o (by simp[n1,n2,n3]) e) ks
 rcases wT with z | z
 .simp only[yYK] at z
  rcases z with z | z | z
  .exact .inl z
  .exact .inr (.inl z)
  .exact absurd z nT
 .exact .inr (.inr z)
theorem qBi {base:Heap}{env:Env}{outer:List Env}{L x:Addr}{oe:Obj}{vs:Array Value}{Q:Unit->Shared->Prop}(hfr:A.frames=some (env::outer))(hl:s.heap.FunFrames base (env::outer))(hf:env.frame=some L)
  (e1:s.heap.get? x=some oe) (e3:oe.data=.fields vs) (e4:vs[1]? = some .none)
  (h:∀h' T',Fly h' x T' oe.cls->T'∉frs (env::outer)->(T'=x\/s.heap.get? T'=none)->(∀b o,b∉frs (env::outer)->b≠x->s.heap.get? b=some o->h'.get? b=some o)->
   (∀b o,b∈frs (env::outer)->s.heap.get? b=some o->∃sl,h'.get? b=some { o with slots:=sl })->Q () { s with heap:=h' }):
  wpAny M A (leaving env (.ref x)) Q E s:=by
 have S1:∀b∈frs (env::outer),b∈x::frs (env::outer):=fun b hb=>yYH _ hb
 have hl':=yP hl S1
 refine wpAny_leaving_first (base:=without s.heap (x::frs (env::outer))) hfr hl' hf e1 (wQ _ _) (yH (by simp)) e3 e4 fun h' left=>?_
 obtain⟨T',fl',nT,wT,k,ks⟩:=qWd left hl'
 refine h h' T' fl' nT ?_ (fun b o n1 n2 e=>k b o (by simp[n1,n2]) e) ks
 rcases wT with z | z
 .rcases yYK.mp z with z | z
  .exact .inl z
  .exact absurd z nT
 .exact .inr z
end
end L2
namespace L2
open PySem PySem.Spec PyProof.Rows
theorem ObjOk.there {P:Program}{w:World}{H:Hp}{h:Heap}{a:Addr}{o:HO}(x:ObjOk P w H h a o):∃u,h.get? a=some u:=by
 cases o with
 | lst xs=>obtain⟨_,_,_,_,e⟩:=x;exact⟨_,e⟩
 | tup xs=>obtain⟨_,_,_,_,e,_⟩:=x;exact⟨_,e⟩
 | dK kvs=>obtain⟨_,_,_,_,o,_,_,e,_⟩:=x;exact⟨_,e⟩
 | dT kvs=>obtain⟨_,_,_,_,o,_,_,e,_⟩:=x;exact⟨_,e⟩
 | set S n=>obtain⟨o,_,_,_,e,_⟩:=x;exact⟨_,e⟩
 | ins C dx fs=>obtain⟨_,_,_,e,_⟩:=x;exact⟨_,e⟩
 | own y=>obtain⟨_,e⟩:=x;exact⟨_,e⟩
 | xd fs=>obtain⟨_,⟨_,_,_,e,_⟩,_⟩:=x;exact⟨_,e⟩
 | rng lo hi=>obtain⟨_,_,_,e⟩:=x;exact⟨_,e⟩
 | frz ob u=>obtain⟨e,_⟩:=x;exact⟨_,e⟩
 | tbl ps=>exact⟨_,(show h.get? a=some _ from x)⟩
 | met f y=>exact⟨_,(show h.get? a=some _ from x)⟩
 | ext φ=>obtain⟨_,⟨_,e⟩,_⟩:=x;exact⟨_,e⟩
theorem HOk.gone {P:Program}{w:World}{H:Hp}{h:Heap}{a:Addr}(x:HOk P w H h)(e:h.get? a=none):H a=none:=by
 cases q:H a with
 | none=>rfl
 | some o=>
  obtain⟨u,r⟩:=(x a o q).there
  rw[e] at r
  cases r
section
variable {P:Program}{w:World}{K:yZP}{mg:Str->Option Value}{base:Heap}{N:List Str}{qual:Str}{scope:Scope}{f:Addr}{cd:Value}{A:Around}{outer:List Env}{s₀:Shared}{H₀:Hp}{E:XK}
theorem qNv {zz:List (Addr×Obj)}{σ:St}{H':Hp}{s':Shared}{x T T':Addr}{cls:Value}{h':Heap}(J:Inv (cxOf (CX1 P w) P w K mg base N qual scope f cd A outer s₀ H₀ E) zz σ H' s')
  (nx:s₀.heap.get? x=none) (nT:s₀.heap.get? T=none) (hx:H' x=none) (hT:H' T=none) (q:E cls none H') (fl':Fly h' x T' cls)
  (wT:T'=x\/T'=T\/s'.heap.get? T'=none)
  (k:∀b o,b∉frs (envOfC qual scope s₀.heap.objs.size f cd::outer)->b≠x->b≠T->s'.heap.get? b=some o->h'.get? b=some o)
  (ks:∀b o,b∈frs (envOfC qual scope s₀.heap.objs.size f cd::outer)->s'.heap.get? b=some o->∃sl,h'.get? b=some { o with slots:=sl }):CX1 P w outer H₀ s₀ E (.ref x) { s' with heap:=h' }:=by
 have B:Un (frs outer) [] H₀ H' s₀.heap s'.heap:=J.base
 have mem:∀b o,s₀.heap.get? b=some o->b∉frs outer->b∉frs (envOfC qual scope s₀.heap.objs.size f cd::outer):=fun b o e hb z=>by
  rcases yYK.mp (J.stkSub b z) with y | y
  .exact absurd y (yZF (yZA e))
  .exact hb y
 have neX:∀b o,s₀.heap.get? b=some o->b≠x:=fun b o e z=>by rw[z,nx] at e;cases e
 have neT:∀b o,s₀.heap.get? b=some o->b≠T:=fun b o e z=>by rw[z,nT] at e;cases e
 have gone:s'.heap.get? T'=none->s₀.heap.get? T'=none:=fun e=>by
  cases c:s₀.heap.get? T' with
  | none=>rfl
  | some o=>
   obtain⟨o',r⟩:=B.there T' o c (by simp)
   rw[e] at r
   cases r
 refine⟨x,T',cls,H',rfl,J.os,J.bare,⟨fun b o e n hb hx=>?_,fun b o e n hb hx=>?_,B.free,fun b o e hx=>?_,B.tups,B.frzs,B.tbls⟩,fun a o e=>?_,nx,?_,hx,?_,fl',q⟩
 .exact k b o (mem b o e hb) (neX b o e) (neT b o e) (B.keep b o e n hb hx)
 .obtain⟨sl,r⟩:=B.slot b o e n hb hx
  obtain⟨sl',r'⟩:=ks b _ (by
   unfold frs at hb ⊢
   rw[List.filterMap_cons]
   split
   .exact hb
   .exact yYH _ hb) r
  exact⟨sl',r'⟩
 .obtain⟨o',r⟩:=B.there b o e hx
  by_cases hb:b∈frs (envOfC qual scope s₀.heap.objs.size f cd::outer)
  .obtain⟨sl,r'⟩:=ks b _ hb r
   exact⟨_,r'⟩
  .exact⟨o',k b o' hb (neX b o e) (neT b o e) r⟩
 .refine(J.hok a o e).stay (fun b u hb r=>?_) (fun _ z=>z) fun _ _ z=>z
  have tr:H' b≠none:=by
   rcases hb with z | z
   .rw[z,e];exact fun z=>nomatch z
   .rw[z];exact fun z=>nomatch z
  exact k b u (fun z=>tr (J.stkFree b z)) (fun z=>tr (by rw[z];exact hx)) (fun z=>tr (by rw[z];exact hT)) r
 .rcases wT with z | z | z
  .rw[z];exact nx
  .rw[z];exact nT
  .exact gone z
 .rcases wT with z | z | z
  .rw[z];exact hx
  .rw[z];exact hT
  .exact J.hok.gone z
theorem pass1:Passes (CX1 P w) (cxOf (CX1 P w) P w K mg base N qual scope f cd A outer s₀ H₀ E) E:=by
 intro zz σ H s e s' I ⟨x,T,cls,H',he,os,bare,un,hok,gx,gT,hx,hT,fl,q⟩
 subst he
 obtain⟨hh,g,d,t,os'⟩:=s'
 obtain rfl:os'=s.os:=os
 have J:=I.call (h':=hh) (g':=g) (d':=d) (t':=t) (ch:=[]) un hok bare (fun b z=>absurd z (by simp))
 have B:Un (frs outer) [] H₀ H s₀.heap s.heap:=I.base
 have gone:∀b,s.heap.get? b=none->s₀.heap.get? b=none:=fun b e=>by
  cases c:s₀.heap.get? b with
  | none=>rfl
  | some o=>
   obtain⟨o',r⟩:=B.there b o c (by simp)
   rw[e] at r
   cases r
 show wpAny _ _ (leaving _ (.ref x)) _ _ _
 refine qJg J.ok.frames J.stack rfl fl fun h' T' fl' nT wT k ks=>?_
 exact qNv J (gone x gx) (gone T gT) hx hT q fl' wT k ks
def Throws (X:Cx)(E:XK):Prop:=∀(zz:List (Addr×Obj)) (σ:St) (H:Hp) (s:Shared) (x:Addr) (cls:Value) (us:List Value) (h':Heap),Inv X zz σ H s->Heap.MadeExcOf s.heap h' x cls us->E cls none H->X.xe (.ref x) { s with heap:=h' }
theorem throws1:Throws (cxOf (CX1 P w) P w K mg base N qual scope f cd A outer s₀ H₀ E) E:=by
 intro zz σ H s x cls us h1 I md q
 have J:=I.un (t':=s.toks) (Un.kept md.keeps) (I.hok.kept md.keeps)
 have B:Un (frs outer) [] H₀ H s₀.heap s.heap:=I.base
 have nx:s₀.heap.get? x=none:=by
  cases c:s₀.heap.get? x with
  | none=>rfl
  | some o=>
   obtain⟨o',r⟩:=B.there x o c (by simp)
   rw[md.new] at r
   cases r
 have hx:H x=none:=I.hok.gone md.new
 obtain⟨t,ht,_,_⟩:=md.there
 show wpAny _ _ (leaving _ (.ref x)) _ _ _
 refine qBi J.ok.frames J.stack rfl ht rfl rfl fun h' T' fl' nT wT k ks=>?_
 exact qNv J nx nx hx hx q fl' (wT.elim .inl fun z=>.inr (.inr z)) (fun b o z1 z2 _ z3=>k b o z1 z2 z3) ks
end
section
variable {X:Cx}{x:Str}{C:Addr}{B newId initId:String}{bm:List Value}{np cpos pos:Pos}{e₀:Expr}{rest:List Expr}{t:TA}{E:XK}
def tThrow (C:Addr)(t:TA)(E:XK):TS:=fun _ σ H=>t σ H fun vs H1=>vs.length<=sizeLine/\E (.ref C) none H1
theorem qSb (O:OwnCls x C bm newId X.mg X.base)(FB:ExcBaseFacts B newId initId bm)(hg:Gl X x)(hc:X.calm=true)(hth:Throws X E)(ha:PA X (e₀::rest) t)(hdb:(x == ("__debug__" : Str))=false:=by decide)
  (he:starEach (e₀::rest) X.env=(false,eval e₀ X.env)::starEach rest X.env:=by rfl) (hpl:(backTo cpos (starEach rest X.env)).any (·.1)=false:=by rfl):
  PS X (.Raise (some (.Call (.Name x np) (e₀::rest) [] cpos)) none pos) (tThrow C t E):=by
 intro zz s σ H D I h
 obtain⟨tl,N,nm,q,bs,hd',sn,su,ab,cl,dd,k0,k1,k2,k3,k5,mN,hC,hN,hni,T⟩:=O.obj
 have pl:(backTo cpos (starEach (e₀::rest) X.env)).any (·.1)=false:=by
  rw[he]
  show(false || (backTo cpos (starEach rest X.env)).any (·.1))=false
  rw[hpl]
  rfl
 refine@wpAny_Raise_call_subT _ _ _ _ _ _ nm q C N bs tl bm hd' sn su ab cl dd k0 k1 k2 k3 k5 _ _ _ FB _ _ _ _ _ _ _ (T.hasType FB.hasBase) (I.ok.hd hc) pl hni (qQx I hg O.bound ⟨rfl,?_⟩ hdb)
 have h2:=ha cpos zz s σ H _ I h
 rw[he] at h2 ⊢
 exact Calls.evalArgs_plain (thn h2 fun us s2 ⟨vs,H1,I1,r,z,q⟩=>⟨rfl,by rw[<- r.length];exact z,I1.bk _ _ hC,hN.keeps I1.bk,T.keeps I1.bk,fun h' e md=>hth zz σ H1 s2 e _ _ h' I1 md q⟩)
end
section
variable {X:Cx}{pos:Pos}{e:Expr}{te:TE}
def tFmt (te:TE):TE:=fun σ H Q=>te σ H fun v H1=>∃y,v=.str y/\y.length<=sizeLine/\Q (.str y) H1
theorem xVx (he:PE X e te):PE X (.FormattedValue e (-1) none pos) (tFmt te):=by
 intro zz s σ H Q I h
 refine wpAny_FormattedValue_plain (thn (he zz s σ H _ I h) fun u s1 ⟨v,H1,I1,r,y,ev,hy,q⟩=>?_)
 subst ev
 obtain⟨t,rfl⟩:=r
 exact wpAny_formatField_str ⟨.str y,H1,I1,⟨t,rfl⟩,q⟩ ⟨.str y,H1,I1.tok _,⟨_,rfl⟩,q⟩ hy
def tFmtR (te:TE):TE:=fun σ H Q=>te σ H fun v H1=>∃y,v=.str y/\(reprText y).length<=sizeLine/\Q (.str (reprText y)) H1
theorem xZg (he:PE X e te):PE X (.FormattedValue e 114 none pos) (tFmtR te):=by
 intro zz s σ H Q I h
 refine wpAny_FormattedValue_repr (thn (he zz s σ H _ I h) fun u s1 ⟨v,H1,I1,r,y,ev,hy,q⟩=>?_)
 subst ev
 obtain⟨t,rfl⟩:=r
 refine wpAny_pyReprObj_gives (T := "str") rfl PySem.F.slot_str_repr PySem.F.entry_str_repr (PySem.F.args_str_repr_1 _) (gives_str_repr y t) ?_ rfl hy
 exact wpAny_formatField_str ⟨.str (reprText y),H1,I1.tok _,⟨_,rfl⟩,q⟩ ⟨.str (reprText y),H1,(I1.tok _).tok _,⟨_,rfl⟩,q⟩ hy
def tJoin:List TE->Str->TE
 | [],acc=>fun _ H Q=>acc.length<=sizeLine/\Q (.str acc) H
 | t::ts,acc=>fun σ H Q=>t σ H fun v H1=>∃y,v=.str y/\(acc++y).length<=sizeLine/\tJoin ts (acc++y) σ H1 Q
theorem qTa {es:List Expr}{ts:List TE}(h:Paired (PE X) es ts):∀{acc:Str} {zz:List (Addr×Obj)} {s:Shared} {σ:St} {H:Hp} {Q:VK},Inv X zz σ H s->tJoin ts acc σ H Q->
  Joins (model X.prog X.w) X.A X.xe (evalEach es X.env) acc (fun out s1=>out.length<=sizeLine/\EP X zz σ Q (.str out s1.toks) { s1 with toks:=s1.toks+1 }) s:=by
 induction h with
 | nil=>exact fun{acc _ _ _ _ _} I q=>⟨q.1,.str acc,_,I.tok _,⟨_,rfl⟩,q.2⟩
 | cons h1 _ ih=>
  intro acc zz s σ H Q I q
  refine thn (h1 zz s σ H _ I q) fun u s1 ⟨v,H1,I1,r,y,ev,hy,q1⟩=>?_
  subst ev
  obtain⟨t,rfl⟩:=r
  exact⟨y,t,rfl,hy,ih I1 q1⟩
theorem qMb {v1 v2:Expr}{vs:List Expr}{ts:List TE}(h:Paired (PE X) (v1::v2::vs) ts):PE X (.JoinedStr (v1::v2::vs) pos) (tJoin ts Str.empty):=by
 intro zz s σ H Q I q
 exact wpAny_JoinedStr (qTa h I q)
end
section
variable {P:Program}{w:World}{K:yZP}{mg:Str->Option Value}{base:Heap}{qual x:Str}{st:Stmt}{f:Addr}{fd:FuncData}{N ps:List Str}{k:Nat}{sp:Sp}
theorem Fun.ok1 (F:Fun K x qual st f fd)(S:xH N ps (xB st))(len:∀vs H Q E,sp vs H Q E->vs.length=ps.length)
  (hb:∀(zy:Value) (A:Around) (outer:List Env) (s:Shared) (H:Hp) (vs:List V) (Q:VK) (E:XK),Room k (A.deeper (envOfC qual (xB st) s.heap.objs.size f zy))->sp vs H Q E->
   ∃t,PSs (cxOf (CX1 P w) P w K mg base N qual (xB st) f zy A outer s H E) (xC st) t/\t { nx:=fun _ H'=>Q .non H',rt:=Q } (start N vs) H):FnOk P w K mg base (CX1 P w) (k+1) f fd ps sp:=by
 obtain⟨oc,od,kV,doc,pm,an,zy,ct,osl,rfl,lk,hcd⟩:=F.ex
 exact xWb lk hcd S len fun A outer s H vs Q E hr hsp=>hb zy A outer s H vs Q E hr hsp
end
end L2
namespace L2
open PySem PySem.Spec PyProof.Rows
section
variable {X:Cx}{zz:List (Addr×Obj)}{σ:St}{H H':Hp}{s:Shared}{h':Heap}
theorem Inv.hop {S:List Addr}(I:Inv X zz σ H s)(hS:∀b∈S,X.s₀.heap.get? b=none/\b≠X.env.locals/\(∀x c,X.env.cells.lookup x=some c->c≠b)/\(∀p∈X.pn++zz,p.1≠b)/\H b=none)
  (k:∀b o,b∉frs X.stack->b∉S->s.heap.get? b=some o->h'.get? b=some o) (ks:∀b o,b∈frs X.stack->b∉S->s.heap.get? b=some o->∃sl,h'.get? b=some { o with slots:=sl })
  (same:∀b,b∉S->H' b=H b) (hok:HOk X.prog X.w H' h'):Inv X zz σ H' { s with heap:=h' }:=by
 have any:∀b o,b∉S->s.heap.get? b=some o->∃sl,h'.get? b=some { o with slots:=sl }:=fun b o hb e=>by
  by_cases z:b∈frs X.stack
  .exact ks b o z hb e
  .exact⟨o.slots,k b o z hb e⟩
 have nS:∀b o,X.s₀.heap.get? b=some o->b∉S:=fun b o e z=>by rw[(hS b z).1] at e;cases e
 have tr:∀b u,H b=some u->b∉S:=fun b u e z=>by rw[(hS b z).2.2.2.2] at e;cases e
 have nL:X.env.locals∉S:=fun z=>(hS _ z).2.1 rfl
 have nC:∀x c,X.env.cells.lookup x=some c->c∉S:=fun x c e z=>(hS c z).2.2.1 x c e rfl
 have nP:∀p∈X.pn++zz,p.1∉S:=fun p hp z=>(hS _ z).2.2.2.1 p hp rfl
 have out:∀b,b∉X.fs->b≠X.env.locals->b∉frs X.stack:=fun b h1 h2 z=>(yYK.mp (I.stkSub b z)).elim h2 h1
 have isC:∀x c,X.env.cells.lookup x=some c->∀v,s.heap.IsCell c v->h'.IsCell c v:=fun x c e v ⟨o,ho,hd⟩=>by
  obtain⟨sl,q⟩:=any c o (nC x c e) ho
  exact⟨_,q,hd⟩
 have B:=I.base
 constructor
 .exact I.ok
 .exact I.os
 .exact I.bare
 .constructor
  .intro b o e n hb hx
   exact k b o (out b hb (yZF (yZE (yZA e) I.ok.above))) (nS b o e) (B.keep b o e n hb hx)
  .intro b o e n hb hx
   obtain⟨sl,e1⟩:=B.slot b o e n hb hx
   obtain⟨sl',e2⟩:=any b _ (nS b o e) e1
   exact⟨sl',e2⟩
  .intro b o e n hx
   rw[same b (nS b o e)]
   exact B.free b o e n hx
  .intro b o e hx
   obtain⟨o',e1⟩:=B.there b o e hx
   obtain⟨sl,e2⟩:=any b o' (nS b o e) e1
   exact⟨_,e2⟩
  .intro b xs e
   have e1:=B.tups b xs e
   rw[same b (tr b _ e1)]
   exact e1
  .intro b o u e
   have e1:=B.frzs b o u e
   rw[same b (tr b _ e1)]
   exact e1
  .intro b ps e
   obtain⟨m,e1⟩:=B.tbls b ps e
   exact⟨m,by rw[same b (tr b _ e1)];exact e1⟩
 .obtain⟨m,⟨o,es,ep,ho,r⟩,hl⟩:=I.loc
  obtain⟨sl,e⟩:=any _ o nL ho
  refine⟨m,⟨_,es,ep,e,r⟩,fun i x v e1 e2 e3=>?_⟩
  obtain⟨u,rv,l⟩:=hl i x v e1 e2 e3
  refine⟨u,rv,l.imp id fun⟨kd,c,ec,z⟩=>⟨kd,c,ec,isC x c ec _ z⟩⟩
 .intro x c e
  obtain⟨v,z⟩:=I.cell x c e
  exact⟨v,isC x c e v z⟩
 .rw[same _ nL]
  exact I.free
 .intro x c e
  rw[same _ (nC x c e)]
  exact I.freeC x c e
 .intro p hp
  obtain⟨e,n,ne,nf,d⟩:=I.pin p hp
  exact⟨k p.1 p.2 (out _ nf ne) (nP p hp) e,by rw[same _ (nP p hp)];exact n,ne,nf,d⟩
 .exact hok
 .exact I.len
def IsExc (x T:Addr)(cls:Value)(h:Heap):Prop:=∃o vs,h.get? x=some o/\o.cls=cls/\o.data=.fields vs/\vs[1]? = some (.ref T)
def IsEnt (T:Addr)(h:Heap):Prop:=∃o ts,h.get? T=some o/\o.data=.fields ts/\ts[3]? = some .none
abbrev held (H:Hp)(x T:Addr)(cls:Value):Hp:=upd (upd H T (.ext (IsEnt T))) x (.ext (IsExc x T cls))
def XP (X:Cx)(zz:List (Addr×Obj))(Ex:St->Value->Hp->Prop)(e:Value)(s':Shared):Prop:=
 ∃σ1 H1 s1,Inv X zz σ1 H1 s1/\CX1 X.prog X.w X.stack H1 s1 (fun c _ H'=>Ex σ1 c H') e s'
theorem XP.caught {Ex:St->Value->Hp->Prop}{e:Value}{Q:Unit->Shared->Prop}{E:Value->Shared->Prop}{outer:List Env}(hex:X.ex=[])(hst:X.stack=X.env::outer)(hf:X.env.frame=some X.env.locals)(h:XP X zz Ex e s)
  (hq:∀x T cls σ1 H1 h',e=.ref x->H1 x=none->H1 T=none->T≠x->Ex σ1 cls H1->Inv X zz σ1 (held H1 x T cls) { s with heap:=h' }->Q () { s with heap:=h' }):
  wpAny (model X.prog X.w) X.A (leaving X.env e) Q E s:=by
 obtain⟨σ1,H1,s1,I,x,T,cls,H',he,os,bare,un,hok,gx,gT,hx,hT,fl,q⟩:=h
 subst he
 obtain⟨hh,g,d,t,os'⟩:=s
 obtain rfl:os'=s1.os:=os
 have J:=I.call (h':=hh) (g':=g) (d':=d) (t':=t) (ch:=[]) un hok bare (fun b z=>absurd z (by simp))
 have gone:∀b,s1.heap.get? b=none->X.s₀.heap.get? b=none:=fun b e=>by
  cases c:X.s₀.heap.get? b with
  | none=>rfl
  | some o=>
   obtain⟨o',r⟩:=I.base.there b o c (by rw[hex];simp)
   rw[e] at r
   cases r
 have ours:∀b,s1.heap.get? b=none->H' b=none->X.s₀.heap.get? b=none/\b≠X.env.locals/\(∀x c,X.env.cells.lookup x=some c->c≠b)/\(∀p∈X.pn++zz,p.1≠b)/\H' b=none:=fun b e n=>by
  refine⟨gone b e,fun z=>?_,fun y c ec z=>?_,fun p hp z=>?_,n⟩
  .obtain⟨m,⟨o,_,_,ho,_⟩,_⟩:=I.loc
   rw[<- z,e] at ho
   cases ho
  .obtain⟨v,o,ho,_⟩:=I.cell y c ec
   rw[z,e] at ho
   cases ho
  .have ho:=(I.pin p hp).1
   rw[z,e] at ho
   cases ho
 have fr:X.A.frames=some (X.env::outer):=by rw[<- hst];exact I.ok.frames
 have stk:=J.stack
 rw[hst] at stk
 refine qJg fr stk hf fl fun h2 T' fl' nT wT k ks=>?_
 rw[<- hst] at k ks
 have nfr:∀b,s1.heap.get? b=none->b∉frs X.stack:=fun b e z=>by
  obtain⟨_,o,ho,_⟩:=I.stack.mem z
  rw[e] at ho
  cases ho
 have T1:s1.heap.get? T'=none:=by
  rcases wT with z | z | z
  .rw[z];exact gx
  .rw[z];exact gT
  .cases c:s1.heap.get? T' with
   | none=>rfl
   | some o=>
    obtain⟨o',r⟩:=un.there T' o c (by simp)
    rw[show hh.get? T'=none from z] at r
    cases r
 have T2:H' T'=none:=by
  rcases wT with z | z | z
  .rw[z];exact hx
  .rw[z];exact hT
  .exact hok.gone z
 obtain⟨oe,vs,oT,ts,f1,f2,f3,f4,f5,f6,f7,f8⟩:=fl'
 refine hq x T' cls σ1 H' h2 rfl hx T2 f5 q (J.hop (S:=[x,T,T']) (fun b hb=>?_) (fun b o n1 n2 e=>k b o n1 (fun z=>n2 (by simp[z])) (fun z=>n2 (by simp[z])) e) (fun b o n1 _ e=>ks b o n1 e)
  (fun b hb=>by show upd (upd H' T' _) x _ b=_;rw[qA fun z=>hb (by simp[z]),qA fun z=>hb (by simp[z])]) fun a o e=>?_)
 .simp only[yYK,List.mem_nil_iff,or_false] at hb
  rcases hb with z | z | z
  .rw[z];exact ours x gx hx
  .rw[z];exact ours T gT hT
  .rw[z];exact ours T' T1 T2
 .replace e:upd (upd H' T' (.ext (IsEnt T'))) x (.ext (IsExc x T' cls)) a=some o:=e
  show ObjOk X.prog X.w (upd (upd H' T' _) x _) h2 a o
  by_cases ha:a=x
  .subst ha
   rw[qW] at e
   cases e
   exact⟨⟨oe,vs,f1,f2,f3,f4⟩,⟨oe,f1⟩,fun h1 h2 ⟨o,ws,e1,e2⟩ z=>⟨o,ws,z o e1,e2⟩⟩
  .rw[qA ha] at e
   by_cases hb:a=T'
   .subst hb
    rw[qW] at e
    cases e
    exact⟨⟨oT,ts,f6,f7,f8⟩,⟨oT,f6⟩,fun h1 h2 ⟨o,ws,e1,e2⟩ z=>⟨o,ws,z o e1,e2⟩⟩
   .rw[qA hb] at e
    refine(hok a o e).stay (fun b u hb r=>?_) (fun b z=>?_) fun b xs z=>?_
    .have tr:H' b≠none:=by
      rcases hb with z | z
      .rw[z,e];exact fun z=>nomatch z
      .rw[z];exact fun z=>nomatch z
     exact k b u (fun z=>tr (J.stkFree b z)) (fun z=>tr (by rw[z];exact hx)) (fun z=>tr (by rw[z];exact hT)) r
    .rw[qA (qB z hx),qA (qB z T2)];exact z
    .rw[qA (qB z hx),qA (qB z T2)];exact z
end
section
variable {M:Model}{A:Around}{E:Value->Shared->Prop}{s:Shared}{env:Env}
theorem qRd {body orelse:Sem Flow}{h1:ExceptHandler}{hs:List ExceptHandler}{Q:Flow->Shared->Prop}
  (h:wpAny M A body (fun f s1=>match f with | .next=>wpAny M A orelse Q E s1 | f=>Q f s1) (fun e s1=>wpAny M A (leaving env e) (fun _ s2=>wpAny M A (handleBy e env (h1::hs)) Q E s2) E s1) s):
  wpAny M A (tryStmt false body (h1::hs) orelse [] env) Q E s:=by
 unfold tryStmt
 simp
 refine yYX (wpAny_attempt (wpAny_mono h (fun f s1 h2=>?_) fun e s1 h2=>?_))
 .cases f <;> first | exact h2 | exact yYY h2
 .have h3:=yYX (f:=fun _=>handleBy e env (h1::hs)) h2
  unfold leaving at h3
  simp only[bind_assoc] at h3
  exact h3
end
abbrev XE:=St->Value->Hp->Prop
def PXE (X:Cx)(e:Expr)(t:XE->TE):Prop:=∀(zz:List (Addr×Obj)) (s:Shared) (σ:St) (H:Hp) (Q:VK) (Ex:XE),Inv X zz σ H s->t Ex σ H Q->wpAny (model X.prog X.w) X.A (eval e X.env) (EP X zz σ Q) (XP X zz Ex) s
def PX (X:Cx)(st:Stmt)(t:XE->TS):Prop:=∀(zz:List (Addr×Obj)) (s:Shared) (σ:St) (H:Hp) (D:Ends) (Ex:XE),Inv X zz σ H s->t Ex D σ H->wpAny (model X.prog X.w) X.A (exec st X.env) (SP X zz D) (XP X zz Ex) s
def PXs (X:Cx)(st:List Stmt)(t:XE->TS):Prop:=∀(zz:List (Addr×Obj)) (s:Shared) (σ:St) (H:Hp) (D:Ends) (Ex:XE),Inv X zz σ H s->t Ex D σ H->wpAny (model X.prog X.w) X.A (execs st X.env) (SP X zz D) (XP X zz Ex) s
section
variable {X:Cx}{k:Nat}{f:Addr}{fd:FuncData}{ps:List Str}{sp:Sp}{dvs:List V}{ds:List Value}{x:Str}{p pos pos':Pos}{e:Expr}{es:List Expr}{t:TA}
theorem PA.nox (h:PA X.nox es t){E:Value->Shared->Prop}{pos:Pos}{zz:List (Addr×Obj)}{s:Shared}{σ:St}{H:Hp}{Q:List V->Hp->Prop}(I:Inv X zz σ H s)(hw:t σ H Q):wpAny (model X.prog X.w) X.A (spliced (backTo pos (starEach es X.env))) (AP X zz σ Q) E s:=
 wpAny_mono (h pos zz s σ H Q (I.wish _) hw) (fun _ _ ⟨vs,H',I',r,q⟩=>⟨vs,H',I'.unwish,r,q⟩) fun _ _ z=>False.elim z
theorem xXl {zz:List (Addr×Obj)}{σ:St}{H:Hp}{s:Shared}{Q:VK}{us:List Value}{vs:List V}{Ex:XE}(F:FnOk X.prog X.w X.K X.mg X.base (CX1 X.prog X.w) k f fd ps sp)(hr:Room k X.A)(hb:Binds X.K fd ps ds)(hd:Vals dvs ds)
  (I:Inv X zz σ H s) (r:Vals vs us) (h:sp (vs++dvs) H Q (fun c _ H'=>Ex σ c H')):wpAny (model X.prog X.w) X.A (call (.ref f) us) (EP X zz σ Q) (XP X zz Ex) s:=by
 have r2:=r.append hd
 have hl:=r2.length.symm.trans (F.len _ _ _ _ h)
 refine wpAny_call (codeAny_mono (F.run _ _ _ _ _ _ _ Q _ hr I.env0 (hb s us I.kIn hl) r2 h) fun a s' hq=>?_)
 match a,hq with
 | .error _,hq=>exact⟨σ,H,s,I,hq⟩
 | .ok (.ret _),hq=>exact I.after hq
def xCall (sp:Sp)(dvs:List V)(t:TA):XE->TE:=fun Ex σ H Q=>t σ H fun vs H1=>sp (vs++dvs) H1 Q (fun c _ H'=>Ex σ c H')
theorem qSj (F:FnOk X.prog X.w X.K X.mg X.base (CX1 X.prog X.w) k f fd ps sp)(hr:Room k X.A)(hg:Gl X x)(hm:X.mg x=some (.ref f))(hk:PySem.W.keepIn X.K (.ref f)=true)(hb:Binds X.K fd ps ds)(hd:Vals dvs ds)
  (ha:PA X.nox (e::es) t) (hdb:(x == ("__debug__" : Str))=false:=by decide) (he:starEach (e::es) X.env=(false,eval e X.env)::starEach es X.env:=by rfl) (hpl:(backTo pos (starEach es X.env)).any (·.1)=false:=by rfl):
  PXE X (.Call (.Name x p) (e::es) [] pos) (xCall sp dvs t):=by
 intro zz s σ H Q Ex I h
 refine wpAny_Call_Name_kw (qQx I hg hm (Q:=_) ?_ hdb)
 exact PySem.W.callWith_K (h₀:=X.base) I.ok.mod.kin hk (thn (ha.nox I h) fun us s1 ⟨vs,H1,I1,r,q⟩=>⟨I1.kIn,xXl F hr hb hd I1 r q⟩) he hpl
def xSet (i:Nat)(te:XE->TE):XE->TS:=fun Ex D σ H=>te Ex σ H fun v H1=>D.nx (σ.set i (some v)) H1
theorem xZz {st:Stmt}{t:XE->TS}(h1:PX X st t):PXs X [st] t:=by
 intro zz s σ H D Ex I h
 refine wpAny_execs_cons (thn (h1 zz s σ H D Ex I h) fun f s1 q=>?_)
 cases f with
 | next=>exact wpAny_execs_nil q
 | _=>exact q
theorem xKi {i:Nat}{te:XE->TE}(hN:X.N.Nodup)(hi:X.N[i]? = some x)(hx:Loc X.env.scope x)(he:PXE X e te)(hs:swapsWith e (some (.Name x pos')) pos.line X.env=pure false:=by rfl)
  (hf:X.fn x=true\/X.env.scope.names.lookup x=some .local:=by first | exact .inl rfl | exact .inr rfl):PX X (.Assign [.Name x pos'] e pos) (xSet i te):=fun zz s σ H D Ex I h=>
 wpAny_Assign_Name (thn (he zz s σ H _ Ex I h) fun v s1 ⟨y,H1,I1,r1,q1⟩=>vY I1 hN hi hx r1 (fun s2 I2=>⟨_,H1,I2,q1⟩) hf) hs
end
end L2
namespace L2
open PySem PySem.Spec PyProof.Rows
def ExcAt (h:Heap)(C:Addr)(bm:List Value):Prop:=bm.contains (.type "BaseException")=true/\∃nm q N bs hd sn su ab cl dd k0 k1 k2 k3 k5 nid,h.get? C=some (excClassObj nm q C N bs bm hd sn su ab cl dd k0 k1 k2 k3 k5 nid)
theorem ExcAt.keeps {h h':Heap}{C:Addr}{bm:List Value}(x:ExcAt h C bm)(k:∀b o,h.get? b=some o->h'.get? b=some o):ExcAt h' C bm:=
 ⟨x.1,let ⟨nm,q,N,bs,hd,sn,su,ab,cl,dd,k0,k1,k2,k3,k5,nid,e⟩:=x.2;⟨nm,q,N,bs,hd,sn,su,ab,cl,dd,k0,k1,k2,k3,k5,nid,k _ _ e⟩⟩
section
variable {M:Model}{A:Around}{E:Value->Shared->Prop}
theorem qBe {s:Shared}{e C C0:Addr}{bm bm0:List Value}{oe:Obj}{Q:Bool->Shared->Prop}(x:ExcAt s.heap C bm)(y:ExcAt s.heap C0 bm0)(he:s.heap.get? e=some oe)(hc:oe.cls=.ref C)(hq:Q ((Value.ref C::bm).contains (.ref C0)) s):
  wpAny M A (excMatches (.ref e) (.ref C0)) Q E s:=by
 obtain⟨b1,nm,q,N,bs,hd,sn,su,ab,cl,dd,k0,k1,k2,k3,k5,nid,hC⟩:=x
 obtain⟨b2,nm',q',N',bs',hd',sn',su',ab',cl',dd',k0',k1',k2',k3',k5',nid',hD⟩:=y
 obtain⟨h,g,d,t,os⟩:=s
 have hcB:(Value.ref C0::bm0).contains (.type "BaseException")=true:=by rw[List.contains_cons,b2,Bool.or_true]
 have f:=tc_notTuple
 unfold excMatches
 generalize hb:(Value.ref C::bm).contains (.ref C0)=b at hq
 repeat (first | (with_reducible refine wpAny_loadPart_at he ?_;rw[hc]) | with_reducible refine wpAny_loadPart_at hD ?_ | (with_reducible refine wpAny_isSubtype_exc hD ?_;rw[hcB]) | (with_reducible refine wpAny_isSubtype_exc hC ?_;rw[hb]) | wp_step)
 cases b with
 | true=>wp_walk;exact hq
 | false=>wp_walk;exact hq
end
section
variable {X:Cx}{zz:List (Addr×Obj)}{σ:St}{H:Hp}{s:Shared}{h':Heap}{n:Str}{i:Nat}
theorem Inv.lost {m':Str->Option Value}(I:Inv X zz σ H s)(hN:X.N.Nodup)(hi:X.N[i]? = some n)(hl:∀m,s.heap.Ns X.env.locals m->h'.Ns X.env.locals (fun y=>if y=n then m' y else m y))(hs:Heap.SameBut X.env.locals s.heap h'):Inv X zz (σ.set i none) H { s with heap:=h' }:=by
 have at':∀b o,b≠X.env.locals->s.heap.get? b=some o->h'.get? b=some o:=fun b o hb e=>(hs.2 b hb).trans e
 have ne:∀b o,X.s₀.heap.get? b=some o->b≠X.env.locals:=fun b o e=>yZF (yZE (yZA e) I.ok.above)
 have isC:∀x c,X.env.cells.lookup x=some c->∀v,s.heap.IsCell c v->h'.IsCell c v:=fun x c e v ⟨o,ho,hd⟩=>⟨o,at' c o (I.cne x c e) ho,hd⟩
 obtain⟨m,hn,hlk⟩:=id I.loc
 have B:=I.base
 constructor
 .exact I.ok
 .exact I.os
 .exact I.bare
 .constructor
  .exact fun b o e n hb hx=>at' b o (ne b o e) (B.keep b o e n hb hx)
  .intro b o e n hb hx
   obtain⟨sl,e1⟩:=B.slot b o e n hb hx
   exact⟨sl,at' b _ (ne b o e) e1⟩
  .exact B.free
  .intro b o e hx
   obtain⟨o',e1⟩:=B.there b o e hx
   exact⟨o',at' b _ (ne b o e) e1⟩
  .exact B.tups
  .exact B.frzs
  .exact B.tbls
 .refine⟨_,hl m hn,fun j y v e1 e2 e3=>?_⟩
  have hj:j≠i:=fun z=>by
   subst z
   rw[List.getElem?_set] at e2
   simp at e2
  rw[List.getElem?_set_ne (Ne.symm hj)] at e2
  obtain⟨u,r,q⟩:=hlk j y v e1 e2 e3
  have hy:y≠n:=fun z=>hj (qKx hN e1 (z▸hi))
  refine⟨u,r,q.imp (fun⟨a,b⟩=>⟨a,(if_neg hy).trans b⟩) fun⟨kd,c,ec,z⟩=>⟨kd,c,ec,isC y c ec _ z⟩⟩
 .intro x c e
  obtain⟨v,z⟩:=I.cell x c e
  exact⟨v,isC x c e v z⟩
 .exact I.free
 .exact I.freeC
 .intro p hp
  obtain⟨e,nn,nl,nf,d⟩:=I.pin p hp
  exact⟨at' _ _ nl e,nn,nl,nf,d⟩
 .intro b o e
  refine(I.hok b o e).stay (fun c u hc q=>at' c u (fun z=>?_) q) (fun _ q=>q) fun _ _ q=>q
  have hf:=I.free
  rw[<- z] at hf
  rcases hc with y | y
  .rw[<- y,hf] at e;cases e
  .rw[hf] at y;cases y
 .simpa using I.len
theorem wV {M:Model}{A:Around}{E:Value->Shared->Prop}{pos:Pos}{Q:Unit->Shared->Prop}(I:Inv X zz σ H s)(hN:X.N.Nodup)(hi:X.N[i]? = some n)(hk:X.env.scope.names.lookup n=some .local)
  (h:∀s',Inv X zz (σ.set i none) H s'->Q () s'):wpAny M A (do bindName X.env n .none;unbindBehindTheSuite X.env n pos) Q E s:=by
 have hlt:i<σ.length:=I.len▸(yYB.mp hi).1
 refine yYX (wpAny_bindName (vY (v:=.non) I hN hi (.inl hk) rfl (fun s1 I1=>?_) (.inr hk)))
 unfold unbindBehindTheSuite
 refine wpAny_onRaise ?_
 obtain⟨m,hn,hlk⟩:=id I1.loc
 obtain⟨u,_,q⟩:=hlk i n .non hi (by rw[List.getElem?_set_self hlt]) (.inl hk)
 have hv:m n=some u:=by
  rcases q with q | ⟨q,_⟩
  .exact q.2
  .have q':X.env.scope.names.lookup n=some .cell\/X.env.scope.names.lookup n=some .free:=q
   rw[hk] at q'
   rcases q' with q' | q' <;> cases q'
 refine wpAny_unbindName_local hk hn hv (by simp[I.ok.kind]) fun h2 w hn2 hs2=>?_
 have J:=I1.lost (h':=h2) (m':=fun _=>w) hN hi (fun m2 hm2=>?_) hs2
 .rw[List.set_set] at J
  exact h _ J
 .have:m2=m:=by
   obtain⟨o,es,ep,ho,hd,_,z⟩:=hm2
   obtain⟨o',es',ep',ho',hd',_,z'⟩:=hn
   rw[ho] at ho';cases ho'
   rw[hd] at hd';cases hd'
   exact funext fun y=>(z y).symm.trans (z' y)
  rw[this]
  exact hn2
end
abbrev Cx.row (X:Cx)(e:Value):Cx:={ X with A:=X.A.mark (some e),calm:=false,xe:=fun _ _=>False }
section
variable {X:Cx}{zz:List (Addr×Obj)}{σ:St}{H:Hp}{s:Shared}{e:Value}
theorem Inv.row (I:Inv X zz σ H s)(e:Value):Inv (X.row e) zz σ H s:=by
 have ok:(X.row e).Ok:=by
  have o:=I.ok
  exact⟨o.mod,o.kind,o.glob,o.blt,o.above,o.inj,o.has,o.cab,(fun z=>nomatch (show false=true from z)),o.frames,o.stk,o.exf,o.bs,o.bsz,o.noex,o.exfs,o.funs,o.frf⟩
 exact⟨ok,I.os,I.bare,I.base,I.loc,I.cell,I.free,I.freeC,I.pin,I.hok,I.len⟩
theorem Inv.unrow (I:Inv (X.row e) zz σ H s)(o:X.Ok):Inv X zz σ H s:=⟨o,I.os,I.bare,I.base,I.loc,I.cell,I.free,I.freeC,I.pin,I.hok,I.len⟩
def Ends.drop (D:Ends)(i:Nat):Ends:={ nx:=fun σ H=>D.nx (σ.set i none) H,rt:=D.rt,bk:=fun σ H=>D.bk (σ.set i none) H,ct:=fun σ H=>D.ct (σ.set i none) H }
theorem qGq {M:Model}{A:Around}{E:Value->Shared->Prop}{Q:Unit->Shared->Prop}{x T:Addr}{cls:Value}(I:Inv X zz σ H s)(hx:H x=some (.ext (IsExc x T cls)))(hT:H T=some (.ext (IsEnt T)))
  (h:∀s',Inv X zz σ H s'->Q () s'):wpAny M A (setFlight (.ref x) none) Q E s:=by
 obtain⟨⟨oe,vs,f1,f2,f3,f4⟩,_⟩:=I.hok x _ hx
 obtain⟨⟨oT,ts,g1,g2,g3⟩,_⟩:=I.hok T _ hT
 have hsz:3<ts.size:=by
  obtain⟨z,_⟩:=Array.getElem?_eq_some_iff.mp g3
  exact z
 have mf:Obj.mapFields (·.setIfInBounds 3 .none) oT={ oT with data:=.fields (ts.setIfInBounds 3 .none) }:=by
  obtain⟨oc,od,da,sl⟩:=oT
  obtain rfl:da=_:=g2
  rfl
 have up:(s.heap.update T (Obj.mapFields (·.setIfInBounds 3 .none))).get? T=some { oT with data:=.fields (ts.setIfInBounds 3 .none) }:=by
  rw[Heap.get?_update_self _ g1 (by rw[mf];rfl),mf]
 refine wpAny_setFlight_none f1 f3 f4 g1 g2 hsz (h _ ?_)
 have J:=I.write (x:=T) (e:=T) (o:=.ext (IsEnt T)) (t':=s.toks) (h':=s.heap.update T (Obj.mapFields (·.setIfInBounds 3 .none))) (by rw[hT];trivial) (.inl rfl) ?_ ?_ ?_
 .have:upd H T (.ext (IsEnt T))=H:=by
   funext b
   by_cases hb:b=T
   .subst hb;rw[qW];exact hT.symm
   .exact qA hb
  rw[this] at J
  exact J
 .exact fun b u hb e=>by rw[Heap.get?_update_other _ _ (Ne.symm hb)];exact e
 .exact⟨_,up⟩
 .exact⟨⟨_,_,up,rfl,by rw[Array.getElem?_setIfInBounds];simp[hsz]⟩,⟨_,up⟩,fun h1 h2 ⟨o,ws,e1,e2⟩ z=>⟨o,ws,z o e1,e2⟩⟩
theorem xKf {D:Ends}{x T C C0:Addr}{bm bm0:List Value}{cn n:Str}{np pos:Pos}{i:Nat}{b0:Stmt}{suite:List Stmt}{rest:List ExceptHandler}{ts:TS}(I:Inv X zz σ H s)(hx:H x=some (.ext (IsExc x T (.ref C))))(hT:H T=some (.ext (IsEnt T)))
  (hN:X.N.Nodup) (hi:X.N[i]? = some n) (hk:X.env.scope.names.lookup n=some .local) (hg:Gl X cn) (hm:X.mg cn=some (.ref C0)) (c1:ExcAt X.base C bm) (c2:ExcAt X.base C0 bm0) (hit:(Value.ref C::bm).contains (.ref C0)=true)
  (hs:PSs (X.row (.ref x)) (b0::suite) ts) (q:ts (D.drop i) (σ.set i (some (.ref x))) H) (hdb:(cn == ("__debug__" : Str))=false:=by decide):
  wpAny (model X.prog X.w) X.A (handleBy (.ref x) X.env (.ExceptHandler (some (.Name cn np)) (some n) (b0::suite) pos::rest)) (SP X zz D) X.xe s:=by
 refine wpAny_handleBy_cons (codeAny_handlers_test ?_) (by intro z;cases z)
 have IR:=I.row (.ref x)
 obtain⟨⟨oe,vs,f1,f2,f3,f4⟩,_⟩:=I.hok x _ hx
 refine qQx (X:=X.row (.ref x)) IR hg hm (qBe (c1.keeps I.bk) (c2.keeps I.bk) f1 f2 ?_) hdb
 rw[hit]
 refine codeAny_handlers_suite_as (qGq IR hx hT fun s1 I1=>vY (X:=X.row (.ref x)) (v:=.ref x) I1 hN hi (.inl hk) rfl (fun s2 I2=>?_) (.inr hk))
 refine wpAny_mono (hs zz s2 _ H (D.drop i) I2 q) (fun f s3 h3=>?_) fun _ _ z=>False.elim z
 cases f with
 | next=>
  obtain⟨σ',H',J,z⟩:=h3
  exact wV (J.unrow I.ok) hN hi hk fun s4 J4=>⟨_,H',J4,z⟩
 | brk=>
  obtain⟨σ',H',J,z⟩:=h3
  exact wV (J.unrow I.ok) hN hi hk fun s4 J4=>⟨_,H',J4,z⟩
 | cont=>
  obtain⟨σ',H',J,z⟩:=h3
  exact wV (J.unrow I.ok) hN hi hk fun s4 J4=>⟨_,H',J4,z⟩
 | ret u=>
  obtain⟨v,σ',H',J,r,z⟩:=h3
  exact wV (J.unrow I.ok) hN hi hk fun s4 J4=>⟨v,_,H',J4,r,z⟩
def xRow (base:Heap)(C0:Addr)(i:Nat)(ts:TS)(D:Ends):XE:=fun σ1 cls H1=>∃C bm,cls=.ref C/\ExcAt base C bm/\(Value.ref C::bm).contains (.ref C0)=true/\
 ∀x T,H1 x=none->H1 T=none->T≠x->ts (D.drop i) (σ1.set i (some (.ref x))) (held H1 x T (.ref C))
def tTry1 (base:Heap)(C0:Addr)(i:Nat)(tb:XE->TS)(ts:TS):TS:=fun D σ H=>tb (xRow base C0 i ts D) D σ H
theorem xZv {outer:List Env}{body suite:List Stmt}{b0:Stmt}{C0:Addr}{bm0:List Value}{cn n:Str}{np hpos pos:Pos}{i:Nat}{tb:XE->TS}{ts:TS}(hex:X.ex=[])(hst:X.stack=X.env::outer)(hf:X.env.frame=some X.env.locals)
  (hN:X.N.Nodup) (hi:X.N[i]? = some n) (hk:X.env.scope.names.lookup n=some .local) (hg:Gl X cn) (hm:X.mg cn=some (.ref C0)) (c2:ExcAt X.base C0 bm0) (hb:PXs X body tb) (hs:∀x,PSs (X.row (.ref x)) (b0::suite) ts) (hdb:(cn == ("__debug__" : Str))=false:=by decide):
  PS X (.Try body [.ExceptHandler (some (.Name cn np)) (some n) (b0::suite) hpos] [] [] pos) (tTry1 X.base C0 i tb ts):=by
 intro zz s σ H D I h
 rw[arm_exec_Try]
 refine yYX (wpAny_standAt (qRd (wpAny_mono (hb zz s σ H D _ I h) (fun f s1 q=>?_) fun e s1 q=>?_)))
 .cases f with
  | next=>exact wpAny_execs_nil q
  | _=>exact q
 .refine q.caught hex hst hf fun x T cls σ1 H1 h' ee hx hT ne ⟨C,bm,ec,c1,hit,q1⟩ J=>?_
  subst ee ec
  exact xKf J (qW ..) ((qA ne).trans (qW ..)) hN hi hk hg hm c1 c2 hit (hs x) (q1 x T hx hT ne) hdb
end
end L2
namespace L2
open PySem PySem.Spec PySem.W
section
variable {prog:Program}{w:World}{A:Around}{E:Value->Shared->Prop}{h:Heap}{g:Array GenState}{d:Drawn}{t:Nat}{os:OsState}{a C:Addr}{o:Obj}{bm:List Value}
theorem qRv {R:Result->Shared->Prop}(hx:h.get? a=some o)(hc:o.cls=.ref C)(hC:ExcAt h C bm)(ob:bm.contains (.type "object")=true)(hq:R (.ok (.ret (.ref C))) ⟨h,g,d,t,os⟩):
  codeAny (model prog w) A (.call (.builtin "getset_descriptor.__get__") ⟨[.builtin "object.__class__",.ref a,.ref C],[]⟩) R ⟨h,g,d,t,os⟩:=by
 obtain⟨b1,nm,q,N,bs,hd,sn,su,ab,cl,dd,k0,k1,k2,k3,k5,nid,eC⟩:=hC
 have t5:(⟨h,g,d,t,os⟩:Shared).TypeIs (.builtin "object.__class__") "getset_descriptor" := F.typeOf_object_class
 have cB:(Value.ref C::bm).contains (.type (".".intercalate ("object.__class__".cutAt '.').dropLast))=true:=by rw[F.owner_object_class,List.contains_cons,ob];rfl
 refine codeAny_call_builtin F.slot_gs_get.plain F.entry_gs_get (F.slot_gs_get.check _ _ _ _ _ _ _ _ t5 (F.args_gs_get _ _ _) ?_)
 repeat (any_goals (first | assumption | (with_reducible refine wpAny_loadPart_at hx ?_;rw[hc]) | (with_reducible refine wpAny_isSubtype_exc eC ?_;rw[cB]) | wp_step))
 refine⟨Code.quiet_builtin _ (by wtm_at"d"),?_⟩
 refine codeAny_builtin F.entry_object_class ?_
 repeat (any_goals (first | assumption | (with_reducible refine wpAny_loadPart_at hx ?_;rw[hc]) | wp_step))
theorem qEh {tk:Tok}{Q:Fin->Shared->Prop}(hx:h.get? a=some o)(hc:o.cls=.ref C)(hC:ExcAt h C bm)(ob:bm.contains (.type "object")=true)(l3:Looks (model prog w) h (typeLookup (.ref C) "__class__") (some (.builtin "object.__class__")))(hq:Q (.done (.ret (.ref C))) ⟨h,g,d,t,os⟩):
  wpAny (model prog w) A
   (Builtin.«object.__getattribute__» ⟨[.ref a,.str "__class__" tk],[]⟩) Q E ⟨h,g,d,t,os⟩:=by
 have t5:(⟨h,g,d,t,os⟩:Shared).TypeIs (.builtin "object.__class__") "getset_descriptor" := F.typeOf_object_class
 have ft:=F.typeOf_object_class
 have fg:=F.slot_gs_get.lookup
 have fs:=F.slot_gs_set.lookup
 repeat (any_goals (first | assumption | (with_reducible refine wpAny_loadPart_at hx ?_;rw[hc]) | with_reducible refine l3.at ?_ | wp_step))
 refine qRv hx hc hC ob ?_
 repeat any_goals (first | assumption | wp_step)
theorem qEi {M:Model}{nv:Value}{Q:Unit->Shared->Prop}(hx:h.get? a=some o)(hc:o.cls=.ref C)(hC:ExcAt h C bm)(hq:Q () ⟨h,g,d,t,os⟩):wpAny M A (checkBuiltinCall "BaseException.__getattribute__" ⟨[.ref a,nv],[]⟩) Q E ⟨h,g,d,t,os⟩:=by
 have e1:builtinKind "BaseException.__getattribute__" = some .slot:=by wtm_at"d"
 have e2:splitId "BaseException.__getattribute__" = some ("BaseException","__getattribute__"):=by wtm_at"d"
 obtain⟨b1,nm,q,N,bs,hd,sn,su,ab,cl,dd,k0,k1,k2,k3,k5,nid,eC⟩:=hC
 have cB:(Value.ref C::bm).contains (.type "BaseException")=true:=by rw[List.contains_cons,b1];rfl
 have e3:=F.args_bexc_ga (.ref a) nv
 simp only[checkBuiltinCall,e1,e2]
 refine yYX ?_
 unfold isInstance
 repeat (first | (with_reducible refine wpAny_loadPart_at hx ?_;rw[hc]) | (with_reducible refine wpAny_isSubtype_exc eC ?_;rw[cB]) | wp_step)
 exact hq
theorem qHv {tk:Tok}{R:Result->Shared->Prop}(hx:h.get? a=some o)(hc:o.cls=.ref C)(hC:ExcAt h C bm)(ob:bm.contains (.type "object")=true)(l3:Looks (model prog w) h (typeLookup (.ref C) "__class__") (some (.builtin "object.__class__")))(hq:R (.ok (.ret (.ref C))) ⟨h,g,d,t,os⟩):
  codeAny (model prog w) A (.call (.builtin "BaseException.__getattribute__") ⟨[.ref a,.str "__class__" tk],[]⟩) R ⟨h,g,d,t,os⟩:=
 codeAny_call_builtin PySem.F.attrBase_ValueError.ga.plain F.entry_bexc_ga (qEi hx hc hC (qEh hx hc hC ob l3 hq))
theorem xXk {tk:Tok}{Q:Value->Shared->Prop}(hx:h.get? a=some o)(hc:o.cls=.ref C)(hC:ExcAt h C bm)(ob:bm.contains (.type "object")=true)(l1:Looks (model prog w) h (typeLookup (.ref C) "__getattribute__") (some (.builtin "BaseException.__getattribute__")))
  (l2:Looks (model prog w) h (typeLookup (.ref C) "__getattr__") none) (l3:Looks (model prog w) h (typeLookup (.ref C) "__class__") (some (.builtin "object.__class__"))) (hq:Q (.ref C) ⟨h,g,d,t,os⟩):
  wpAny (model prog w) A (getAttrBy (.ref a) (.str "__class__" tk) false) Q E ⟨h,g,d,t,os⟩:=by
 have f3:=PySem.F.attrBase_ValueError.ga.bind (.ref a)
 have h2:(Value.builtin "BaseException.__getattribute__" == Value.builtin "object.__getattribute__")=false:=by wtm_at"d"
 have h1:(onTheHeap (Value.ref C) && Value.builtin "BaseException.__getattribute__" == Value.builtin "object.__getattribute__")=false:=by rw[h2];rfl
 have h0:(false && onTheHeap (Value.builtin "BaseException.__getattribute__"))=false:=rfl
 repeat (any_goals (first | assumption | (with_reducible refine wpAny_loadPart_at hx ?_;rw[hc]) | with_reducible refine l1.at ?_ | with_reducible refine l2.at ?_ | wp_step))
 refine qHv hx hc hC ob l3 ?_
 repeat any_goals (first | assumption | wp_step)
theorem qHw {Q:Option Value->Shared->Prop}(hx:h.get? a=some o)(hc:o.cls=.ref C)(hC:ExcAt h C bm)(ob:bm.contains (.type "object")=true)(l1:Looks (model prog w) h (typeLookup (.ref C) "__getattribute__") (some (.builtin "BaseException.__getattribute__")))
  (l2:Looks (model prog w) h (typeLookup (.ref C) "__getattr__") none) (l3:Looks (model prog w) h (typeLookup (.ref C) "__class__") (some (.builtin "object.__class__"))) (hq:Q (some (.ref C)) ⟨h,g,d,t+1,os⟩):
  wpAny (model prog w) A (getAttr? (.ref a) "__class__") Q E ⟨h,g,d,t,os⟩:=by
 unfold getAttr? getAttrBy?
 repeat (any_goals (first | assumption | with_reducible apply xXk hx hc hC ob l1 l2 l3 | wp_step))
end
def ExcIn (x C:Addr)(h:Heap):Prop:=∃o,h.get? x=some o/\o.cls=.ref C
theorem qKz {K:Frag}{x C:Addr}{bm:List Value}(hC:∀h,K.In h->ExcAt h C bm)(ob:bm.contains (.type "object")=true)(l1:findIn K (.ref C) "__getattribute__" = some (some (.builtin "BaseException.__getattribute__")))
  (l2:findIn K (.ref C) "__getattr__" = some none) (l3:findIn K (.ref C) "__class__" = some (some (.builtin "object.__class__"))):KitX K (.ref x) (.ref C) (ExcIn x C) where
 ty:=fun _ _ _ ⟨o,h1,h2⟩=>h2▸(Looks.ld h1).andThen .now
 it:=fun _ h X _=>by
  obtain⟨_,nm,q,N,bs,hd,sn,su,ab,cl,dd,k0,k1,k2,k3,k5,nid,eC⟩:=hC h X
  intro A' Q' E' s' k q
  unfold isType loadHead
  exact yYX (wpAny_loadPart (k _ _ eC) (yYY q))
 ne:=fun h tp _ _ _ _ X htp=>by
  obtain⟨_,nm,q,N,bs,hd,sn,su,ab,cl,dd,k0,k1,k2,k3,k5,nid,eC⟩:=hC h X
  refine Bool.eq_false_iff.mpr fun z=>?_
  have e:C=tp:=Value.ref.inj (beq_iff_eq.mp z)
  rw[<- e,eC] at htp
  have z2:=congrArg (fun o=>Option.map Obj.data o) htp
  cases z2
 ca:=fun{_ _ _ _ _ s} X ⟨o,h1,h2⟩ k=>by
  obtain⟨h,g,d,t,os⟩:=s
  exact qHw h1 h2 (hC h X) ob (looks_findIn X l1) (looks_findIn X l2) (looks_findIn X l3) k
structure Asks (K:Frag)(C:Addr)(bm:List Value):Prop where
 at':∀h,K.In h->ExcAt h C bm
 ob:bm.contains (.type "object")=true
 l1:findIn K (.ref C) "__getattribute__" = some (some (.builtin "BaseException.__getattribute__"))
 l2:findIn K (.ref C) "__getattr__" = some none
 l3:findIn K (.ref C) "__class__" = some (some (.builtin "object.__class__"))
section
variable {X:Cx}
theorem qPm:CallR X (.builtin "isinstance") (fun xs H Q=>∃x T C bm D b,xs=[.ref x,.ref D]/\H x=some (.ext (IsExc x T (.ref C)))/\Asks X.K C bm/\kitOne X.K (.ref C) (.ref D)=some b/\Q (.bl b) H):=by
 intro zz s σ H xs us Q I r h
 obtain⟨x,T,C,bm,D,b,rfl,hx,ak,e,q⟩:=h
 obtain⟨u,v,rfl,ru,rv⟩:=vals2 r
 cases ru
 cases rv
 obtain⟨⟨o,vs,h1,h2,_⟩,_⟩:=I.hok x _ hx
 exact kia_one (qKz ak.at' ak.ob ak.l1 ak.l2 ak.l3) I.kIn ⟨o,h1,h2⟩ e (fun z=>nomatch z) fun tk=>⟨.bl b,H,I.tok _,rfl,q⟩
theorem qPl:CallR X (.builtin "isinstance") (fun xs H Q=>∃x T C bm D b,xs=[.ref x,.ty D]/\H x=some (.ext (IsExc x T (.ref C)))/\Asks X.K C bm/\kitOne X.K (.ref C) (.type D)=some b/\Q (.bl b) H):=by
 intro zz s σ H xs us Q I r h
 obtain⟨x,T,C,bm,D,b,rfl,hx,ak,e,q⟩:=h
 obtain⟨u,v,rfl,ru,rv⟩:=vals2 r
 cases ru
 cases rv
 obtain⟨⟨o,vs,h1,h2,_⟩,_⟩:=I.hok x _ hx
 exact kia_one (qKz ak.at' ak.ob ak.l1 ak.l2 ak.l3) I.kIn ⟨o,h1,h2⟩ e (fun z=>nomatch z) fun tk=>⟨.bl b,H,I.tok _,rfl,q⟩
theorem qVi:∀{ds:List Addr} {us:List Value},Vals (ds.map V.ref) us->us=ds.map Value.ref
 | [],_,.nil=>rfl
 | _::_,_,.cons r t=>by rw[List.map_cons,<- qVi t,show _=Value.ref _ from r]
theorem qPi:CallR X (.builtin "isinstance") (fun xs H Q=>∃x T C bm p,∃ds:List Addr,∃b,xs=[.ref x,.ref p]/\H x=some (.ext (IsExc x T (.ref C)))/\H p=some (.tup (ds.map V.ref))/\Asks X.K C bm/\kitAny X.K (.ref C) (ds.map Value.ref)=some b/\Q (.bl b) H):=by
 intro zz s σ H xs us Q I r h
 obtain⟨x,T,C,bm,p,ds,b,rfl,hx,hp,ak,e,q⟩:=h
 obtain⟨u,v,rfl,ru,rv⟩:=vals2 r
 cases ru
 cases rv
 obtain⟨⟨o,vs,h1,h2,_⟩,_⟩:=I.hok x _ hx
 obtain⟨_,its,r2,op,g1,g2,n,g3,_⟩:=I.hok p _ hp
 obtain⟨oc,od,da,sl⟩:=op
 obtain rfl:oc=_:=g2
 obtain rfl:da=_:=g3
 have e2:its=_:=qVi r2
 subst e2
 exact kia_tup (qKz ak.at' ak.ob ak.l1 ak.l2 ak.l3) I.kIn ⟨o,h1,h2⟩ g1 e (fun z=>nomatch z) fun tk=>⟨.bl b,H,I.tok _,rfl,q⟩
end
end L2
namespace L2
open PySem PySem.Spec PySem.W PyProof.Rows
abbrev bmV:List Value:=[.type "ValueError",.type "Exception",.type "BaseException",.type "object"]
def qCf (es:List DictEntry):Bool:=es.all fun e=>match e.key with | .str _ _=>true | _=>false
structure Ref (K:Frag)(mg:Str->Option Value)(x:Str)(C:Addr)(bm:List Value):Prop where
 bd:mg x=some (.ref C)
 own:∀h,K.In h->OwnCls x C bmV "ValueError.__new__" mg h
 asks:Asks K C bm
 tail:∀h,K.In h->OwnTail h bmV (.ref C::bm)
theorem xKg {K:Frag}{h:Heap}{mg:Str->Option Value}{x:Str}{C N:Addr}{nm q:Str}{bs bm:List Value}{hd:Bool}{sn:List Str}{su:List Value}{ab:Bool}{cl:Option Bool}{dd nd:Option Addr}{k0 k1 k2 k3 k5:Option Value}{nc:Value}{es:Array DictEntry}{ne:Nat}{ns:Array (Option Value)}
  (X:K.In h) (G:h.Ns mainGlobals mg) (t:∀h,K.In h->OwnTail h bmV bm) (a:nsIn K mainGlobals x=some (some (.ref C))) (l:K.lookup C=some (excClassObj nm q C N bs bm hd sn su ab cl dd k0 k1 k2 k3 k5 "ValueError.__new__"))
  (lN:K.lookup N=some ⟨nc,nd,.dict es ne,ns⟩) (ok:qCf es.toList=true) (ni:nsIn K N "__init__" = some none)
  (l1:findIn K (.ref C) "__getattribute__" = some (some (.builtin "BaseException.__getattribute__"))) (l2:findIn K (.ref C) "__getattr__" = some none) (l3:findIn K (.ref C) "__class__" = some (some (.builtin "object.__class__"))):Ref K mg x C bm:=by
 have ok':nsOkIn K N=true:=by
  unfold nsOkIn
  rw[lN]
  show es.all _=true
  rw[<- Array.all_toList]
  exact ok
 refine⟨mg_of X G a,fun base Y=>?_,⟨fun base Y=>⟨?_,?_⟩,?_,l1,l2,l3⟩,fun base Y=>?_⟩
 .exact⟨mg_of X G a,bm,N,nm,q,bs,hd,sn,su,ab,cl,dd,k0,k1,k2,k3,k5,_,Y _ _ l,.of_isNs (isNs_of_in Y ok'),nsMap_none_of_in Y ok' ni,t base Y⟩
 .exact(t base Y).hasType rfl
 .exact⟨nm,q,N,bs,hd,sn,su,ab,cl,dd,k0,k1,k2,k3,k5,_,Y _ _ l⟩
 .exact(t h X).hasType rfl
 .exact .own (Y _ _ l) (.of_isNs (isNs_of_in Y ok')) (nsMap_none_of_in Y ok' ni) (t base Y)
end L2
namespace L2
open PySem PySem.Spec PySem.W PyProof.Rows
structure Dx (P:Program)(w:World)(K:Frag)(mg:Str->Option Value)(base:Heap)(x:Str)(k:Nat)(ps:List Str)(sp:Sp):Prop where
 ex:∃f fd,FnOk P w K mg base (CX1 P w) k f fd ps sp/\mg x=some (.ref f)/\keepIn K (.ref f)=true/\Binds K fd ps []
section
variable {P:Program}{w:World}{K:Frag}{mg:Str->Option Value}{base:Heap}{x:Str}{st:Stmt}{j k:Nat}{N ps:List Str}{sp sp':Sp}
theorem Fd.okx (F:Fd K mg x st ps)(S:xH N ps (xB st))(len:∀vs H Q E,sp vs H Q E->vs.length=ps.length)
  (hbody:∀(f:Addr) (zy:Value) (A:Around) (outer:List Env) (s:Shared) (H:Hp) (vs:List V) (Q:VK) (E:XK),Room k (A.deeper (envOfC x (xB st) s.heap.objs.size f zy))->sp vs H Q E->
   ∃t,PSs (cxOf (CX1 P w) P w K mg base N x (xB st) f zy A outer s H E) (xC st) t/\t { nx:=fun _ H'=>Q .non H',rt:=Q } (start N vs) H):Dx P w K mg base x (k+1) ps sp:=
 let ⟨f,fd,F,a,b,c⟩:=F.ex
 ⟨f,fd,F.ok1 S len (hbody f),a,b,c⟩
end
section
variable {P:Program}{w:World}{K:Frag}{mg:Str->Option Value}{base:Heap}{N:List Str}{qual:Str}{scope:Scope}{f:Addr}{cd:Value}{A:Around}{outer:List Env}{s₀:Shared}{H₀:Hp}{E:XK}{j k:Nat}{ps:List Str}{sp:Sp}{x:Str}{p pos:Pos}{e:Expr}{es:List Expr}{t:TA}
theorem qE (D:Dx P w K mg base x j ps sp)(hr:Room k (cxOf (CX1 P w) P w K mg base N qual scope f cd A outer s₀ H₀ E).A)(ha:PA (cxOf (CX1 P w) P w K mg base N qual scope f cd A outer s₀ H₀ E) (e::es) t)(hjk:j<=k:=by first | decide | omega)
  (hg:Gl (cxOf (CX1 P w) P w K mg base N qual scope f cd A outer s₀ H₀ E) x:=by rfl)
  (hdb:(x == ("__debug__" : Str))=false:=by decide) (he:starEach (e::es) (cxOf (CX1 P w) P w K mg base N qual scope f cd A outer s₀ H₀ E).env=(false,eval e (cxOf (CX1 P w) P w K mg base N qual scope f cd A outer s₀ H₀ E).env)::starEach es (cxOf (CX1 P w) P w K mg base N qual scope f cd A outer s₀ H₀ E).env:=by rfl)
  (hpl:(backTo pos (starEach es (cxOf (CX1 P w) P w K mg base N qual scope f cd A outer s₀ H₀ E).env)).any (·.1)=false:=by rfl):
  PE (cxOf (CX1 P w) P w K mg base N qual scope f cd A outer s₀ H₀ E) (.Call (.Name x p) (e::es) [] pos) (tCall sp [] E t):=by
 obtain⟨f',fd,F,a,b,c⟩:=D.ex
 exact qXh (F.mono hjk) hr hg a b c .nil pass1 ha hdb he hpl
theorem qSc {C:Addr}{np cpos:Pos}(O:OwnCls x C bmV "ValueError.__new__" mg base)(ha:PA (cxOf (CX1 P w) P w K mg base N qual scope f cd A outer s₀ H₀ E) (e::es) t)(hg:Gl (cxOf (CX1 P w) P w K mg base N qual scope f cd A outer s₀ H₀ E) x:=by rfl)
  (hdb:(x == ("__debug__" : Str))=false:=by decide) (he:starEach (e::es) (cxOf (CX1 P w) P w K mg base N qual scope f cd A outer s₀ H₀ E).env=(false,eval e (cxOf (CX1 P w) P w K mg base N qual scope f cd A outer s₀ H₀ E).env)::starEach es (cxOf (CX1 P w) P w K mg base N qual scope f cd A outer s₀ H₀ E).env:=by rfl)
  (hpl:(backTo cpos (starEach es (cxOf (CX1 P w) P w K mg base N qual scope f cd A outer s₀ H₀ E).env)).any (·.1)=false:=by rfl) (hc:(cxOf (CX1 P w) P w K mg base N qual scope f cd A outer s₀ H₀ E).calm=true:=by rfl):
  PS (cxOf (CX1 P w) P w K mg base N qual scope f cd A outer s₀ H₀ E) (.Raise (some (.Call (.Name x np) (e::es) [] cpos)) none pos) (tThrow C t E):=
 qSb O PySem.F.excBase_ValueError hg hc throws1 ha hdb he hpl
end
section
variable {X:Cx}{P:Program}{w:World}{K:Frag}{mg:Str->Option Value}{base:Heap}{j k:Nat}{ps:List Str}{sp:Sp}{x:Str}{p pos:Pos}{e:Expr}{es:List Expr}{t:TA}
theorem qIl (D:Dx P w K mg base x j ps sp)(hr:Room k X.A)(ha:PA X.nox (e::es) t)(hjk:j<=k:=by first | decide | omega)(hg:Gl X x:=by rfl)
  (h1:X.prog=P:=by rfl) (h2:X.w=w:=by rfl) (h3:X.K=K:=by rfl) (h4:X.mg=mg:=by rfl) (h5:X.base=base:=by rfl)
  (hdb:(x == ("__debug__" : Str))=false:=by decide) (he:starEach (e::es) X.env=(false,eval e X.env)::starEach es X.env:=by rfl) (hpl:(backTo pos (starEach es X.env)).any (·.1)=false:=by rfl):
  PXE X (.Call (.Name x p) (e::es) [] pos) (xCall sp [] t):=by
 subst h1 h2 h3 h4 h5
 obtain⟨f,fd,F,a,b,c⟩:=D.ex
 exact qSj (F.mono hjk) hr hg a b c .nil ha hdb he hpl
end
theorem qXg {X:Cx}{K:Frag}{mg:Str->Option Value}{x:Str}{C:Addr}{bm:List Value}{pos:Pos}(R:Ref K mg x C bm)(hg:Gl X x:=by rfl)(hm:X.mg=mg:=by rfl)(hd:(x == ("__debug__" : Str))=false:=by decide):PE X (.Name x pos) (tC (.ref C)):=by
 subst hm
 exact qBj (v:=.ref C) hg R.bd rfl hd
def rIsN:R2:=fun x y H Q=>y=.non/\Q (.bl (decide (x=.non))) H
def rIsiE (K:Frag):List V->Hp->VK->Prop:=fun xs H Q=>∃x T C bm D b,xs=[.ref x,.ref D]/\H x=some (.ext (IsExc x T (.ref C)))/\Asks K C bm/\kitOne K (.ref C) (.ref D)=some b/\Q (.bl b) H
def rIsiT (K:Frag):List V->Hp->VK->Prop:=fun xs H Q=>∃x T C bm D b,xs=[.ref x,.ty D]/\H x=some (.ext (IsExc x T (.ref C)))/\Asks K C bm/\kitOne K (.ref C) (.type D)=some b/\Q (.bl b) H
def rIsiU (K:Frag):List V->Hp->VK->Prop:=fun xs H Q=>∃x T C bm p,∃ds:List Addr,∃b,xs=[.ref x,.ref p]/\H x=some (.ext (IsExc x T (.ref C)))/\H p=some (.tup (ds.map V.ref))/\Asks K C bm/\kitAny K (.ref C) (ds.map Value.ref)=some b/\Q (.bl b) H
section
variable {X:Cx}{K:Frag}
theorem qMh:OpR X (compareOp .Is) rIsN:=xVc
theorem qHx (hK:X.K=K:=by rfl):CallR X (.builtin "isinstance") (rIsiE K):=by subst hK;exact qPm
theorem qHq (hK:X.K=K:=by rfl):CallR X (.builtin "isinstance") (rIsiT K):=by subst hK;exact qPl
theorem qGo (hK:X.K=K:=by rfl):CallR X (.builtin "isinstance") (rIsiU K):=by subst hK;exact qPi
theorem xJi {D:Ends}{i:Nat}{σ:St}{H:Hp}(h:D.nx (σ.set i none) H):(D.drop i).nx σ H:=h
end
theorem qKh:bootBuiltins "ValueError" = some (.type "ValueError"):=by wtm_at"d"
end L2
namespace L2
open PySem PySem.Spec PyProof.Rows
theorem w_yes {σ:St}{H:Hp}{R:Bool->Hp->Prop}(q:R true H):tYes σ H R:=q
end L2
namespace DT
open PySem PyProof.Rows
section
variable {prog:Program}{w:World}{A:Around}{E:Value->Shared->Prop}{s:Shared}{d I:Addr}{o:Obj}{es:Array DictEntry}{ep:Nat}
theorem stopGe {i:Nat}(hh:A.handled=none)(hit:s.heap.IsKeyIter I d i es.size ep)(D:At s.heap d o es ep)(hge:es.size<=i){Q:Option Value->Shared->Prop}
  (h:∀h',Heap.ExtBut I s.heap h'->Q none { s with heap:=h' }):wpAny (model prog w) A (pyNext (.ref I)) Q E s:=by
 obtain⟨oi,e1,e2,e3⟩:=id hit
 have T:=hit.typeIs
 unfold pyNext
 refine yYX (wpAny_attempt (wpAny_callSpecial?_slot (name:=Str.ofString "__next__") T F.slot_dict_keyiterator_next (wpAny_call_entry F.slot_dict_keyiterator_next T F.entry_dict_keyiterator_next ?_ (F.args_dict_keyiterator_next_1 _))))
 refine yYX (yYY (yYX (yYX (yYX ?_))))
 refine wpAny_typeNameOfWhole_keyiter T (yYY (yYX (wpAny_fieldsOf e1 e3 ?_)))
 rw[show Builtin.Dict_items.ownsTuple "dict_keyiterator" = false by decide]
 simp only[yZK,if_false]
 show wpAny _ _ (if (Value.ref d == Value.none)=true then _ else _) _ _ s
 refine wpAny_ite_split (fun z=>absurd z yZL) fun _=>?_
 refine yYX (yYY (yYX (wpAny_dictEntries D.at' D.data ?_)))
 refine wpAny_ite_split (fun z=>absurd z (by simp)) fun _=>?_
 refine yYX (yYY (yYX (wpAny_dictEpoch D.at' D.data ?_)))
 refine wpAny_ite_split (fun z=>absurd z (by simp)) fun _=>?_
 refine yYY ?_
 simp only[show¬((i:Int)<0) from by omega,if_false,Int.toNat_natCast,Array.getElem?_eq_none hge]
 refine yYX (yYX (wpAny_typeNameOfWhole_keyiter T (yYY ?_)))
 show wpAny _ _ (setField (.ref I) 0 .none >>= _) _ _ s
 refine yYX (wpAny_setField e1 e3 (by simp) ?_)
 show wpAny _ _ (newExc (.type "StopIteration") [] >>= _) _ _ _
 refine yYX ?_
 simp only[newExc,newTuple]
 refine yYX (wpAny_newObj_type ?_ (by size_fits))
 refine yYX (m:=firstArgMember _ _) (wpAny_of_eq (a:=Value.none) (by first | rfl | (simp only[firstArgMember];rfl)) ?_)
 refine wpAny_newObj_type ?_ (by size_fits)
 simp only[raiseNew]
 refine yYX (wpAny_handled ?_)
 rw[show A.in1.handled=none from hh]
 refine yYX (yYY (wpAny_throw ?_))
 refine yYX (wpAny_isInstance (T := "StopIteration") (b:=true) ⟨_,yZB _ rfl,rfl⟩ isSubtype_stop ?_)
 exact yYY (h _ (((Heap.SameBut.update ..).extBut.push _).push _))
end
end DT
namespace L2
open PySem PySem.Spec PyProof.Rows
def Itdt (d:Addr)(o:Obj)(kvs:List (List Key×V)):It:=
 ⟨fun i H=>i<kvs.length/\H d=some (.frz o (.dT kvs)),fun i H x H'=>H'=H/\∃k v a,kvs[i]? = some (k,v)/\x=.ref a/\H a=some (.tup (k.map kV)),fun i H=>kvs.length<=i/\H d=some (.frz o (.dT kvs))⟩
theorem qKa {P:Program}{w:World}{H:Hp}{h:Heap}{d:Addr}{o:Obj}{kvs:List (List Key×V)}{es:Array DictEntry}{ep:Nat}(hd:o.data=.dict es ep)(x:ObjOk P w H h d (.frz o (.dT kvs))):
  DT.At h d o es ep/\es.size=kvs.length/\∀(i:Nat) (k:List Key) (v:V),kvs[i]? = some (k,v)->∃(a:Addr) (u:Value),(∃hh:Int,es.toList[i]? = some (DictEntry.mk hh (.ref a) u))/\H a=some (.tup (k.map kV))/\RelV v u:=by
 obtain⟨e,_,_,xs,r,o',es',ep',e',c,d',e4,_⟩:=x
 rw[e] at e'
 cases e'
 rw[hd] at d'
 cases d'
 have lv:=Paired.length r
 refine⟨⟨e,c,hd⟩,?_,fun i k v hk=>?_⟩
 .have:=congrArg List.length e4
  rw[yYC,yZM] at this
  omega
 .have hi:=(yYB.mp hk).1
  obtain⟨q,eq⟩:∃q,xs[i]? = some q:=⟨_,yYA (by omega)⟩
  obtain⟨_,p2,p3⟩:=xV r hk eq
  refine⟨q.2.1,q.2.2,⟨_,by rw[e4,yYO,eq];rfl⟩,p2,p3⟩
section
variable {X:Cx}{tg:Expr}
theorem qEo {P:Program}{w:World}{K:yZP}{tg:Expr}(it d:Addr)(o:Obj)(kvs:List (List Key×V))(es:Array DictEntry)(ep:Nat)(hd:o.data=.dict es ep):Turn P w K tg (Itdt d o kvs) [it] it (fun i h=>h.IsKeyIter it d i es.size ep) where
 mem:=by simp
 obj:=fun i h st b hb=>by
  have e:b=it:=by simpa using hb
  subst e
  obtain⟨o,e,c,d⟩:=st
  exact⟨o,e,fun v z=>by rw[d] at z;cases z⟩
 keep:=fun i h h' st k=>st.at fun o e=>k it (by simp) o e
 item:=by
  intro X hP hw hK hc i zz s σ H E I hf st hg
  subst hP hw hK
  obtain⟨hi,hH⟩:=hg
  obtain⟨f0,f1,f2,f3,f4,f5⟩:=hf it (by simp)
  obtain⟨D,sz,at_⟩:=qKa hd (I.hok d _ hH)
  obtain⟨⟨k,v⟩,ek⟩:∃q,kvs[i]? = some q:=⟨_,yYA hi⟩
  obtain⟨a,u,⟨hh,ee⟩,ha,_⟩:=at_ i k v ek
  have hi2:i<es.size:=by omega
  have ekey:es[i].key=.ref a:=by
   rw[yZN,Array.getElem?_eq_getElem hi2] at ee
   rw[Option.some.inj ee]
  refine DT.next st D hi2 fun h' st' sb=>?_
  have I1:Inv X zz σ H { s with heap:=h' }:=I.turned (t':=s.toks) (fun b o hb e=>(sb.2 b hb).trans e) f0 f1 f3 f4 f5
  obtain⟨o',e,c,d'⟩:=id st'
  rw[ekey]
  exact⟨_,rfl,qTh (s:={ s with heap:=h' }) e c d' (by decide) ⟨.ref a,H,I1,rfl,⟨rfl,k,v,a,ek,rfl,ha⟩,st',fun b hb=>(hf b hb).1⟩⟩
 done:=by
  intro X hP hw hK hc i zz s σ H E I hf st hg
  subst hP hw hK
  obtain⟨hi,hH⟩:=hg
  obtain⟨f0,f1,f2,f3,f4,f5⟩:=hf it (by simp)
  obtain⟨D,sz,_⟩:=qKa hd (I.hok d _ hH)
  have st:s.heap.IsKeyIter it d i es.size ep:=st
  exact DT.stopGe (I.ok.hd hc) st D (by omega) fun h' eb=>⟨rfl,I.turned (t':=s.toks) (fun b o hb e=>eb b o hb e) f0 f1 f3 f4 f5⟩
 self:=fun _ _ _ _ _ st h=>wpAny_pyIter_keyiter st h
def iDictT (tl:TE):TI:=fun σ H R=>tl σ H fun x H1=>∃d kvs,x=.ref d/\((H1 d=some (.dT kvs)/\∀o,R (Itdt d o kvs) (upd H1 d (.frz o (.dT kvs))))\/∃o,H1 d=some (.frz o (.dT kvs))/\R (Itdt d o kvs) H1)
theorem frozen {zz:List (Addr×Obj)}{σ:St}{H:Hp}{s:Shared}{d:Addr}{kvs:List (List Key×V)}{G:Obj->Hp->Prop}(I:Inv X zz σ H s)
  (q:(H d=some (.dT kvs)/\∀o,G o (upd H d (.frz o (.dT kvs))))\/∃o,H d=some (.frz o (.dT kvs))/\G o H):
  ∃o H2 es ep,o.data=.dict es ep/\(d == sysModules)=false/\DT.At s.heap d o es ep/\Inv X zz σ H2 s/\H2 d=some (.frz o (.dT kvs))/\G o H2:=by
 rcases q with⟨hk,q⟩ | ⟨o,hk,q⟩
 .have ok:=I.hok d _ hk
  obtain⟨z,hs,xs,r,o,es,ep,e,c,dd,k,nd⟩:=id ok
  have I2:Inv X zz σ (upd H d (.frz o (.dT kvs))) s:=I.write (t':=s.toks) (x:=d) (e:=d) (by rw[hk];exact trivial) (.inl rfl) (fun b u hb hu=>hu) ⟨_,e⟩ (by
   refine⟨e,z,hs,xs,Paired.mapP r fun p q y=>⟨y.1,?_,y.2.2⟩,o,es,ep,e,c,dd,k,nd⟩
   rw[qA (jU y.2.1 hk (by intro z;cases z))];exact y.2.1)
  exact⟨o,_,es,ep,dd,hs,⟨e,c,dd⟩,I2,qW,q o⟩
 .obtain⟨e,z,hs,xs,r,o',es,ep,e',c,dd,k,nd⟩:=(show ObjOk X.prog X.w H s.heap d (.frz o (.dT kvs)) from I.hok d _ hk)
  rw[e] at e'
  cases e'
  exact⟨o,H,es,ep,dd,hs,⟨e,c,dd⟩,I,hk,q⟩
theorem qDn {l:Expr}{tl:TE}(hl:PE X l tl):PI X tg l (iDictT tl):=by
 intro zz s σ H R I h
 refine thn (hl zz s σ H _ I h) fun v s1 ⟨x,H1,I1,r1,q1⟩=>?_
 obtain⟨d,kvs,e,q⟩:=q1
 subst e
 cases r1
 obtain⟨o,H2,es,ep,dd,hs,D,I2,hH,q⟩:=frozen I1 q
 refine DT.iter hs D fun h' hi kp=>?_
 refine⟨s1.heap.objs.size,[s1.heap.objs.size],_,_,H2,rfl,I2.kept (t':=s1.toks) kp,qEo _ d o kvs es ep dd,hi,fun b hb=>?_,q⟩
 have e:b=s1.heap.objs.size:=by simpa using hb
 subst e
 exact I2.fpOk (yZD _) (I2.hok.fresh (yZD _))
end
section
variable {k:Nat}{js:List Nat}{g:TG}{tt:TT}{te:TE}{σ:St}{H1:Hp}{Q:VK}
theorem qJm {d:Addr}{o:Obj}{kvs:List (List Key×V)}(Pv:Addr->Nat->List V->Hp->Prop)(h0:∀D,H1 D=none->Pv D 0 [] (upd H1 D (.lst [])))
  (hl:∀D i ys H,i<=kvs.length->Pv D i ys H->H d=some (.frz o (.dT kvs)))
  (hs:∀D i q v a ys H (N:List V->Hp->Prop),H1 D=none->H D=some (.lst ys)->kvs[i]? = some (q,v)->H a=some (.tup (q.map kV))->Pv D i ys H->(∀zs H',H' D=some (.lst zs)->Pv D (i+1) zs H'->N zs H')->turnC k js g tt te σ D (.ref a) ys H N)
  (hd:∀D ys H,H1 D=none->H D=some (.lst ys)->Pv D kvs.length ys H->Q (.ref D) H):rdC k js g tt te (Itdt d o kvs) σ H1 Q:=by
 intro D hD
 refine⟨fun i m ys H=>m=kvs.length - i/\i<=kvs.length/\H D=some (.lst ys)/\Pv D i ys H,⟨kvs.length,by simp,yZG _,qW,h0 D hD⟩,?_⟩
 rintro i m ys H ⟨rfl,hi,hDy,p⟩
 refine⟨hDy,?_⟩
 have z:=hl D i ys H hi p
 by_cases hlt:i<kvs.length
 .refine .inr ⟨⟨hlt,z⟩,fun x H' y=>?_⟩
  obtain⟨e,q,v,a,ec,y,ha⟩:=y
  subst e y
  exact hs D i q v a ys _ (fun zs H'=>∃m',m'<kvs.length - i/\m'=kvs.length - (i+1)/\i+1<=kvs.length/\H' D=some (.lst zs)/\Pv D (i+1) zs H') hD hDy ec ha p fun zs H' e p'=>⟨kvs.length - (i+1),by omega,rfl,hlt,e,p'⟩
 .have e:i=kvs.length:=by omega
  subst e
  exact .inl ⟨⟨yZD _,z⟩,hd D ys H hD hDy p⟩
end
end L2
namespace DT
open PySem PyProof.Rows
section
variable {prog:Program}{w:World}{A:Around}{E:Value->Shared->Prop}{s:Shared}{d I:Addr}{o:Obj}{es:Array DictEntry}{ep:Nat}
theorem owns:Builtin.Dict_items.ownsTuple "dict_itemiterator" = true:=by decide
theorem items (hd:(d == sysModules)=false)(D:At s.heap d o es ep){P:PySem.Fin->Shared->Prop}(h:P (.done (.ret (.ref s.heap.objs.size))) { s with heap:=s.heap.push { cls:=.type "dict_items",data:=.fields #[.ref d] } }):
  wpAny (model prog w) A (Builtin.«dict.items» ⟨[.ref d],[]⟩) P E s:=by
 unfold Builtin.«dict.items» Builtin.Dict.noArgs Builtin.Dict.showsAll
 refine yYX (yYX (wpAny_notOrdered_dict ⟨o,D.at',D.ex.1⟩ (yYY ?_)))
 show wpAny _ _ ((if (d == sysModules)=true then _ else _) >>= _) _ _ s
 rw[hd]
 exact yYX (yYY (yYX (wpAny_newObj_type (yYY h))))
theorem iterI {v:Addr}{Q:Value->Shared->Prop}(hv:s.heap.IsItemsView v d)(D:At s.heap d o es ep)
  (h:∀h',IsItemIter h' s.heap.objs.size d 0 es.size ep .none .none->(∀b o,s.heap.get? b=some o->h'.get? b=some o)->Q (.ref s.heap.objs.size) { s with heap:=h' }):wpAny (model prog w) A (pyIter (.ref v)) Q E s:=by
 obtain⟨ov,e1,e2,e3⟩:=id hv
 refine wpAny_pyIter_slot hv.typeIs F.slot_dict_items_iter (wpAny_call_entry F.slot_dict_items_iter hv.typeIs F.entry_dict_items_iter ?_ (F.args_dict_items_iter_1 _))
 unfold Builtin.«dict_items.__iter__» Builtin.Dict_items.dictOf Builtin.Dict_items.newIterator
 refine yYX (yYY (yYX (yYX (wpAny_field e1 e3 (x:=.ref d) rfl (yYY (yYX (yYX (wpAny_dictEntries D.at' D.data (yYX (wpAny_dictEpoch D.at' D.data ?_))))))))))
 simp only[owns,if_true]
 refine wpAny_newObj_type (yYY ⟨_,rfl,"dict_itemiterator",_,⟨_,yZB _ rfl,rfl⟩,F.slot_dict_itemiterator_next.lookup,?_⟩) (by simp[sizeOk,Builtin.Dict_items.ownedTupleFields,sizeLine_eq])
 exact h _ (yZB _ rfl) fun b o e=>yYZ _ e
theorem nextI {i:Nat}{x y:Value}(hit:IsItemIter s.heap I d i es.size ep x y)(D:At s.heap d o es ep)(hi:i<es.size){Q:Option Value->Shared->Prop}
  (h:∀h',IsItemIterOut h' I d (i+1) es.size ep es[i].key es[i].val s.heap.objs.size->h'.get? s.heap.objs.size=some { cls:=.type "tuple",data:=.seq #[es[i].key,es[i].val] }->
   (∀b o,b≠I->s.heap.get? b=some o->h'.get? b=some o)->Q (some (.ref s.heap.objs.size)) { s with heap:=h' }):wpAny (model prog w) A (pyNext (.ref I)) Q E s:=by
 have T:s.TypeIs (.ref I) "dict_itemiterator" := ⟨_,hit,rfl⟩
 have lI:I<s.heap.objs.size:=yZA hit
 unfold pyNext
 refine yYX (wpAny_attempt (wpAny_callSpecial?_slot (name:=Str.ofString "__next__") T F.slot_dict_itemiterator_next (wpAny_call_entry F.slot_dict_itemiterator_next T F.entry_dict_itemiterator_next ?_ (F.args_dict_itemiterator_next_1 _))))
 refine yYX (yYY (yYX (yYX (yYX ?_))))
 refine wpAny_typeNameOfWhole_itemiter T (yYY (yYX (wpAny_fieldsOf hit rfl ?_)))
 simp only[owns,if_true]
 show wpAny _ _ (if (Value.ref d == Value.none)=true then _ else _) _ _ s
 refine wpAny_ite_split (fun z=>absurd z yZL) fun _=>?_
 refine yYX (yYY (yYX (wpAny_dictEntries D.at' D.data ?_)))
 refine wpAny_ite_split (fun z=>absurd z (by simp)) fun _=>?_
 refine yYX (yYY (yYX (wpAny_dictEpoch D.at' D.data ?_)))
 refine wpAny_ite_split (fun z=>absurd z (by simp)) fun _=>?_
 refine yYY ?_
 simp only[show¬((i:Int)<0) from by omega,if_false,Int.toNat_natCast,Array.getElem?_eq_getElem hi]
 refine yYX (yYX (wpAny_typeNameOfWhole_itemiter T (yYY (yYX (wpAny_isOneOf_itemiter T ?_)))))
 show wpAny _ _ (setField (.ref I) 3 (rawInt ((i:Int)+1)) >>= _) _ _ s
 refine yYX (wpAny_setField_rec hit (by simp) fun h1 g1 b1=>?_)
 have g1:IsItemIter h1 I d (i+1) es.size ep x y:=by
  have e:((i+1:Nat):Int)=(i:Int)+1:=by omega
  unfold IsItemIter
  rw[e]
  exact g1
 have z1:h1.objs.size=s.heap.objs.size:=b1.1
 refine yYX (wpAny_holding (yYX (wpAny_isOneOf_itemiter (s:={ s with heap:=h1 }) ⟨_,g1,rfl⟩ (yYX (wpAny_isOneOf_itemiter (s:={ s with heap:=h1 }) ⟨_,g1,rfl⟩ ?_)))))
 show wpAny _ _ (newTuple [es[i].key,es[i].val] >>= _) _ _ { s with heap:=h1 }
 refine yYX (wpAny_newTuple ?_)
 have g2:IsItemIter (h1.push { cls:=.type "tuple",data:=.seq #[es[i].key,es[i].val] }) I d (i+1) es.size ep x y:=yYZ _ g1
 have t2:(h1.push { cls:=.type "tuple",data:=.seq #[es[i].key,es[i].val] }).get? s.heap.objs.size=some { cls:=.type "tuple",data:=.seq #[es[i].key,es[i].val] }:=by
  rw[<- z1];exact yZB _ rfl
 have k2:∀b o,b≠I->s.heap.get? b=some o->(h1.push { cls:=.type "tuple",data:=.seq #[es[i].key,es[i].val] }).get? b=some o:=fun b o hb e=>yYZ _ (b1.extBut b o hb e)
 show wpAny _ _ (Builtin.Dict_items.ownedTupleIsFree (.ref I) >>= _) _ _ { s with heap:=h1.push { cls:=.type "tuple",data:=.seq #[es[i].key,es[i].val] } }
 rw[z1]
 generalize h1.push { cls:=.type "tuple",data:=.seq #[es[i].key,es[i].val] }=h2 at g2 t2 k2
 unfold Builtin.Dict_items.ownedTupleIsFree
 refine yYX (yYX (wpAny_field g2 rfl (x:=.none) rfl (yYY ?_)))
 simp only[if_true]
 refine yYX (wpAny_field g2 rfl (x:=x) rfl (yYX (wpAny_field g2 rfl (x:=y) rfl (yYX (wpAny_setField_rec g2 (by simp) fun h3 g3 b3=>?_)))))
 have g3:IsItemIter h3 I d (i+1) es.size ep es[i].key y:=g3
 refine yYX (wpAny_setField_rec g3 (by simp) fun h4 g4 b4=>?_)
 have g4:IsItemIter h4 I d (i+1) es.size ep es[i].key es[i].val:=g4
 refine yYX (wpAny_setField_rec g4 (by simp) fun h5 g5 b5=>?_)
 have g5:IsItemIterOut h5 I d (i+1) es.size ep es[i].key es[i].val s.heap.objs.size:=g5
 refine yYX (wpAny_setField_rec g5 (by simp) fun h6 g6 b6=>?_)
 have k6:∀b o,b≠I->h2.get? b=some o->h6.get? b=some o:=fun b o hb e=>b6.extBut b o hb (b5.extBut b o hb (b4.extBut b o hb (b3.extBut b o hb e)))
 exact yYX (wpAny_letGo (yYY (yYY ⟨_,rfl,yYY (h h6 g6 (k6 _ _ (yZH lI) t2) fun b o hb e=>k6 b o hb (k2 b o hb e))⟩)))
theorem xJx {β:Type}{R:β->Shared->Prop}{Q:Option Value->Shared->Prop}(hh:A.handled=none)(h:∀h',(∀b o,s.heap.get? b=some o->h'.get? b=some o)->Q none { s with heap:=h' }):
  wpAny (model prog w) A.in1 (newExc (.type "StopIteration") [] >>= fun e=>(raiseNew e:Sem β)) R (fun e s'=>wpAny (model prog w) A (isInstance e (.type "StopIteration") >>= fun b=>if b=true then pure none else throw e) Q E s') s:=by
 simp only[newExc,newTuple,raiseNew]
 refine yYX (yYX (wpAny_newObj_type (yYX (m:=firstArgMember _ _) (wpAny_of_eq (a:=Value.none) (by first | rfl | (simp only[firstArgMember];rfl)) (wpAny_newObj_type (yYX (wpAny_handled ?_)) (by size_fits)))) (by size_fits)))
 rw[show A.in1.handled=none from hh]
 refine yYX (yYY (wpAny_throw ?_))
 exact yYX (wpAny_isInstance (T := "StopIteration") (b:=true) ⟨_,yZB _ rfl,rfl⟩ isSubtype_stop (yYY (h _ fun b o e=>yYZ _ (yYZ _ e))))
theorem stopI {i:Nat}{x y:Value}(hh:A.handled=none)(hit:IsItemIter s.heap I d i es.size ep x y)(D:At s.heap d o es ep)(hge:es.size<=i){Q:Option Value->Shared->Prop}
  (h:∀h',Heap.ExtBut I s.heap h'->Q none { s with heap:=h' }):wpAny (model prog w) A (pyNext (.ref I)) Q E s:=by
 have T:s.TypeIs (.ref I) "dict_itemiterator" := ⟨_,hit,rfl⟩
 unfold pyNext
 refine yYX (wpAny_attempt (wpAny_callSpecial?_slot (name:=Str.ofString "__next__") T F.slot_dict_itemiterator_next (wpAny_call_entry F.slot_dict_itemiterator_next T F.entry_dict_itemiterator_next ?_ (F.args_dict_itemiterator_next_1 _))))
 refine yYX (yYY (yYX (yYX (yYX ?_))))
 refine wpAny_typeNameOfWhole_itemiter T (yYY (yYX (wpAny_fieldsOf hit rfl ?_)))
 simp only[owns,if_true]
 show wpAny _ _ (if (Value.ref d == Value.none)=true then _ else _) _ _ s
 refine wpAny_ite_split (fun z=>absurd z yZL) fun _=>?_
 refine yYX (yYY (yYX (wpAny_dictEntries D.at' D.data ?_)))
 refine wpAny_ite_split (fun z=>absurd z (by simp)) fun _=>?_
 refine yYX (yYY (yYX (wpAny_dictEpoch D.at' D.data ?_)))
 refine wpAny_ite_split (fun z=>absurd z (by simp)) fun _=>?_
 refine yYY ?_
 simp only[show¬((i:Int)<0) from by omega,if_false,Int.toNat_natCast,Array.getElem?_eq_none hge]
 refine yYX (yYX (wpAny_typeNameOfWhole_itemiter T (yYY ?_)))
 show wpAny _ _ (setField (.ref I) 2 .none >>= _) _ _ s
 refine yYX (wpAny_setField hit rfl (by simp) ?_)
 exact xJx hh fun h' k=>h h' fun b o hb e=>k b o ((Heap.SameBut.update ..).extBut b o hb e)
end
end DT
namespace L2
open PySem PySem.Spec PyProof.Rows
section
variable {X:Cx}
def qBq:V->List V->Hp->VK->Prop:=fun x vs H Q=>∃(d:Addr) (kvs:List (List Key×V)),x=.ref d/\vs=[]/\Rd H d (.dT kvs)/\∀v,H v=none->Q (.ref v) (upd H v (ItemsV v d))
theorem qNq:MtM X "dict.items" qBq:=by
 intro zz s σ H x vs v us Q I rx rv h
 obtain⟨d,kvs,rfl,rfl,hH,q⟩:=h
 cases rx
 have hus:=rv.zero
 subst hus
 obtain⟨_,hs,xs,_,o,es,ep,e,c,dd,_,_⟩:=qCq I.hok hH
 refine wpAny_call_entry PySem.F.slot_dict_items ⟨o,e,c.1⟩ PySem.F.entry_dict_items (DT.items hs ⟨e,c,dd⟩ ⟨_,rfl,?_⟩) (PySem.F.args_dict_items_1 _)
 have hv:(s.heap.push { cls:=.type "dict_items",data:=.fields #[.ref d] }).IsItemsView s.heap.objs.size d:=⟨_,yZB _ rfl,rfl,rfl⟩
 refine⟨.ref s.heap.objs.size,_,I.laid (t':=s.toks) (o:=ItemsV s.heap.objs.size d) (fun b u e=>yYZ _ e) (yZD _) ⟨hv,⟨_,yZB _ rfl⟩,?_⟩,rfl,q _ (I.hok.fresh (yZD _))⟩
 rintro h1 h2 ⟨o,e,r⟩ k
 exact⟨o,k o e,r⟩
end
theorem qUq:entryFor table "dict_itemiterator.__iter__" = some Builtin.«dict_keyiterator.__iter__»:=entryFor_alias (id' := "dict_keyiterator.__iter__") (by kernel_rfl) rfl (by wtm_at"d") (by kernel_rfl)
def Itit (d:Addr)(o:Obj)(kvs:List (List Key×V)):It:=
 ⟨fun i H=>i<kvs.length/\H d=some (.frz o (.dT kvs)),fun i H x H'=>∃T k v a,x=.ref T/\H T=none/\H'=upd H T (.tup [.ref a,v])/\kvs[i]? = some (k,v)/\H a=some (.tup (k.map kV)),fun i H=>kvs.length<=i/\H d=some (.frz o (.dT kvs))⟩
theorem qAg {P:Program}{w:World}{K:yZP}{el:List Expr}{kk:Nat}{tp:Pos}(it d:Addr)(o:Obj)(kvs:List (List Key×V))(es:Array DictEntry)(ep:Nat)(hd:o.data=.dict es ep):
  Turn P w K (.Tuple el kk tp) (Itit d o kvs) [it] it (fun i h=>∃x y,IsItemIter h it d i es.size ep x y) where
 mem:=by simp
 obj:=fun i h st b hb=>by
  have e:b=it:=by simpa using hb
  subst e
  obtain⟨x,y,e⟩:=st
  exact⟨_,e,fun v z=>by cases z⟩
 keep:=fun i h h' ⟨x,y,st⟩ k=>⟨x,y,k it (by simp) _ st⟩
 item:=by
  intro X hP hw hK hc i zz s σ H E I hf st hg
  subst hP hw hK
  obtain⟨hi,hH⟩:=hg
  obtain⟨x,y,st⟩:=st
  obtain⟨f0,f1,f2,f3,f4,f5⟩:=hf it (by simp)
  obtain⟨D,sz,at_⟩:=qKa hd (I.hok d _ hH)
  obtain⟨⟨k,v⟩,ek⟩:∃q,kvs[i]? = some q:=⟨_,yYA hi⟩
  obtain⟨a,u,⟨hh,ee⟩,ha,ru⟩:=at_ i k v ek
  have hi2:i<es.size:=by omega
  rw[yZN,Array.getElem?_eq_getElem hi2] at ee
  have ee:=Option.some.inj ee
  have lit:it<s.heap.objs.size:=yZA st
  refine DT.nextI st D hi2 fun h' st' t' kp=>?_
  rw[ee] at st' t'
  refine⟨_,rfl,wpAny_letOwnedTupleGo_items (s:={ s with heap:=h' }) st' fun h2 st2 sb=>?_⟩
  have keep:∀c o,c≠it->s.heap.get? c=some o->h2.get? c=some o:=fun c o hcx q=>sb.extBut _ _ hcx (kp c o hcx q)
  have hT:=sb.extBut _ _ (yZH lit) t'
  have fresh:H s.heap.objs.size=none:=I.hok.fresh (yZD _)
  have nfp:∀b o,H b=some o->b≠it:=fun b o q z=>by rw[z,f0] at q;cases q
  have I1:Inv X zz σ (upd H s.heap.objs.size (.tup [.ref a,v])) { s with heap:=h2 }:=by
   refine I.step (h':=h2) (H':=upd H s.heap.objs.size (.tup [.ref a,v])) (g':=s.gens) (d':=s.drawn) (t':=s.toks) (ch:=[it]) (fun b hb=>?_) (fun b o _ _ hc' q _=>keep b o (by simpa using hc') q) (fun b o _ _ hc' q _=>⟨o.slots,keep b o (by simpa using hc') q⟩) (fun b o hc' q n=>?_)
    (fun b o hc' q=>⟨o,keep b o (by simpa using hc') q⟩) (fun b zs q=>?_) (fun b o q' q=>?_) (fun b ps q=>⟨#[],?_⟩) (fun m hm=>?_) (fun b ob q=>?_) I.bare
   .have e:b=it:=by simpa using hb
    subst e
    exact⟨f3,f1,f4,f5⟩
   .rw[qA (yZF (yZA q))];exact n
   .rw[qA (qB q fresh)];exact q
   .rw[qA (qB q fresh)];exact q
   .rw[qA (qB q fresh),q];simp
   .obtain⟨o,es',ep,ho,r⟩:=hm
    exact⟨o,es',ep,keep _ o (Ne.symm f1) ho,r⟩
   .by_cases hb:b=s.heap.objs.size
    .subst hb
     rw[qW] at q
     cases q
     exact⟨by show 2<=sizeLine;decide,[.ref a,u],.cons rfl (.cons ru .nil),⟨_,hT,rfl,0,rfl,rfl⟩⟩
    .rw[qA hb] at q
     refine(I.hok b ob q).stay (fun c o hc' q'=>keep c o ?_ q') (fun c q'=>by rw[qA (qB q' fresh)];exact q') fun c zs q'=>by rw[qA (qB q' fresh)];exact q'
     rcases hc' with rfl | hc'
     .exact nfp _ _ q
     .exact nfp _ _ hc'
  refine⟨.ref s.heap.objs.size,_,I1,rfl,⟨_,k,v,a,rfl,fresh,rfl,ek,ha⟩,⟨_,_,st2⟩,fun b hb=>?_⟩
  have e:b=it:=by simpa using hb
  subst e
  rw[qA (yZF lit)];exact f0
 done:=by
  intro X hP hw hK hc i zz s σ H E I hf st hg
  subst hP hw hK
  obtain⟨hi,hH⟩:=hg
  obtain⟨x,y,st⟩:=st
  obtain⟨f0,f1,f2,f3,f4,f5⟩:=hf it (by simp)
  obtain⟨D,sz,_⟩:=qKa hd (I.hok d _ hH)
  exact DT.stopI (I.ok.hd hc) st D (by omega) fun h' eb=>⟨rfl,I.turned (t':=s.toks) (fun b o hb e=>eb b o hb e) f0 f1 f3 f4 f5⟩
 self:=fun _ _ _ _ _ st h=>by
  obtain⟨x,y,st⟩:=st
  exact wpAny_pyIter_slot ⟨_,st,rfl⟩ F.slot_dict_itemiterator_iter (wpAny_call_entry F.slot_dict_itemiterator_iter ⟨_,st,rfl⟩ qUq (yYY ⟨_,rfl,"dict_itemiterator",_,⟨_,st,rfl⟩,F.slot_dict_itemiterator_next.lookup,h⟩) (F.args_dict_itemiterator_iter_1 _))
section
variable {X:Cx}{el:List Expr}{kk:Nat}{tp:Pos}
def qNi (tl:TE):TI:=fun σ H R=>tl σ H fun x H1=>∃v d kvs,x=.ref v/\H1 v=some (ItemsV v d)/\((H1 d=some (.dT kvs)/\∀o,R (Itit d o kvs) (upd H1 d (.frz o (.dT kvs))))\/∃o,H1 d=some (.frz o (.dT kvs))/\R (Itit d o kvs) H1)
theorem qMw {l:Expr}{tl:TE}(hl:PE X l tl):PI X (.Tuple el kk tp) l (qNi tl):=by
 intro zz s σ H R I h
 refine thn (hl zz s σ H _ I h) fun v s1 ⟨x,H1,I1,r1,q1⟩=>?_
 obtain⟨vw,d,kvs,e,hv,q⟩:=q1
 subst e
 cases r1
 obtain⟨iv,_⟩:=I1.hok vw _ hv
 obtain⟨o,H2,es,ep,dd,hs,D,I2,hH,q⟩:=frozen I1 q
 refine DT.iterI iv D fun h' hi kp=>?_
 refine⟨s1.heap.objs.size,[s1.heap.objs.size],_,_,H2,rfl,I2.kept (t':=s1.toks) kp,qAg _ d o kvs es ep dd,⟨_,_,hi⟩,fun b hb=>?_,q⟩
 have e:b=s1.heap.objs.size:=by simpa using hb
 subst e
 exact I2.fpOk (yZD _) (I2.hok.fresh (yZD _))
end
section
variable {k:Nat}{js:List Nat}{g:TG}{tt:TT}{te:TE}{σ:St}{H1:Hp}{Q:VK}
theorem qCw {d:Addr}{o:Obj}{kvs:List (List Key×V)}(Pv:Addr->Nat->List V->Hp->Prop)(h0:∀D,H1 D=none->Pv D 0 [] (upd H1 D (.lst [])))
  (hl:∀D i ys H,i<=kvs.length->Pv D i ys H->H d=some (.frz o (.dT kvs)))
  (hs:∀D i q v a T ys H (N:List V->Hp->Prop),H1 D=none->H D=some (.lst ys)->kvs[i]? = some (q,v)->H a=some (.tup (q.map kV))->H T=none->Pv D i ys H->(∀zs H',H' D=some (.lst zs)->Pv D (i+1) zs H'->N zs H')->turnC k js g tt te σ D (.ref T) ys (upd H T (.tup [.ref a,v])) N)
  (hd:∀D ys H,H1 D=none->H D=some (.lst ys)->Pv D kvs.length ys H->Q (.ref D) H):rdC k js g tt te (Itit d o kvs) σ H1 Q:=by
 intro D hD
 refine⟨fun i m ys H=>m=kvs.length - i/\i<=kvs.length/\H D=some (.lst ys)/\Pv D i ys H,⟨kvs.length,by simp,yZG _,qW,h0 D hD⟩,?_⟩
 rintro i m ys H ⟨rfl,hi,hDy,p⟩
 refine⟨hDy,?_⟩
 have z:=hl D i ys H hi p
 by_cases hlt:i<kvs.length
 .refine .inr ⟨⟨hlt,z⟩,fun x H' y=>?_⟩
  obtain⟨T,q,v,a,rfl,nT,rfl,ec,ha⟩:=y
  exact hs D i q v a T ys _ (fun zs H'=>∃m',m'<kvs.length - i/\m'=kvs.length - (i+1)/\i+1<=kvs.length/\H' D=some (.lst zs)/\Pv D (i+1) zs H') hD hDy ec ha nT p fun zs H' e p'=>⟨kvs.length - (i+1),by omega,rfl,hlt,e,p'⟩
 .have e:i=kvs.length:=by omega
  subst e
  exact .inl ⟨⟨yZD _,z⟩,hd D ys H hD hDy p⟩
end
end L2
namespace PySem
open PyProof.Rows
section
variable {prog:Program}{w:World}{K:Type}[DecidableEq K]{knd:HeapKind prog w K}{A:Around}
def zU (xs ks:List (K×Addr×Value)):List (K×Addr×Value):=ks.foldl (fun acc p=>storedH acc p.1 p.2.1 p.2.2) xs
theorem qAl (xs:List (K×Addr×Value))(k:K)(a:Addr)(v:Value):(storedH xs k a v).length<=xs.length+1:=by
 unfold storedH
 split
 .rw[yYC];exact Nat.le_succ _
 .rw[yYI];exact yZD _
theorem qZq:∀(ks xs:List (K×Addr×Value)),(zU xs ks).length<=xs.length+ks.length
 | [],xs=>yZD _
 | p::ks,xs=>by
  have h1:=qZq ks (storedH xs p.1 p.2.1 p.2.2)
  have h2:=qAl xs p.1 p.2.1 p.2.2
  show(zU (storedH xs p.1 p.2.1 p.2.2) ks).length<=_
  rw[yYT];omega
theorem qWa {ks:List (K×Addr×Value)}{i:Nat}{p:K×Addr×Value}(e:ks[i]? = some p):zU [] (ks.take (i+1))=storedH (zU [] (ks.take i)) p.1 p.2.1 p.2.2:=by
 unfold zU
 rw[yYM,e,List.foldl_append];rfl
def Stays (knd:HeapKind prog w K):Prop:=∀(h h':Heap) (k:K) (a:Addr),knd.is h k a->(∀o,h.get? a=some o->h'.get? a=some o)->knd.is h' k a
theorem qQd (hs:Stays knd){h h':Heap}{d:Addr}{xs:List (K×Addr×Value)}(D:h.DictOfH knd d xs)(kd:∀o,h.get? d=some o->h'.get? d=some o)(kk:∀x∈xs,∀o,h.get? x.2.1=some o->h'.get? x.2.1=some o):h'.DictOfH knd d xs:=by
 obtain⟨o,es,ep,ho,hc,hd,he,hi,hn⟩:=D
 exact⟨o,es,ep,kd _ ho,hc,hd,he,fun x hx=>hs _ _ _ _ (hi x hx) (kk x hx),hn⟩
theorem qBd {ks:List (K×Addr×Value)}:∀{xs:List (K×Addr×Value)},(∀x∈zU xs ks,(∃y∈xs,y.2.1=x.2.1)\/∃y∈ks,y.2.1=x.2.1):=by
 induction ks with
 | nil=>intro xs x hx;exact .inl ⟨x,hx,rfl⟩
 | cons p ks ih=>
  intro xs x hx
  rcases ih x hx with⟨y,hy,e⟩ | ⟨y,hy,e⟩
  .have hy:y∈storedH xs p.1 p.2.1 p.2.2:=hy
   unfold storedH at hy
   split at hy
   .obtain⟨z,hz,rfl⟩:=yYP.mp hy
    refine .inl ⟨z,hz,?_⟩
    rw[<- e]
    unfold putAt
    split <;> rfl
   .rcases yYS.mp hy with h | h
    .exact .inl ⟨y,h,e⟩
    .rw[yYL.mp h] at e
     exact .inr ⟨p,yYG,e⟩
  .exact .inr ⟨y,yYH _ hy,e⟩
theorem qHh {d it:Addr}{fp:List Addr}{ks:List (K×Addr×Value)}{St:Nat->Heap->Prop}{s₀:Shared}(P:PairIt prog w A.in1 d it fp (ks.map fun x=>(.ref x.2.1,x.2.2)) St)(hs:Stays knd)(hu:knd.room A.in1)(hk:∀x∈ks,knd.is s₀.heap x.1 x.2.1/\x.2.1∉fp/\x.2.1≠d/\∃o,s₀.heap.get? x.2.1=some o)(hd:d∉fp)(hz:ks.length<=1000){R:Result->Shared->Prop}
  (hR:∀h' tk,(∀b o,b∉fp->b≠d->s₀.heap.get? b=some o->h'.get? b=some o)->h'.DictOfH knd d (zU [] ks)->R (.ok (.ret .none)) { s₀ with heap:=h',toks:=tk }):
  ∀(m i:Nat) (h:Heap) (tk:Nat),ks.length - i=m->i<=ks.length->St i h->h.DictOfH knd d (zU [] (ks.take i))->(∀b o,b∉fp->b≠d->s₀.heap.get? b=some o->h.get? b=some o)->
   codeAny (model prog w) A (.builtin "dict.update.loop" ⟨[.ref d,.ref it,rawInt i,.none],[]⟩) R { s₀ with heap:=h,toks:=tk }:=by
 have mem:∀(i:Nat),∀x∈zU [] (ks.take i),∃y∈ks,y.2.1=x.2.1:=fun i x hx=>by
  rcases qBd x hx with⟨y,hy,_⟩ | ⟨y,hy,e⟩
  .cases hy
  .exact⟨y,List.mem_of_mem_take hy,e⟩
 have kept:∀(i:Nat) (h h':Heap),h.DictOfH knd d (zU [] (ks.take i))->(∀b o,b∉fp->h.get? b=some o->h'.get? b=some o)->h'.DictOfH knd d (zU [] (ks.take i)):=fun i h h' D kp=>
  qQd hs D (fun o e=>kp d o hd e) fun x hx o e=>by
   obtain⟨y,hy,ey⟩:=mem i x hx
   exact kp _ _ (by rw[<- ey];exact(hk y hy).2.1) e
 intro m
 induction m with
 | zero=>
  intro i h tk hm hi st hD keep
  have e:i=ks.length:=by omega
  subst e
  refine codeAny_builtin FD.entry_upd_loop ?_
  rw[Around.under_plainId FD.plain_upd_loop _]
  refine yYX (m:=pyNext (.ref it)) (P.done { s₀ with heap:=h,toks:=tk } _ _ (by rw[yYC];exact st) fun h' tk' kp=>?_)
  have hD:=kept _ h h' hD kp
  rw[yYJ] at hD
  refine yYX (m:=Builtin.Dict.addKeywords d []) (yYY (yYY ?_))
  exact hR h' tk' (fun b o b1 b2 e=>kp b o b1 (keep b o b1 b2 e)) hD
 | succ m ih=>
  intro i h tk hm hi st hD keep
  have hlt:i<ks.length:=by omega
  obtain⟨p,ep⟩:∃p,ks[i]? = some p:=⟨_,yYA hlt⟩
  obtain⟨h1,h2,h3,o1,h4⟩:=hk p (yYE ep)
  refine codeAny_builtin FD.entry_upd_loop ?_
  rw[Around.under_plainId FD.plain_upd_loop _]
  refine yYX (m:=pyNext (.ref it)) (P.item i { s₀ with heap:=h,toks:=tk } _ _ (.ref p.2.1) p.2.2 (by rw[yYO,ep];rfl) st fun T h' tk' n st' hT kp=>?_)
  obtain⟨oT,hT,hTc,hTd⟩:=hT
  have hTy:Shared.TypeIs { s₀ with heap:=h',toks:=tk' } (.ref T) "tuple" := ⟨_,hT,hTc⟩
  have hD':=kept _ h h' hD kp
  have hkey:knd.is h' p.1 p.2.1:=hs _ _ _ _ h1 fun o e=>kp _ _ h2 (keep _ _ h2 h3 e)
  refine yYX (wpAny_holding ?_)
  refine yYX (wpAny_tryCatch ?_)
  unfold Builtin.Dict.pairItems
  refine yYX (wpAny_typeOf hTy ?_)
  rw[if_pos (by decide)]
  refine yYX (wpAny_seqItems hT hTd (yYY ?_))
  refine wpAny_holding (wpAny_dictSet_heap (s:={ s₀ with heap:=h',toks:=tk' }) hu hkey hD' (fun h'' hD'' sb=>?_) ?_)
  .refine yYY ⟨plainId_quiet FD.plain_upd_loop _,?_⟩
   exact ih (i+1) h'' _ (by omega) hlt (P.frame _ _ _ st' sb (by obtain⟨o,_,_,ho,_⟩:=hD'';exact⟨o,ho⟩)) (by rw[qWa ep];exact hD'') fun b o b1 b2 e=>(sb.2 b b2).trans (kp b o b1 (keep b o b1 b2 e))
  .have:=qZq (ks.take i) ([]:List (K×Addr×Value))
   rw[yYF,yYU] at this
   have e:sizeLine=16777216:=by decide
   omega
theorem qZf {E:Value->Shared->Prop}{s:Shared}{l:Addr}{xs:Array Value}{n:Nat}{ks:List (K×Addr×Value)}{Q:Value->Shared->Prop}(hs:Stays knd)(hu:knd.room A.in1.in1)(hh:A.handled=none)(hl:s.heap.get? l=some { cls:=.type "list",data:=.seq xs n })
  (hp:∀(i:Nat) p,ks[i]? = some p->∃T o m,xs[i]? = some (.ref T)/\s.heap.get? T=some o/\o.cls=.type "tuple" /\ o.data=.seq #[.ref p.2.1,p.2.2] m) (hlen:ks.length=xs.size) (hk:∀x∈ks,knd.is s.heap x.1 x.2.1/\∃o,s.heap.get? x.2.1=some o) (hz:ks.length<=1000)
  (hQ:∀p h' tk,s.heap.objs.size<=p->(∀b o,s.heap.get? b=some o->h'.get? b=some o)->h'.DictOfH knd p (zU [] ks)->Q (.ref p) { s with heap:=h',toks:=tk }):
  wpAny (model prog w) A (call (.type "dict") [.ref l]) Q E s:=by
 refine kB (T := "list") ⟨_,hl,rfl⟩ (by decide) fun E'=>?_
 have kd:∀b o,s.heap.get? b=some o->(s.heap.push { cls:=.type "dict",data:=.dict #[] }).get? b=some o:=fun b o e=>yYZ _ e
 refine vE (kd _ _ hl) hh fun h2 tk2 kp2=>⟨rfl,?_⟩
 have kl:∀b o,s.heap.get? b=some o->h2.get? b=some o:=fun b o e=>kp2 _ _ (kd _ _ e)
 have L2:h2.IsList l xs:=⟨_,kl _ _ hl,rfl,n,rfl⟩
 refine wpAny_pyIter_list (s:={ s with heap:=h2,toks:=tk2 }) L2 ?_
 have k3:∀b o,h2.get? b=some o->(h2.push { cls:=.type "list_iterator",data:=.fields #[.ref l,.int 0 0] }).get? b=some o:=fun b o e=>yYZ _ e
 have dlt:s.heap.objs.size<h2.objs.size:=yZA (kp2 _ _ (yZB _ rfl))
 have P:PairIt prog w A.in1.in1 s.heap.objs.size h2.objs.size [h2.objs.size] (ks.map fun x=>(.ref x.2.1,x.2.2)) (fun i h=>h.IsListIter h2.objs.size l i/\∀b o,s.heap.get? b=some o->h.get? b=some o):=
  {frame:=fun i h h' ⟨S,kp⟩ sb _=>⟨S.at fun o e=>(sb.2 _ (yZH dlt)).trans e,fun b o e=>(sb.2 b (yZF (yZA e))).trans (kp b o e)⟩
   item:=fun i s' Q E k v e ⟨S,kp⟩ hQ=>by
    rw[yYO] at e
    obtain⟨p,ep,ekv⟩:=Option.map_eq_some_iff.mp e
    cases ekv
    obtain⟨T,o,m,ex,ho,hc,hd⟩:=hp i p ep
    refine wpAny_pyNext_list_item S ⟨_,kp _ _ hl,rfl,n,rfl⟩ ex fun h' S' sb=>?_
    have nb:∀b o,s.heap.get? b=some o->b≠h2.objs.size:=fun b o e=>yZF (Nat.lt_trans (yZA e) dlt)
    exact hQ T h' s'.toks m ⟨S',fun b o e=>(sb.2 b (nb b o e)).trans (kp b o e)⟩ ⟨o,(sb.2 T (nb T o ho)).trans (kp _ _ ho),hc,hd⟩ fun b o hb e=>(sb.2 b (fun z=>hb (by simp[z]))).trans e
   done:=fun s' Q E ⟨S,kp⟩ hQ=>by
    rw[yYC] at S
    refine wpAny_pyNext_list_end (A:=A.in1.in1) hh S ⟨_,kp _ _ hl,rfl,n,rfl⟩ (by rw[hlen];simp) fun h' eb=>?_
    exact hQ h' s'.toks fun b o hb e=>eb b o (fun z=>hb (by simp[z])) e }
 have hd0:(h2.push { cls:=.type "list_iterator",data:=.fields #[.ref l,.int 0 0] }).DictOfH knd s.heap.objs.size (zU [] (ks.take 0)):=
  qQd hs (Heap.DictOfH.new (knd:=knd) s.heap) (fun o e=>k3 _ _ (kp2 _ _ e)) fun x hx=>nomatch hx
 refine qHh (A:=A.in1) (s₀:={ s with heap:=h2.push { cls:=.type "list_iterator",data:=.fields #[.ref l,.int 0 0] },toks:=tk2 }) P hs hu (fun x hx=>?_) (by simp;exact yZF dlt) hz (fun h' tk kp hD=>⟨rfl,?_⟩) ks.length 0 _ tk2 (by simp) (yZG _) ⟨⟨_,yZB _ rfl,rfl,rfl⟩,fun b o e=>k3 _ _ (kl _ _ e)⟩ hd0 (fun _ _ _ _ e=>e)
 .obtain⟨a1,o,a2⟩:=hk x hx
  have lt:=yZA a2
  exact⟨hs _ _ _ _ a1 fun o e=>k3 _ _ (kl _ _ e),by simp only[yYL];exact yZF (Nat.lt_trans lt dlt),yZF lt,o,k3 _ _ (kl _ _ a2)⟩
 .refine hQ _ h' tk (yZD _) (fun b o e=>kp b o ?_ (yZF (yZA e)) (k3 _ _ (kl b o e))) hD
  simp only[yYL]
  exact yZF (Nat.lt_trans (yZA e) dlt)
end
end PySem
namespace L2
open PySem PySem.Spec PyProof.Rows
section
variable {X:Cx}{zz:List (Addr×Obj)}{σ:St}{H:Hp}{s:Shared}
def PairT (H:Hp)(kv:List Key×V)(u:V):Prop:=∃a b,u=.ref a/\H a=some (.tup [.ref b,kv.2])/\H b=some (.tup (kv.1.map kV))
theorem qIx {prog:Program}{w:World}:Stays (tupleKind (xR prog w)):=fun h h' k a ⟨o,items,n,ho,hc,hd,hi⟩ kp=>⟨o,items,n,kp o ho,hc,hd,hi⟩
theorem qVo (I:Inv X zz σ H s){kvs:List (List Key×V)}{us:List V}(hp:Paired (PairT H) kvs us):∀{its:List Value},Vals us its->∃ks:List (List Key×Addr×Value),
  (∀(i:Nat) p,ks[i]? = some p->∃T o m,its[i]? = some (.ref T)/\s.heap.get? T=some o/\o.cls=.type "tuple" /\ o.data=.seq #[.ref p.2.1,p.2.2] m)/\ks.length=its.length/\KT H kvs ks:=by
 induction hp with
 | nil=>intro its hv;cases hv;exact⟨[],fun i p e=>by simp at e,rfl,.nil⟩
 | @cons kv _ _ _ f t ih=>
  intro its hv
  cases hv with
  | cons r t2=>
  obtain⟨ks,h1,h2,h3⟩:=ih t2
  obtain⟨a,b,rfl,ha,hb⟩:=f
  cases r
  obtain⟨z,its,rv,o,ho,hc,m,hd,_⟩:=I.hok a _ ha
  obtain⟨u,v,rfl,ru,rv'⟩:=vals2 rv
  cases ru
  refine⟨(kv.1,b,v)::ks,fun i p e=>?_,by simp[h2],.cons ⟨rfl,hb,rv'⟩ h3⟩
  cases i with
  | zero=>cases e;exact⟨a,o,m,rfl,ho,hc,hd⟩
  | succ i=>exact h1 i p e
def mergeT (kvs more:List (List Key×V)):List (List Key×V):=more.foldl (fun acc kv=>putK acc kv.1 kv.2) kvs
theorem qJe:∀(more kvs:List (List Key×V)),(mergeT kvs more).length<=kvs.length+more.length
 | [],kvs=>yZD _
 | p::r,kvs=>by
  have h1:=qJe r (putK kvs p.1 p.2)
  have h2:=kY kvs p.1 p.2
  show(mergeT (putK kvs p.1 p.2) r).length<=_
  rw[yYT];omega
theorem KT.merge {kvs:List (List Key×V)}{ks:List (List Key×Addr×Value)}(r:KT H kvs ks):∀{acc:List (List Key×V)} {as:List (List Key×Addr×Value)},KT H acc as->KT H (mergeT acc kvs) (zU as ks):=by
 induction r with
 | nil=>intro acc as h;exact h
 | @cons p q ps qs h t ih=>
  intro acc as ha
  have z:=KT.put ha p.1 h.2.1 h.2.2
  rw[show storedH as p.1 q.2.1 q.2.2=storedH as q.1 q.2.1 q.2.2 by rw[h.1]] at z
  exact ih z
def xZx:List V->Hp->VK->Prop:=fun vs H Q=>∃l us kvs,vs=[.ref l]/\H l=some (.lst us)/\Paired (PairT H) kvs us/\kvs.length<=1000/\∀p,H p=none->Q (.ref p) (upd H p (.dT (mergeT [] kvs)))
theorem xJw {kvs:List (List Key×V)}{ks:List (List Key×Addr×Value)}(r:KT H kvs ks):∀x∈ks,H x.2.1=some (.tup (x.1.map kV)):=by
 induction r with
 | nil=>intro x hx;cases hx
 | @cons p q _ _ h t ih=>
  intro x hx
  rcases yYK.mp hx with rfl | hx
  .rw[<- h.1];exact h.2.1
  .exact ih x hx
theorem qZo (hu:X.A.units+64<cLine)(hc:X.calm=true):CallR X (.type "dict") xZx:=by
 intro zz s σ H vs us Q I r h
 obtain⟨l,xs,kvs,rfl,hl,hp,h1000,q⟩:=h
 obtain⟨u,rfl,ru⟩:=vals1 r
 cases ru
 obtain⟨z,its,n,rv,hlen,e⟩:=I.lstM hl
 obtain⟨ks,k1,k2,k3⟩:=qVo I hp rv
 have lk:=Paired.length k3
 refine qZf (knd:=tupleKind (xR X.prog X.w)) (ks:=ks) qIx (by show X.A.units+1+1<cLine;omega) (I.ok.hd hc) e (fun i p ep=>?_) (by simp[k2]) (fun x hx=>?_) (by omega) fun p h' tk hp' keep hD=>?_
 .obtain⟨T,o,m,a1,a2⟩:=k1 i p ep
  exact⟨T,o,m,by simpa using a1,a2⟩
 .have hk:=qJh I.hok (xJw k3 x hx)
  obtain⟨o,_,_,ho,_⟩:=id hk
  exact⟨hk,o,ho⟩
 .have fresh:=I.hok.fresh hp'
  obtain⟨o,es,ep,h1,h2,h3,h4,_,h6⟩:=hD
  refine⟨.ref p,upd H p (.dT (mergeT [] kvs)),I.laid (o:=.dT (mergeT [] kvs)) keep hp' ⟨?_,?_,zU [] ks,(KT.merge k3 .nil).keeps (fun b ys e=>by rw[qA (qB e fresh)];exact e),o,es,ep,h1,h2,h3,h4,h6⟩,rfl,q p fresh⟩
  .have l1:=qJe kvs []
   have e:sizeLine=16777216:=by decide
   rw[yYU] at l1
   omega
  .have:=I.big
   exact beq_eq_false_iff_ne.mpr (yZH (yZE this hp'))
def qIq (to:TE):TE:=fun σ H Q=>to σ H fun x H1=>qBq x [] H1 Q
theorem qMc {o:Expr}{to:TE}{apos cpos:Pos}(ho:PE X o to)(hbase:attributeBase o "items" X.env (eval o X.env)=eval o X.env:=by rfl)(hline:(apos.endLine == cpos.line)=true:=by rfl):
  PE X (.Call (.Attribute o "items" apos) [] [] cpos) (qIq to):=by
 intro zz s σ H Q I h
 refine wpAny_Call_method0_late hbase hline (thn (ho zz s σ H _ I h) fun v s1 ⟨x,H1,I1,r1,q1⟩=>?_)
 obtain⟨d,kvs,rfl,e0,hH,q⟩:=id q1
 cases r1
 obtain⟨_,_,_,_,o,_,_,e,c,_⟩:=qCq I1.hok hH
 refine⟨"dict","dict.items",PySem.F.plainAttrs_dict,PySem.F.slot_dict_items,PySem.F.type_dict_items,⟨o,e,c.1⟩,fun a ea=>?_,Calls.callWith_builtin rfl (PySem.evalArgs_none (qNq zz s1 σ H1 (.ref d) [] (.ref d) [] Q I1 rfl .nil q1))⟩
 cases ea
 exact⟨o,e,c.2.1⟩
end
end L2
namespace L2
open PySem PySem.Spec PyProof.Rows
def insAt {α:Type}(xs:List α)(k:Nat)(y:α):List α:=xs.take k++y::xs.drop k
theorem qWg {α:Type}(xs:List α)(k:Nat)(y:α):(insAt xs k y).length=xs.length+1:=by
 unfold insAt
 rw[yYI,yYT,yYF,List.length_drop]
 omega
def xXo:V->List V->Hp->VK->Prop:=fun x vs H Q=>∃l xs k y,x=.ref l/\vs=[.int k,y]/\H l=some (.lst xs)/\0<=k/\k<=xs.length/\xs.length<1000000/\Q .non (upd H l (.lst (insAt xs k.toNat y)))
theorem qHk {xs:List V}{its:List Value}{y:V}{u:Value}(r:Vals xs its)(k:Nat)(ru:RelV y u):Vals (insAt xs k y) (insAt its k u):=by
 unfold insAt
 induction r generalizing k with
 | nil=>rw[List.take_nil,List.take_nil,List.drop_nil,List.drop_nil];exact .cons ru .nil
 | cons h t ih=>
  cases k with
  | zero=>exact .cons ru (.cons h t)
  | succ k=>exact .cons h (ih k)
variable {X:Cx}
theorem qNx:MtM X "list.insert" xXo:=by
 intro zz s σ H x vs v us Q I rx rv h
 obtain⟨l,xs,k,y,rfl,rfl,hH,h0,h1,hz,q⟩:=h
 cases rx
 obtain⟨u1,u2,rfl,ru1,ru2⟩:=vals2 rv
 obtain⟨t,rfl⟩:=ru1
 obtain⟨z,its,n,r,hl,e⟩:=I.lstM hH
 have sl:sizeLine=16777216:=by decide
 refine call_meets PySem.F.slot_list_insert ⟨_,e,rfl⟩ PySem.F.entry_list_insert (PySem.F.args_list_insert_3 _ _ _)
  (PySem.AutoSeq1.list_insert_list_int_val_1 l its.toArray n k t u2 (by rw[fitsIndex_both (by omega) (by omega)];decide) (by rw[yYD];omega)) ⟨e,?_⟩
 refine⟨.non,_,I.lset (its':=insAt its k.toNat u2) hH e ?_ (qHk r k.toNat ru2) ?_,rfl,q⟩
 .show((its.toArray.extract 0 (if k<0 then _ else min k.toNat its.toArray.size)).push u2++its.toArray.extract (if k<0 then _ else min k.toNat its.toArray.size))=(insAt its k.toNat u2).toArray
  rw[if_neg (by omega),yYD,Nat.min_eq_left (by omega)]
  unfold insAt
  simp
  exact List.take_of_length_le (by rw[List.length_drop];exact yZD _)
 .rw[qWg]
  omega
end L2
namespace L2
open PySem PySem.Spec PyProof.Rows
section
variable {prog:Program}{w:World}{A:Around}{E:Value->Shared->Prop}
theorem qWl {it l:Addr}{items:Array Value}(hne:l≠it):∀(n i:Nat) (s:Shared) (Q:List Value->Shared->Prop),s.heap.IsListIter it l i->s.heap.IsList l items->i+n<=items.size->
  (∀h',h'.IsListIter it l (i+n)->Heap.SameBut it s.heap h'->Q ((items.toList.drop i).take n) { s with heap:=h' })->wpAny (model prog w) A (draw (.ref it) n) Q E s
 | 0,i,s,Q,hit,_,_,hQ=>by
  show wpAny _ _ (pure []) Q E s
  exact yYY (by simpa using hQ s.heap hit (Heap.SameBut.refl ..))
 | n+1,i,s,Q,hit,hl,hle,hQ=>by
  have lt:i<items.size:=by omega
  show wpAny _ _ (pyNext (.ref it) >>= _) Q E s
  refine yYX (wpAny_pyNext_list_item hit hl (x:=items[i]) (by simp[lt]) fun h1 hit1 s1=>?_)
  refine yYX (wpAny_holding (qWl hne n (i+1) _ _ hit1 (items:=items) (let ⟨o,ho,r⟩:=hl;⟨o,(s1.2 l hne).trans ho,r⟩) (by omega) fun h2 hit2 s2=>yYY ?_))
  have hd:items.toList.drop i=items[i]::items.toList.drop (i+1):=by simp[List.drop_eq_getElem_cons,lt]
  have:=hQ h2 (by rw[show i+(n+1)=i+1+n by omega];exact hit2) (s1.trans s2)
  rw[hd,List.take_succ_cons] at this
  exact this
theorem qAf {s:Shared}{l:Addr}{items:Array Value}{Q:List Value->Shared->Prop}(hh:A.handled=none)(hl:s.heap.IsList l items)
  (hQ:∀h',Heap.ExtBut s.heap.objs.size s.heap h'->Q items.toList { s with heap:=h' }):wpAny (model prog w) A (unpackItems (.ref l) items.size none) Q E s:=by
 have hlt:l≠s.heap.objs.size:=by obtain⟨o,ho,_⟩:=hl;exact yZF (yZA ho)
 unfold unpackItems
 refine yYX ?_
 .unfold notIterableAtAll
  refine yYX (wpAny_specialOf hl.typeIs slot_list_iter.lookup ?_)
  refine yYY ?_
  simp only[yZK,if_false]
  refine yYX (wpAny_holding (wpAny_pyIter_list hl ?_))
  refine yYX (wpAny_holding (qWl hlt items.size 0 _ _ ⟨_,yZB _ rfl,rfl,rfl⟩ (hl.push _) (by omega) fun h1 hit1 s1=>?_))
  have all:List.take items.size (List.drop 0 items.toList)=items.toList:=by
   rw[List.drop_zero];exact List.take_of_length_le (by simp)
  rw[all]
  rw[if_neg (by simp)]
  have hl1:h1.IsList l items:=let ⟨o,ho,r⟩:=hl.push { cls:=.type "list_iterator",data:=.fields #[.ref l,.int 0 0] };⟨o,(s1.2 l hlt).trans ho,r⟩
  refine yYX (wpAny_holding (wpAny_pyNext_list_end hh hit1 hl1 (by simp) fun h2 e2=>?_))
  simp only[Option.isSome_none,yZK,if_false]
  exact yYY (hQ h2 fun b o hb e=>e2 b o hb (s1.extBut b o hb (yYZ _ e)))
end
def gLst (K:yZP)(n:Nat)(t:TGs):TG:=fun v σ H Q=>∃a xs,v=.ref a/\SqL K H a xs/\xs.length=n/\t xs σ H Q
section
variable {X:Cx}{K:yZP}{pos:Pos}
theorem xZc {es:List Expr}{k:Nat}{t:TGs}{n:Nat}(hc:X.calm=true)(h:PGs X es t)
  (hn:(assignEach es X.env).length=n:=by rfl) (hst:(assignEach es X.env).findIdx? (·.1)=none:=by rfl) (hK:X.K=K:=by rfl):PG X (.Tuple es k pos) (gLst K n t):=by
 subst hK
 intro zz s σ H v u Q I r hw
 obtain⟨a,xs,e1,hq,hl,hw⟩:=hw
 subst e1
 cases r
 obtain⟨its,rv,ht,hz⟩:=I.list hq
 have len:=rv.length
 rw[assign_Tuple]
 refine yYX (wpAny_standAt ?_)
 unfold unpack
 rw[hst,show(assignEach es X.env).length=its.toArray.size by simp[hn,<- hl,len]]
 refine yYX (wpAny_holding (qAf (I.ok.hd hc) ht.isList fun h' hx=>?_))
 have I1:Inv X zz σ H { s with heap:=h' }:=I.kept (t':=s.toks) fun b o e=>hx b o (yZF (yZA e)) e
 exact h zz _ σ H xs _ Q I1 (by simpa using rv) hw
end
end L2
namespace L2
open PySem PySem.Spec PyProof.Rows
section
variable {X:Cx}{K:yZP}
def tBI (t:TE):TT:=fun σ H Q=>t σ H fun x H1=>∃i:Int,x=.int i/\Q (i != 0) H1
theorem xQv {e:Expr}{t:TE}(h:PE X e t)(he:∀whole,isTrue e X.env whole=(do let v <- whole;standAt e.pos;holding [v] (truthy v)):=by intro _;rfl):PT X e (tBI t):=by
 intro zz s σ H Q I hw
 refine isTrue_plain (thn (h zz s σ H _ I hw) fun v s1 ⟨x,H1,I1,r1,q1⟩=>?_) (he _)
 obtain⟨d,rfl,q⟩:=q1
 obtain⟨tk,rfl⟩:=r1
 refine P.truthy_int ?_
 exact⟨H1,I1,q⟩
end
end L2
namespace L2
open PySem PySem.Spec PyProof.Rows
structure Dm (P:Program)(w:World)(K:yZP)(mg:Str->Option Value)(base:Heap)(C:Addr)(m:Str)(k:Nat)(ps:List Str)(sp:Sp):Prop where
 ex:∃f fd,FnOk P w K mg base CX0 k f fd ps sp/\Meth K C m f/\Binds K fd ps []
structure Dk (P:Program)(w:World)(K:yZP)(mg:Str->Option Value)(base:Heap)(x:Str)(C:Addr)(k:Nat)(ps:List Str)(sp:Sp):Prop where
 ex:∃f fd,FnOk P w K mg base CX0 k f fd ps sp/\Mk K C f/\mg x=some (.ref C)/\Binds K fd ps []
structure Md (K:yZP)(C:Addr)(m q:Str)(st:Stmt)(ps:List Str):Prop where
 ex:∃f fd,Fun K m q st f fd/\Meth K C m f/\Binds K fd ps []
structure Mi (K:yZP)(mg:Str->Option Value)(x:Str)(C:Addr)(q:Str)(st:Stmt)(ps:List Str):Prop where
 ex:∃f fd,Fun K "__init__" q st f fd/\Mk K C f/\mg x=some (.ref C)/\Binds K fd ps []
section
variable {P:Program}{w:World}{K:yZP}{mg:Str->Option Value}{base:Heap}{x m q:Str}{st:Stmt}{C:Addr}{j k:Nat}{N ps:List Str}{sp:Sp}
theorem Md.ok (F:Md K C m q st ps)(S:xH N ps (xB st))(len:∀vs H Q E,sp vs H Q E->vs.length=ps.length)
  (hbody:∀(f:Addr) (zy:Value) (A:Around) (outer:List Env) (s:Shared) (H:Hp) (vs:List V) (Q:VK) (E:XK),Room k (A.deeper (envOfC q (xB st) s.heap.objs.size f zy))->sp vs H Q E->
   ∃t,PSs (cxOf CX0 P w K mg base N q (xB st) f zy A outer s H E).nox (xC st) t/\t { nx:=fun _ H'=>Q .non H',rt:=Q } (start N vs) H):Dm P w K mg base C m (k+1) ps sp:=
 let ⟨f,fd,F,a,b⟩:=F.ex
 ⟨f,fd,F.ok S len (hbody f),a,b⟩
theorem Mi.ok (F:Mi K mg x C q st ps)(S:xH N ps (xB st))(len:∀vs H Q E,sp vs H Q E->vs.length=ps.length)
  (hbody:∀(f:Addr) (zy:Value) (A:Around) (outer:List Env) (s:Shared) (H:Hp) (vs:List V) (Q:VK) (E:XK),Room k (A.deeper (envOfC q (xB st) s.heap.objs.size f zy))->sp vs H Q E->
   ∃t,PSs (cxOf CX0 P w K mg base N q (xB st) f zy A outer s H E).nox (xC st) t/\t { nx:=fun _ H'=>Q .non H',rt:=Q } (start N vs) H):Dk P w K mg base x C (k+1) ps sp:=
 let ⟨f,fd,F,a,b,c⟩:=F.ex
 ⟨f,fd,F.ok S len (hbody f),a,b,c⟩
end
section
variable {X:Cx}{P:Program}{w:World}{K:yZP}{mg:Str->Option Value}{base:Heap}{C:Addr}{j k:Nat}{ps:List Str}{sp:Sp}{x m f:Str}{p pos pos' apos tpos:Pos}{e o value:Expr}{es:List Expr}{ta tv:TE}{t:TA}
theorem jT {pl:Sem Bool}(D:Dm P w K mg base C m j ps sp)(c:Cls K C)(he:PE X o ta)(hr:Room k X.A)(ha:PA X (e::es) t)(hjk:j<=k:=by first | decide | omega)
  (h1:X.prog=P:=by rfl) (h2:X.w=w:=by rfl) (h3:X.K=K:=by rfl) (h4:X.mg=mg:=by rfl) (h5:X.base=base:=by rfl)
  (hst:starEach (e::es) X.env=(false,eval e X.env)::starEach es X.env:=by rfl) (hpl:(backTo pos (starEach es X.env)).any (·.1)=false:=by rfl)
  (ht:eval (.Call (.Attribute o m apos) (e::es) [] pos) X.env=(do
   let ov <- eval o X.env
   standAt apos.atName
   let (f,first) <- holding [ov] (getMethod ov m pl)
   callWith pos f first (backTo pos (starEach (e::es) X.env)) (backToKw pos (keywordEach [] X.env))):=by rfl):
  PE X (.Call (.Attribute o m apos) (e::es) [] pos) (tMeth C m sp [] E0 ta t):=by
 subst h1 h2 h3 h4 h5
 obtain⟨f,fd,F,M,b⟩:=D.ex
 exact xZd he c M (F.mono hjk) hr b .nil pass0 ha hst hpl ht
theorem qSg (D:Dk P w K mg base x C j ps sp)(hr:Room k X.A)(ha:PA X (e::es) t)(hjk:j+1<=k:=by first | decide | omega)(hg:Gl X x:=by rfl)
  (h1:X.prog=P:=by rfl) (h2:X.w=w:=by rfl) (h3:X.K=K:=by rfl) (h4:X.mg=mg:=by rfl) (h5:X.base=base:=by rfl)
  (hdb:(x == ("__debug__" : Str))=false:=by decide) (he:starEach (e::es) X.env=(false,eval e X.env)::starEach es X.env:=by rfl) (hpl:(backTo pos (starEach es X.env)).any (·.1)=false:=by rfl):
  PE X (.Call (.Name x p) (e::es) [] pos) (tMake C sp [] E0 t):=by
 subst h1 h2 h3 h4 h5
 obtain⟨f,fd,F,M,hm,b⟩:=D.ex
 exact xZe M F (hr.mono hjk) hg hm b .nil pass0 ha hdb he hpl
theorem vP (he:PE X e ta)(hK:X.K=K:=by rfl)(hb:attributeBase e f X.env (eval e X.env)=eval e X.env:=by rfl):PE X (.Attribute e f pos) (tFld K ta f):=by
 subst hK
 exact xVz he hb
theorem qYl (ha:PE X o ta)(hv:PE X value tv)(hK:X.K=K:=by rfl)(hs:swapsWith value (some (.Attribute o f pos')) pos.line X.env=pure false:=by rfl):PS X (.Assign [.Attribute o f pos'] value pos) (sFld K ta tv f):=by
 subst hK
 exact xKm ha hv hs
end
end L2
namespace TM
open PySem PyProof.Rows PySem.W
section
variable {prog:Program}{w:World}{A:Around}{E:Value->Shared->Prop}{s:Shared}{O:KeyOrd}{key:Value->O.α}{κ:SortKind}{vs:List Value}
def runT {α:Type}(f:Nat->Nat->Bool):KasT α->α
 | .ret a=>a
 | .ask i j k=>runT f (k (f i j))
def okT {α:Type}(n:Nat):KasT α->Bool
 | .ret _=>true
 | .ask i j k=>decide (i<n) && decide (j<n) && okT n (k true) && okT n (k false)
theorem qIg {α:Type}{n:Nat}{f:Nat->Nat->Bool}{cmp:Nat->Nat->(Bool->Shared->Prop)->Shared->Prop}{Q:α->Shared->Prop}(hC:∀i j (C:Bool->Shared->Prop),i<n->j<n->C (f i j) s->cmp i j C s){f':Nat->Nat->Bool}(hf:∀i j,i<n->j<n->f i j=f' i j):∀t:KasT α,okT n t=true->Q (runT f' t) s->t.kasWp cmp Q s
 | .ret a,_,h=>h
 | .ask i j k,ok,h=>by
  unfold okT at ok
  rw[Bool.and_eq_true,Bool.and_eq_true,Bool.and_eq_true,decide_eq_true_iff,decide_eq_true_iff] at ok
  refine hC i j _ ok.1.1.1 ok.1.1.2 ?_
  rw[hf i j ok.1.1.1 ok.1.1.2]
  refine qIg hC hf (k (f' i j)) ?_ h
  cases f' i j
  .exact ok.2
  .exact ok.1.2
def tab (a b c d e f:Bool)(i j:Nat):Bool:=match i,j with
 | 0,1=>a | 0,2=>b | 1,0=>c | 1,2=>d | 2,0=>e | 2,1=>f | _,_=>false
theorem few2:okT 2 (kas_sort 2)=true/\∀a c:Bool,(a && c)=false->(runT (tab a false c false false false) (kas_sort 2)).toList.Perm [0,1]/\tab a false c false false false ((runT (tab a false c false false false) (kas_sort 2)).getD 1 0) ((runT (tab a false c false false false) (kas_sort 2)).getD 0 0)=false:=by wtm_at"d"
theorem few3:okT 3 (kas_sort 3)=true/\∀a b c d e f:Bool,(a && c)=false->(b && e)=false->(d && f)=false->(!c && !f && e)=false->(!c && !b && d)=false->(!e && !d && c)=false->(!a && !e && f)=false->(!d && !a && b)=false->(!f && !b && a)=false->
  (runT (tab a b c d e f) (kas_sort 3)).toList.Perm [0,1,2]/\tab a b c d e f ((runT (tab a b c d e f) (kas_sort 3)).getD 1 0) ((runT (tab a b c d e f) (kas_sort 3)).getD 0 0)=false/\tab a b c d e f ((runT (tab a b c d e f) (kas_sort 3)).getD 2 0) ((runT (tab a b c d e f) (kas_sort 3)).getD 1 0)=false/\tab a b c d e f ((runT (tab a b c d e f) (kas_sort 3)).getD 2 0) ((runT (tab a b c d e f) (kas_sort 3)).getD 0 0)=false:=by wtm_at"d"
theorem qEq (a b:O.α):(O.blt a b && O.blt b a)=false:=by
 cases h:O.blt a b with
 | false=>rfl
 | true=>
  cases h':O.blt b a with
  | false=>rfl
  | true=>rw[<- O.irrefl a];exact(O.trans a b a h h').symm
theorem xQd (a b c:O.α):(!O.blt a b && !O.blt b c && O.blt a c)=false:=by
 cases h:O.blt a c with
 | false=>rw[Bool.and_false]
 | true=>rcases O.negTrans a b c h with z | z <;> rw[z] <;> simp
theorem ord_ne' (a b c:O.α):(!O.blt b c && !O.blt a b && O.blt a c)=false:=by rw[Bool.and_comm (!O.blt b c)];exact xQd a b c
theorem qTo {n:Nat}(h2:2<=n)(h3:n<=3){g:Nat->O.α}{cmp:Nat->Nat->(Bool->Shared->Prop)->Shared->Prop}{Q:Array Nat->Shared->Prop}(hC:∀i j (C:Bool->Shared->Prop),i<n->j<n->C (O.blt (g i) (g j)) s->cmp i j C s)
  (h:∀q:Array Nat,q.toList.Perm (List.range n)->(∀i j,i<j->j<n->O.blt (g (q.getD j 0)) (g (q.getD i 0))=false)->Q q s):(kas_sort n).kasWp cmp Q s:=by
 have lt:∀{q:Array Nat} {i:Nat},q.toList.Perm (List.range n)->i<n->q.getD i 0<n:=fun{q i} pm hi=>by
  have hs:i<q.size:=by rw[<- yZM,pm.length_eq,List.length_range];exact hi
  have:q.getD i 0=q[i]:=by simp[Array.getD,hs]
  rw[this]
  exact List.mem_range.mp (pm.mem_iff.mp (Array.getElem_mem_toList hs))
 rcases(by omega:n=2\/n=3) with rfl | rfl
 .have hf:∀i j,i<2->j<2->O.blt (g i) (g j)=tab (O.blt (g 0) (g 1)) false (O.blt (g 1) (g 0)) false false false i j:=fun i j hi hj=>by
   rcases(by omega:i=0\/i=1) with rfl | rfl <;> rcases(by omega:j=0\/j=1) with rfl | rfl <;> first | rfl | exact O.irrefl _
  obtain⟨p,c⟩:=few2.2 _ _ (qEq (g 0) (g 1))
  refine qIg hC hf _ few2.1 (h _ p fun i j hij hj=>?_)
  rw[hf _ _ (lt p hj) (lt p (by omega))]
  obtain rfl:i=0:=by omega
  obtain rfl:j=1:=by omega
  exact c
 .have hf:∀i j,i<3->j<3->O.blt (g i) (g j)=tab (O.blt (g 0) (g 1)) (O.blt (g 0) (g 2)) (O.blt (g 1) (g 0)) (O.blt (g 1) (g 2)) (O.blt (g 2) (g 0)) (O.blt (g 2) (g 1)) i j:=fun i j hi hj=>by
   rcases(by omega:i=0\/i=1\/i=2) with rfl | rfl | rfl <;> rcases(by omega:j=0\/j=1\/j=2) with rfl | rfl | rfl <;> first | rfl | exact O.irrefl _
  obtain⟨p,c1,c2,c3⟩:=few3.2 _ _ _ _ _ _ (qEq (g 0) (g 1)) (qEq (g 0) (g 2)) (qEq (g 1) (g 2)) (ord_ne' (g 2) (g 1) (g 0)) (xQd (g 1) (g 0) (g 2)) (ord_ne' (g 1) (g 2) (g 0)) (ord_ne' (g 2) (g 0) (g 1)) (ord_ne' (g 0) (g 1) (g 2)) (ord_ne' (g 0) (g 2) (g 1))
  refine qIg hC hf _ few3.1 (h _ p fun i j hij hj=>?_)
  rw[hf _ _ (lt p hj) (lt p (by omega))]
  rcases(by omega:i=0/\j=1\/i=1/\j=2\/i=0/\j=2) with⟨rfl,rfl⟩ | ⟨rfl,rfl⟩ | ⟨rfl,rfl⟩
  .exact c1
  .exact c2
  .exact c3
theorem xJh (S:AskS prog w A s key κ (pairsOf vs))(i j:Nat)(C:Bool->Shared->Prop)(hi:i<vs.length)(hj:j<vs.length)(hc:C (O.blt (key (vs.getD i Value.none)) (key (vs.getD j Value.none))) s):kas_ask prog w A κ vs i j C s:=by
 have mem:∀i,i<vs.length->(vs.getD i Value.none,vs.getD i Value.none)∈(pairsOf vs).toList:=fun i hi=>by
  rw[pairsOf_toList]
  have e:vs.getD i Value.none=vs[i]:=by rw[List.getD_eq_getElem?_getD,yYA hi];rfl
  rw[e]
  exact List.mem_iff_getElem?.mpr ⟨i,by rw[List.getElem?_zip_eq_some];exact⟨yYA hi,yYA hi⟩⟩
 exact S _ _ (mem i hi) (mem j hj) _ _ hc
theorem xJg {p:Array Nat}(pl:p.toList.Perm (List.range vs.length))(up:∀i j,i<j->j<vs.length->O.blt (key (vs.getD (p.getD j 0) Value.none)) (key (vs.getD (p.getD i 0) Value.none))=false):((List.toArray (p.toList.map fun i=>vs.getD i Value.none)).toList.Perm vs)/\(List.toArray (p.toList.map fun i=>vs.getD i Value.none)).toList.Pairwise (fun x y=>O.kle (key x) (key y)):=by
 have e:(List.range vs.length).map (fun i=>vs.getD i Value.none)=vs:=by
  apply List.ext_getElem
  .rw[yYC,List.length_range]
  .intro i h1 h2
   rw[List.getElem_map,List.getElem_range,List.getD_eq_getElem?_getD,yYA h2];rfl
 refine⟨?_,?_⟩
 .have:=pl.map (fun i=>vs.getD i Value.none)
  rw[e] at this
  exact this
 .show(p.toList.map _).Pairwise _
  rw[List.pairwise_map,List.pairwise_iff_getElem]
  intro i j hi hj hij
  rw[pl.length_eq,List.length_range] at hi hj
  have g:∀i (h:i<p.toList.length),p.toList[i]=p.getD i 0:=fun i h=>by
   rw[yZM] at h
   simp[Array.getD,h]
  rw[g,g]
  exact up i j hij hj
theorem qRi {a:Addr}{n:Nat}{h0:Heap}{P:PySem.Fin->Shared->Prop}(S:Sorts prog w { s with heap:=h0 } key κ vs)(hk:∀b o,h0.get? b=some o->s.heap.get? b=some o)(h0a:h0.get? a=none)(ho:s.heap.get? a=some (seqObj "list" vs.toArray n))(h64:vs.length<=3)
  (h:∀out:Array Value,out.toList.Perm vs->out.toList.Pairwise (fun x y=>O.kle (key x) (key y))->P (.done (.ret .none)) { s with heap:=sortedHeap s.heap a vs out }):
  wpAny (model prog w) A (Builtin.«list.sort» ⟨[.ref a],[]⟩) P E s:=by
 have hz:vs.length<=sizeLine:=by rw[sizeLine_eq];omega
 rw[list_sort_plain]
 have ha:a<s.heap.objs.size:=yZA ho
 have z0:vs.toArray.size=vs.length:=by simp
 refine yYX (listItems_at ho rfl ?_)
 refine yYX (listUpdate_at ho rfl ?_ (by rw[z0];exact hz) (yZG _))
 obtain⟨e1,ho1⟩:∃e1,(s.heap.update a (Obj.mapSeq fun _=>#[])).get? a=some (seqObj "list" #[] e1):=⟨_,get?_update_seq ho (fun _=>#[])⟩
 refine yYX (seqEpoch_at ho1 rfl ?_)
 refine yYX (wpAny_newTuple ?_ (by show vs.length<=_;exact hz))
 refine yYX (wpAny_newList ?_ (yZG _))
 refine wpAny_holding ?_
 have ho6:(((s.heap.update a (Obj.mapSeq fun _=>#[])).push (seqObj "tuple" vs.toArray 0)).push (seqObj "list" #[] 0)).get? a=some (seqObj "list" #[] e1):=by
  rw[Heap.get?_push_ne _ _ _ (by rw[size_push',Heap.size_update];exact yZF (Nat.lt_succ_of_lt ha)),Heap.get?_push_ne _ _ _ (by rw[Heap.size_update];exact yZF ha)]
  exact ho1
 have keep:∀b o,h0.get? b=some o->(((s.heap.update a (Obj.mapSeq fun _=>#[])).push (seqObj "tuple" vs.toArray 0)).push (seqObj "list" #[] 0)).get? b=some o:=fun b o e=>by
  have e':=hk b o e
  have hlt:b<s.heap.objs.size:=yZA e'
  have hne:b≠a:=fun z=>by rw[z,h0a] at e;cases e
  rw[Heap.get?_push_ne _ _ _ (by rw[size_push',Heap.size_update];exact yZF (Nat.lt_succ_of_lt hlt)),Heap.get?_push_ne _ _ _ (by rw[Heap.size_update];exact yZF hlt),Heap.get?_update_ne _ _ _ _ hne]
  exact e'
 show wpAny (model prog w) A _ P E { s with heap:=((s.heap.update a (Obj.mapSeq fun _=>#[])).push (seqObj "tuple" vs.toArray 0)).push (seqObj "list" #[] 0) }
 dsimp only
 by_cases h2:vs.toArray.size<2
 .rw[if_pos h2,if_pos h2]
  refine yYX (yYY ?_)
  rw[StateT.run_pure]
  refine yYX (yYY ?_)
  dsimp only
  refine yYX (seqEpoch_at ho6 rfl ?_)
  have pz:((pairsOf vs).map (·.2)).size=vs.length:=by rw[Array.size_map,pairsOf_size]
  have out:=qMe (vs:=vs) (key:=key) (Array.Perm.refl (pairsOf vs)) (xWc (by rw[yZM,pairsOf_size];omega))
  refine yYX (listUpdate_at ho6 rfl ?_ (yZG _) (by show((pairsOf vs).map (·.2)).size<=sizeLine+1;rw[pz];omega))
  simp only[bne_self_eq_false,yZK,if_false]
  exact yYY (h _ out.1 out.2)
 .rw[if_neg h2,if_neg h2]
  refine yYX (S.kind A E _ keep (by omega) _ ?_)
  refine yYX (wpAny_mono (kat_run (ks:=vs) (vs:=vs) (Q:=fun st' s'=>s'={ s with heap:=((s.heap.update a (Obj.mapSeq fun _=>#[])).push (seqObj "tuple" vs.toArray 0)).push (seqObj "list" #[] 0) }/\∃p,arrOf st'=p.map (kas_item (vs.toArray.zip vs.toArray))/\failedOf st'=none/\p.toList.Perm (List.range vs.length)/\∀i j,i<j->j<vs.length->O.blt (key (vs.getD (p.getD j 0) Value.none)) (key (vs.getD (p.getD i 0) Value.none))=false)
   (G:=fun p s'=>s'={ s with heap:=((s.heap.update a (Obj.mapSeq fun _=>#[])).push (seqObj "tuple" vs.toArray 0)).push (seqObj "list" #[] 0) }/\p.toList.Perm (List.range vs.length)/\∀i j,i<j->j<vs.length->O.blt (key (vs.getD (p.getD j 0) Value.none)) (key (vs.getD (p.getD i 0) Value.none))=false) rfl (by omega) (by omega) (fun p st' s' _ har hf hg=>⟨hg.1,p,har,hf,hg.2⟩) (qTo (O:=O) (by omega) h64 (xJh (S.ask A _ keep)) fun q a b=>⟨rfl,a,b⟩)) ?_ fun _ _ e=>e)
  rintro⟨⟨⟩,st'⟩ s' ⟨rfl,p,har,hf,pl,up⟩
  have hps:p.size=vs.length:=by rw[<- yZM,pl.length_eq,List.length_range]
  have out:=xJg pl up
  dsimp only
  rw[kat_snds rfl har]
  refine yYX (seqEpoch_at ho6 rfl ?_)
  refine yYX (listUpdate_at ho6 rfl ?_ (yZG _) (by show(List.toArray _).size<=sizeLine+1;rw[yYD,yYC,yZM,hps];omega))
  rw[hf]
  simp only[bne_self_eq_false,yZK,if_false]
  exact yYY (h _ out.1 out.2)
end
end TM
namespace ST
open PySem PyProof.Rows SI L2 TM
section
variable {prog:Program}{w:World}{A:Around}{E:Value->Shared->Prop}{s:Shared}
theorem sorted_setF (hh:A.handled=none){a:Addr}{xs:List (List Int×Addr)}{o:Obj}{es:Array (Int×Value)}{ep:Nat}{t:SetTable}(X:TS prog w s.heap a (!byText w) (xs.map kx) o es ep t)(h64:xs.length<=3)(hx:∀x∈xs,IsTI s.heap (.ref x.2) x.1){Q:Value->Shared->Prop}
  (h:∀(p:Addr) (ms:List (List Int×Addr)) (e:Nat) (s':Shared),ms.Perm xs->(ms.map (·.1)).Pairwise (fun a b=>HT.lexLt b a=false)->s.heap.objs.size<=p->s'.heap.get? p=some (seqObj "list" (ms.map fun x=>Value.ref x.2).toArray e)->(∀b o,s.heap.get? b=some o->s'.heap.get? b=some o)->s'.gens=s.gens->s'.os=s.os->Q (.ref p) s'):
  wpAny (model prog w) A (call (.builtin "sorted") [.ref a]) Q E s:=by
 have T:=X.tab
 have len:=X.len
 rw[yYC] at len
 have size:=X.size
 rw[yYC] at size
 have ents:=X.ents
 rw[List.map_map] at ents
 refine Calls.call_function_entry kind_sorted plain_sorted entry_sorted (args_sorted1 _) ?_
 unfold Builtin.«sorted»
 refine yYX (m:=checkCount "sorted" 1 1 _) (yYY ?_)
 refine yYX (qCb (A:=A.in1) (by simp[hh]) ⟨X.at',X.ex,X.data,T.fits⟩ ⟨X.led,T.dum,T.ris⟩ (by omega) fun ord s1 pm kp hg hos _ hsz=>?_)
 rw[ents] at pm
 obtain⟨ys,py,ey⟩:=qYn pm xs rfl
 subst ey
 have ev:(ys.map (ent prog w∘kx)).map (·.2)=ys.map fun x=>Value.ref x.2:=by rw[List.map_map];rfl
 rw[ev]
 have lord:(ys.map fun x=>Value.ref x.2).length=xs.length:=by rw[yYC,py.length_eq]
 have z1:(ys.map fun x=>Value.ref x.2).length<=sizeLine:=by rw[lord,sizeLine_eq];omega
 have tis:∀v∈ys.map (fun x=>Value.ref x.2),∃ns,IsTI s1.heap v ns:=fun v hv=>by
  obtain⟨x,hm,rfl⟩:=yYP.mp hv
  exact⟨x.1,(hx x (py.mem_iff.mp hm)).kept kp⟩
 refine yYX (wpAny_newList ?_ z1)
 have hoL:(s1.heap.push (seqObj "list" (ys.map fun x=>Value.ref x.2).toArray 0)).get? s1.heap.objs.size=some (seqObj "list" (ys.map fun x=>Value.ref x.2).toArray 0):=yZB _ rfl
 refine yYX (wpAny_holding (wpAny_call_entry slot_list_sort ⟨_,hoL,rfl⟩ entry_list_sort (qRi (s:={ s1 with heap:=s1.heap.push (seqObj "list" (ys.map fun x=>Value.ref x.2).toArray 0) }) (h0:=s1.heap) (qFx (s:=s1) tis) (fun b o e=>yYZ _ e) (Heap.get?_none_of_le (yZD _)) hoL (by rw[lord];exact h64) fun out a1 a2=>⟨_,rfl,?_⟩) (args_list_sort _)))
 refine yYY ⟨_,rfl,?_⟩
 obtain⟨e,he⟩:=sortedHeap_at (out:=out) hoL
 obtain⟨ms,pm2,em⟩:=qYn a1 ys rfl
 have pm3:=pm2.trans py
 refine h s1.heap.objs.size ms e _ pm3 ?_ hsz (by rw[<- em,Array.toArray_toList];exact he) (fun b o q=>?_) hg hos
 .rw[em] at a2
  rw[List.pairwise_map] at a2 ⊢
  refine List.Pairwise.imp_of_mem ?_ a2
  intro x y hxm hym hxy
  have k1:=((hx x (pm3.mem_iff.mp hxm)).kept kp).key
  have k2:=((hx y (pm3.mem_iff.mp hym)).kept kp).key
  have hxy:HT.lexLt (tupKey s1.heap (.ref y.2)) (tupKey s1.heap (.ref x.2))=false:=hxy
  rw[k1,k2] at hxy
  exact hxy
 .have q1:=kp b o q
  have lb:=yZA q1
  show(sortedHeap _ _ _ _).get? b=some o
  rw[sortedHeap_old (yZF lb) (by rw[yZC];exact Nat.lt_succ_of_lt lb)]
  exact yYZ _ q1
end
end ST
namespace L2
open PySem PySem.Spec PyProof.Rows
def rSortF (P:Program)(w:World):List V->Hp->VK->Prop:=fun vs H Q=>∃(p:Addr) (xs:List (List Int×Addr)),vs=[.ref p]/\H p=some (SetT P w p xs)/\xs.length<=3/\(∀x∈xs,x.1≠[]/\H x.2=some (.tup (x.1.map V.int)))/\
 ∀(l:Addr) (ms:List (List Int×Addr)),H l=none->ms.Perm xs->(ms.map (·.1)).Pairwise (fun a b=>HT.lexLt b a=false)->Q (.ref l) (upd H l (.lst (ms.map fun x=>V.ref x.2)))
section
variable {X:Cx}{P:Program}{w:World}{K:yZP}
theorem qGn (hc:X.calm=true)(hP:X.prog=P:=by rfl)(hw:X.w=w:=by rfl):CallR X (.builtin "sorted") (rSortF P w):=by
 subst hP hw
 intro zz s σ H xs us Q I r h
 obtain⟨p,xs,rfl,hp,h64,hx,q⟩:=h
 obtain⟨u,rfl,ru⟩:=vals1 r
 cases ru
 obtain⟨⟨o,es,ep,t,x⟩,_⟩:=I.hok p _ hp
 have len:=x.len
 rw[yYC] at len
 refine ST.sorted_setF (I.ok.hd hc) x h64 (fun y hy=>?_) fun l ms e s' pm so hsz he kp hg hos=>?_
 .obtain⟨its2,r2,⟨o,ho,hcl,n2,hd⟩,_⟩:=I.tuple (SqT.of (hx y hy).2)
  exact⟨y.2,o,its2.toArray,n2,rfl,ho,hcl,hd,by simpa using qTd r2,(hx y hy).1⟩
 have vv:Vals (ms.map fun x=>V.ref x.2) (ms.map fun x=>Value.ref x.2):=by
  clear he so pm
  induction ms with
  | nil=>exact .nil
  | cons m ms ih=>exact .cons rfl ih
 refine⟨.ref l,_,I.laidD (o:=.lst (ms.map fun x=>V.ref x.2)) kp hsz (show ObjOk X.prog X.w _ s'.heap _ (.lst (ms.map fun x=>V.ref x.2)) from⟨?_,_,e,vv,he⟩) hg hos,rfl,q l ms (I.hok.fresh hsz) pm so⟩
 rw[yYC,pm.length_eq,sizeLine_eq];omega
end
end L2
namespace PySem
structure ZLL (h:Heap)(z TI TO i1 i2 t l:Addr)(k:Nat):Prop where
 zip:IsZip h z TI TO .none
 its:IsPair h TI (.ref i1) (.ref i2)
 own:∃a b,IsPair h TO a b
 one:h.IsListIter i1 t k
 two:h.IsListIter i2 l k
end PySem
namespace L2
open PySem PySem.Spec PyProof.Rows
def Itzll (K:yZP)(t l:Addr):It:=
 ⟨fun i H=>∃xs ys,SqL K H t xs/\SqL K H l ys/\i<xs.length/\i<ys.length,
   fun i H x H'=>∃T vx vy,x=.ref T/\H T=none/\H'=upd H T (.tup [vx,vy])/\(∀xs,SqL K H t xs->xs[i]? = some vx)/\∀ys,SqL K H l ys->ys[i]? = some vy,
   fun i H=>∃xs ys,SqL K H t xs/\SqL K H l ys/\(xs.length<=i\/ys.length<=i)⟩
theorem qEl {P:Program}{w:World}{K:yZP}{es:List Expr}{kk:Nat}{tp:Pos}(t l z TI TO i1 i2:Addr)(D:ZipApart z TI TO i1 i2 t l):
  Turn P w K (.Tuple es kk tp) (Itzll K t l) [z,TI,TO,i1,i2] z (fun i h=>ZLL h z TI TO i1 i2 t l i) where
 mem:=by simp
 obj:=fun i h S b hb=>by
  simp only[yYK,List.not_mem_nil,or_false] at hb
  rcases hb with rfl | rfl | rfl | rfl | rfl
  .exact⟨_,S.zip,fun v e=>by cases(show Data.fields _=Data.cell v from e)⟩
  .exact⟨_,S.its,fun v e=>by cases(show Data.seq _ _=Data.cell v from e)⟩
  .obtain⟨a,b,e⟩:=S.own
   exact⟨_,e,fun v e=>by cases(show Data.seq _ _=Data.cell v from e)⟩
  .obtain⟨o,e,c,d⟩:=S.one
   exact⟨o,e,fun v q=>by rw[d] at q;cases q⟩
  .obtain⟨o,e,c,d⟩:=S.two
   exact⟨o,e,fun v q=>by rw[d] at q;cases q⟩
 keep:=fun i h h' S k=>by
  obtain⟨a,b,e⟩:=S.own
  exact⟨k z (by simp) _ S.zip,k TI (by simp) _ S.its,⟨a,b,k TO (by simp) _ e⟩,S.one.at fun o e=>k i1 (by simp) o e,S.two.at fun o e=>k i2 (by simp) o e⟩
 item:=by
  intro X hP hw hK hc i zz s σ H E I hf S hg
  subst hP hw hK
  obtain⟨xs,ys,hq,hq2,hi,hj⟩:=hg
  obtain⟨its,rv,p,_⟩:=I.list hq
  obtain⟨its2,rv2,p2,_⟩:=I.list hq2
  have hx:xs[i]? = some (xs[i]'hi):=yYA hi
  have hy:ys[i]? = some (ys[i]'hj):=yYA hj
  obtain⟨u,hu,ru⟩:=rv.get hx
  obtain⟨v,hv,rv'⟩:=rv2.get hy
  obtain⟨a0,b0,e0⟩:=S.own
  refine wpAny_pyNext_zip_item D S.zip S.its e0 S.one S.two p.isList p2.isList (x:=u) (y:=v) (by simpa using hu) (by simpa using hv) fun h' a1 b3 a4 a5 a7 b6 a8=>?_
  have a2:=a8 _ _ D.TIz D.TITO D.TIi1 D.TIi2 S.its
  have a3:∃a b,IsPair h' TO a b:=⟨_,_,b3⟩
  generalize eT:s.heap.objs.size=T at a1 a7
  have a6:s.heap.objs.size<=T:=Nat.le_of_eq eT
  refine⟨.ref T,rfl,?_⟩
  have gz:(⟨h',s.gens,s.drawn,s.toks,s.os⟩:Shared).heap.get? z=some { cls:=.type "zip",dict:=none,data:=.fields #[rawInt T,.bool false,.bool false,.ref TI,.ref TO],slots:=#[] }:=a1
  refine wpAny_letOwnedTupleGo_zip (s:={ s with heap:=h' }) a1 fun h'' hz'' sb=>?_
  have nT:∀b∈[z,TI,TO,i1,i2],b≠T:=fun b hb e=>by
   subst e
   obtain⟨o,e,_⟩:∃o,s.heap.get? b=some o/\True:=by
    simp only[yYK,List.not_mem_nil,or_false] at hb
    rcases hb with rfl | rfl | rfl | rfl | rfl
    .exact⟨_,S.zip,trivial⟩
    .exact⟨_,S.its,trivial⟩
    .obtain⟨a,c,e⟩:=S.own;exact⟨_,e,trivial⟩
    .obtain⟨o,e,_⟩:=S.one;exact⟨o,e,trivial⟩
    .obtain⟨o,e,_⟩:=S.two;exact⟨o,e,trivial⟩
   exact absurd (yZE (yZA e) a6) (Nat.lt_irrefl _)
  have k2:∀c o,c≠z->h'.get? c=some o->h''.get? c=some o:=fun c o c1 e=>sb.extBut _ _ c1 e
  have keep:∀c o,c∉[z,TI,TO,i1,i2]->s.heap.get? c=some o->h''.get? c=some o:=fun c o hcx e=>by
   simp only[yYK,List.not_mem_nil,or_false,not_or] at hcx
   exact k2 _ _ hcx.1 (a8 c o hcx.1 hcx.2.2.1 hcx.2.2.2.1 hcx.2.2.2.2 e)
  have hT'':IsPair h'' T u v:=k2 _ _ (Ne.symm (nT z (by simp))) a7
  have fresh:H T=none:=I.hok.fresh a6
  have nfp:∀b o,H b=some o->b∉[z,TI,TO,i1,i2]:=fun b o e hb=>by
   have:=(hf b hb).1
   rw[e] at this;cases this
  have I1:Inv X zz σ (upd H T (.tup [xs[i]'hi,ys[i]'hj])) { s with heap:=h'' }:=by
   refine I.step (h':=h'') (H':=upd H T (.tup [xs[i]'hi,ys[i]'hj])) (g':=s.gens) (d':=s.drawn) (t':=s.toks) (ch:=[z,TI,TO,i1,i2]) (fun b hb=>?_) (fun b o _ _ hc' e _=>keep b o hc' e) (fun b o _ _ hc' e _=>⟨o.slots,keep b o hc' e⟩) (fun b o hc' e n=>?_)
    (fun b o hc' e=>⟨o,keep b o hc' e⟩) (fun b zs e=>?_) (fun b o q e=>?_) (fun b ps e=>⟨#[],?_⟩) (fun m hm=>?_) (fun b ob e=>?_) I.bare
   .obtain⟨f0,f1,f2,f3,f4,f5⟩:=hf b hb
    exact⟨f3,f1,f4,f5⟩
   .rw[qA (yZF (yZE (yZA e) a6))];exact n
   .rw[qA (qB e fresh)];exact e
   .rw[qA (qB e fresh)];exact e
   .rw[qA (qB e fresh),e];simp
   .obtain⟨o,es',ep,ho,r⟩:=hm
    exact⟨o,es',ep,keep _ o (fun hb=>(hf _ hb).2.1 rfl) ho,r⟩
   .by_cases hb:b=T
    .subst hb
     rw[qW] at e
     cases e
     refine⟨by show 2<=sizeLine;decide,[u,v],.cons ru (.cons rv' .nil),⟨_,hT'',rfl,0,rfl,rfl⟩⟩
    .rw[qA hb] at e
     refine(I.hok b ob e).stay (fun c o hc' q=>keep c o ?_ q) (fun c q=>by rw[qA (qB q fresh)];exact q) fun c zs q=>by rw[qA (qB q fresh)];exact q
     rcases hc' with rfl | hc'
     .exact nfp _ _ e
     .exact nfp _ _ hc'
  refine⟨.ref T,_,I1,rfl,⟨T,_,_,rfl,fresh,rfl,fun zs hz=>by rw[I.list_inj hz hq];exact hx,fun zs hz=>by rw[I.list_inj hz hq2];exact hy⟩,?_,fun b hb=>?_⟩
  .obtain⟨a,b,e⟩:=a3
   exact⟨hz'',k2 _ _ D.TIz a2,⟨a,b,k2 _ _ D.TOz e⟩,a4.at fun o e=>k2 _ _ D.i1z e,a5.at fun o e=>k2 _ _ D.i2z e⟩
  .rw[qA (nT b hb)];exact(hf b hb).1
 done:=by
  intro X hP hw hK hc i zz s σ H E I hf S hg
  subst hP hw hK
  obtain⟨xs,ys,hq,hq2,hx⟩:=hg
  obtain⟨its,rv,p,_⟩:=I.list hq
  obtain⟨its2,rv2,p2,_⟩:=I.list hq2
  obtain⟨a0,b0,e0⟩:=S.own
  have hl:=rv.length
  have hl2:=rv2.length
  refine wpAny_pyNext_zip_end (I.ok.hd hc) D S.zip S.its e0 S.one S.two p.isList p2.isList (by rcases hx with hx | hx;exact .inl (by simp;omega);exact .inr (by simp;omega)) fun h' kp=>⟨rfl,?_⟩
  have keep:∀c o,c∉[z,TI,TO,i1,i2]->s.heap.get? c=some o->h'.get? c=some o:=fun c o hcx e=>by
   simp only[yYK,List.not_mem_nil,or_false,not_or] at hcx
   exact kp c o hcx.1 hcx.2.2.1 hcx.2.2.2.1 hcx.2.2.2.2 e
  have nfp:∀b o,H b=some o->b∉[z,TI,TO,i1,i2]:=fun b o e hb=>by
   have:=(hf b hb).1
   rw[e] at this;cases this
  have there:∀b∈[z,TI,TO,i1,i2],True:=fun _ _=>trivial
  refine I.step (h':=h') (H':=H) (g':=s.gens) (d':=s.drawn) (t':=s.toks) (ch:=[z,TI,TO,i1,i2]) (fun b hb=>?_) (fun b o _ _ hc' e _=>keep b o hc' e) (fun b o _ _ hc' e _=>⟨o.slots,keep b o hc' e⟩) (fun _ _ _ _ n=>n)
   (fun b o hc' e=>⟨o,keep b o hc' e⟩) (fun _ _ e=>e) (fun _ _ _ e=>e) (fun b ps e=>⟨#[],by rw[e];simp⟩) (fun m hm=>?_) (fun b ob e=>?_) I.bare
  .obtain⟨f0,f1,f2,f3,f4,f5⟩:=hf b hb
   exact⟨f3,f1,f4,f5⟩
  .obtain⟨o,es',ep,ho,r⟩:=hm
   exact⟨o,es',ep,keep _ o (fun hb=>(hf _ hb).2.1 rfl) ho,r⟩
  .refine(I.hok b ob e).stay (fun c o hc' q=>keep c o ?_ q) (fun _ q=>q) fun _ _ q=>q
   rcases hc' with rfl | hc'
   .exact nfp _ _ e
   .exact nfp _ _ hc'
 self:=fun _ _ _ _ _ S h=>wpAny_pyIter_zip S.zip h
section
variable {X:Cx}{K:yZP}
def iZipll (K:yZP)(ta:TA):TI:=fun σ H R=>ta σ H fun vs H1=>∃t l xs ys,vs=[.ref t,.ref l]/\SqL K H1 t xs/\SqL K H1 l ys/\R (Itzll K t l) H1
theorem qMk {es:List Expr}{kk:Nat}{tp p pos:Pos}{a b:Expr}{ta:TA}(hg:Gl X "zip")(hm:X.mg "zip" = none)(ha:PA X [a,b] ta)
  (he2:starEach [a,b] X.env=[(false,eval a X.env),(false,eval b X.env)]:=by rfl) (he3:starEach [b] X.env=[(false,eval b X.env)]:=by rfl) (hK:X.K=K:=by rfl):
  PI X (.Tuple es kk tp) (.Call (.Name "zip" p) [a,b] [] pos) (iZipll K ta):=by
 subst hK
 intro zz s σ H R I h
 refine Call_ (qQv I hg hm xXz (PyProof.Rows.callWith_type1 (thn (ha pos zz s σ H _ I h) fun us s1 ⟨vs,H1,I1,r1,q1⟩=>?_) (by rw[he2,he3]) (by rw[he3];rfl)))
 obtain⟨t,l,xs,ys,rfl,hq,hq2,q⟩:=q1
 obtain⟨u,v,rfl,ru,rv⟩:=vals2 r1
 cases ru;cases rv
 obtain⟨its,r2,p2,_⟩:=I1.list hq
 obtain⟨its2,r3,p3,_⟩:=I1.list hq2
 have lt1:t<s1.heap.objs.size:=by obtain⟨o,n,e,_⟩:=p2;exact yZA e
 have lt2:l<s1.heap.objs.size:=by obtain⟨o,n,e,_⟩:=p3;exact yZA e
 refine call_zip_2 p2.isList p3.isList fun h' z1 z2 z3 z4 z5 _ keep=>?_
 have I2:Inv X zz σ H1 { s1 with heap:=h' }:=I1.kept (t':=s1.toks) keep
 refine wpAny_pyIter_zip (s:={ s1 with heap:=h' }) z1 ?_
 have lt1':@LT.lt Nat _ t s1.heap.objs.size:=lt1
 have lt2':@LT.lt Nat _ l s1.heap.objs.size:=lt2
 refine⟨_,[s1.heap.objs.size+4,s1.heap.objs.size+2,s1.heap.objs.size+3,s1.heap.objs.size,s1.heap.objs.size+1],_,_,H1,rfl,I2,qEl t l _ _ _ _ _ ?_,⟨z1,z2,⟨_,_,z3⟩,z4,z5⟩,fun b hb=>?_,q⟩
 .constructor <;> (intro e;have e':@Eq Nat _ _:=e;omega)
 have hb':s1.heap.objs.size<=b:=by
  simp only[yYK,List.not_mem_nil,or_false] at hb
  rcases hb with rfl | rfl | rfl | rfl | rfl <;> first | exact Nat.le_add_right _ _ | exact yZD _
 exact I1.fpOk hb' (I1.hok.fresh hb')
end
theorem qGl {K:yZP}{t l:Addr}{xs ys:List V}{k:Nat}{js:List Nat}{g:TG}{tt:TT}{te:TE}{σ:St}{H1:Hp}{Q:VK}(hle:ys.length<=xs.length)(Pv:Addr->Nat->List V->Hp->Prop)(h0:∀D,H1 D=none->Pv D 0 [] (upd H1 D (.lst [])))
  (hl:∀D i zs H,i<=ys.length->Pv D i zs H->SqL K H t xs/\SqL K H l ys)
  (hs:∀D i x y T zs H (N:List V->Hp->Prop),H1 D=none->H D=some (.lst zs)->xs[i]? = some x->ys[i]? = some y->H T=none->Pv D i zs H->(∀zs H',H' D=some (.lst zs)->Pv D (i+1) zs H'->N zs H')->turnC k js g tt te σ D (.ref T) zs (upd H T (.tup [x,y])) N)
  (hd:∀D zs H,H1 D=none->H D=some (.lst zs)->Pv D ys.length zs H->Q (.ref D) H):rdC k js g tt te (Itzll K t l) σ H1 Q:=by
 intro D hD
 refine⟨fun i m zs H=>m=ys.length - i/\i<=ys.length/\H D=some (.lst zs)/\Pv D i zs H,⟨ys.length,by simp,yZG _,qW,h0 D hD⟩,?_⟩
 rintro i m zs H ⟨rfl,hi,hDy,p⟩
 refine⟨hDy,?_⟩
 obtain⟨q1,q2⟩:=hl D i zs H hi p
 by_cases hlt:i<ys.length
 .refine .inr ⟨⟨xs,ys,q1,q2,by omega,hlt⟩,fun x H' y=>?_⟩
  obtain⟨T,vx,vy,rfl,nT,rfl,e1,e2⟩:=y
  exact hs D i vx vy T zs H (fun zs H'=>∃m',m'<ys.length - i/\m'=ys.length - (i+1)/\i+1<=ys.length/\H' D=some (.lst zs)/\Pv D (i+1) zs H') hD hDy (e1 xs q1) (e2 ys q2) nT p fun zs H' e p'=>⟨ys.length - (i+1),by omega,rfl,hlt,e,p'⟩
 .have e:i=ys.length:=by omega
  subst e
  exact .inl ⟨⟨xs,ys,q1,q2,.inr (yZD _)⟩,hd D zs H hD hDy p⟩
end L2
namespace DL
open PySem PySem.SeqAt PySem.MeetsSeq PyProof.Rows PySem.W L2
section
variable {prog:Program}{w:World}{A:Around}{E:Value->Shared->Prop}{s:Shared}
def Tells (prog:Program)(w:World)(A:Around)(s:Shared)(x:Value)(f:Value->Bool)(ys:List Value):Prop:=
 ∀y∈ys,∀(E':Value->Shared->Prop) (Q':Bool->Shared->Prop),Q' (f y) s->wpAny (model prog w) A (eqBool y x) Q' E' s
theorem goes {l:Addr}{x:Value}{f:Value->Bool}{its:Array Value}{n:Nat}{dd:Option Addr}{sl:Array (Option Value)}{R:Result->Shared->Prop}(ho:s.heap.get? l=some { cls:=.type "list",dict:=dd,data:=.seq its n,slots:=sl }):
  ∀(ys:List Value) (i:Nat),its.toList.drop i=ys->Tells prog w A.in1 s x f ys->R (.ok (.ret (.bool (ys.any f)))) s->
   wpAny (model prog w) A.in1 (Builtin.«list.__contains__.loop» ⟨[.ref l,x,rawInt i],[]⟩) (fun fin s'=>match fin with | .done f=>R (.ok f) s' | .again c'=>c'.quiet=true/\codeAny (model prog w) A c' R s') (fun e s'=>R (.error e) s') s:=by
 intro ys
 induction ys with
 | nil=>
  intro i hd _ hr
  have hz:its.size<=i:=by simpa using hd
  obtain⟨hp,g,dr,tk,os⟩:=s
  wp_walk using wpAny_loadPart' ho
  rw[show its[((i:Nat):Int).toNat]? = none by simp;omega]
  wp_walk
  exact hr
 | cons y ys ih=>
  intro i hd te hr
  have hy:its.toList[i]? = some y:=by
   have:=congrArg (fun t:List Value=>t[0]?) hd
   simpa using this
  have hrest:its.toList.drop (i+1)=ys:=by
   have:=congrArg List.tail hd
   simpa using this
  have next:=ih (i+1) hrest fun z hz=>te z (yYH _ hz)
  have here:=te y yYG
  obtain⟨hp,g,dr,tk,os⟩:=s
  wp_walk using wpAny_loadPart' ho
  rw[show its[((i:Nat):Int).toNat]? = some y by rw[<- yZN];simpa using hy]
  refine yYX (here _ _ ?_)
  rw[List.any_cons] at hr
  cases c:f y with
  | true=>
   rw[c] at hr
   wp_walk
   exact hr
  | false=>
   rw[c] at hr
   wp_walk
   refine⟨plainId_quiet plain_contains_loop _,codeAny_builtin entry_contains_loop ?_⟩
   rw[Around.under_plainId plain_contains_loop _,show((i:Int)+1)=((i+1:Nat):Int) from rfl]
   exact next hr
theorem not_in {l:Addr}{x:Value}{f:Value->Bool}{its:Array Value}{Q:Value->Shared->Prop}(hl:s.heap.IsList l its)(te:Tells prog w A.in1 s x f its.toList)(h:Q (.bool (!its.toList.any f)) s):
  wpAny (model prog w) A (compareOp .NotIn x (.ref l)) Q E s:=by
 obtain⟨⟨cls,dd,data,sl⟩,ho,hc,n,hd⟩:=id hl
 have hc:cls=.type "list" := hc
 have hd:data=.seq its n:=hd
 subst hc hd
 have ty:s.TypeIs (.ref l) "list" := ⟨_,ho,rfl⟩
 show wpAny _ A (do return .bool (!(<- contains (.ref l) x))) Q E s
 refine yYX (wpAny_contains_slot ty F.slot_list_contains (call_meetsIn (S:=fun A' R s'=>A'=A/\s'=s/\R (.ok (.ret (.bool (its.toList.any f)))) s') F.slot_list_contains ty F.entry_list_contains (F.args_list_contains_2 _ _) (fun A' R s' hs=>?_) ⟨rfl,rfl,?_⟩))
 .obtain⟨rfl,rfl,hr⟩:=hs
  have:=goes ho its.toList 0 rfl te hr
  obtain⟨hp,g,dr,tk,os⟩:=s'
  wp_walk using wpAny_loadPart' ho
  refine⟨plainId_quiet plain_contains_loop _,codeAny_builtin entry_contains_loop ?_⟩
  rw[Around.under_plainId plain_contains_loop _]
  exact this
 .exact wpAny_truthy_bool (yYY h)
def eqD (ka kb:List (Key×V)):Bool:=ka.length == kb.length && ka.all fun q=>decide (valV kb q.1=some q.2)
def Ints (ks:List (Key×V)):Prop:=∀q∈ks,∃i:Int,q.2=.int i
theorem Ints.val {kb:List (Key×V)}(h:Ints kb){k:Key}{v:V}(e:valV kb k=some v):∃i:Int,v=.int i:=by
 unfold valV at e
 obtain⟨q,hq,rfl⟩:=Option.map_eq_some_iff.mp e
 exact h q (List.mem_of_find?_eq_some hq)
theorem hits {ka kb:List (Key×V)}{va vb:List (Key×Value)}(ra:KV ka va)(rb:KV kb vb)(ia:Ints ka)(ib:Ints kb):KeqHits A s vb va (ka.all fun q=>decide (valV kb q.1=some q.2)):=by
 unfold KV at ra
 induction ra with
 | nil=>exact .nil
 | @cons p q l1 l2 h t ih=>
  obtain⟨k,v⟩:=p
  obtain⟨k',u⟩:=q
  obtain⟨e,r⟩:=h
  have e:k=k':=e
  subst e
  have r:RelV v u:=r
  obtain⟨i,ei⟩:=ia (k,v) yYG
  have ei:v=.int i:=ei
  subst ei
  obtain⟨t1,rfl⟩:=r
  have rest:=ih fun q hq=>ia q (yYH _ hq)
  rw[List.all_cons]
  have rv:=rb.val k
  cases c:valV kb k with
  | none=>
   rw[c] at rv
   have:=RelO.none_of rv
   simp only[reduceCtorEq,decide_false,Bool.false_and]
   exact .miss this
  | some v'=>
   obtain⟨j,rfl⟩:=ib.val c
   rw[c] at rv
   obtain⟨u',hu,ru⟩:=RelO.some_of rv
   obtain⟨t2,rfl⟩:=ru
   have e2:(decide (some (V.int j)=some (V.int i)))=(i == j):=by
    rw[Bool.eq_iff_iff,decide_eq_true_iff,beq_iff_eq]
    exact⟨fun z=>(V.int.inj (Option.some.inj z)).symm,fun z=>by rw[z]⟩
   rw[e2]
   exact .hit hu (EqAt.int_int i t1 j t2) rest
theorem tells {a d:Addr}{ka kb:List (Key×V)}{va vb:List (Key×Value)}(la:(a == sysModules)=false)(lb:(d == sysModules)=false)(da:s.heap.DictOf (xR prog w) a va)(db:s.heap.DictOf (xR prog w) d vb)(ra:KV ka va)(rb:KV kb vb)(ia:Ints ka)(ib:Ints kb)(same:a=d->eqD ka kb=true)
  (hu:A.units<cLine) {Q:Bool->Shared->Prop} (h:Q (eqD ka kb) s):wpAny (model prog w) A (eqBool (.ref a) (.ref d)) Q E s:=by
 unfold eqBool
 try with_reducible refine wpAny_holding ?_
 show wpAny _ _ (if (Value.ref a == Value.ref d)=true then _ else _) Q E s
 by_cases c:(Value.ref a == Value.ref d)=true
 .rw[if_pos c]
  have e:a=d:=by have:=eq_of_beq c;injection this
  rw[same e] at h
  exact yYX (wpAny_rule (yYY h))
 .rw[if_neg c]
  refine yYX (keq_eq (knd:=xR prog w) la lb da db hu (fun _=>hits ra rb ia ib) ?_)
  refine wpAny_truthy_bool ?_
  rw[<- ra.length,<- rb.length]
  exact h
end
end DL
namespace L2
open PySem PySem.Spec PyProof.Rows
def xXm (K:yZP):R2:=fun x y H Q=>∃(d p:Addr) (kvs:List (Key×V)) (kss:List (List (Key×V))) (us:List V),x=.ref d/\y=.ref p/\H d=some (.dK kvs)/\SqL K H p us/\Paired (fun k u=>∃a,u=.ref a/\H a=some (.dK k)) kss us/\
 DL.Ints kvs/\(∀k∈kss,DL.Ints k)/\DL.eqD kvs kvs=true/\Q (.bl (!kss.any fun k=>DL.eqD k kvs)) H
theorem qFb {X:Cx}{K:yZP}(hu:X.A.units+64<cLine)(hK:X.K=K:=by rfl):OpR X (compareOp .NotIn) (xXm K):=by
 subst hK
 intro zz s σ H x y v u Q I rx ry h
 obtain⟨d,p,kvs,kss,us,rfl,rfl,hd,hp,pr,i1,i2,refl,q⟩:=h
 cases rx
 cases ry
 obtain⟨its,r,pl,hz⟩:=I.list hp
 obtain⟨_,lb,vb,rb,db⟩:=xYj I.hok hd
 have hu1:X.A.in1.units<cLine:=by
  have:X.A.in1.units<=X.A.units+1:=yZD _
  omega
 classical
 let f:Value->Bool:=fun w=>decide (∃a k,w=.ref a/\H a=some (.dK k)/\DL.eqD k kvs=true)
 have fa:∀a k,H a=some (.dK k)->f (.ref a)=DL.eqD k kvs:=fun a k e=>by
  show decide _=_
  by_cases c:DL.eqD k kvs=true
  .rw[c];exact decide_eq_true ⟨a,k,rfl,e,c⟩
  .rw[Bool.eq_false_iff.mpr c]
   refine decide_eq_false ?_
   rintro⟨b,k',e1,e2,e3⟩
   cases e1
   rw[e] at e2
   cases e2
   exact c e3
 have all:∀{kss:List (List (Key×V))} {us:List V} {its:List Value},Paired (fun k u=>∃a,u=.ref a/\H a=some (.dK k)) kss us->Vals us its->(∀k∈kss,DL.Ints k)->DL.Tells X.prog X.w X.A.in1 s (.ref d) f its/\its.any f=kss.any fun k=>DL.eqD k kvs:=by
  intro kss us its pr
  induction pr generalizing its with
  | nil=>
   intro r _
   cases r
   exact⟨fun y hy=>(nomatch hy),rfl⟩
  | @cons k u l1 l2 h t ih=>
   intro r ik
   obtain⟨a,rfl,ea⟩:=h
   cases r with
   | @cons _ v _ vs r1 r2=>
    cases r1
    obtain⟨h1,h2⟩:=ih r2 fun k hk=>ik k (yYH _ hk)
    obtain⟨_,la,va,ra,da⟩:=xYj I.hok ea
    refine⟨fun y hy E' Q' hq=>?_,by rw[List.any_cons,List.any_cons,h2,fa a k ea]⟩
    rcases yYK.mp hy with rfl | hy
    .rw[fa a k ea] at hq
     refine DL.tells la lb da db ra rb (ik k yYG) i1 (fun z=>?_) hu1 hq
     subst z
     rw[hd] at ea
     cases ea
     exact refl
    .exact h1 y hy E' Q' hq
 obtain⟨a1,a2⟩:=all pr r i2
 refine DL.not_in (f:=f) pl.isList (by simpa using a1) ⟨.bl _,H,I,rfl,?_⟩
 rw[show its.toArray.toList=its by simp,a2]
 exact q
end L2
namespace ST
open PySem PyProof.Rows SI L2
open PySem.SetTable (runEnd leap bits turns)
section
variable {prog:Program}{w:World}{A:Around}{E:Value->Shared->Prop}{s:Shared}
theorem xYb {a:Addr}{b:Bool}{xs:List (List Key×Addr)}{o:Obj}{es:Array (Int×Value)}{ep:Nat}{t:SetTable}(X:TS prog w s.heap a b xs o es ep t)(room:A.units<cLine){ks:List Key}{c:Addr}(hk:IsK prog w s.heap ks c)
  (hx:∀y∈xs,IsK prog w s.heap y.1 y.2) (hn:xs.length+1<=4) {Q:Bool->Shared->Prop} (q1:ks∈xs.map (·.1)->Q false s)
  (q2:∀(h':Heap) (xs':List (List Key×Addr)) (o':Obj) (es':Array (Int×Value)) (ep':Nat) (t':SetTable),ks∉xs.map (·.1)->Heap.SameBut a s.heap h'->xs'.Perm ((ks,c)::xs)->TS prog w h' a b xs' o' es' ep' t'->Q true { s with heap:=h' }):
  wpAny (model prog w) A (setAddHashed a (.ref c) (hK prog w ks)) Q E s:=by
 have T:=X.tab
 obtain⟨F,hodd,hm⟩:=masks X.mask
 obtain⟨j0,hj0,ej0⟩:=T.free
 obtain⟨e0,he0,ep0⟩:=qMz F (hK prog w ks) 0 hj0
 rw[Nat.zero_add] at ep0
 rw[<- ep0] at ej0
 have fuel:e0<0+100000:=by
  have:turns t.mask=t.mask+15:=rfl
  omega
 unfold setAddHashed setAddHashedIn
 refine wpAny_holding (yYX (wpAny_setState_of X.at' X.data T.fits ?_))
 dsimp only
 have bs:byScan (.ref c) es=false:=rfl
 rw[bs]
 simp only[yZK,if_false]
 unfold setSearch
 refine yYX (qVe X room hk hx (fun hm=>?_) (fun m hm em bef=>?_) ej0 100000 0 none rfl (yZG _) fuel fun l hl=>absurd hl (Nat.not_lt_zero _))
 .dsimp only
  exact yYY (q1 hm)
 dsimp only
 refine yYX (wpAny_setState_of X.at' X.data T.fits ?_)
 dsimp only
 have sz:=X.size
 have hfull:=X.full
 have hfill:t.fill=xs.length:=by
  show t.place.size+t.dummies.size=_
  rw[T.size,T.dum,sz];rfl
 rw[hfill] at hfull
 have roomT:es.size+1<=t.mask:=by rcases X.mask with h | h | h | h <;> omega
 have T1:=T.put em bef roomT (.ref c)
 have hp1:(SetTable.insertAt es (t.put (pos t.mask (hK prog w ks) m)).2 (hK prog w ks,Value.ref c)).toList.Perm (((ks,c)::xs).map (ent prog w)):=by
  refine(SetTable.insertAt_perm _ _ _).trans ?_
  rw[Array.toList_push,X.ents]
  exact List.perm_append_comm
 obtain⟨xs1,px1,ex1⟩:=qYn hp1 _ rfl
 have nd1:(xs1.map (·.1)).Nodup:=by
  refine(px1.map (·.1)).nodup_iff.mpr ?_
  rw[List.map_cons]
  exact List.nodup_cons.mpr ⟨hm,X.nd⟩
 have l1:xs1.length=xs.length+1:=by rw[px1.length_eq];rfl
 have led1:(t.put (pos t.mask (hK prog w ks) m)).1.led=t.led:=rfl
 have mask1:(t.put (pos t.mask (hK prog w ks) m)).1.mask=t.mask:=rfl
 generalize e1:(t.put (pos t.mask (hK prog w ks) m)).1=t1 at T1 led1 mask1 ⊢
 generalize e2:SetTable.insertAt es (t.put (pos t.mask (hK prog w ks) m)).2 (hK prog w ks,Value.ref c)=es1 at T1 hp1 ex1 ⊢
 have sz1:es1.size=xs.length+1:=by rw[<- yZM,ex1,yYC,l1]
 have tail:∀t2:SetTable,Tab t2 es1->t2.led=t.led->t2.mask=t.mask->wpAny (model prog w) A (do
   storeSet a es1 t2
   if (!false && t2.tooFull)=true then do
     setRelay a (SetTable.grown (es.size+1))
     pure true
    else pure true) Q E s:=by
  intro t2 T2 led2 mask2
  have fill2:t2.fill=xs.length+1:=by
   show t2.place.size+t2.dummies.size=_
   rw[T2.size,T2.dum,sz1];rfl
  have sl:∀{n:Nat},n<=1000->n<=sizeLine:=fun{n} h=>by rw[sizeLine_eq];omega
  refine yYX (wpAny_storeSet_of X.at' X.data ?_ (sl (by omega)))
  have hg1:=qSw X.at' X.data es1 t2
  have sb1:=Heap.SameBut.update s.heap a (Obj.putSet es1 t2)
  generalize s.heap.update a (Obj.putSet es1 t2)=h1 at hg1 sb1 ⊢
  simp only[Bool.not_false,Bool.true_and]
  by_cases c:t2.tooFull=true
  .rw[if_pos c]
   have c':t2.mask * 3<=t2.fill * 5:=of_decide_eq_true c
   rw[fill2,mask2] at c'
   exfalso
   rcases X.mask with h | h | h | h <;> omega
  .rw[if_neg c]
   have c':¬(t2.mask * 3<=t2.fill * 5):=fun z=>c (decide_eq_true z)
   exact yYY (q2 h1 xs1 _ es1 (ep+1) t2 hm sb1 px1 ⟨hg1,X.ex,rfl,ex1,nd1,T2,led2.trans X.led,by omega,by rw[mask2];exact X.mask,by omega⟩)
 split
 .refine yYX (qUm hk fun v=>?_)
  cases v with
  | true=>exact tail t1 T1 led1 mask1
  | false=>exact tail { t1 with plain:=false } T1.off led1 mask1
 .refine yYX (yYY ?_)
  exact tail t1 T1 led1 mask1
end
section
variable {prog:Program}{w:World}{A:Around}{R:Result->Shared->Prop}{I:Addr}{fp wr:List Addr}{G:Array GenState->Array GenState->Prop}{n:Nat}{P:Nat->Value->Prop}{St:Nat->Shared->Prop}
theorem qTn (W:WalksS prog w A.in1 I fp wr G n P St)(T:Addr)(hT:T∉fp)(its:List (List Key×Addr))(hval:∀i v,P i v->∃y,its[i]? = some y/\v=.ref y.2)(hap:∀y∈its,y.2∉fp/\y.2≠T)(hn:n=its.length){N:Nat}(hN:∀ys:List (List Key),ys.Nodup->(∀k∈ys,k∈its.map (·.1))->ys.length<=N)(hN3:N<=3)(room:A.units+8<cLine){b:Bool}:
  ∀(k i:Nat) (s:Shared),n - i=k->i<=n->St i s->(∀y∈its,IsK prog w s.heap y.1 y.2)->(∃xs o es ep t,TS prog w s.heap T b xs o es ep t/\Made its i xs)->
   (∀s',Moved (T::wr) G s s'->(∃xs o es ep t,TS prog w s'.heap T b xs o es ep t/\Made its n xs)->R (.ok (.ret .none)) s')->
   codeAny (model prog w) A (.builtin "set.update.loop" ⟨[.ref T,.ref I],[]⟩) R s:=by
 have hTw:T∉wr:=fun z=>hT (W.sub _ z)
 have up:∀b∈wr,b∈T::wr:=fun b z=>yYH _ z
 have kept:∀{h h':Heap} {xs o es ep t},TS prog w h T b xs o es ep t->(∀o,h.get? T=some o->h'.get? T=some o)->TS prog w h' T b xs o es ep t:=fun x k=>⟨k _ x.at',x.ex,x.data,x.ents,x.nd,x.tab,x.led,x.len,x.mask,x.full⟩
 intro k
 induction k with
 | zero=>
  intro i s hk hi st hIs hS hR
  obtain rfl:i=n:=by omega
  refine codeAny_builtin PyProof.Rows.F.entry_set_update_loop ?_
  rw[Around.under_plainId PyProof.Rows.F.plain_set_update_loop _]
  refine yYX (m:=pyNext (.ref I)) (W.done s _ _ st fun s' mv=>?_)
  obtain⟨xs,o,es,ep,t,X,M⟩:=hS
  exact yYY (hR s' (mv.mono up) ⟨xs,o,es,ep,t,kept X fun o e=>mv.heap T _ hTw e,M⟩)
 | succ k ih=>
  intro i s hk hi st hIs hS hR
  have lt:i<n:=by omega
  refine codeAny_builtin PyProof.Rows.F.entry_set_update_loop ?_
  rw[Around.under_plainId PyProof.Rows.F.plain_set_update_loop _]
  refine yYX (m:=pyNext (.ref I)) (W.item i s _ _ lt st fun v s' hP st' mv=>?_)
  obtain⟨y,ey,rfl⟩:=hval i v hP
  have hym:=yYE ey
  obtain⟨xs,o,es,ep,t,X,M⟩:=hS
  have X1:=kept (h':=s'.heap) X fun o e=>mv.heap T _ hTw e
  have hIs1:∀y∈its,IsK prog w s'.heap y.1 y.2:=fun y hy=>qKk (hIs y hy) fun o e=>mv.heap _ _ (fun z=>(hap y hy).1 (W.sub _ z)) e
  have mem:∀x∈xs,x∈its:=fun x hx=>List.mem_of_mem_take (M.1 x hx)
  have lx:xs.length<=N:=by
   have:=hN (xs.map (·.1)) X.nd fun k hk=>by
    obtain⟨x,hx,rfl⟩:=yYP.mp hk
    exact yYP.mpr ⟨x,mem x hx,rfl⟩
   rw[yYC] at this
   exact this
  have et:its.take (i+1)=its.take i++[y]:=by rw[yYM,ey];rfl
  refine yYX (m:=holding [Value.ref y.2] (setAdd T (.ref y.2))) (wpAny_holding ?_)
  unfold setAdd
  have rm:(A.in1).units<cLine:=by simp only[units_in1];omega
  refine wpAny_holding (yYX (wpAny_pyHash_tuple rm (hIs1 y hym) ?_))
  have go:∀(h':Heap) (xs':List (List Key×Addr)) (o':Obj) (es':Array (Int×Value)) (ep':Nat) (t':SetTable) (tk:Nat),s'.toks<=tk->Heap.SameBut T s'.heap h'->TS prog w h' T b xs' o' es' ep' t'->Made its (i+1) xs'->
    codeAny (model prog w) A (.builtin "set.update.loop" ⟨[.ref T,.ref I],[]⟩) R { s' with heap:=h',toks:=tk }:=fun h' xs' o' es' ep' t' tk htk sb X' M'=>by
   refine ih (i+1) _ (by omega) lt (W.frame _ s' _ _ st' htk fun b hb' o e=>?_) (fun y hy=>qKk (hIs1 y hy) fun o e=>?_) ⟨xs',o',es',ep',t',X',M'⟩ fun s'' mv2 hS4=>?_
   .rw[sb.2 b (fun z=>hT (z▸hb'))];exact e
   .rw[sb.2 _ (hap y hy).2];exact e
   .refine hR s'' (Moved.trans W.gtrans ((mv.mono up).then_heap htk fun b o hb' e=>?_) mv2) hS4
    rw[sb.2 b (fun z=>hb' (z▸yYG))];exact e
  refine xYb (s:={ s' with toks:=s'.toks+(y.1.length+1) }) X1 rm (hIs1 y hym) (fun x hx=>hIs1 x (mem x hx)) (by omega) (fun hm=>?_) (fun h' xs' o' es' ep' t' hm sb pm X'=>?_)
  .exact yYY ⟨plainId_quiet PyProof.Rows.F.plain_set_update_loop _,go s'.heap xs o es ep t _ (show s'.toks<=s'.toks+(y.1.length+1) by omega) (Heap.SameBut.refl T s'.heap) X1 ⟨fun x hx=>by rw[et];exact List.mem_append_left _ (M.1 x hx),fun z hz=>by
    rw[et] at hz
    rcases yYS.mp hz with hz | hz
    .exact M.2 z hz
    .rw[yYL.mp hz];exact hm⟩⟩
  .exact yYY ⟨plainId_quiet PyProof.Rows.F.plain_set_update_loop _,go h' xs' o' es' ep' t' _ (show s'.toks<=s'.toks+(y.1.length+1) by omega) sb X' ⟨fun x hx=>by
    rw[et]
    rcases yYK.mp (pm.mem_iff.mp hx) with rfl | hx
    .exact yYN _ yYG
    .exact List.mem_append_left _ (M.1 x hx),fun z hz=>by
    refine(pm.map (·.1)).mem_iff.mpr ?_
    rw[List.map_cons]
    rw[et] at hz
    rcases yYS.mp hz with hz | hz
    .exact yYH _ (M.2 z hz)
    .rw[yYL.mp hz];exact yYG⟩⟩
end
section
variable {prog:Program}{w:World}{A:Around}{E:Value->Shared->Prop}{s:Shared}
theorem call_set_few {l:Addr}{items:Array Value}{its:List (List Key×Addr)}{Q:Value->Shared->Prop}(hh:A.handled=none)(hu:A.units+32<cLine)(hl:s.heap.IsList l items)(hI:items.toList=its.map fun y=>Value.ref y.2)(hKs:∀y∈its,IsK prog w s.heap y.1 y.2){N:Nat}(hN:∀ys:List (List Key),ys.Nodup->(∀k∈ys,k∈its.map (·.1))->ys.length<=N)(hN3:N<=3)
  (fin:∀(h':Heap) (tk:Nat),(∃xs o' es' ep' t',TS prog w h' s.heap.objs.size (!byText w) xs o' es' ep' t'/\Made its its.length xs)->(∀b o,s.heap.get? b=some o->h'.get? b=some o)->Q (.ref s.heap.objs.size) { s with heap:=h',toks:=tk }):
  wpAny (model prog w) A (call (.type "set") [.ref l]) Q E s:=by
 have len:items.size=its.length:=by rw[<- yZM,hI,yYC]
 obtain⟨c0,tl0,m0⟩:=F.called_set.mro
 have m1:=F.called_set.made
 have m2:=F.called_set.sub
 refine wpAny_call (codeAny_of_tree ?_)
 show wpAny _ _ (callAny (.type "set") _) _ _ _
 refine yYY ⟨Code.quiet_builtin _ (by wtm_at"d"),codeAny_builtin F.entry_type_call ?_⟩
 rw[Around.under_plain (weight_type_call_type "set" [.ref l] []) rfl]
 have m3:=F.called_set.notType
 have m4:=F.called_set.canCreate
 have m5:=F.typeCall_set_1 (.ref l)
 repeat (any_goals (first | assumption | wp_step))
 refine codeAny_mono (xJz (.ref l) (E:=E) (Q₁:=fun obj s₁=>obj=.ref s.heap.objs.size/\s₁={ s with heap:=s.heap.push (setObj (!byText w)) }) ⟨rfl,rfl⟩) fun r s₁ hr=>?_
 cases r with
 | error e=>exact hr
 | ok fl=>
 cases fl with
 | ret obj=>
  obtain⟨rfl,rfl⟩:=hr
  have at0:(s.heap.push (setObj (!byText w))).get? s.heap.objs.size=some (setObj (!byText w)):=yZB _ rfl
  have ty0:Shared.TypeIs { s with heap:=s.heap.push (setObj (!byText w)) } (.ref s.heap.objs.size) "set" := ⟨_,at0,rfl⟩
  have m6:=F.called_set.init.lookup
  have m7:=F.called_set.init.bind (.ref s.heap.objs.size)
  repeat (any_goals (first | assumption | wp_step))
  refine codeAny_mono (codeAny_call_builtin (R:=wants (fun r s₂=>r=.none/\∃h' tk,s₂={ s with heap:=h',toks:=tk }/\(∃xs o' es' ep' t',TS prog w h' s.heap.objs.size (!byText w) xs o' es' ep' t'/\Made its its.length xs)/\(∀b o,s.heap.get? b=some o->h'.get? b=some o)) E)
   F.called_set.init.plain F.entry_set_init (check_set_init_1 ty0 ?_)) fun r₂ s₂ hr₂=>?_
  .obtain⟨⟨oc,od,oda,osl⟩,g,kc,nl,kd⟩:=hl
   simp only at kc kd
   subst kc kd
   have g1:(s.heap.push (setObj (!byText w))).get? l=some { cls:=.type "list",dict:=od,data:=.seq items nl,slots:=osl }:=yYZ _ g
   have n1:=F.sub_list_set
   have n2:=F.sub_list_frozenset
   have n3:(Value.type "list" == Value.type "dict")=false:=by decide
   have l1:(s.heap.push (setObj (!byText w))).IsList l items:=⟨_,g1,rfl,nl,rfl⟩
   unfold Builtin.«set.__init__» noKeywords Builtin.Frozenset.updateFrom
   generalize hPI:pyIter=PI
   wp_walk
   subst hPI
   refine wpAny_pyIter_list l1 (yYX (wpAny_runValue ?_))
   have lt:l<s.heap.objs.size:=yZA g
   have sz:(s.heap.push (setObj (!byText w))).objs.size=s.heap.objs.size+1:=yZC _ _
   have ne1:l≠(s.heap.push (setObj (!byText w))).objs.size:=by rw[sz];exact yZF (Nat.lt_succ_of_lt lt)
   have out:s.heap.objs.size∉[(s.heap.push (setObj (!byText w))).objs.size,l]:=by
    rw[sz]
    intro z
    simp only[yYK,List.not_mem_nil,or_false] at z
    rcases z with z | z
    .exact absurd z (yZF (Nat.lt_succ_self _))
    .exact absurd z (yZH lt)
   have apart:∀y∈its,y.2∉[(s.heap.push (setObj (!byText w))).objs.size,l]/\y.2≠s.heap.objs.size:=fun y hy=>by
    have hy':=hKs y hy
    obtain⟨o',i',n',e',c',d',_⟩:=hy'
    have lt':=yZA e'
    refine⟨fun z=>?_,yZF lt'⟩
    rw[sz] at z
    simp only[yYK,List.not_mem_nil,or_false] at z
    rcases z with z | z
    .exact absurd z (yZF (Nat.lt_succ_of_lt lt'))
    .rw[z,g] at e'
     cases e'
     exact absurd (Value.type.inj c') (by decide)
   refine qTn (b:=!byText w) ((Walks.list (by simp[hh]) _ l ne1 items).toS) s.heap.objs.size out its (fun i v hv=>?val) apart (by rw[len]) hN hN3 ?room (items.size - 0) 0 _ (by omega) (yZG _) ⟨⟨_,yZB _ rfl,rfl,rfl⟩,(l1.push _)⟩ (fun y hy=>qKk (hKs y hy) fun o e=>yYZ _ (yYZ _ e)) ?start ?done
   case val=>
    have e:items.toList[i]? = some v:=by rw[yZN];exact hv
    rw[hI,yYO] at e
    obtain⟨y,ey,rfl⟩:=Option.map_eq_some_iff.mp e
    exact⟨y,ey,rfl⟩
   case room=>
    simp only[units_in1,units_deeper,Around.mark_units,units_caller]
    omega
   case start=>
    refine⟨[],setObj (!byText w),#[],0,.fresh 0 0 (!byText w),⟨yYZ _ at0,⟨rfl,rfl,rfl⟩,rfl,rfl,.nil,⟨rfl,.nil,full8,(by show(7 % 2 == 0)=false;decide),rfl,(fun j hj=>by cases hj),yZG _,(fun i j e h1=>by cases h1)⟩,rfl,yZG _,.inl rfl,(by show 0 * 5<7 * 3;decide)⟩,⟨fun x hx=>(by cases hx),fun y hy=>by cases hy⟩⟩
   case done=>
    intro s' mv hS'
    obtain⟨h',g',d',tk',os'⟩:=s'
    obtain rfl:g'=s.gens:=mv.gens
    obtain rfl:d'=s.drawn:=mv.drawn
    obtain rfl:os'=s.os:=mv.os
    refine yYY ?_
    rw[len] at hS'
    refine yYY ⟨rfl,h',tk',rfl,hS',fun b o e=>?_⟩
    have lb:=yZA e
    refine mv.heap b o (fun z=>?_) (yYZ _ (yYZ _ e))
    simp only[yYK,List.not_mem_nil,or_false] at z
    rcases z with z | z
    .exact absurd z (yZF lb)
    .exact absurd z (by rw[sz];exact yZF (Nat.lt_succ_of_lt lb))
  .cases r₂ with
   | error e=>exact hr₂
   | ok fl₂=>
   cases fl₂ with
   | ret r=>
    obtain⟨rfl,h',tk,rfl,hS',keep⟩:=hr₂
    repeat (any_goals (first | assumption | wp_step))
    exact fin _ _ hS' keep
   | _=>exact hr₂.elim
 | _=>exact hr.elim
end
end ST
namespace L2
open PySem PySem.Spec PyProof.Rows
def rSetU (P:Program)(w:World)(K:yZP):List V->Hp->VK->Prop:=fun vs H Q=>∃(l:Addr) (us:List V) (ss:List (List Int)),vs=[.ref l]/\SqL K H l us/\Paired (TIn H) ss us/\(∀ys:List (List Int),ys.Nodup->(∀k∈ys,k∈ss)->ys.length<=3)/\
 ∀(p:Addr) (xs:List (List Int×Addr)),H p=none->(xs.map (·.1)).Nodup->(∀x∈xs,x.1∈ss/\H x.2=some (.tup (x.1.map V.int)))->(∀k∈ss,k∈xs.map (·.1))->Q (.ref p) (upd H p (SetT P w p xs))
section
variable {X:Cx}{P:Program}{w:World}{K:yZP}
theorem qPf (hc:X.calm=true)(hu:X.A.units+64<cLine)(hP:X.prog=P:=by rfl)(hw:X.w=w:=by rfl)(hK:X.K=K:=by rfl):CallR X (.type "set") (rSetU P w K):=by
 subst hK hP hw
 intro zz s σ H xs us0 Q I r h
 obtain⟨l,us,ss,rfl,hl,hp,hN,q⟩:=h
 obtain⟨u,rfl,ru⟩:=vals1 r
 cases ru
 obtain⟨its,r1,p1,_⟩:=I.list hl
 have l1:=hp.length
 have eits:=qHf hp r1
 obtain⟨zs,ez1,ez2,ez3⟩:∃zs:List (List Int×Addr),zs.map (·.1)=ss/\its=zs.map (fun y=>Value.ref y.2)/\∀y∈zs,H y.2=some (.tup (y.1.map V.int)):=by
  subst eits
  clear r1 p1 hl hN q l1
  rename_i hle
  clear hle
  induction hp with
  | nil=>exact⟨[],rfl,rfl,fun y hy=>by cases hy⟩
  | cons h _ ih=>
   obtain⟨a,rfl,ea⟩:=h
   obtain⟨zs,h1,h2,h3⟩:=ih
   exact⟨(_,a)::zs,by rw[List.map_cons,h1],by rw[List.map_cons,List.map_cons,h2];rfl,fun y hy=>by
    rcases yYK.mp hy with rfl | hy
    .exact ea
    .exact h3 y hy⟩
 have isk:∀y∈zs.map ST.kx,ST.IsK X.prog X.w s.heap y.1 y.2:=fun y hy=>by
  obtain⟨z,hz,rfl⟩:=yYP.mp hy
  exact qJh I.hok (by rw[show(ST.kx z).1=ST.ik z.1 from rfl,ST.ik_kV];exact ez3 z hz)
 refine ST.call_set_few (its:=zs.map ST.kx) (N:=3) (I.ok.hd hc) (by omega) p1.isList (by rw[List.map_map];show its=_;rw[ez2];rfl) isk (fun ys nd sub=>?_) (yZD _) fun h' tk hS keep=>?_
 .have lift:∀ys:List (List Key),(∀k∈ys,k∈(zs.map ST.kx).map (·.1))->∃ms:List (List Int),ys=ms.map ST.ik/\∀k∈ms,k∈ss:=by
   intro ys
   induction ys with
   | nil=>exact fun _=>⟨[],rfl,fun k hk=>by cases hk⟩
   | cons y ys ih=>
    intro sub
    obtain⟨ms,e1,e2⟩:=ih fun k hk=>sub k (yYH _ hk)
    have:=sub y yYG
    rw[List.map_map] at this
    obtain⟨z,hz,rfl⟩:=yYP.mp this
    refine⟨z.1::ms,by rw[List.map_cons,e1];rfl,fun k hk=>?_⟩
    rcases yYK.mp hk with rfl | hk
    .rw[<- ez1];exact yYP.mpr ⟨z,hz,rfl⟩
    .exact e2 k hk
  obtain⟨ms,e1,e2⟩:=lift ys sub
  rw[e1,yYC]
  refine hN ms ?_ e2
  rw[e1] at nd
  exact List.Pairwise.imp (fun h e=>h (by rw[e])) (List.pairwise_map.mp nd)
 .obtain⟨xk,o',es',ep',t',TS',M⟩:=hS
  unfold ST.Made at M
  rw[List.take_of_length_le (yZD _)] at M
  obtain⟨xs,ex,exm⟩:∃xs:List (List Int×Addr),xk=xs.map ST.kx/\∀x∈xs,x∈zs:=by
   have m1:=M.1
   clear M TS'
   induction xk with
   | nil=>exact⟨[],rfl,fun x hx=>by cases hx⟩
   | cons y ys ih=>
    obtain⟨xs,e1,e2⟩:=ih fun k hk=>m1 k (yYH _ hk)
    obtain⟨z,hz,rfl⟩:=yYP.mp (m1 y yYG)
    refine⟨z::xs,by rw[List.map_cons,e1],fun x hx=>?_⟩
    rcases yYK.mp hx with rfl | hx
    .exact hz
    .exact e2 x hx
  subst ex
  have nd:(xs.map (·.1)).Nodup:=by
   have:=TS'.nd
   rw[List.map_map] at this
   exact List.pairwise_map.mpr (List.Pairwise.imp (fun h e=>h (by show ST.ik _=ST.ik _;rw[e])) (List.pairwise_map.mp this))
  refine⟨.ref s.heap.objs.size,_,I.laid (t':=tk) (o:=SetT X.prog X.w s.heap.objs.size xs) keep (yZD _) ⟨⟨o',es',ep',t',TS'⟩,⟨o',TS'.at'⟩,?_⟩,rfl,q _ xs (I.hok.fresh (yZD _)) nd (fun x hx=>⟨?_,ez3 x (exm x hx)⟩) fun k hk=>?_⟩
  .rintro h1 h2 ⟨o,es,ep,t,x⟩ k
   exact⟨o,es,ep,t,k _ x.at',x.ex,x.data,x.ents,x.nd,x.tab,x.led,x.len,x.mask,x.full⟩
  .rw[<- ez1];exact yYP.mpr ⟨x,exm x hx,rfl⟩
  .rw[<- ez1] at hk
   obtain⟨z,hz,rfl⟩:=yYP.mp hk
   have:=M.2 (ST.kx z) (yYP.mpr ⟨z,hz,rfl⟩)
   rw[List.map_map] at this
   obtain⟨x,hx,e⟩:=yYP.mp this
   have e:ST.ik x.1=ST.ik z.1:=e
   exact yYP.mpr ⟨x,hx,ST.ik_inj e⟩
end
end L2
local macro_rules | `(tactic| wtm_at "zh")=>`(tactic| first | assumption | exact L2.qW | (refine L2.qV (by assumption) _ _ _ ?_;wtm_at "zh") | (refine(show L2.Same _ _ by assumption) _ _ ?_;wtm_at "zh"))
local macro_rules | `(tactic| wtm_at "zs")=>`(tactic| first | assumption | exact L2.SqT.of (by wtm_at "zh") | exact L2.SqL.of (by wtm_at "zh") | (refine L2.Same.seq (by assumption) ?_;wtm_at "zs"))
local macro_rules | `(tactic| wtm_at "zo")=>`(tactic| first | exact Or.inl rfl | exact Or.inr rfl)
local macro_rules | `(tactic| wtm_at "zat")=>`(tactic| first | rfl | assumption | exact L2.qKl _ _ | exact FP.at_int (by assumption) | exact L2.qKm (by assumption))
local macro_rules | `(tactic| wtm_at"z")=>`(tactic| repeat first
 | (with_reducible first | apply L2.xAk | apply L2.xAh | apply L2.w_c | apply L2.xYi | apply L2.w_op | apply L2.w_I0 | apply L2.xYd | apply L2.w_B | apply L2.w_bl | apply L2.xAf | apply L2.w_not | apply L2.w_and | apply L2.w_or | apply L2.xKa | apply L2.xYg | apply L2.w_if | apply L2.xAd | apply L2.xKz | apply L2.xAv | apply L2.xYh | apply L2.xKv | apply L2.xAw | apply L2.xKw | apply L2.w_cb | apply L2.xAj | apply L2.xAa | apply L2.xAg | apply L2.w_bm | apply L2.w_sl | apply L2.qRw | apply L2.xYf | apply L2.xYn | apply L2.xXc | apply L2.xXb | apply L2.xYe | apply L2.w_yes | apply L2.xKk | apply L2.xKj)
 | ((with_reducible show L2.tVar _ _ _ _);refine L2.w_var rfl ?_)
 | ((with_reducible show L2.rEq _ _ _ _);refine L2.w_eq rfl ?_)
 | ((with_reducible show L2.rNe _ _ _ _);refine L2.w_ne rfl ?_)
 | ((with_reducible show L2.rIxT _ _ _ _ _);refine L2.xAb (by wtm_at "zs") (by wtm_at "zat") ?_)
 | ((with_reducible show L2.rIxL _ _ _ _ _);refine L2.xAc (by wtm_at "zs") (by wtm_at "zat") ?_)
 | ((with_reducible show L2.gTup _ _ _ _ _ _ _);refine L2.xYm (by wtm_at "zs") rfl ?_)
 | ((with_reducible show L2.rLen _ _ _ _);refine L2.w_len (by first | exact .inl (by wtm_at "zs") | exact .inr (by wtm_at "zs")) ?_)
 | apply L2.xYc (FP.jZ _)
 | refine L2.kI (FP.xW (by assumption)) ?_
 | refine L2.kI (FP.xW (by wtm_at"d")) ?_
 | (with_reducible first | apply L2.iteT | apply L2.iteF | apply L2.iteNT | apply L2.iteNF))
local macro_rules | `(tactic| wtm_at "zf")=>`(tactic| wtm_at"z";(with_reducible first | apply L2.xAe | apply L2.xQx);wtm_at"z")
set_option tactic.hygienic false
namespace FP
open PySem L2
structure Bl (mg:Str->Option Value):Prop where
 len':mg "len" = none
 range':mg "range" = none
 min':mg "min" = none
 isinstance':mg "isinstance" = none
 list':mg "list" = none
 reversed':mg "reversed" = none
 tuple':mg "tuple" = none
 int':mg "int" = none
 bool':mg "bool" = none
 dict':mg "dict" = none
 zip':mg "zip" = none
structure FunE (K:yZP)(mg:Str->Option Value)(x:Str)(f:Addr)(fd:FuncData)(ps:List Str):Prop where
 mg:mg x=some (.ref f)
 kp:PySem.W.keepIn K (.ref f)=true
 bd:Binds K fd ps []
section
seal L2.PE L2.PA L2.PS L2.PSs
variable {P:Program}{w:World}{K:yZP}{mg:Str->Option Value}{base:Heap}
theorem xVi {n:Int}{B:Nat}(h0:0<=n)(h:n<(B:Int)):n.natAbs<B:=by omega
theorem big (n:Int)(h0:0<=n)(h:n<10 ^ 200):n.natAbs<2 ^ 1000:=xVi h0 (Int.lt_of_lt_of_le h (by wtm_at"d"))
theorem xS {K:yZP}{a:Addr}{xs:List V}{g:TG}{tb:TS}{D:Ends}{σ:St}{H:Hp}(Pv:Nat->St->Hp->Prop)(h0:Pv 0 σ H)(hl:∀i σ H,i<=xs.length->Pv i σ H->SqL K H a xs)
  (hs:∀(N:St->Hp->Prop) (rt:VK) (bk:St->Hp->Prop) i x σ H,xs[i]? = some x->Pv i σ H->(∀σ H,Pv (i+1) σ H->N σ H)->g x σ H fun σ2 H2=>tb ⟨N,rt,bk,N⟩ σ2 H2) (hd:∀σ H,Pv xs.length σ H->D.nx σ H):
  ∃W:Nat->Nat->St->Hp->Prop,(∃m,W 0 m σ H)/\∀i m σ H,W i m σ H->
   ((Itl K a).stop i H/\D.nx σ H)\/((Itl K a).go i H/\∃N:St->Hp->Prop,(∀σ' H',N σ' H'->∃m',m'<m/\W (i+1) m' σ' H')/\∀x H',(Itl K a).yld i H x H'->g x σ H' fun σ2 H2=>tb { D with nx:=N,ct:=N,bk:=D.nx } σ2 H2):=
 jK Pv h0 hl (fun i x σ H e p=>hs _ _ _ i x σ H e p fun _ _ z=>z) hd
theorem vA {lo:Int}{n:Nat}{g:TG}{tb:TS}{D:Ends}{σ:St}{H:Hp}(Pv:Nat->St->Hp->Prop)(h0:Pv 0 σ H)
  (hs:∀(N:St->Hp->Prop) (rt:VK) (bk:St->Hp->Prop) i σ H,i<n->Pv i σ H->(∀σ H,Pv (i+1) σ H->N σ H)->g (.int (lo+i)) σ H fun σ2 H2=>tb ⟨N,rt,bk,N⟩ σ2 H2) (hd:∀σ H,Pv n σ H->D.nx σ H):
  ∃W:Nat->Nat->St->Hp->Prop,(∃m,W 0 m σ H)/\∀i m σ H,W i m σ H->
   ((Itr lo n).stop i H/\D.nx σ H)\/((Itr lo n).go i H/\∃N:St->Hp->Prop,(∀σ' H',N σ' H'->∃m',m'<m/\W (i+1) m' σ' H')/\∀x H',(Itr lo n).yld i H x H'->g x σ H' fun σ2 H2=>tb { D with nx:=N,ct:=N,bk:=D.nx } σ2 H2):=
 qOx Pv h0 (fun i σ H e p=>hs _ _ _ i σ H e p fun _ _ z=>z) hd
theorem laid {H H':Hp}{p:Addr}{o:HO}(n:H p=none)(h:upd H p o=H'):Same H H'/\H' p=some o:=by
 subst h
 exact⟨qV n o,qW⟩
theorem ll0:0<=sizeLine:=by decide
theorem ll1:1<=sizeLine:=by decide
theorem ll2:2<=sizeLine:=by decide
theorem ll3:3<=sizeLine:=by decide
theorem ll4:4<=sizeLine:=by decide
theorem ll5:5<=sizeLine:=by decide
theorem ll6:6<=sizeLine:=by decide
def cwords:List Str:=["not","and","yes"]
def BoxIn (H:Hp)(b:Str×Int)(u:V):Prop:=∃a,u=.ref a/\H a=some (.tup [.str b.1,.int b.2])
structure Named (ws:List Str):Prop where
 nd:ws.Nodup
 no:∀x∈ws,x∉cwords
theorem BoxIn.mono {H H':Hp}(h:Tups H H'){b:Str×Int}{u:V}(x:BoxIn H b u):BoxIn H' b u:=let ⟨a,e,q⟩:=x;⟨a,e,h _ _ q⟩
theorem xK {H H':Hp}(h:Tups H H'){bs:List (Str×Int)}{us:List V}(p:Paired (BoxIn H) bs us):Paired (BoxIn H') bs us:=Paired.mapP p fun _ _ x=>x.mono h
def Expr' (ws:List Str):Th->Prop
 | .num n=>0<=n/\n<10
 | .box x=>x∈ws
 | .nul _=>False
 | .un _ _=>False
 | .bin k a b=>(k = "plus" \/ k = "less")/\Expr' ws a/\Expr' ws b
theorem qBa:Th.Op "plus" := ⟨by wtm_at"d",by wtm_at"d"⟩
theorem qBb:Th.Op "less" := ⟨by wtm_at"d",by wtm_at"d"⟩
theorem Expr'.ok {ws:List Str}:∀{t:Th},Expr' ws t->t.Ok
 | .num _,_=>trivial
 | .box _,_=>trivial
 | .nul _,h=>h.elim
 | .un _ _,h=>h.elim
 | .bin k a b,⟨h,ha,hb⟩=>⟨by rcases h with rfl | rfl;exact qBa;exact qBb,Expr'.ok ha,Expr'.ok hb⟩
def Cond' (ws:List Str):Th->Prop
 | .num _=>False
 | .box _=>False
 | .nul k=>k = "yes"
 | .un k a=>k = "not" /\ Cond' ws a
 | .bin k a b=>((k = "same" \/ k = "under")/\Expr' ws a/\Expr' ws b)\/(k = "both" /\ Cond' ws a/\Cond' ws b)
theorem xZi:Th.Op "same" := ⟨by wtm_at"d",by wtm_at"d"⟩
theorem qSm:Th.Op "under" := ⟨by wtm_at"d",by wtm_at"d"⟩
theorem xZo:Th.Op "both" := ⟨by wtm_at"d",by wtm_at"d"⟩
theorem xVw:Th.Op "not" := ⟨by wtm_at"d",by wtm_at"d"⟩
theorem xVk:Th.Op "yes" := ⟨by wtm_at"d",by wtm_at"d"⟩
theorem Cond'.ok {ws:List Str}:∀{t:Th},Cond' ws t->t.Ok
 | .num _,h=>h.elim
 | .box _,h=>h.elim
 | .nul k,h=>by cases(show k = "yes" from h);exact xVk
 | .un k a,⟨h,ha⟩=>⟨by cases h;exact xVw,Cond'.ok ha⟩
 | .bin k a b,h=>by
  rcases h with⟨h,ha,hb⟩ | ⟨h,ha,hb⟩
  .exact⟨by rcases h with rfl | rfl;exact xZi;exact qSm,ha.ok,hb.ok⟩
  .exact⟨by cases h;exact xZo,Cond'.ok ha,Cond'.ok hb⟩
structure Dq (H:Hp)(dk na:Addr):Prop where
 ex:∃(ms:List Int) (d:Int),H dk=some (.lst [.ref na,.int d])/\H na=some (.lst (intsV ms))
def Bq (dk na:Addr)(H H':Hp):Prop:=∀b o,b≠dk->b≠na->H b=some o->H' b=some o
section
variable {H H' H2:Hp}{dk na:Addr}
theorem Dq.ne (D:Dq H dk na):dk≠na:=fun e=>by
 obtain⟨ms,d,h1,h2⟩:=D.ex
 subst e
 rw[h1] at h2
 have h3:[V.ref dk,.int d]=intsV ms:=HO.lst.inj (Option.some.inj h2)
 cases ms with
 | nil=>cases h3
 | cons m ms=>
  have:V.ref dk=V.int m:=(List.cons.inj h3).1
  cases this
theorem Dq.same (D:Dq H dk na)(s:Same H H'):Dq H' dk na:=let ⟨ms,d,h1,h2⟩:=D.ex;⟨ms,d,s _ _ h1,s _ _ h2⟩
theorem Bq.refl:Bq dk na H H:=fun _ _ _ _ e=>e
theorem Bq.trans (a:Bq dk na H H')(b:Bq dk na H' H2):Bq dk na H H2:=fun c o n1 n2 e=>b c o n1 n2 (a c o n1 n2 e)
theorem Bq.of (s:Same H H'):Bq dk na H H':=fun _ _ _ _ e=>s _ _ e
theorem Bq.tups (b:Bq dk na H H')(D:Dq H dk na):Tups H H':=fun c xs e=>by
 obtain⟨ms,d,h1,h2⟩:=D.ex
 exact b _ _ (jU e h1 (by intro z;cases z)) (jU e h2 (by intro z;cases z)) e
end
theorem qXc:xH ["deck","many","taken"] ["deck","many"] (xB (top 55)):=by constructor <;> first | rfl | wtm_at"d"
def spTake:Sp:=fun vs H Q _=>∃(dk na:Addr) (m:Int),vs=[.ref dk,.int m]/\Dq H dk na/\0<m/\m.natAbs<2 ^ 1000/\∀(x:Int) (H':Hp),0<=x->x<m->Bq dk na H H'->Dq H' dk na->Q (.int x) H'
theorem xJo (F:Fd K mg "_law_take" (top 55) ["deck","many"]):Dn P w K mg base "_law_take" 1 ["deck","many"] spTake:=by
 refine F.ok qXc (fun vs H Q E h=>?_) (fun f zy A outer s H vs Q E hr h=>?_)
 .obtain⟨_,_,_,rfl,_⟩:=h
  rfl
 obtain⟨dk,na,m,rfl,D,h0,h1,q⟩:=h
 refine⟨_,(qK (zG (PW.pt (xKl (qS jM (xF (qU (K:=K)) (pv 0) qF) qF (xE _)) (xZj (qS (qMg (K:=K) hr.units) (xF (qU (K:=K)) (pv 0) qF) (xO qX) (xE _))))) (qJ (qP (qMd (K:=K) PySem.F.plainAttrs_list PySem.F.slot_list_pop PySem.F.type_list_pop xVl (xF (qU (K:=K)) (pv 0) qF)) (xQa (pv 0) qF qDi))) qY)
  (qZ (xG (i:=2) qXc.nd rfl (xX qJa (xF (qU (K:=K)) (pv 0) qF) (pv 1)))
  (qZ (qP (xX qSn (xF (qU (K:=K)) (pv 0) qF) (pv 1)) (xQa (pv 0) qF qDi))
  (qJ (qO (pv 2)))))),?_⟩
 refine⟨fun σ' H'=>σ'=[some (.ref dk),some (.int m),none]/\Bq dk na H H'/\Dq H' dk na,?_,?_⟩
 .obtain⟨ms,d,e1,e2⟩:=D.ex
  wtm_at"z"
  refine ite2 (fun c=>?_) (fun c=>?_)
  .wtm_at"z"
   refine⟨ll0,fun l hl=>?_⟩
   have f1:=qV hl (.lst []) _ _ e1
   have f2:=qV hl (.lst []) _ _ e2
   have S1:Same H (upd H l (.lst [])):=qV hl _
   refine⟨na,l,_,rfl,rfl,SqL.of f2,SqL.of qW,w_bl ?_⟩
   generalize upd H l (.lst [])=H1 at f1 f2 S1
   cases ms with
   | nil=>
    refine iteF ?_
    exact⟨rfl,Bq.of S1,⟨[],d,f1,f2⟩⟩
   | cons m0 ms0=>
    refine iteT ?_
    obtain⟨y,ey⟩:∃y:Int,(intsV (m0::ms0))[(intsV (m0::ms0)).length - 1]? = some (.int y):=by
     have hl:(m0::ms0).length - 1<(m0::ms0).length:=Nat.sub_lt (Nat.succ_pos _) Nat.one_pos
     exact⟨(m0::ms0)[(m0::ms0).length - 1],by rw[zS,yYO,yYA hl];rfl⟩
    have ed:(intsV (m0::ms0)).dropLast=intsV (m0::ms0).dropLast:=(List.map_dropLast ..).symm
    have nn:=D.ne
    wtm_at"z"
    refine⟨.inl ⟨rfl,_,SqL.of f2⟩,na,_,_,rfl,rfl,f2,ey,?_⟩
    rw[ed]
    have g1:upd H1 na (.lst (intsV (m0::ms0).dropLast)) dk=some (.lst [.ref na,.int d]):=by rw[qA nn];exact f1
    refine⟨_,rfl,dk,[.ref na,.int d],1,1,rfl,rfl,g1,rfl,?_⟩
    refine⟨rfl,fun b o n1 n2 e=>?_,⟨(m0::ms0).dropLast,y,qW,?_⟩⟩
    .rw[qA n1,qA n2];exact S1 _ _ e
    .rw[qA (Ne.symm nn)];exact qW
  .wtm_at"z"
   exact⟨rfl,Bq.refl,D⟩
 .rintro σ' H' ⟨rfl,B1,D1⟩
  obtain⟨ms,d,e1,e2⟩:=D1.ex
  have nn:=D1.ne
  wtm_at"z"
  refine w_I h0 ?_
  wtm_at"z"
  refine w_I ⟨h0,h1⟩ ?_
  refine⟨_,rfl,dk,[.ref na,.int d],1,1,rfl,rfl,e1,rfl,?_⟩
  wtm_at"z"
  refine q _ _ (Int.emod_nonneg _ (by omega)) (Int.emod_lt_of_pos _ h0) (B1.trans fun b o n1 _ e=>?_) ⟨ms,_,qW,?_⟩
  .rw[qA n1];exact e
  .rw[qA (Ne.symm nn)];exact e2
theorem zC:xH ["script","numbers","k","cell","number","turn","one"] ["script"] (xB (top 54)):=by constructor <;> first | rfl | wtm_at"d"
def spDeck (K:yZP):Sp:=fun vs H Q _=>∃(a:Addr) (ns:List Int),vs=[.ref a]/\SqL K H a (ns.map V.int)/\ns.length<=63/\∀(dk na:Addr) (H':Hp),Same H H'->H dk=none->H na=none->Dq H' dk na->Q (.ref dk) H'
theorem grow {n x:Int}{k:Nat}(h0:0<=n)(h1:n<10 ^ (18+19 * k))(x0:0<=x)(x1:x<2305843009213693951):0<=n * 2305843009213693951+x/\n * 2305843009213693951+x<10 ^ (18+19 * (k+1)):=by
 have e:(10:Int) ^ (18+19 * (k+1))=10 ^ (18+19 * k) * 10 ^ 19:=by rw[<- Int.pow_add];congr 1
 have e2:(10:Int) ^ 19=10000000000000000000:=by wtm_at"d"
 rw[e,e2]
 generalize (10:Int) ^ (18+19 * k)=z at *
 omega
theorem qTg {n:Int}{k:Nat}(hk:k<=5)(h0:0<=n)(h1:n<10 ^ (18+19 * k)):n.natAbs<2 ^ 1000:=
 big _ h0 (Int.lt_of_lt_of_le h1 (by
  have:k=0\/k=1\/k=2\/k=3\/k=4\/k=5:=by omega
  rcases this with rfl | rfl | rfl | rfl | rfl | rfl <;> wtm_at"d"))
theorem cutI (ns:List Int)(lo hi:Option Int):∀x∈cutV (ns.map V.int) lo hi,∃c:Int,x=.int c:=fun x hx=>by
 obtain⟨c,_,e⟩:=yYP.mp (List.mem_of_mem_drop (List.mem_of_mem_take hx))
 exact⟨c,e.symm⟩
theorem qHd {Q:VK}{H:Hp}{i:Int}(q:∀o:Int,0<=o->o<2305843009213693951->Q (.int o) H):rI (fun _ j=>0<j) (fun i j=>.int (i % j)) (.int i) (.int 2305843009213693951) H Q:=
 w_I (by decide) (q _ (Int.emod_nonneg _ (by decide)) (Int.emod_lt_of_pos _ (by decide)))
theorem xKx {σ:St}{H:Hp}{W:It->Hp->Prop}{ts:TA}(q:ts σ H fun vs H1=>∃l xs,vs=[.ref l]/\SqL K H1 l xs/\W (Ite K l) H1):iEnum K ts σ H W:=q
theorem xYx (F:Fd K mg "_law_deck" (top 54) ["script"])(B:Bl mg)(kg:mg "enumerate" = none)(Jb:mg "abs" = none):Dn P w K mg base "_law_deck" 1 ["script"] (spDeck K):=by
 refine F.ok zC (fun vs H Q E h=>?_) (fun f zy A outer s H vs Q E hr h=>?_)
 .obtain⟨_,_,rfl,_⟩:=h
  rfl
 obtain⟨a,ns,rfl,hS,h63,q⟩:=h
 have pw:∀i j:Int,0<=j->j<=1000->i.natAbs<2 ^ 64->CPow i j:=fun i j x y z=>⟨x,by omega,z⟩
 refine⟨_,(qZ (xG (i:=1) zC.nd rfl (xO qX))
  (qZ (xT PassesOwn.never rfl (qSe (K:=K) rfl kg (qQ (qYo (qDh (K:=K)) (pv 0) qBz (qBx qF)) qX)) (zH (K:=K) (n:=2) rfl (qI (qH (i:=2) zC.nd rfl (by wtm_at "zo")) (qI (qH (i:=3) zC.nd rfl (by wtm_at "zo")) qM))) (qZ (xG (i:=4) zC.nd rfl (xJ qUl rfl Jb xWl (qQ (pv 3) qX)))
  (qK (zG (qS qFc (pv 4) (xX xVv qF qF) (xE _)) (qJ (xT PassesOwn.never rfl (yM rfl B.range' (qQ qF qX)) (qH (i:=5) zC.nd rfl (by wtm_at "zo")) (qZ (xG (i:=6) zC.nd rfl (xX qJa (xX qQj (xX qQj (xX qQj (pv 4) (xX qKq qF (pv 2))) (pv 5)) qF) qF))
  (qZ (xG (i:=6) zC.nd rfl (xX qJa (xX qKq (pv 6) (pv 6)) qF))
  (qJ (xG (i:=4) zC.nd rfl (xX qQj (xX qKq (pv 4) qF) (xX qJa (xX qKq (pv 6) qF) qF)))))))) qY)
  (qJ (qR (yN (K:=K) PySem.F.plainAttrs_list PySem.F.slot_list_append PySem.F.type_list_append zR (pv 1) (qQ (pv 4) qX)))))))
  (qZ (qR (qMd (K:=K) PySem.F.plainAttrs_list PySem.F.slot_list_reverse PySem.F.type_list_reverse qFe (pv 1)))
  (qJ (qO (xO (qQ (pv 1) (qQ qF qX)))))))),?_⟩
 wtm_at"z"
 refine⟨ll0,fun nm hnm=>?_⟩
 wtm_at "zf"
 refine xKx ?_
 wtm_at"z"
 refine⟨a,_,rfl,(qV hnm _).seq hS,fun sl hsl=>?_⟩
 have nsl:sl≠nm:=Ne.symm (qB qW hsl)
 have cl:=vS (ns.map V.int) none (some 63)
 rw[yYC] at cl
 have ci:=cutI ns none (some 63)
 generalize cutV (ns.map V.int) none (some 63)=cs at cl ci
 have S0:Same H (upd (upd H nm (.lst [])) sl (.lst cs)):=(qV hnm _).trans (qV hsl _)
 wtm_at"z"
 refine⟨sl,cs,rfl,SqL.of qW,?_⟩
 refine qTl (xs:=cs) (fun i σ' H'=>∃(xs:List Int) (z2 z3 z4 z5 z6:Option V),σ'=[some (.ref a),some (.ref nm),z2,z3,z4,z5,z6]/\Same H H'/\H' nm=some (.lst (intsV xs))/\xs.length=i/\H' sl=some (.lst cs))
  ⟨[],none,none,none,none,none,rfl,S0,qV hsl _ _ _ qW,rfl,qW⟩ (fun i σ' H' _ hP=>?_) (fun N rt bk i x T σ' H' ex hT hP hN=>?_) (fun σ' H' hP=>?_)
 .obtain⟨xs,z2,z3,z4,z5,z6,rfl,_,_,_,esl⟩:=hP
  exact SqL.of esl
 .obtain⟨xs,z2,z3,z4,z5,z6,rfl,S1,enm,lx,esl⟩:=hP
  obtain⟨c,rfl⟩:=ci x (yYE ex)
  have i63:i<63:=by have:=(yYB.mp ex).1;omega
  wtm_at"z"
  refine⟨c,rfl,?_⟩
  have n0:0<=(if c<0 then -c else c):=by split <;> omega
  generalize (if c<0 then -c else c)=n at n0
  have S2:Same H' (upd H' T (.tup [.int (i:Int),.int c])):=qV hT _
  generalize upd H' T (.tup [.int (i:Int),.int c])=H1 at S2
  wtm_at"z"
  refine⟨fun σ'' H''=>∃(n':Int) (z5 z6:Option V),σ''=[some (.ref a),some (.ref nm),some (.int (i:Int)),some (.int c),some (.int n'),z5,z6]/\H''=H1,?_,?_⟩
  .wtm_at"z"
   refine w_I (pw 10 18 (by decide) (by decide) (by decide)) ?_
   wtm_at"z"
   refine ite2 (fun c'=>?_) (fun c'=>?_)
   .have n1:n<10 ^ (18+19 * 0):=of_decide_eq_true c'
    wtm_at "zf"
    refine xKq (by decide) (by decide) ?_
    refine vA (fun j σ'' H''=>∃(n':Int) (z5 z6:Option V),σ''=[some (.ref a),some (.ref nm),some (.int (i:Int)),some (.int c),some (.int n'),z5,z6]/\H''=H1/\0<=n'/\n'<10 ^ (18+19 * j))
     ⟨n,_,_,rfl,rfl,n0,n1⟩ (fun N2 rt2 bk2 j σ'' H'' hj hP hN2=>?_) (fun σ'' H'' hP=>?_)
    .obtain⟨n',z5,z6,rfl,rfl,m0,m1⟩:=hP
     have hj6:j<6:=hj
     wtm_at"z"
     refine w_I ⟨by wtm_at"d",big _ (by omega) (Int.lt_of_lt_of_le (b:=100) (by omega) (by wtm_at"d"))⟩ ?_
     wtm_at"z"
     refine qHd fun o1 a1 b1=>?_
     have bo1:o1.natAbs<2 ^ 1000:=big _ a1 (Int.lt_trans b1 (by wtm_at"d"))
     wtm_at"z"
     refine w_I ⟨bo1,bo1⟩ ?_
     wtm_at"z"
     refine qHd fun o2 a2 b2=>?_
     wtm_at"z"
     refine w_I ⟨qTg (by omega) m0 m1,by wtm_at"d"⟩ ?_
     wtm_at"z"
     refine w_I ⟨big _ a2 (Int.lt_trans b2 (by wtm_at"d")),by wtm_at"d"⟩ ?_
     wtm_at"z"
     refine qHd fun o3 a3 b3=>?_
     have g:=grow m0 m1 a3 b3
     wtm_at"z"
     exact hN2 _ _ ⟨_,_,_,rfl,rfl,g.1,g.2⟩
    .obtain⟨n',z5,z6,rfl,rfl,m0,m1⟩:=hP
     wtm_at"z"
     exact⟨n',_,_,rfl,rfl⟩
   .wtm_at"z"
    exact⟨n,_,_,rfl,rfl⟩
  .rintro σ'' H'' ⟨n',z5,z6,rfl,rfl⟩
   have enm2:=S2 _ _ enm
   wtm_at"z"
   refine⟨.inl ⟨rfl,_,SqL.of enm2⟩,?_⟩
   wtm_at"z"
   refine⟨nm,_,_,rfl,rfl,enm2,by rw[zS];exact small (by omega),?_⟩
   refine hN _ _ ⟨xs++[n'],_,_,_,_,_,rfl,fun b o e=>?_,by rw[qW,qQz],by rw[yYI,lx];rfl,?_⟩
   .rw[qA (qB e hnm)];exact S2 _ _ (S1 _ _ e)
   .rw[qA nsl];exact S2 _ _ esl
 .obtain⟨xs,z2,z3,z4,z5,z6,rfl,S1,enm,lx,esl⟩:=hP
  wtm_at"z"
  refine⟨.inl ⟨rfl,_,SqL.of enm⟩,nm,_,rfl,rfl,enm,?_⟩
  have er:(intsV xs).reverse=intsV xs.reverse:=(List.map_reverse ..).symm
  rw[er]
  wtm_at"z"
  refine⟨ll2,fun dk hdk=>?_⟩
  have nd:dk≠nm:=Ne.symm (qB qW hdk)
  have hH:H dk=none:=by
   cases e:H dk with
   | none=>rfl
   | some o=>
    have z:=S1 _ _ e
    rw[qA nd,z] at hdk
    cases hdk
  refine q dk nm _ (fun b o e=>?_) hH hnm ⟨xs.reverse,0,qW,?_⟩
  .rw[qA (qB e hH),qA (qB e hnm)];exact S1 _ _ e
  .rw[qA (Ne.symm nd)];exact qW
def Th.worth (ρ:Str->Int):Th->Int
 | .num n=>n
 | .box x=>ρ x
 | .nul _=>0
 | .un _ _=>0
 | .bin k a b=>if k = "plus" then a.worth ρ+b.worth ρ else a.worth ρ - b.worth ρ
def Env' (kvs:List (Key×V))(ws:List Str)(ρ:Str->Int):Prop:=∀x∈ws,valV kvs (Sum.inr x)=some (.int (ρ x))/\0<=ρ x/\ρ x<10
theorem yS:xH ["expression","values","kind","one","other"] ["expression","values"] (xB (top 6)):=by constructor <;> first | rfl | wtm_at"d"
def jI (n:Nat):Sp:=fun vs H Q _=>∃(t:Th) (v:V) (d:Addr) (kvs:List (Key×V)) (ws:List Str) (ρ:Str->Int),vs=[v,.ref d]/\t.At H v/\Expr' ws t/\t.dep<=n/\H d=some (.dK kvs)/\Env' kvs ws ρ/\Q (.int (t.worth ρ)) H
theorem qWv {f:Addr}{fd:FuncData}:FnOk P w K mg base CX0 1 f fd ["expression","values"] (jI 0):=by
 have no:∀vs H Q E,¬jI 0 vs H Q E:=fun vs H Q E h=>by
  obtain⟨t,_,_,_,_,_,_,_,_,h1,_⟩:=h
  have:=t.dep_pos
  omega
 exact⟨fun vs H Q E h=>absurd h (no vs H Q E),fun A outer s H args us vs Q E _ _ _ _ h=>absurd h (no vs H Q E)⟩
theorem qWk {n:Nat}{f:Addr}{fd:FuncData}(F:Fun K "worth_by" "worth_by" (top 6) f fd)(uA:FnOk P w K mg base CX0 (n+1) f fd ["expression","values"] (jI n))(jg:FunE K mg "worth_by" f fd ["expression","values"]):
  FnOk P w K mg base CX0 (n+2) f fd ["expression","values"] (jI (n+1)):=by
 refine F.ok yS (fun vs H Q E h=>?_) (fun zy A outer s H vs Q E hr h=>?_)
 .obtain⟨_,_,_,_,_,_,rfl,_⟩:=h
  rfl
 obtain⟨t,v,d,kvs,ws,ρ,rfl,at',ex,hn,hd,env,q⟩:=h
 have hu:=qWh hr
 refine⟨_,(qZ (xG (i:=2) yS.nd rfl (xF (qT (K:=K)) (pv 0) qF))
  (qZ (zG (qS jM (pv 2) qG (xE _)) (qJ (qO (xF (qT (K:=K)) (pv 0) qF))) qY)
  (qZ (zG (qS jM (pv 2) qG (xE _)) (qJ (qO (wU hu (pv 1) (xF (qT (K:=K)) (pv 0) qF) (fun _ _=>rfl)))) qY)
  (qZ (xG (i:=3) yS.nd rfl (qXh uA hr rfl jg.mg jg.kp jg.bd .nil pass0 (qQ (xF (qT (K:=K)) (pv 0) qF) (qQ (pv 1) qX))))
  (qZ (xG (i:=4) yS.nd rfl (qXh uA hr rfl jg.mg jg.kp jg.bd .nil pass0 (qQ (xF (qT (K:=K)) (pv 0) qF) (qQ (pv 1) qX))))
  (qJ (qO (qDo (qS jM (pv 2) qG (xE _)) (xX qQj (pv 3) (pv 4)) (xX xQe (pv 3) (pv 4)))))))))),?_⟩
 cases t with
 | nul _=>exact False.elim ex
 | un _ _=>exact False.elim ex
 | num n=>
  obtain⟨a,ev,ea⟩:=at'
  subst ev
  refine⟨_,rfl,a,_,0,.str "number",rfl,rfl,SqT.of ea,rfl,?_⟩
  refine⟨_,rfl,rfl,_,rfl,?_⟩
  rw[jZ]
  refine iteT ?_
  exact⟨_,rfl,a,_,1,.int n,rfl,rfl,SqT.of ea,rfl,q⟩
 | box x=>
  obtain⟨a,ev,ea⟩:=at'
  subst ev
  refine⟨_,rfl,a,_,0,.str "box",rfl,rfl,SqT.of ea,rfl,?_⟩
  refine⟨_,rfl,rfl,_,rfl,?_⟩
  rw[xW (Ne.symm xVh)]
  refine iteF ?_
  refine⟨_,rfl,rfl,_,rfl,?_⟩
  rw[jZ]
  refine iteT ?_
  refine⟨_,rfl,_,rfl,a,_,1,.str x,rfl,rfl,SqT.of ea,rfl,d,.int (ρ x),rfl,?_,q⟩
  rw[<- (env x ex).1]
  exact DGet.k (k:=Sum.inr x) hd
 | bin k t1 t2=>
  obtain⟨a,u1,u2,ev,ea,a1,a2⟩:=at'
  obtain⟨hk,x1,x2⟩:=ex
  subst ev
  have hn':max t1.dep t2.dep+1<=n+1:=hn
  have k1:k ≠ "number" := by rcases hk with rfl | rfl;exact qBa.2;exact qBb.2
  have k2:k ≠ "box" := by rcases hk with rfl | rfl;exact qBa.1;exact qBb.1
  refine⟨_,rfl,a,_,0,.str k,rfl,rfl,SqT.of ea,rfl,?_⟩
  refine⟨_,rfl,rfl,_,rfl,?_⟩
  rw[xW k1]
  refine iteF ?_
  refine⟨_,rfl,rfl,_,rfl,?_⟩
  rw[xW k2]
  refine iteF ?_
  refine⟨_,rfl,a,_,1,u1,rfl,rfl,SqT.of ea,rfl,_,rfl,t1,u1,d,kvs,ws,ρ,rfl,a1,x1,by omega,hd,env,?_⟩
  refine⟨_,rfl,a,_,2,u2,rfl,rfl,SqT.of ea,rfl,_,rfl,t2,u2,d,kvs,ws,ρ,rfl,a2,x2,by omega,hd,env,?_⟩
  refine⟨_,rfl,rfl,_,rfl,?_⟩
  have q':Q (.int (if k = "plus" then t1.worth ρ+t2.worth ρ else t1.worth ρ - t2.worth ρ)) H:=q
  refine ite2 (fun c=>?_) (fun c=>?_)
  .have c':k = "plus" := by
    have z:=of_decide_eq_true c
    cases z
    rfl
   rw[if_pos c'] at q'
   exact⟨_,rfl,_,rfl,_,_,rfl,rfl,q'⟩
  .have c':k ≠ "plus" := fun z=>c (by rw[z,jZ])
   rw[if_neg c'] at q'
   exact⟨_,rfl,_,rfl,_,_,rfl,rfl,q'⟩
theorem qXm {f:Addr}{fd:FuncData}(F:Fun K "worth_by" "worth_by" (top 6) f fd)(jg:FunE K mg "worth_by" f fd ["expression","values"]):∀n:Nat,FnOk P w K mg base CX0 (n+1) f fd ["expression","values"] (jI n)
 | 0=>qWv
 | n+1=>qWk F (qXm F jg n) jg
theorem qJc {x:Str}:∀(kvs:List (Str×V)) (acc:List (Key×V)),((valV acc (Sum.inr x)).isSome=true\/x∈kvs.map (·.1))->(valV (mergeK acc (pairK kvs)) (Sum.inr x)).isSome=true
 | [],acc,h=>by rcases h with h | h;exact h;cases h
 | (n,v)::kvs,acc,h=>by
  show(valV (mergeK (putK acc (Sum.inr n) v) (pairK kvs)) (Sum.inr x)).isSome=true
  refine qJc kvs _ ?_
  rw[vJ]
  by_cases e:x=n
  .left;subst e;rw[if_pos rfl];rfl
  .rw[if_neg (fun z=>e (Sum.inr.inj z))]
   rcases h with h | h
   .exact .inl h
   .rcases yYK.mp h with h | h
    .exact absurd h e
    .exact .inr h
theorem qWb {Pr:V->Prop}:∀(kvs:List (Str×V)) (acc:List (Key×V)),(∀kv∈kvs,Pr kv.2)->(∀k v,valV acc k=some v->Pr v)->∀k v,valV (mergeK acc (pairK kvs)) k=some v->Pr v
 | [],acc,_,h=>h
 | (n,v)::kvs,acc,hk,h=>by
  show∀k v',valV (mergeK (putK acc (Sum.inr n) v) (pairK kvs)) k=some v'->Pr v'
  refine qWb kvs _ (fun kv hkv=>hk kv (yYH _ hkv)) fun k v' e=>?_
  rw[vJ] at e
  by_cases c:k=Sum.inr n
  .rw[if_pos c] at e;cases e;exact hk (n,v) yYG
  .rw[if_neg c] at e;exact h k v' e
def envOf (kvs:List (Key×V))(x:Str):Int:=match valV kvs (Sum.inr x) with
 | some (.int i)=>i
 | _=>0
abbrev kvsOf (bs:List (Str×Int))(vals:List Int):List (Key×V):=mergeK [] (zipK (bs.map (·.1)) (intsV vals))
def Stands (bs:List (Str×Int))(vals:List Int):Prop:=vals.length=bs.length/\∀v∈vals,0<=v/\v<10
theorem qOk {bs:List (Str×Int)}{vals:List Int}(h:Stands bs vals):Env' (kvsOf bs vals) (bs.map (·.1)) (envOf (kvsOf bs vals)):=fun x hx=>by
 have s1:(valV (kvsOf bs vals) (Sum.inr x)).isSome=true:=qJc (x:=x) ((bs.map (fun b:Str×Int=>b.1)).zip (intsV vals)) [] (.inr (by
  rw[List.map_fst_zip]
  .exact hx
  .rw[yYC,zS,h.1];exact yZD _))
 have s2:=qWb (Pr:=fun v=>∃i:Int,v=.int i/\0<=i/\i<10) ((bs.map (fun b:Str×Int=>b.1)).zip (intsV vals)) [] (fun kv hkv=>by
  obtain⟨a,b⟩:=kv
  obtain⟨i,hi,e⟩:=yYP.mp (List.of_mem_zip hkv).2
  exact⟨i,e.symm,h.2 i hi⟩) (fun k v e=>by cases e) (Sum.inr x)
 cases e:valV (kvsOf bs vals) (Sum.inr x) with
 | none=>rw[e] at s1;cases s1
 | some v=>
  obtain⟨i,rfl,h0,h1⟩:=s2 v e
  have e2:envOf (kvsOf bs vals) x=i:=by unfold envOf;rw[e]
  rw[e2]
  exact⟨rfl,h0,h1⟩
theorem qJb {σ:St}{H:Hp}{Q:VK}{bx:Addr}{us:List V}{bs:List (Str×Int)}(e1:H bx=some (.lst us))(p1:Paired (BoxIn H) bs us)(hl:bs.length<=1000)
  (q:∀(D:Addr) (H':Hp),Same H H'->H' D=some (.lst (strsV (bs.map (·.1))))->Q (.ref D) H'):
  rdC 2 [] (gTup K 2 (gCons (gName 0) (gCons (gName 1) gNil))) tYes (tVar 0) (Itl K bx) σ H Q:=by
 have lb:us.length=bs.length:=p1.length.symm
 refine zZ (xs:=us) (fun D i ys H'=>ys=strsV ((bs.take i).map (·.1))/\∀b o,H b=some o->H' b=some o) (fun D hD=>⟨rfl,qV hD _⟩)
  (fun D i ys H' _ hP=>(show Same H H' from hP.2).seq (SqL.of e1)) (fun D i x ys H' N hD hDy ex hP hN=>?_) (fun wd ys H2 hD hDy hP=>?_)
 .obtain⟨rfl,hk⟩:=hP
  obtain⟨b,eb⟩:∃b,bs[i]? = some b:=⟨_,yYA (by rw[<- lb];exact(yYB.mp ex).1)⟩
  obtain⟨ba,rfl,hba⟩:=xV p1 eb ex
  refine⟨ba,_,rfl,SqT.of (hk _ _ hba),rfl,_,_,rfl,_,_,rfl,rfl,⟨[some (.str b.1),some (.int b.2)],rfl,rfl⟩,?_⟩
  refine⟨_,rfl,hDy,?_,hN _ _ qW ⟨?_,fun b o e=>?_⟩⟩
  .rw[xA,yYC,yYF];exact small (by omega)
  .rw[yYM,eb,yYW,jJ];rfl
  .rw[qA (qB e hD)];exact hk _ _ e
 obtain⟨rfl,hk2⟩:=hP
 rw[lb,yYJ] at hDy
 exact q wd H2 hk2 hDy
def Fits (bs:List (Str×Int))(vals:List Int):Prop:=vals.length=bs.length/\∀(i:Nat) b v,bs[i]? = some b->vals[i]? = some v->0<=v/\v<b.2
theorem Fits.stands {bs:List (Str×Int)}{vals:List Int}(f:Fits bs vals)(h25:∀b∈bs,2<=b.2/\b.2<=5):Stands bs vals:=⟨f.1,fun v hv=>by
 obtain⟨i,hi⟩:=List.mem_iff_getElem?.mp hv
 have hl:i<bs.length:=by rw[<- f.1];exact(yYB.mp hi).1
 have:=f.2 i _ v (yYA hl) hi
 have:=h25 _ (List.getElem_mem hl)
 omega⟩
theorem wP:xH ["boxes","standing"] ["boxes","standing"] (xB (top 5)):=by constructor <;> first | rfl | wtm_at"d"
theorem jF:CompOk (xB (top 5)) ["boxes","standing"] (qId (argOf (argOf (asgVal (stAt (xC (top 5)) 0)) 0) 0)) ["name","size"] 2 []:=
 by constructor <;> wtm_at"d"
structure World' (H:Hp)(bx st:Addr)(bs:List (Str×Int))(vals:List Int):Prop where
 boxes:∃us,H bx=some (.lst us)/\Paired (BoxIn H) bs us
 stand:H st=some (.tup (intsV vals))
 ok:Stands bs vals
 le:bs.length<=100
def qYa:Sp:=fun vs H Q _=>∃(bx st:Addr) (bs:List (Str×Int)) (vals:List Int),vs=[.ref bx,.ref st]/\World' H bx st bs vals/\
 ∀(p:Addr) (H':Hp),Same H H'->H' p=some (.dK (kvsOf bs vals))->Q (.ref p) H'
theorem qMl {f:Addr}{fd:FuncData}(F:Fun K "values_by_name" "values_by_name" (top 5) f fd)(B:Bl mg):FnOk P w K mg base CX0 1 f fd ["boxes","standing"] qYa:=by
 refine F.ok wP (fun vs H Q E h=>?_) (fun zy A outer s H vs Q E hr h=>?_)
 .obtain⟨_,_,_,_,rfl,_⟩:=h
  rfl
 obtain⟨bx,st,bs,vals,rfl,W,q⟩:=h
 obtain⟨us,e1,p1⟩:=W.boxes
 refine⟨_,qJ (qO (qBk rfl rfl B.dict' rfl B.zip' (qQ (zJ rfl jF (qMv (pv 0))
  (fun cl fp s H=>show PG _ _ (gTup K 2 (gCons (gName 0) (gCons (gName 1) gNil))) from xQw rfl (qI (qH (i:=0) jF.nd rfl (Or.inl rfl) (.inr rfl)) (qI (qH (i:=1) jF.nd rfl (Or.inl rfl) (.inr rfl)) qM)))
  (fun cl fp s H=>zF) (fun cl fp s H=>pv 0)) (qQ (pv 1) qX)))),?_⟩
 refine⟨_,rfl,bx,rfl,⟨us,SqL.of e1⟩,?_⟩
 refine zZ (xs:=us) (fun D i ys H'=>ys=strsV ((bs.take i).map (·.1))/\∀b o,H b=some o->H' b=some o) (fun D hD=>⟨rfl,qV hD _⟩)
  (fun D i ys H' _ hP=>(show Same H H' from hP.2).seq (SqL.of e1)) (fun D i x ys H' N hD hDy ex hP hN=>?_) (fun D ys H2 hD hDy hP=>?_)
 .obtain⟨rfl,hk⟩:=hP
  obtain⟨b,eb⟩:∃b,bs[i]? = some b:=⟨_,yYA (by rw[p1.length];exact(yYB.mp ex).1)⟩
  obtain⟨ba,rfl,hba⟩:=xV p1 eb ex
  refine⟨ba,_,rfl,SqT.of (hk _ _ hba),rfl,_,_,rfl,_,_,rfl,rfl,⟨[some (.str b.1),some (.int b.2)],rfl,rfl⟩,?_⟩
  have wle:=W.le
  refine⟨_,rfl,hDy,?_,hN _ _ qW ⟨?_,fun b o e=>?_⟩⟩
  .rw[xA,yYC,yYF];exact small (by omega)
  .rw[yYM,eb,yYW,jJ];rfl
  .rw[qA (qB e hD)];exact hk _ _ e
 obtain⟨rfl,hk2⟩:=hP
 have lb:us.length=bs.length:=p1.length.symm
 rw[lb,yYJ] at hDy
 have wle:=W.le
 refine⟨_,rfl,D,st,bs.map (·.1),intsV vals,rfl,SqL.of hDy,SqT.of (hk2 _ _ W.stand),?_,?_,fun p hp=>?_⟩
 .rw[yYC,zS,W.ok.1]
 .rw[yYC];omega
 .exact q p _ ((show Same H H2 from hk2).trans (qV hp _)) qW
def Th.truth (ρ:Str->Int):Th->Bool
 | .num _=>false
 | .box _=>false
 | .nul _=>true
 | .un _ a=>!a.truth ρ
 | .bin k a b=>if k = "both" then a.truth ρ && b.truth ρ else if k = "same" then decide (a.worth ρ=b.worth ρ) else decide (a.worth ρ<b.worth ρ)
theorem qFq {ρ:Str->Int}{a b:Th}:(Th.bin "both" a b).truth ρ=(a.truth ρ && b.truth ρ):=by
 show(if ("both" : Str) = "both" then _ else _)=_
 rw[if_pos rfl]
theorem xBq:("same" : Str) ≠ "both" := by wtm_at"d"
theorem xAo:("under" : Str) ≠ "both" := by wtm_at"d"
theorem xAn:("under" : Str) ≠ "same" := by wtm_at"d"
theorem qJj {ρ:Str->Int}{a b:Th}:(Th.bin "same" a b).truth ρ=decide (a.worth ρ=b.worth ρ):=by
 show(if ("same" : Str) = "both" then _ else if ("same" : Str) = "same" then _ else _)=_
 rw[if_neg xBq,if_pos rfl]
theorem qXx {ρ:Str->Int}{a b:Th}:(Th.bin "under" a b).truth ρ=decide (a.worth ρ<b.worth ρ):=by
 show(if ("under" : Str) = "both" then _ else if ("under" : Str) = "same" then _ else _)=_
 rw[if_neg xAo,if_neg xAn]
theorem yU:xH ["condition","values","kind","one","other"] ["condition","values"] (xB (top 7)):=by constructor <;> first | rfl | wtm_at"d"
def wX (n:Nat):Sp:=fun vs H Q _=>∃(t:Th) (v:V) (d:Addr) (kvs:List (Key×V)) (ws:List Str) (ρ:Str->Int),vs=[v,.ref d]/\t.At H v/\Cond' ws t/\t.dep<=n/\t.dep<=12/\H d=some (.dK kvs)/\Env' kvs ws ρ/\Q (.bl (t.truth ρ)) H
theorem qWo {n:Nat}(F:Fd K mg "holds_by" (top 7) ["condition","values"])(jv:Dn P w K mg base "holds_by" (n+13) ["condition","values"] (wX n))(jn:Dn P w K mg base "worth_by" 13 ["expression","values"] (jI 12)):
  Dn P w K mg base "holds_by" (n+14) ["condition","values"] (wX (n+1)):=by
 refine F.ok yU (fun vs H Q E h=>?_) (fun f zy A outer s H vs Q E hr h=>?_)
 .obtain⟨_,_,_,_,_,_,rfl,_⟩:=h
  rfl
 obtain⟨t,v,d,kvs,ws,ρ,rfl,at',cx,hn,h12,hd,env,q⟩:=h
 refine⟨_,(qZ (xG (i:=2) yU.nd rfl (xF (qT (K:=K)) (pv 0) qF))
  (qZ (zG (qS jM (pv 2) qG (xE _)) (qJ (qO qQh)) qY)
  (qZ (zG (qS jM (pv 2) qG (xE _)) (qJ (qO (qMa (qD jv hr (qQ (xF (qT (K:=K)) (pv 0) qF) (qQ (pv 1) qX)))))) qY)
  (qZ (zG (qS jM (pv 2) qG (xE _)) (qJ (qO (xQc (qD jv hr (qQ (xF (qT (K:=K)) (pv 0) qF) (qQ (pv 1) qX))) (xQb (qD jv hr (qQ (xF (qT (K:=K)) (pv 0) qF) (qQ (pv 1) qX))))))) qY)
  (qZ (xG (i:=3) yU.nd rfl (qD jn hr (qQ (xF (qT (K:=K)) (pv 0) qF) (qQ (pv 1) qX))))
  (qZ (xG (i:=4) yU.nd rfl (qD jn hr (qQ (xF (qT (K:=K)) (pv 0) qF) (qQ (pv 1) qX))))
  (qJ (qO (qDo (qS jM (pv 2) qG (xE _)) (kX jM (pv 3) (pv 4) (xE _)) (kX qFc (pv 3) (pv 4) (xE _))))))))))),?_⟩
 match t,at',cx,hn,h12,q with
 | .nul k,⟨a,ev,ea⟩,cx,hn,h12,q=>
  cases(show k = "yes" from cx)
  subst ev
  wtm_at"z"
  exact q
 | .un k t1,⟨a,u,ev,ea,a1⟩,⟨hk,c1⟩,hn,h12,q=>
  cases hk
  subst ev
  have hn':t1.dep+1<=n+1:=hn
  have h12':t1.dep+1<=12:=h12
  wtm_at"z"
  refine⟨t1,u,d,kvs,ws,ρ,rfl,a1,c1,by omega,by omega,hd,env,?_⟩
  wtm_at"z"
  exact q
 | .bin k t1 t2,⟨a,u1,u2,ev,ea,a1,a2⟩,cx,hn,h12,q=>
  subst ev
  have hn':max t1.dep t2.dep+1<=n+1:=hn
  have h12':max t1.dep t2.dep+1<=12:=h12
  rcases cx with⟨hk,x1,x2⟩ | ⟨hk,c1,c2⟩
  .have n1:k ≠ "yes" := by rcases hk with rfl | rfl <;> wtm_at"d"
   have n2:k ≠ "not" := by rcases hk with rfl | rfl <;> wtm_at"d"
   have n3:k ≠ "both" := by rcases hk with rfl | rfl <;> wtm_at"d"
   wtm_at"z"
   refine⟨t1,u1,d,kvs,ws,ρ,rfl,a1,x1,by omega,hd,env,?_⟩
   wtm_at"z"
   refine⟨t2,u2,d,kvs,ws,ρ,rfl,a2,x2,by omega,hd,env,?_⟩
   rcases hk with rfl | rfl
   .rw[qJj] at q
    wtm_at"z"
    have e:decide (V.int (t1.worth ρ)=V.int (t2.worth ρ))=decide (t1.worth ρ=t2.worth ρ):=decide_eq_decide.mpr ⟨fun z=>by injection z,fun z=>by rw[z]⟩
    rw[e]
    exact q
   .rw[qXx] at q
    wtm_at"z"
    exact q
  .cases hk
   rw[qFq] at q
   wtm_at"z"
   refine⟨t1,u1,d,kvs,ws,ρ,rfl,a1,c1,by omega,by omega,hd,env,?_⟩
   wtm_at"z"
   cases e1:t1.truth ρ with
   | false=>
    rw[e1,Bool.false_and] at q
    refine iteF ?_
    exact q
   | true=>
    rw[e1,Bool.true_and] at q
    refine iteT ?_
    wtm_at"z"
    exact⟨t2,u2,d,kvs,ws,ρ,rfl,a2,c2,by omega,by omega,hd,env,q⟩
theorem qZd (F:Fd K mg "holds_by" (top 7) ["condition","values"])(jn:Dn P w K mg base "worth_by" 13 ["expression","values"] (jI 12)):∀n:Nat,Dn P w K mg base "holds_by" (n+13) ["condition","values"] (wX n)
 | 0=>F.never fun vs H Q E h=>by
  obtain⟨t,_,_,_,_,_,_,_,_,h1,_⟩:=h
  have:=t.dep_pos
  omega
 | n+1=>qWo F (qZd F jn n) jn
theorem qRm:xH ["condition","boxes","standing"] ["condition","boxes","standing"] (xB (top 3)):=by constructor <;> first | rfl | wtm_at"d"
def qYd:Sp:=fun vs H Q _=>∃(t:Th) (v:V) (bx st:Addr) (bs:List (Str×Int)) (vals:List Int),vs=[v,.ref bx,.ref st]/\t.At H v/\Cond' (bs.map (·.1)) t/\t.dep<=12/\World' H bx st bs vals/\
 ∀H',Same H H'->Q (.bl (t.truth (envOf (kvsOf bs vals)))) H'
theorem qUb (F:Fd K mg "holds" (top 3) ["condition","boxes","standing"])(jv:Dn P w K mg base "holds_by" 25 ["condition","values"] (wX 12))(jr:Dn P w K mg base "values_by_name" 1 ["boxes","standing"] qYa):
  Dn P w K mg base "holds" 26 ["condition","boxes","standing"] qYd:=by
 refine F.ok qRm (fun vs H Q E h=>?_) (fun f zy A outer s H vs Q E hr h=>?_)
 .obtain⟨_,_,_,_,_,_,rfl,_⟩:=h
  rfl
 obtain⟨t,v,bx,st,bs,vals,rfl,at',cx,dp,W,q⟩:=h
 refine⟨_,(qJ (qO (qD jv hr (qQ (pv 0) (qQ (qD jr hr (qQ (pv 1) (qQ (pv 2) qX))) qX))))),?_⟩
 wtm_at"z"
 refine⟨bx,st,bs,vals,rfl,W,fun p H' S e=>?_⟩
 wtm_at"z"
 exact⟨t,v,p,_,_,_,rfl,at'.mono (qC S),cx,dp,dp,e,qOk W.ok,q H' S⟩
theorem vO:xH ["thing","names","part"] ["thing"] (xB (top 4)):=by constructor <;> first | rfl | wtm_at"d"
def wN (n:Nat):Sp:=fun vs H Q _=>∃(t:Th) (v:V),vs=[v]/\t.At H v/\t.Ok/\t.dep<=n/\t.dep<=12/\
 ∀(r:Addr) (H':Hp),H r=none->Same H H'->H' r=some (.lst (strsV t.names))->Q (.ref r) H'
theorem qMn {f:Addr}{fd:FuncData}:FnOk P w K mg base CX0 1 f fd ["thing"] (wN 0):=by
 have no:∀vs H Q E,¬wN 0 vs H Q E:=fun vs H Q E h=>by
  obtain⟨t,v,_,_,_,h1,_⟩:=h
  have:=t.dep_pos
  omega
 exact⟨fun vs H Q E h=>absurd h (no vs H Q E),fun A outer s H args us vs Q E _ _ _ _ h=>absurd h (no vs H Q E)⟩
theorem qMm {n:Nat}{f:Addr}{fd:FuncData}(F:Fun K "names_in" "names_in" (top 4) f fd)(Jc:FnOk P w K mg base CX0 (n+1) f fd ["thing"] (wN n))(jp:FunE K mg "names_in" f fd ["thing"]):
  FnOk P w K mg base CX0 (n+2) f fd ["thing"] (wN (n+1)):=by
 refine F.ok vO (fun vs H Q E h=>?_) (fun zy A outer s H vs Q E hr h=>?_)
 .obtain⟨_,_,rfl,_⟩:=h
  rfl
 obtain⟨t,v,rfl,at',ok,hn,h12,q⟩:=h
 refine⟨_,(qZ (zG (qS jM (xF (qT (K:=K)) (pv 0) qF) qG (xE _)) (qJ (qO (xO (qQ (xF (qT (K:=K)) (pv 0) qF) qX)))) qY)
  (qZ (xG (i:=1) vO.nd rfl (xO qX))
  (qZ (zG (qS xVb (xF (qT (K:=K)) (pv 0) qF) qG (xE _)) (qJ (xT PassesOwn.never rfl (xZb (K:=K) (qYo (xXg (K:=K)) (pv 0) (qBx qF) qBz)) (qH (i:=2) vO.nd rfl (by wtm_at "zo")) (qJ (qR (yN (K:=K) PySem.F.plainAttrs_list PySem.F.slot_list_extend PySem.F.type_list_extend qXo (pv 1) (qQ (qXh Jc hr rfl jp.mg jp.kp jp.bd .nil pass0 (qQ (pv 2) qX)) qX)))))) qY)
  (qJ (qO (pv 1)))))),?_⟩
 cases view at' ok with
 | box a x et ev ea=>
  subst et ev
  refine⟨_,rfl,a,_,0,.str "box",rfl,rfl,SqT.of ea,rfl,rfl,_,rfl,?_⟩
  rw[jZ]
  refine iteT ?_
  refine⟨_,rfl,a,_,1,.str x,rfl,rfl,SqT.of ea,rfl,ll1,fun r hr'=>?_⟩
  exact q r _ hr' (qV hr' _) qW
 | num a x et ev ea=>
  subst et ev
  refine⟨_,rfl,a,_,0,.str "number",rfl,rfl,SqT.of ea,rfl,rfl,_,rfl,?_⟩
  rw[xW xVh]
  refine iteF ?_
  refine⟨ll0,fun r hr'=>?_⟩
  have ea':upd H r (.lst []) a=some (.tup [.str "number",.int x]):=by rw[qA (qB ea hr')];exact ea
  refine⟨_,rfl,a,_,0,.str "number",rfl,rfl,SqT.of ea',rfl,rfl,_,rfl,?_⟩
  rw[jZ]
  refine iteF ?_
  exact⟨_,rfl,q r _ hr' (qV hr' _) qW⟩
 | op a k us ts ev ea hk hl hl2 kids en ec=>
  subst ev
  refine⟨_,rfl,a,_,0,.str k,rfl,rfl,SqT.of ea,qKl _ _,rfl,_,rfl,?_⟩
  rw[xW hk.1]
  refine iteF ?_
  refine⟨ll0,fun r hr'=>?_⟩
  have ea':upd H r (.lst []) a=some (.tup (.str k::us)):=by rw[qA (qB ea hr')];exact ea
  refine⟨_,rfl,a,_,0,.str k,rfl,rfl,SqT.of ea',qKl _ _,rfl,_,rfl,?_⟩
  rw[xW hk.2]
  refine iteT ?_
  refine⟨_,rfl,1,rfl,a,_,rfl,SqT.of ea',notwhole _ _,fun p hp=>?_⟩
  rw[cut1]
  have pr:p≠r:=fun z=>by subst z;rw[qW] at hp;cases hp
  have S2:But r H (upd (upd H r (.lst [])) p (.tup us)):=But.upd.trans (qV hp _).but
  have er2:upd (upd H r (.lst [])) p (.tup us) r=some (.lst []):=by rw[qA (Ne.symm pr)];exact qW
  have ep2:upd (upd H r (.lst [])) p (.tup us) p=some (.tup us):=qW
  generalize upd (upd H r (.lst [])) p (.tup us)=H2 at S2 er2 ep2
  have cs:=t.cnt_small h12
  have nl:=t.names_le
  refine⟨p,rfl,⟨us,SqT.of ep2⟩,?_⟩
  refine xJf (xs:=us) (fun i σ' H'=>∃z:Option V,σ'=[some (.ref a),some (.ref r),z]/\But r H2 H'/\H' r=some (.lst (strsV ((ts.take i).flatMap Th.names))))
   ⟨none,rfl,But.refl _,er2⟩ (fun i σ' H' _ hP=>?_) (fun i x σ' H' ex hP=>?_) (fun σ' H' hP=>?_)
  .obtain⟨z,rfl,hb,_⟩:=hP
   exact SqT.of (hb _ _ pr ep2)
  .obtain⟨z,rfl,hb,hrr⟩:=hP
   obtain⟨c,ecx⟩:∃c,ts[i]? = some c:=⟨_,yYA (by rw[<- hl];exact(yYB.mp ex).1)⟩
   obtain⟨ka,ko,kd⟩:=kids i x c ex ecx
   have T2:Tups H H':=fun b xs e=>hb _ _ (qB e hr') (S2 _ _ (qB e hr') e)
   refine⟨_,rfl,.inl ⟨rfl,_,SqL.of hrr⟩,_,rfl,c,x,rfl,ka.mono T2,ko,by omega,by omega,fun r2 H3 hr2 S3 e3=>?_⟩
   have e3r:=S3 _ _ hrr
   refine⟨r,r2,_,_,rfl,rfl,e3r,e3,?_,?_⟩
   .have z1:=qVk ecx
    have z2:=qRf (ts:=ts) (i+1)
    rw[z1,<- en,yYI] at z2
    rw[xA,xA]
    exact smallE (by omega)
   .refine⟨_,rfl,hb.trans (S3.but.trans But.upd),?_⟩
    rw[qW,qVk ecx,jJ]
  .obtain⟨z,rfl,hb,hrr⟩:=hP
   refine⟨_,rfl,q r H' hr' (fun b o e=>hb _ _ (qB e hr') (S2 _ _ (qB e hr') e)) ?_⟩
   rw[hrr,hl,yYJ,en]
theorem qEk {f:Addr}{fd:FuncData}(F:Fun K "names_in" "names_in" (top 4) f fd)(jp:FunE K mg "names_in" f fd ["thing"]):∀n:Nat,FnOk P w K mg base CX0 (n+1) f fd ["thing"] (wN n)
 | 0=>qMn
 | n+1=>qMm F (qEk F jp n) jp
theorem small2 {n:Nat}(h:n<=100000):n<sizeLine:=yZI h (by decide)
theorem xXf {n:Nat}(h:n<=100000):n<=sizeLine:=Nat.le_of_lt (small2 h)
def rowsBy (acc:List (List Int))(n:Nat):List (List Int):=acc.flatMap fun r=>(List.range n).map fun v=>r++[((v:Nat):Int)]
def allV (bs:List (Str×Int)):List (List Int):=(bs.map fun b=>b.2.toNat).foldl rowsBy [[]]
theorem yR {bs:List (Str×Int)}{i:Nat}{b:Str×Int}(h:bs[i]? = some b):allV (bs.take (i+1))=rowsBy (allV (bs.take i)) b.2.toNat:=by
 unfold allV
 rw[yYM,h,yYW,List.foldl_append]
 rfl
theorem qXe {acc:List (List Int)}{n j:Nat}{r:List Int}(h:acc[j]? = some r):rowsBy (acc.take (j+1)) n=rowsBy (acc.take j) n++(List.range n).map fun v=>r++[((v:Nat):Int)]:=by
 unfold rowsBy
 rw[yYM,h,List.flatMap_append]
 simp
theorem wS (n:Nat):∀acc:List (List Int),(rowsBy acc n).length=acc.length * n
 | []=>by simp[rowsBy]
 | r::acc=>by
  have:=wS n acc
  unfold rowsBy at this ⊢
  rw[List.flatMap_cons,yYI,this,yYC,List.length_range,yYT,Nat.succ_mul]
  omega
theorem kS (acc:List (List Int))(n j:Nat):(rowsBy (acc.take j) n).length<=acc.length * n:=by
 rw[wS,yYF]
 exact Nat.mul_le_mul_right _ (Nat.min_le_right _ _)
theorem wG {bs:List (Str×Int)}(h:∀b∈bs,2<=b.2/\b.2<=5):∀i:Nat,i<=bs.length->(allV (bs.take i)).length<=5 ^ i
 | 0,_=>by simp[allV]
 | i+1,hi=>by
  have hb:bs[i]? = some (bs[i]'(by omega)):=yYA (by omega)
  rw[yR hb,wS,Nat.pow_succ]
  have:=h _ (List.getElem_mem (h:=(by omega:i<bs.length)))
  exact Nat.mul_le_mul (wG h i (by omega)) (by omega)
theorem qFk {n k:Nat}{acc:List (List Int)}(h:∀r∈acc,r.length=k):∀r∈rowsBy acc n,r.length=k+1:=fun r hr=>by
 obtain⟨x,hx,hr⟩:=List.mem_flatMap.mp hr
 obtain⟨v,_,rfl⟩:=yYP.mp hr
 rw[yYI,h x hx];rfl
theorem qKn (bs:List (Str×Int)):∀i:Nat,i<=bs.length->∀r∈allV (bs.take i),r.length=i
 | 0,_=>fun r hr=>by simp[allV] at hr;subst hr;rfl
 | i+1,hi=>by
  have hb:bs[i]? = some (bs[i]'(by omega)):=yYA (by omega)
  rw[yR hb]
  exact qFk (qKn bs i (by omega))
theorem pow56 {i:Nat}(h:i<=6):5 ^ i<=15625:=yZJ (Nat.pow_le_pow_right (by decide) h) (by decide)
theorem qOz {bs:List (Str×Int)}{i:Nat}{b:Str×Int}{r:List Int}{v:Nat}(hb:bs[i]? = some b)(h:Fits (bs.take i) r)(hv:(v:Int)<b.2):Fits (bs.take (i+1)) (r++[((v:Nat):Int)]):=by
 have hl:=h.1
 have hib:i<bs.length:=(yYB.mp hb).1
 have lt:(bs.take i).length=i:=by rw[yYF];omega
 refine⟨by rw[yYM,hb,yYI,yYI,hl];rfl,fun j c x ec ex=>?_⟩
 rw[yYM,hb] at ec
 by_cases hj:j<i
 .rw[List.getElem?_append_left (by omega)] at ec ex
  exact h.2 j c x ec ex
 .have hj':j=i:=by
   have:=(yYB.mp ex).1
   rw[yYI,List.length_singleton] at this
   omega
  subst hj'
  rw[List.getElem?_append_right (by omega)] at ec ex
  have e1:j - (bs.take j).length=0:=by omega
  have e2:j - r.length=0:=by omega
  rw[e1] at ec
  rw[e2] at ex
  cases ec;cases ex
  exact⟨by omega,hv⟩
theorem qAe {bs:List (Str×Int)}:∀i:Nat,i<=bs.length->∀r∈allV (bs.take i),Fits (bs.take i) r
 | 0,_=>fun r hr=>by
  simp[allV] at hr
  subst hr
  exact⟨rfl,fun j b v e=>by simp at e⟩
 | i+1,hi=>fun r hr=>by
  have hb:bs[i]? = some (bs[i]'(by omega)):=yYA (by omega)
  rw[yR hb] at hr
  obtain⟨x,hx,hr⟩:=List.mem_flatMap.mp hr
  obtain⟨v,hv,rfl⟩:=yYP.mp hr
  have hv:=List.mem_range.mp hv
  exact qOz hb (qAe i (by omega) x hx) (by omega)
theorem jP {bs:List (Str×Int)}{r:List Int}(h:r∈allV bs):Fits bs r:=by
 have:=qAe (bs:=bs) bs.length (yZD _) r
 rw[yYJ] at this
 exact this h
def TupIn (H:Hp)(vals:List Int)(u:V):Prop:=∃a,u=.ref a/\H a=some (.tup (intsV vals))
theorem xY {H H':Hp}(h:Tups H H'){rs:List (List Int)}{us:List V}(p:Paired (TupIn H) rs us):Paired (TupIn H') rs us:=Paired.mapP p fun _ _ x=>let ⟨a,e,q⟩:=x;⟨a,e,h _ _ q⟩
theorem qSq {σ:St}{H:Hp}{Q:VK}{j:Nat}{ra:Addr}{r:List Int}{n:Nat}(era:H ra=some (.tup (intsV r)))(hj:σ.getD j none=some (.ref ra))(hr:r.length<=100)(hn:n<=1000)
  (q:∀(D:Addr) (us:List V) (H':Hp),H D=none->Same H H'->H' D=some (.lst us)->Paired (TupIn H') ((List.range n).map fun v=>r++[((v:Nat):Int)]) us->Q (.ref D) H'):
  rdC 1 [j] (gName 0) tYes (tOp (rCatN K) (tVar 1) (tTup (tCons (tVar 0) tNil))) (Itr 0 n) σ H Q:=by
 have fr:frees [j] σ=[some (.ref ra)]:=by show [σ.getD j none]=_;rw[hj]
 refine qJl (fun D i ys H'=>Paired (TupIn H') ((List.range i).map fun v=>r++[((v:Nat):Int)]) ys/\Same H H') (fun D hD=>⟨.nil,qV hD _⟩) (fun D i ys H' N hD hDy hi hP hN=>?_) (fun D ys H2 hD hDy hP=>?_)
 .obtain⟨hp,hk⟩:=hP
  have lp:=hp.length
  rw[yYC,List.length_range] at lp
  have e0:(0:Int)+(i:Int)=(i:Int):=Int.zero_add _
  rw[e0]
  refine⟨⟨[some (.int (i:Int))],rfl,rfl⟩,?_⟩
  refine⟨.ref ra,(by show(([some (V.int (i:Int))]:St)++frees [j] σ)[1]? = _;rw[fr];rfl),_,rfl,ll1,fun t ht=>?_⟩
  have Dt:D≠t:=qB hDy ht
  have fin:∀(a:Addr) (H3:Hp),Same H' H3->H3 a=some (.tup (intsV (r++[((i:Nat):Int)])))->H3 D=some (.lst ys)/\ys.length<sizeLine/\N (ys++[.ref a]) (upd H3 D (.lst (ys++[.ref a]))):=fun a H3 S3 ea=>by
   have eD:=S3 _ _ hDy
   refine⟨eD,small (by omega),hN _ _ qW ⟨?_,fun b o e=>?_⟩⟩
   .have T1:Tups H' (upd H3 D (.lst (ys++[.ref a]))):=fun b xs e=>by rw[qA (jU e hDy (by intro z;cases z))];exact S3 _ _ e
    rw[List.range_succ,yYW]
    exact Paired.snoc (xY T1 hp) ⟨a,rfl,by rw[qA (jU ea eD (by intro z;cases z))];exact ea⟩
   .rw[qA (qB e hD)];exact S3 _ _ (hk _ _ e)
  refine⟨ra,t,_,_,rfl,rfl,SqT.of (qV ht _ _ _ (hk _ _ era)),SqT.of qW,by simp,?_,fun z=>?_,fun z p hp'=>?_⟩
  .rw[zS];exact smallE (by show r.length+1<=_;omega)
  .have z':r=[]:=List.map_eq_nil_iff.mp z
   subst z'
   exact fin t _ (qV ht _) qW
  .refine fin p _ ((qV ht _).trans (qV hp' _)) ?_
   rw[qQz];exact qW
 .exact q D ys H2 hD hP.2 hDy hP.1
def qYc:Sp:=fun vs H Q _=>∃(bx:Addr) (bs:List (Str×Int)) (us:List V),vs=[.ref bx]/\H bx=some (.lst us)/\Paired (BoxIn H) bs us/\bs.length<=6/\(∀b∈bs,2<=b.2/\b.2<=5)/\
 ∀(r:Addr) (ss:List V) (H':Hp),H r=none->Same H H'->H' r=some (.lst ss)->Paired (TupIn H') (allV bs) ss->Q (.ref r) H'
theorem xN:xH ["boxes","rows","name","size","longer","row"] ["boxes"] (xB (top 25)):=by constructor <;> first | rfl | wtm_at"d"
theorem jA:CompOk (xB (top 25)) ["boxes","rows","name","size","longer","row"] (scAt (xC (top 25)) [1,1,0] [1]) ["value","row"] 1 [5]:=
 by constructor <;> wtm_at"d"
theorem xWg (F:Fd K mg "standings_of_boxes" (top 25) ["boxes"])(B:Bl mg):Dn P w K mg base "standings_of_boxes" 1 ["boxes"] qYc:=by
 refine F.ok xN (fun vs H Q E h=>?_) (fun f zy A outer s H vs Q E hr h=>?_)
 .obtain⟨_,_,_,rfl,_⟩:=h
  rfl
 obtain⟨bx,bs,us,rfl,ebx,pb,h6,h25,q⟩:=h
 have lb:us.length=bs.length:=pb.length.symm
 refine⟨_,(qZ (xG (i:=1) xN.nd rfl (xO (qQ (xP qX) qX)))
  (qZ (xT PassesOwn.never rfl (xQ (K:=K) (pv 0)) (zH (K:=K) (n:=2) rfl (qI (qH (i:=2) xN.nd rfl (by wtm_at "zo")) (qI (qH (i:=3) xN.nd rfl (by wtm_at "zo")) qM))) (qZ (xG (i:=4) xN.nd rfl (xO qX))
  (qZ (xT PassesOwn.never rfl (xQ (K:=K) (pv 1)) (qH (i:=5) xN.nd rfl (by wtm_at "zo")) (qJ (qR (yN (K:=K) PySem.F.plainAttrs_list PySem.F.slot_list_extend PySem.F.type_list_extend qXo (pv 4) (qQ (zJ rfl jA (yM rfl B.range' (qQ (pv 3) qX)) (fun cl fp s H=>(qH (i:=0) jA.nd rfl (Or.inl rfl) (.inr rfl))) (fun cl fp s H=>zF) (fun cl fp s H=>(xX (qEz (K:=K)) (pv 1) (xP (qQ (pv 0) qX))))) qX)))))
  (qJ (xG (i:=1) xN.nd rfl (pv 4))))))
  (qJ (qO (pv 1))))),?_⟩
 wtm_at"z"
 refine⟨ll0,fun t0 ht0=>?_⟩
 wtm_at"z"
 refine⟨ll1,fun r0 hr0=>?_⟩
 wtm_at"z"
 have S0:Same H (upd (upd H t0 (.tup [])) r0 (.lst [.ref t0])):=(qV ht0 _).trans (qV hr0 _)
 refine⟨_,rfl,bx,rfl,⟨us,SqL.of (S0 _ _ ebx)⟩,?_⟩
 refine xS (xs:=us) (fun i σ' H'=>∃(ro:Addr) (ss:List V) (z2 z3 z4 z5:Option V),σ'=[some (.ref bx),some (.ref ro),z2,z3,z4,z5]/\Same H H'/\H ro=none/\H' ro=some (.lst ss)/\Paired (TupIn H') (allV (bs.take i)) ss)
  ⟨r0,[.ref t0],none,none,none,none,rfl,S0,(qV ht0 _).free hr0,qW,.cons ⟨t0,rfl,qV hr0 _ _ _ qW⟩ .nil⟩
  (fun i σ' H' _ hP=>?_) (fun N rt bk i x σ' H' ex hP hN=>?_) (fun σ' H' hP=>?_)
 .obtain⟨ro,ss,z2,z3,z4,z5,rfl,S1,_⟩:=hP
  exact SqL.of (S1 _ _ ebx)
 .obtain⟨ro,ss,z2,z3,z4,z5,rfl,S1,nro,ero,prs⟩:=hP
  have hi:i<bs.length:=by rw[<- lb];exact(yYB.mp ex).1
  obtain⟨b,eb⟩:∃b,bs[i]? = some b:=⟨_,yYA hi⟩
  obtain⟨ba,rfl,hba⟩:=xV pb eb ex
  have hb25:=h25 b (yYE eb)
  have rl:=wG h25 i (by omega)
  have p5:=pow56 (i:=i) (by omega)
  refine⟨ba,_,rfl,SqT.of (S1 _ _ hba),rfl,_,_,rfl,_,_,rfl,rfl,?_⟩
  wtm_at"z"
  refine⟨ll0,fun lo hlo=>?_⟩
  wtm_at"z"
  have lr:=prs.length
  refine⟨_,rfl,ro,rfl,⟨ss,SqL.of (qV hlo _ _ _ ero)⟩,?_⟩
  refine xS (xs:=ss) (fun j σ'' H''=>∃(ls:List V) (z5:Option V),σ''=[some (.ref bx),some (.ref ro),some (.str b.1),some (.int b.2),some (.ref lo),z5]/\(∀c o,H' c=some o->H'' c=some o)/\H'' lo=some (.lst ls)/\Paired (TupIn H'') (rowsBy ((allV (bs.take i)).take j) b.2.toNat) ls)
   ⟨[],z5,rfl,qV hlo _,qW,.nil⟩ (fun j σ'' H'' _ hP=>?_) (fun N2 rt2 bk2 j x σ'' H'' ex2 hP hN2=>?_) (fun σ'' H'' hP=>?_)
  .obtain⟨ls,z5,rfl,k2,_⟩:=hP
   exact SqL.of (k2 _ _ ero)
  .obtain⟨ls,z5,rfl,k2,elo,pls⟩:=hP
   have hj:j<(allV (bs.take i)).length:=by rw[lr];exact(yYB.mp ex2).1
   obtain⟨row,erow⟩:∃row,(allV (bs.take i))[j]? = some row:=⟨_,yYA hj⟩
   obtain⟨ra,rfl,hra⟩:=xV prs erow ex2
   have hrl:=qKn bs i (by omega) row (yYE erow)
   have ll:=pls.length
   have lm:=kS (allV (bs.take i)) b.2.toNat j
   have l5:(allV (bs.take i)).length * b.2.toNat<=15625 * 5:=Nat.mul_le_mul (by omega) (by omega)
   wtm_at"z"
   refine⟨.inl ⟨rfl,_,SqL.of elo⟩,?_⟩
   wtm_at"z"
   refine⟨_,rfl,b.2,rfl,by omega,by omega,qSq (k2 _ _ hra) rfl (by omega) (by omega) fun D zs H3 nD S3 eD pz=>?_⟩
   have lz:=pz.length
   rw[yYC,List.length_range] at lz
   have elo3:=S3 _ _ elo
   refine⟨lo,D,ls,zs,rfl,rfl,elo3,eD,by rw[<- ll,<- lz];exact xXf (by omega),?_⟩
   have T3:Tups H3 (upd H3 lo (.lst (ls++zs))):=fun c xs e=>by rw[qA (jU e elo3 (by intro z;cases z))];exact e
   refine hN2 _ _ ⟨ls++zs,_,rfl,fun c o e=>?_,qW,?_⟩
   .rw[qA (qB e hlo)];exact S3 _ _ (k2 _ _ e)
   .rw[qXe erow]
    exact qQq (xY T3 (xY (qC S3) pls)) (xY T3 pz)
  .obtain⟨ls,z5,rfl,k2,elo,pls⟩:=hP
   rw[<- lr,yYJ,<- yR eb] at pls
   wtm_at"z"
   exact hN _ _ ⟨lo,ls,_,_,_,_,rfl,S1.trans k2,S1.free hlo,elo,pls⟩
 .obtain⟨ro,ss,z2,z3,z4,z5,rfl,S1,nro,ero,prs⟩:=hP
  rw[lb,yYJ] at prs
  wtm_at"z"
  exact q ro ss H' nro S1 ero prs
def yX (H:Hp)(c:Str×Th)(u:V):Prop:=∃a v,u=.ref a/\H a=some (.tup [.str c.1,v])/\c.2.At H v
def WayIn (H:Hp)(wy:List (Str×Th))(u:V):Prop:=∃a us,u=.ref a/\H a=some (.lst us)/\Paired (yX H) wy us
structure Deed where
 name:Str
 price:Int
 need:Th
 ways:List (List (Str×Th))
def DeedIn (H:Hp)(d:Deed)(u:V):Prop:=∃a nv wa us,u=.ref a/\H a=some (.tup [.str d.name,.int d.price,nv,.ref wa])/\d.need.At H nv/\H wa=some (.lst us)/\Paired (WayIn H) d.ways us
structure Look where
 name:Str
 price:Int
 part:Th
def LookIn (H:Hp)(l:Look)(u:V):Prop:=∃a v,u=.ref a/\H a=some (.tup [.str l.name,.int l.price,v])/\l.part.At H v
structure WayOk (ws:List Str)(wy:List (Str×Th)):Prop where
 nd:(wy.map (·.1)).Nodup
 le:wy.length<=100
 ok:∀c∈wy,c.1∈ws/\Expr' ws c.2/\c.2.dep<=12
structure DeedOk (ws:List Str)(d:Deed):Prop where
 price:1<=d.price
 need:Cond' ws d.need
 dep:d.need.dep<=12
 ne:d.ways≠[]
 le:d.ways.length<=100
 ways:∀wy∈d.ways,WayOk ws wy
structure LookOk (ws:List Str)(l:Look):Prop where
 price:1<=l.price
 part:Expr' ws l.part
 dep:l.part.dep<=12
section
variable {H H':Hp}
theorem yX.same (s:Same H H'){c:Str×Th}{u:V}(x:yX H c u):yX H' c u:=let ⟨a,v,e,q,r⟩:=x;⟨a,v,e,s _ _ q,r.mono (qC s)⟩
theorem WayIn.same (s:Same H H'){c:List (Str×Th)}{u:V}(x:WayIn H c u):WayIn H' c u:=let ⟨a,us,e,q,r⟩:=x;⟨a,us,e,s _ _ q,Paired.mapP r fun _ _ y=>y.same s⟩
theorem DeedIn.same (s:Same H H'){c:Deed}{u:V}(x:DeedIn H c u):DeedIn H' c u:=let ⟨a,nv,wa,us,e,q,r,q2,p⟩:=x;⟨a,nv,wa,us,e,s _ _ q,r.mono (qC s),s _ _ q2,Paired.mapP p fun _ _ y=>y.same s⟩
theorem LookIn.same (s:Same H H'){c:Look}{u:V}(x:LookIn H c u):LookIn H' c u:=let ⟨a,v,e,q,r⟩:=x;⟨a,v,e,s _ _ q,r.mono (qC s)⟩
end
structure Wd where
 bs:List (Str×Int)
 ds:List Deed
 ls:List Look
 bt:Th
 gt:Th
abbrev Wd.ws (W:Wd):List Str:=W.bs.map (·.1)
structure WAt (H:Hp)(W:Wd)(bx dx lx:Addr)(bv gv:V):Prop where
 boxes:∃us,H bx=some (.lst us)/\Paired (BoxIn H) W.bs us
 deeds:∃us,H dx=some (.lst us)/\Paired (DeedIn H) W.ds us
 looks:∃us,H lx=some (.lst us)/\Paired (LookIn H) W.ls us
 beg:W.bt.At H bv
 goal:W.gt.At H gv
structure WOk (W:Wd):Prop where
 b1:1<=W.bs.length
 b6:W.bs.length<=6
 b25:∀b∈W.bs,2<=b.2/\b.2<=5
 b200:(W.bs.map (·.2)).foldl (· * ·) 1<=200
 named:Named W.ws
 dl:W.ds.length<=100
 ll:W.ls.length<=100
 nd:(W.ds.map Deed.name++W.ls.map Look.name).Nodup
 deeds:∀d∈W.ds,DeedOk W.ws d
 looks:∀l∈W.ls,LookOk W.ws l
 beg:Cond' W.ws W.bt
 begd:W.bt.dep<=12
 goal:Cond' W.ws W.gt
 goald:W.gt.dep<=12
 some':∃vals∈allV W.bs,W.bt.truth (envOf (kvsOf W.bs vals))=true
theorem WAt.same {H H':Hp}{W:Wd}{bx dx lx:Addr}{bv gv:V}(s:Same H H')(x:WAt H W bx dx lx bv gv):WAt H' W bx dx lx bv gv:=by
 obtain⟨u1,e1,p1⟩:=x.boxes
 obtain⟨u2,e2,p2⟩:=x.deeds
 obtain⟨u3,e3,p3⟩:=x.looks
 exact⟨⟨u1,s _ _ e1,xK (qC s) p1⟩,⟨u2,s _ _ e2,Paired.mapP p2 fun _ _ y=>y.same s⟩,⟨u3,s _ _ e3,Paired.mapP p3 fun _ _ y=>y.same s⟩,x.beg.mono (qC s),x.goal.mono (qC s)⟩
theorem Expr'.in {ws:List Str}:∀{t:Th},Expr' ws t->∀x∈t.names,x∈ws
 | .num _,_,x,h=>by cases h
 | .box y,h,x,hx=>by
  have hx:x∈[y]:=hx
  rw[yYL.mp hx];exact h
 | .nul _,h,_,_=>h.elim
 | .un _ _,h,_,_=>h.elim
 | .bin k a b,⟨_,ha,hb⟩,x,hx=>by
  have hx:x∈a.names++b.names:=hx
  rcases yYS.mp hx with h | h
  .exact Expr'.in ha x h
  .exact Expr'.in hb x h
theorem Cond'.in {ws:List Str}:∀{t:Th},Cond' ws t->∀x∈t.names,x∈ws
 | .num _,h,_,_=>h.elim
 | .box _,h,_,_=>h.elim
 | .nul _,_,x,h=>by cases h
 | .un k a,⟨_,ha⟩,x,hx=>Cond'.in ha x hx
 | .bin k a b,h,x,hx=>by
  have hx:x∈a.names++b.names:=hx
  rcases h with⟨_,ha,hb⟩ | ⟨_,ha,hb⟩
  .rcases yYS.mp hx with h | h
   .exact ha.in x h
   .exact hb.in x h
  .rcases yYS.mp hx with h | h
   .exact Cond'.in ha x h
   .exact Cond'.in hb x h
theorem wB (ws:List Str):(strsV ws).all flatV=true:=List.all_eq_true.mpr fun x hx=>by
 obtain⟨y,_,rfl⟩:=yYP.mp hx
 rfl
theorem qQo (x:Str)(ws:List Str):inV (.str x) (strsV ws)=decide (x∈ws):=by
 unfold inV
 rw[List.any_map]
 by_cases h:x∈ws
 .rw[decide_eq_true h]
  refine List.any_eq_true.mpr ⟨x,h,?_⟩
  show(x == x)=true
  exact beq_self_eq_true x
 .rw[decide_eq_false h]
  refine Bool.eq_false_iff.mpr fun z=>?_
  obtain⟨y,hy,e⟩:=List.any_eq_true.mp z
  have e:(y == x)=true:=e
  exact h (eq_of_beq e▸hy)
theorem qAo:xH ["thing"] ["thing"] (xB (top 28)):=by constructor <;> first | rfl | wtm_at"d"
def qAm:Sp:=fun vs H Q _=>∃i:Int,vs=[.int i]/\Q (.bl true) H
theorem xWq:PySem.W.kitOne K (.type "int") (.type "bool")=some false:=by with_unfolding_all rfl
theorem qUj (F:Fd K mg "is_whole" (top 28) ["thing"])(B:Bl mg):Dn P w K mg base "is_whole" 1 ["thing"] qAm:=by
 refine F.ok qAo (fun vs H Q E h=>?_) (fun f zy A outer s H vs Q E hr h=>?_)
 .obtain⟨_,rfl,_⟩:=h
  rfl
 obtain⟨i,rfl,q⟩:=h
 refine⟨_,(qJ (qO (xQc (xJ (vX (K:=K)) rfl B.isinstance' zO (qQ (pv 0) (qQ (qSf rfl B.int' qPo) qX))) (xQb (qMa (xJ (vX (K:=K)) rfl B.isinstance' zO (qQ (pv 0) (qQ (qSf rfl B.bool' qRq) qX)))))))),?_⟩
 wtm_at"z"
 refine⟨.int i,"int",_,true,rfl,.int i,xVo,?_⟩
 wtm_at"z"
 refine⟨.int i,"bool",_,false,rfl,.int i,xWq,?_⟩
 wtm_at"z"
 exact q
theorem qXb:xH ["name","price"] ["name","price"] (xB (top 31)):=by constructor <;> first | rfl | wtm_at"d"
def qIk:Sp:=fun vs H Q _=>∃(x:V) (p:Int),vs=[x,.int p]/\1<=p/\Q .non H
theorem qUw (F:Fd K mg "refuse_price" (top 31) ["name","price"])(vh:Dn P w K mg base "is_whole" 1 ["thing"] qAm)(jx:Gi mg "LEAST_PRICE" 1):Dn P w K mg base "refuse_price" 2 ["name","price"] qIk:=by
 refine F.ok qXb (fun vs H Q E h=>?_) (fun f zy A outer s H vs Q E hr h=>?_)
 .obtain⟨_,_,rfl,_⟩:=h
  rfl
 obtain⟨x,p,rfl,hp,q⟩:=h
 refine⟨_,(qJ (zG (PW.pt (qSk (qJv (kG (qD vh hr (qQ (pv 1) qX)))) (qIm (qS qFc (pv 1) (xZf jx) (xE _))))) (qJ jS) qY)),?_⟩
 wtm_at"z"
 refine⟨p,rfl,?_⟩
 wtm_at"z"
 refine kI (decide_eq_false (by omega)) ?_
 wtm_at"z"
 exact q
theorem kH:xH ["name","names"] ["name","names"] (xB (top 33)):=by constructor <;> first | rfl | wtm_at"d"
def wI:Sp:=fun vs H Q _=>∃(x:Str) (nl:Addr) (ws:List Str),vs=[.str x,.ref nl]/\H nl=some (.lst (strsV ws))/\x∈ws/\Q .non H
theorem qCz (F:Fd K mg "refuse_strange_name" (top 33) ["name","names"]):Dn P w K mg base "refuse_strange_name" 1 ["name","names"] wI:=by
 refine F.ok kH (fun vs H Q E h=>?_) (fun f zy A outer s H vs Q E hr h=>?_)
 .obtain⟨_,_,_,rfl,_⟩:=h
  rfl
 obtain⟨x,nl,ws,rfl,hn,hx,q⟩:=h
 refine⟨_,(qJ (zG (qS (qWj (K:=K)) (pv 0) (pv 1) (by with_unfolding_all rfl)) (qJ jS) qY)),?_⟩
 wtm_at"z"
 refine⟨nl,_,rfl,.inl (SqL.of hn),rfl,wB ws,?_⟩
 wtm_at"z"
 rw[if_pos rfl,qQo,decide_eq_true hx]
 refine iteF ?_
 wtm_at"z"
 exact q
theorem jY:xH ["thing","names","name"] ["thing","names"] (xB (top 34)):=by constructor <;> first | rfl | wtm_at"d"
def qXv:Sp:=fun vs H Q _=>∃(t:Th) (v:V) (nl:Addr) (ws:List Str),vs=[v,.ref nl]/\t.At H v/\t.Ok/\t.dep<=12/\H nl=some (.lst (strsV ws))/\(∀x∈t.names,x∈ws)/\∀H',Same H H'->Q .non H'
theorem qGk (F:Fd K mg "refuse_strange_names" (top 34) ["thing","names"])(jk:Dn P w K mg base "refuse_strange_name" 1 ["name","names"] wI)
  (Jd:Dn P w K mg base "names_in" 13 ["thing"] (wN 12)):Dn P w K mg base "refuse_strange_names" 14 ["thing","names"] qXv:=by
 refine F.ok jY (fun vs H Q E h=>?_) (fun f zy A outer s H vs Q E hr h=>?_)
 .obtain⟨_,_,_,_,rfl,_⟩:=h
  rfl
 obtain⟨t,v,nl,ws,rfl,at',ok,dp,hn,hin,q⟩:=h
 refine⟨_,(qJ (xT PassesOwn.never rfl (xQ (K:=K) (qD Jd hr (qQ (pv 0) qX))) (qH (i:=2) jY.nd rfl (by wtm_at "zo")) (qJ (qR (qD jk hr (qQ (pv 2) (qQ (pv 1) qX))))))),?_⟩
 wtm_at "zf"
 refine⟨t,v,rfl,at',ok,dp,dp,fun r H1 hr1 S1 er=>?_⟩
 refine⟨r,rfl,⟨_,SqL.of er⟩,?_⟩
 refine jK (xs:=strsV t.names) (fun i σ' H'=>∃z:Option V,σ'=[some v,some (.ref nl),z]/\H'=H1) ⟨none,rfl,rfl⟩ (fun i σ' H' _ hP=>?_) (fun i x σ' H' ex hP=>?_) (fun σ' H' hP=>?_)
 .obtain⟨z,rfl,rfl⟩:=hP
  exact SqL.of er
 .obtain⟨z,rfl,rfl⟩:=hP
  obtain⟨y,hy,rfl⟩:=yYP.mp (yYE ex)
  wtm_at"z"
  refine⟨y,nl,ws,rfl,S1 _ _ hn,hin y hy,?_⟩
  exact⟨_,rfl,rfl⟩
 .obtain⟨z,rfl,rfl⟩:=hP
  exact q _ S1
theorem qXa:xH ["names","kind"] ["names","kind"] (xB (top 30)):=by constructor <;> first | rfl | wtm_at"d"
def qYb:Sp:=fun vs H Q _=>∃(nl:Addr) (ws:List Str) (x:V),vs=[.ref nl,x]/\H nl=some (.lst (strsV ws))/\ws.Nodup/\ws.length<=1000/\∀H',Same H H'->Q .non H'
theorem qUk (F:Fd K mg "refuse_twice" (top 30) ["names","kind"])(B:Bl mg)(yl:mg "set" = none):Dn P w K mg base "refuse_twice" 1 ["names","kind"] qYb:=by
 refine F.ok qXa (fun vs H Q E h=>?_) (fun f zy A outer s H vs Q E hr h=>?_)
 .obtain⟨_,_,_,rfl,_⟩:=h
  rfl
 obtain⟨nl,ws,x,rfl,hn,nd,hl,q⟩:=h
 refine⟨_,(qJ (zG (qS qFc (xJ (qPh (P:=P) (w:=w)) rfl B.len' vI (qQ (xZ (qPg (P:=P) (w:=w) (K:=K) rfl) rfl yl xXj (qQ (pv 0) qX)) qX)) (xJ (jV (K:=K)) rfl B.len' vI (qQ (pv 0) qX)) (xE _)) (qJ jS) qY)),?_⟩
 wtm_at"z"
 refine⟨nl,ws,rfl,SqL.of hn,nd,hl,fun p hp=>?_⟩
 wtm_at"z"
 refine⟨p,ws.length,rfl,qW,hl,?_⟩
 wtm_at"z"
 refine kI (decide_eq_false (by rw[xA];omega)) ?_
 wtm_at"z"
 exact q _ (qV hp _)
theorem yZ:xH ["boxes","name","size"] ["boxes"] (xB (top 29)):=by constructor <;> first | rfl | wtm_at"d"
theorem jN:CompOk (xB (top 29)) ["boxes","name","size"] (scAt (xC (top 29)) [1] [1]) ["name","size"] 2 []:=
 by constructor <;> wtm_at"d"
def qCo:Sp:=fun vs H Q _=>∃(bx:Addr) (bs:List (Str×Int)) (us:List V),vs=[.ref bx]/\H bx=some (.lst us)/\Paired (BoxIn H) bs us/\1<=bs.length/\bs.length<=1000/\(∀b∈bs,2<=b.2/\b.2<=5)/\Named (bs.map (·.1))/\∀H',Same H H'->Q .non H'
theorem qOw (F:Fd K mg "refuse_boxes" (top 29) ["boxes"])(B:Bl mg)(jl:Dn P w K mg base "refuse_twice" 1 ["names","kind"] qYb)(vh:Dn P w K mg base "is_whole" 1 ["thing"] qAm)
  (jz:Gi mg "LEAST_SIZE" 2) (jt:Gi mg "GREATEST_SIZE" 5) (jh:Gs K mg "WORDS_OF_CONDITIONS" ["not","and","yes"]):Dn P w K mg base "refuse_boxes" 2 ["boxes"] qCo:=by
 refine F.ok yZ (fun vs H Q E h=>?_) (fun f zy A outer s H vs Q E hr h=>?_)
 .obtain⟨_,_,_,rfl,_⟩:=h
  rfl
 obtain⟨bx,bs,us,rfl,ebx,pb,h1,h1000,h25,nmd,q⟩:=h
 have lb:us.length=bs.length:=pb.length.symm
 refine⟨_,(qZ (zG (qS jM (xJ (jV (K:=K)) rfl B.len' vI (qQ (pv 0) qX)) qF (xE _)) (qJ jS) qY)
  (qZ (qR (qD jl hr (qQ (zJ rfl jN (xQ (K:=K) (pv 0)) (fun cl fp s H=>(zH (K:=K) (n:=2) rfl (qI (qH (i:=0) jN.nd rfl (Or.inl rfl) (.inr rfl)) (qI (qH (i:=1) jN.nd rfl (Or.inl rfl) (.inr rfl)) qM)))) (fun cl fp s H=>zF) (fun cl fp s H=>(pv 0))) (qQ qG qX))))
  (qJ (xT PassesOwn.never rfl (xQ (K:=K) (pv 0)) (zH (K:=K) (n:=2) rfl (qI (qH (i:=1) yZ.nd rfl (by wtm_at "zo")) (qI (qH (i:=2) yZ.nd rfl (by wtm_at "zo")) qM))) (qZ (zG (qS (xVd (K:=K)) (pv 1) (xAl jh) (by with_unfolding_all rfl)) (qJ jS) qY)
  (qJ (zG (PW.pt (qSk (qJv (kG (qD vh hr (qQ (pv 2) qX)))) (qSk (qS qFc (pv 2) (xZf jz) (xE _)) (qIm (qS xVe (pv 2) (xZf jt) (xE _)))))) (qJ jS) qY))))))),?_⟩
 wtm_at"z"
 refine kI (decide_eq_false (by intro z;injection z with z;omega)) ?_
 wtm_at"z"
 refine⟨_,rfl,bx,rfl,⟨us,SqL.of ebx⟩,qJb ebx pb h1000 fun D H1 S1 eD=>?_⟩
 wtm_at"z"
 refine⟨D,_,_,rfl,eD,nmd.nd,by rw[yYC];omega,fun H2 S2=>?_⟩
 have S12:=S1.trans S2
 wtm_at"z"
 refine⟨_,rfl,bx,rfl,⟨us,SqL.of (S12 _ _ ebx)⟩,?_⟩
 refine xS (xs:=us) (fun i σ' H'=>∃z1 z2:Option V,σ'=[some (.ref bx),z1,z2]/\H'=H2) ⟨none,none,rfl,rfl⟩ (fun i σ' H' _ hP=>?_) (fun N rt bk i x σ' H' ex hP hN=>?_) (fun σ' H' hP=>?_)
 .obtain⟨z1,z2,rfl,rfl⟩:=hP
  exact SqL.of (S12 _ _ ebx)
 .obtain⟨z1,z2,rfl,rfl⟩:=hP
  obtain⟨b,eb⟩:∃b,bs[i]? = some b:=⟨_,yYA (by rw[<- lb];exact(yYB.mp ex).1)⟩
  obtain⟨ba,rfl,hba⟩:=xV pb eb ex
  have hb25:=h25 b (yYE eb)
  have hno:=nmd.no b.1 (yYP.mpr ⟨b,yYE eb,rfl⟩)
  refine⟨ba,_,rfl,SqT.of (S12 _ _ hba),rfl,_,_,rfl,_,_,rfl,rfl,?_⟩
  wtm_at"z"
  intro p sq
  refine⟨p,_,rfl,.inr sq,rfl,wB _,?_⟩
  wtm_at"z"
  rw[if_neg yZL,qQo,decide_eq_false (p:=b.1∈([("not" : Str),"and","yes"]:List Str)) hno]
  refine iteF ?_
  wtm_at"z"
  refine⟨b.2,rfl,?_⟩
  wtm_at"z"
  refine kI (decide_eq_false (by omega)) ?_
  wtm_at"z"
  refine kI (decide_eq_false (by omega)) ?_
  exact hN _ _ ⟨_,_,rfl,rfl⟩
 .obtain⟨z1,z2,rfl,rfl⟩:=hP
  exact q _ S12
theorem jH:xH ["deed_name","ways","names","way","name","expression"] ["deed_name","ways","names"] (xB (top 32)):=by constructor <;> first | rfl | wtm_at"d"
theorem yB:CompOk (xB (top 32)) ["deed_name","ways","names","way","name","expression"] (scAt (xC (top 32)) [1,0] [1]) ["name","expression"] 2 []:=
 by constructor <;> wtm_at"d"
def spWays:Sp:=fun vs H Q _=>∃(x:V) (wa nl:Addr) (us:List V) (ws:List Str) (wys:List (List (Str×Th))),vs=[x,.ref wa,.ref nl]/\H wa=some (.lst us)/\Paired (WayIn H) wys us/\wys≠[]/\wys.length<=100/\(∀wy∈wys,WayOk ws wy)/\
 H nl=some (.lst (strsV ws))/\∀H',Same H H'->Q .non H'
theorem qFm {σ:St}{H:Hp}{Q:VK}{wa:Addr}{us:List V}{wy:List (Str×Th)}(e1:H wa=some (.lst us))(p1:Paired (yX H) wy us)(hl:wy.length<=1000)
  (q:∀(D:Addr) (H':Hp),Same H H'->H' D=some (.lst (strsV (wy.map (·.1))))->Q (.ref D) H'):
  rdC 2 [] (gTup K 2 (gCons (gName 0) (gCons (gName 1) gNil))) tYes (tVar 0) (Itl K wa) σ H Q:=by
 have lb:us.length=wy.length:=p1.length.symm
 refine zZ (xs:=us) (fun D i ys H'=>ys=strsV ((wy.take i).map (·.1))/\∀b o,H b=some o->H' b=some o) (fun D hD=>⟨rfl,qV hD _⟩)
  (fun D i ys H' _ hP=>(show Same H H' from hP.2).seq (SqL.of e1)) (fun D i x ys H' N hD hDy ex hP hN=>?_) (fun wd ys H2 hD hDy hP=>?_)
 .obtain⟨rfl,hk⟩:=hP
  obtain⟨b,eb⟩:∃b,wy[i]? = some b:=⟨_,yYA (by rw[<- lb];exact(yYB.mp ex).1)⟩
  obtain⟨ba,bv,rfl,hba,_⟩:=xV p1 eb ex
  refine⟨ba,_,rfl,SqT.of (hk _ _ hba),rfl,_,_,rfl,_,_,rfl,rfl,⟨[some (.str b.1),some bv],rfl,rfl⟩,?_⟩
  refine⟨_,rfl,hDy,?_,hN _ _ qW ⟨?_,fun b o e=>?_⟩⟩
  .rw[xA,yYC,yYF];exact small (by omega)
  .rw[yYM,eb,yYW,jJ];rfl
  .rw[qA (qB e hD)];exact hk _ _ e
 obtain⟨rfl,hk2⟩:=hP
 rw[lb,yYJ] at hDy
 exact q wd H2 hk2 hDy
theorem xJl (F:Fd K mg "refuse_ways" (top 32) ["deed_name","ways","names"])(B:Bl mg)(jl:Dn P w K mg base "refuse_twice" 1 ["names","kind"] qYb)(jk:Dn P w K mg base "refuse_strange_name" 1 ["name","names"] wI)
  (jb:Dn P w K mg base "refuse_strange_names" 14 ["thing","names"] qXv):Dn P w K mg base "refuse_ways" 15 ["deed_name","ways","names"] spWays:=by
 refine F.ok jH (fun vs H Q E h=>?_) (fun f zy A outer s H vs Q E hr h=>?_)
 .obtain⟨_,_,_,_,_,_,rfl,_⟩:=h
  rfl
 obtain⟨x,wa,nl,us,ws,wys,rfl,ewa,pw,hne,hle,hok,hn,q⟩:=h
 have lw:us.length=wys.length:=pw.length.symm
 have l1:=List.length_pos_iff.mpr hne
 refine⟨_,(qZ (zG (qS jM (xJ (jV (K:=K)) rfl B.len' vI (qQ (pv 1) qX)) qF (xE _)) (qJ jS) qY)
  (qJ (xT PassesOwn.never rfl (xQ (K:=K) (pv 1)) (qH (i:=3) jH.nd rfl (by wtm_at "zo")) (qZ (qR (qD jl hr (qQ (zJ rfl yB (xQ (K:=K) (pv 3)) (fun cl fp s H=>(zH (K:=K) (n:=2) rfl (qI (qH (i:=0) yB.nd rfl (Or.inl rfl) (.inr rfl)) (qI (qH (i:=1) yB.nd rfl (Or.inl rfl) (.inr rfl)) qM)))) (fun cl fp s H=>zF) (fun cl fp s H=>(pv 0))) (qQ qG qX))))
  (qJ (xT PassesOwn.never rfl (xQ (K:=K) (pv 3)) (zH (K:=K) (n:=2) rfl (qI (qH (i:=4) jH.nd rfl (by wtm_at "zo")) (qI (qH (i:=5) jH.nd rfl (by wtm_at "zo")) qM))) (qZ (qR (qD jk hr (qQ (pv 4) (qQ (pv 2) qX))))
  (qJ (qR (qD jb hr (qQ (pv 5) (qQ (pv 2) qX)))))))))))),?_⟩
 wtm_at"z"
 refine kI (decide_eq_false (by intro z;injection z with z;omega)) ?_
 wtm_at"z"
 refine⟨_,rfl,wa,rfl,⟨us,SqL.of ewa⟩,?_⟩
 refine xS (xs:=us) (fun i σ' H'=>∃z1 z2 z3:Option V,σ'=[some x,some (.ref wa),some (.ref nl),z1,z2,z3]/\Same H H') ⟨none,none,none,rfl,Same.refl _⟩ (fun i σ' H' _ hP=>?_) (fun N rt bk i u σ' H' ex hP hN=>?_) (fun σ' H' hP=>?_)
 .obtain⟨_,_,_,rfl,S⟩:=hP
  exact SqL.of (S _ _ ewa)
 .obtain⟨z1,z2,z3,rfl,S1⟩:=hP
  obtain⟨wy,ewy⟩:∃b,wys[i]? = some b:=⟨_,yYA (by rw[<- lw];exact(yYB.mp ex).1)⟩
  obtain⟨ya,cs,rfl,eya,pc⟩:=xV pw ewy ex
  have wok:=hok wy (yYE ewy)
  have lc:cs.length=wy.length:=pc.length.symm
  have wle:=wok.le
  wtm_at"z"
  refine⟨_,rfl,ya,rfl,⟨cs,SqL.of (S1 _ _ eya)⟩,qFm (S1 _ _ eya) (Paired.mapP pc fun _ _ y=>y.same S1) (by omega) fun D H2 S2 eD=>?_⟩
  wtm_at"z"
  refine⟨D,_,_,rfl,eD,wok.nd,by rw[yYC];omega,fun H3 S3=>?_⟩
  have S13:=S1.trans (S2.trans S3)
  wtm_at"z"
  refine⟨_,rfl,ya,rfl,⟨cs,SqL.of (S13 _ _ eya)⟩,?_⟩
  refine xS (xs:=cs) (fun j σ'' H''=>∃z2 z3:Option V,σ''=[some x,some (.ref wa),some (.ref nl),some (.ref ya),z2,z3]/\Same H H'') ⟨z2,z3,rfl,S13⟩ (fun j σ'' H'' _ hP=>?_) (fun N2 rt2 bk2 j u σ'' H'' ex2 hP hN2=>?_) (fun σ'' H'' hP=>?_)
  .obtain⟨_,_,rfl,S⟩:=hP
   exact SqL.of (S _ _ eya)
  .obtain⟨z2,z3,rfl,S4⟩:=hP
   obtain⟨c,ec⟩:∃b,wy[j]? = some b:=⟨_,yYA (by rw[<- lc];exact(yYB.mp ex2).1)⟩
   obtain⟨ca,cv,rfl,eca,cat⟩:=xV pc ec ex2
   obtain⟨o1,o2,o3⟩:=wok.ok c (yYE ec)
   refine⟨ca,_,rfl,SqT.of (S4 _ _ eca),rfl,_,_,rfl,_,_,rfl,rfl,?_⟩
   wtm_at"z"
   refine⟨c.1,nl,ws,rfl,S4 _ _ hn,o1,?_⟩
   wtm_at"z"
   refine⟨c.2,cv,nl,ws,rfl,cat.mono (qC S4),o2.ok,o3,S4 _ _ hn,o2.in,fun H5 S5=>?_⟩
   exact hN2 _ _ ⟨_,_,rfl,S4.trans S5⟩
  .obtain⟨z2,z3,rfl,S4⟩:=hP
   exact hN _ _ ⟨_,_,_,rfl,S4⟩
 .obtain⟨_,_,_,rfl,S1⟩:=hP
  exact q _ S1
theorem kM:xH ["begin","boxes","standing"] ["begin","boxes"] (xB (top 35)):=by constructor <;> first | rfl | wtm_at"d"
def qIa:Sp:=fun vs H Q _=>∃(t:Th) (v:V) (bx:Addr) (bs:List (Str×Int)) (us:List V),vs=[v,.ref bx]/\t.At H v/\Cond' (bs.map (·.1)) t/\t.dep<=12/\H bx=some (.lst us)/\Paired (BoxIn H) bs us/\bs.length<=6/\(∀b∈bs,2<=b.2/\b.2<=5)/\
 (∃vals∈allV bs,t.truth (envOf (kvsOf bs vals))=true)/\∀H',Same H H'->Q .non H'
theorem qUd (F:Fd K mg "refuse_begin" (top 35) ["begin","boxes"])(jo:Dn P w K mg base "standings_of_boxes" 1 ["boxes"] qYc)(jq:Dn P w K mg base "holds" 26 ["condition","boxes","standing"] qYd):
  Dn P w K mg base "refuse_begin" 27 ["begin","boxes"] qIa:=by
 refine F.ok kM (fun vs H Q E h=>?_) (fun f zy A outer s H vs Q E hr h=>?_)
 .obtain⟨_,_,_,_,_,rfl,_⟩:=h
  rfl
 obtain⟨t,v,bx,bs,us,rfl,at',cx,dp,ebx,pb,h6,h25,⟨vals0,hv0,ht0⟩,q⟩:=h
 refine⟨_,(qZ (xT PassesOwn.never rfl (xQ (K:=K) (qD jo hr (qQ (pv 1) qX))) (qH (i:=2) kM.nd rfl (by wtm_at "zo")) (qJ (zG (kG (qD jq hr (qQ (pv 0) (qQ (pv 1) (qQ (pv 2) qX))))) (qJ xZw) qY)))
  (qJ jS)),?_⟩
 wtm_at "zf"
 refine⟨bx,bs,us,rfl,ebx,pb,h6,h25,fun r ss H1 nr S1 er pr=>?_⟩
 have lr:=pr.length
 refine⟨r,rfl,⟨ss,SqL.of er⟩,?_⟩
 refine jK (xs:=ss) (fun i σ' H'=>∃z:Option V,σ'=[some v,some (.ref bx),z]/\Same H1 H'/\∀x∈(allV bs).take i,t.truth (envOf (kvsOf bs x))=false) ⟨none,rfl,Same.refl _,fun x hx=>by cases hx⟩
  (fun i σ' H' _ hP=>?_) (fun i x σ' H' ex hP=>?_) (fun σ' H' hP=>?_)
 .obtain⟨_,rfl,S,_⟩:=hP
  exact SqL.of (S _ _ er)
 .obtain⟨z,rfl,S2,hno⟩:=hP
  obtain⟨vals,ev⟩:∃b,(allV bs)[i]? = some b:=⟨_,yYA (by rw[lr];exact(yYB.mp ex).1)⟩
  obtain⟨st,rfl,est⟩:=xV pr ev ex
  have S12:=S1.trans S2
  have fv:=jP (yYE ev)
  wtm_at"z"
  refine⟨t,v,bx,st,bs,vals,rfl,at'.mono (qC S12),cx,dp,⟨⟨us,S12 _ _ ebx,xK (qC S12) pb⟩,S2 _ _ est,fv.stands h25,by omega⟩,fun H3 S3=>?_⟩
  wtm_at"z"
  cases e:t.truth (envOf (kvsOf bs vals)) with
  | true=>
   refine iteT ?_
   exact q _ (S12.trans S3)
  | false=>
   refine iteF ?_
   refine⟨_,rfl,S2.trans S3,fun x hx=>?_⟩
   rw[yYM,ev] at hx
   rcases yYS.mp hx with h | h
   .exact hno x h
   .have h:x∈[vals]:=h
    rw[yYL.mp h];exact e
 .obtain⟨z,rfl,S2,hno⟩:=hP
  rw[<- lr,yYJ] at hno
  rw[hno vals0 hv0] at ht0
  cases ht0
def LstIn (ok:Addr->Prop)(H:Hp)(cs:List V)(u:V):Prop:=∃l,u=.ref l/\ok l/\H l=some (.lst cs)
def DeedAt (ok:Addr->Prop)(H:Hp)(x:Str)(p:Int)(dc:V×List (List V))(u:V):Prop:=∃a wa us,u=.ref a/\H a=some (.tup [.str x,.int p,dc.1,.ref wa])/\ok wa/\H wa=some (.lst us)/\Paired (LstIn ok H) dc.2 us
def kC (H:Hp)(d:Deed)(dc:V×List (List V)):Prop:=d.need.At H dc.1/\Paired (fun wy cs=>Paired (yX H) wy cs) d.ways dc.2
theorem LstIn.move {ok ok':Addr->Prop}{H H':Hp}(h:∀b o,ok b->H b=some o->H' b=some o)(i:∀b,ok b->ok' b){cs:List V}{u:V}(x:LstIn ok H cs u):LstIn ok' H' cs u:=let ⟨l,e,o,q⟩:=x;⟨l,e,i l o,h l _ o q⟩
theorem DeedAt.move {ok ok':Addr->Prop}{H H':Hp}(h:∀b o,ok b->H b=some o->H' b=some o)(t:Tups H H')(i:∀b,ok b->ok' b){x:Str}{p:Int}{dc:V×List (List V)}{u:V}(z:DeedAt ok H x p dc u):DeedAt ok' H' x p dc u:=
 let ⟨a,wa,us,e,q,o,q2,r⟩:=z;⟨a,wa,us,e,t _ _ q,i wa o,h wa _ o q2,Paired.mapP r fun _ _ y=>y.move h i⟩
theorem qWq {H:Hp}{wys:List (List (Str×Th))}{us:List V}(p:Paired (WayIn H) wys us):∃css,Paired (fun wy cs=>Paired (yX H) wy cs) wys css/\Paired (LstIn (fun _=>True) H) css us:=by
 induction p with
 | nil=>exact⟨[],.nil,.nil⟩
 | cons h _ ih=>
  obtain⟨a,cs,e,q,r⟩:=h
  obtain⟨css,h1,h2⟩:=ih
  exact⟨cs::css,.cons r h1,.cons ⟨a,e,trivial,q⟩ h2⟩
theorem qBw {ok:Addr->Prop}{H:Hp}{wys:List (List (Str×Th))}{css:List (List V)}{us:List V}(p:Paired (fun wy cs=>Paired (yX H) wy cs) wys css)(h:Paired (LstIn ok H) css us):Paired (WayIn H) wys us:=by
 induction p generalizing us with
 | nil=>cases h;exact .nil
 | cons r _ ih=>
  cases h with
  | cons x t=>
   obtain⟨l,e,_,q⟩:=x
   exact .cons ⟨l,_,e,q,r⟩ (ih t)
theorem qGi {H:Hp}{d:Deed}{u:V}(h:DeedIn H d u):∃dc,kC H d dc/\DeedAt (fun _=>True) H d.name d.price dc u:=by
 obtain⟨a,nv,wa,us,e,q,r,q2,p⟩:=h
 obtain⟨css,h1,h2⟩:=qWq p
 exact⟨(nv,css),⟨r,h1⟩,a,wa,us,e,q,trivial,q2,h2⟩
theorem qOm {ok:Addr->Prop}{H:Hp}{d:Deed}{dc:V×List (List V)}{u:V}(h1:kC H d dc)(h2:DeedAt ok H d.name d.price dc u):DeedIn H d u:=by
 obtain⟨a,wa,us,e,q,_,q2,p⟩:=h2
 exact⟨a,dc.1,wa,us,e,q,h1.1,q2,qBw h1.2 p⟩
theorem qCv {H:Hp}{ds:List Deed}{us:List V}(p:Paired (DeedIn H) ds us):∃ps:List (Deed×V×List (List V)),ps.map (·.1)=ds/\(∀p∈ps,kC H p.1 p.2)/\Paired (fun p u=>DeedAt (fun _=>True) H p.1.name p.1.price p.2 u) ps us:=by
 induction p with
 | nil=>exact⟨[],rfl,(fun p hp=>by cases hp),.nil⟩
 | cons h t ih=>
  obtain⟨ps,e,h1,h2⟩:=ih
  obtain⟨dc,h3,h4⟩:=qGi h
  refine⟨(_,dc)::ps,by rw[List.map_cons,e],fun p hp=>?_,.cons h4 h2⟩
  rcases yYK.mp hp with rfl | hp
  .exact h3
  .exact h1 p hp
theorem qGh {ok:Addr->Prop}{H:Hp}{ps:List (Deed×V×List (List V))}{us:List V}(h:∀p∈ps,kC H p.1 p.2)(t:Paired (fun p u=>DeedAt ok H p.1.name p.1.price p.2 u) ps us):Paired (DeedIn H) (ps.map (·.1)) us:=by
 induction t with
 | nil=>exact .nil
 | cons x t ih=>exact .cons (qOm (h _ yYG) x) (ih fun p hp=>h p (yYH _ hp))
theorem kC.same {H H':Hp}(s:Same H H'){d:Deed}{dc:V×List (List V)}(h:kC H d dc):kC H' d dc:=⟨h.1.mono (qC s),Paired.mapP h.2 fun _ _ y=>Paired.mapP y fun _ _ z=>z.same s⟩
theorem qZm:xH ["deed"] ["deed"] (xB (top 27)):=by constructor <;> first | rfl | wtm_at"d"
theorem vQ:CompOk (xB (top 27)) ["deed"] (scAt (xC (top 27)) [0] [3]) ["way"] 1 []:=
 by constructor <;> wtm_at"d"
def qYe:Sp:=fun vs H Q _=>∃(u:V) (x:Str) (p:Int) (dc:V×List (List V)),vs=[u]/\DeedAt (fun _=>True) H x p dc u/\dc.2.length<=100/\
 ∀(y:V) (H':Hp),Same H H'->DeedAt (fun b=>H b=none) H' x p dc y->Q y H'
theorem qOf (F:Fd K mg "copied_deed" (top 27) ["deed"])(B:Bl mg):Dn P w K mg base "copied_deed" 1 ["deed"] qYe:=by
 refine F.ok qZm (fun vs H Q E h=>?_) (fun f zy A outer s H vs Q E hr h=>?_)
 .obtain⟨_,_,_,_,rfl,_⟩:=h
  rfl
 obtain⟨u,x,p,dc,rfl,⟨a,wa,us,rfl,ea,_,ewa,pus⟩,hl,q⟩:=h
 refine⟨_,(qJ (qO (xP (qQ (xF (qT (K:=K)) (pv 0) qF) (qQ (xF (qT (K:=K)) (pv 0) qF) (qQ (xF (qT (K:=K)) (pv 0) qF) (qQ (zJ rfl vQ (xQ (K:=K) (xF (qT (K:=K)) (pv 0) qF)) (fun cl fp s H=>(qH (i:=0) vQ.nd rfl (Or.inl rfl) (.inr rfl))) (fun cl fp s H=>zF) (fun cl fp s H=>(xZ (jG (K:=K)) rfl B.list' vT (qQ (pv 0) qX)))) qX))))))),?_⟩
 wtm_at "zf"
 refine⟨wa,rfl,⟨us,SqL.of ewa⟩,?_⟩
 have lu:=pus.length
 refine zZ (xs:=us) (fun D i ys H'=>Paired (LstIn (fun b=>H b=none/\b≠D) H') (dc.2.take i) ys/\∀b o,H b=some o->H' b=some o) (fun D hD=>⟨.nil,qV hD _⟩)
  (fun D i ys H' _ hP=>(show Same H H' from hP.2).seq (SqL.of ewa)) (fun D i x ys H' N hD hDy ex hP hN=>?_) (fun D ys H2 hD hDy hP=>?_)
 .obtain⟨pl,hk⟩:=hP
  have hi:i<dc.2.length:=by rw[lu];exact(yYB.mp ex).1
  obtain⟨cs,ec⟩:∃b,dc.2[i]? = some b:=⟨_,yYA hi⟩
  obtain⟨l0,rfl,_,el0⟩:=xV pus ec ex
  have ll:=pl.length
  rw[yYF] at ll
  refine⟨⟨[some (.ref l0)],rfl,rfl⟩,?_⟩
  refine⟨_,rfl,l0,cs,rfl,.inl (SqL.of (hk _ _ el0)),fun l hl'=>?_⟩
  have Dl:D≠l:=qB hDy hl'
  refine⟨by rw[qA Dl];exact hDy,small (by omega),hN _ _ qW ⟨?_,fun b o e=>?_⟩⟩
  .rw[yYM,ec]
   refine Paired.snoc (Paired.mapP pl fun _ _ z=>z.move (fun b o ok e=>?_) fun _ z=>z) ⟨l,rfl,⟨(show Same H H' from hk).free hl',Ne.symm Dl⟩,by rw[qA (Ne.symm Dl)];exact qW⟩
   rw[qA ok.2,qA (qB e hl')];exact e
  .rw[qA (qB e hD),qA (qB (hk _ _ e) hl')];exact hk _ _ e
 obtain⟨pl,hk⟩:=hP
 rw[<- lu,yYJ] at pl
 refine⟨ll4,fun t ht=>?_⟩
 have S2:Same H (upd H2 t (.tup [.str x,.int p,dc.1,.ref D])):=(show Same H H2 from hk).trans (qV ht _)
 refine q (.ref t) _ S2 ⟨t,D,ys,rfl,qW,hD,qV ht _ _ _ hDy,Paired.mapP pl fun _ _ z=>z.move (fun b o _ e=>qV ht _ _ _ e) fun _ z=>z.1⟩
theorem zB:xH ["boxes","deeds","looks","begin","goal","names","name","price","need","ways","expression"] ["boxes","deeds","looks","begin","goal"] (xB (top 22)):=by constructor <;> first | rfl | wtm_at"d"
theorem qQb:CompOk (xB (top 22)) ["boxes","deeds","looks","begin","goal","names","name","price","need","ways","expression"] (scAt (xC (top 22)) [1] [1,0]) ["deed"] 1 []:=
 by constructor <;> wtm_at"d"
theorem qQa:CompOk (xB (top 22)) ["boxes","deeds","looks","begin","goal","names","name","price","need","ways","expression"] (scAt (xC (top 22)) [1] [1,1]) ["look"] 1 []:=
 by constructor <;> wtm_at"d"
theorem kT:CompOk (xB (top 22)) ["boxes","deeds","looks","begin","goal","names","name","price","need","ways","expression"] (scAt (xC (top 22)) [2] []) ["name","size"] 2 []:=
 by constructor <;> wtm_at"d"
theorem qQw:CompOk (xB (top 22)) ["boxes","deeds","looks","begin","goal","names","name","price","need","ways","expression"] (scAt (xC (top 22)) [8] [1]) ["deed"] 1 []:=
 by constructor <;> wtm_at"d"
structure WF (ok:Addr->Prop)(H:Hp)(W:Wd)(p:Addr):Prop where
 ex:∃(bx dx lx:Addr) (bv gv:V) (us du lu:List V) (ps:List (Deed×V×List (List V))),H p=some (.tup [.ref bx,.ref dx,.ref lx,bv,gv])/\ok bx/\ok dx/\ok lx/\H bx=some (.lst us)/\Paired (BoxIn H) W.bs us/\
  ps.map (·.1)=W.ds/\(∀p∈ps,kC H p.1 p.2)/\H dx=some (.lst du)/\Paired (fun p u=>DeedAt ok H p.1.name p.1.price p.2 u) ps du/\H lx=some (.lst lu)/\Paired (LookIn H) W.ls lu/\W.bt.At H bv/\W.gt.At H gv
theorem WF.at' {ok:Addr->Prop}{H:Hp}{W:Wd}{p:Addr}(x:WF ok H W p):∃(bx dx lx:Addr) (bv gv:V),H p=some (.tup [.ref bx,.ref dx,.ref lx,bv,gv])/\WAt H W bx dx lx bv gv:=by
 obtain⟨bx,dx,lx,bv,gv,us,du,lu,ps,ep,_,_,_,e1,p1,eps,dat,e2,p2,e3,p3,b,g⟩:=x.ex
 have:=qGh dat p2
 rw[eps] at this
 exact⟨bx,dx,lx,bv,gv,ep,⟨us,e1,p1⟩,⟨du,e2,this⟩,⟨lu,e3,p3⟩,b,g⟩
theorem WF.move {ok ok':Addr->Prop}{H H':Hp}{W:Wd}{p:Addr}(h:∀b o,ok b->H b=some o->H' b=some o)(t:Tups H H')(i:∀b,ok b->ok' b)(x:WF ok H W p):WF ok' H' W p:=by
 obtain⟨bx,dx,lx,bv,gv,us,du,lu,ps,ep,o1,o2,o3,e1,p1,eps,dat,e2,p2,e3,p3,b,g⟩:=x.ex
 refine⟨bx,dx,lx,bv,gv,us,du,lu,ps,t _ _ ep,i _ o1,i _ o2,i _ o3,h _ _ o1 e1,xK t p1,eps,fun p hp=>⟨(dat p hp).1.mono t,Paired.mapP (dat p hp).2 fun _ _ y=>Paired.mapP y fun _ _ z=>let ⟨a,v,e,q,r⟩:=z;⟨a,v,e,t _ _ q,r.mono t⟩⟩,h _ _ o2 e2,Paired.mapP p2 fun _ _ y=>y.move h t i,h _ _ o3 e3,Paired.mapP p3 fun _ _ y=>let ⟨a,v,e,q,r⟩:=y;⟨a,v,e,t _ _ q,r.mono t⟩,b.mono t,g.mono t⟩
def qVw:Sp:=fun vs H Q _=>∃(W:Wd) (bx dx lx:Addr) (bv gv:V),vs=[.ref bx,.ref dx,.ref lx,bv,gv]/\WAt H W bx dx lx bv gv/\WOk W/\
 ∀(p:Addr) (H':Hp),Same H H'->WF (fun b=>H b=none) H' W p->Q (.ref p) H'
theorem vR {σ:St}{H:Hp}{Q:VK}{la:Addr}{us:List V}{xs:List Str}(e1:H la=some (.lst us))(p1:Paired (fun x u=>∃a ys,u=.ref a/\H a=some (.tup (.str x::ys))) xs us)(hl:xs.length<=1000)
  (q:∀(D:Addr) (H':Hp),H D=none->Same H H'->H' D=some (.lst (strsV xs))->Q (.ref D) H'):
  rdC 1 [] (gName 0) tYes (tOp (rIxT K) (tVar 0) (tC (.int 0))) (Itl K la) σ H Q:=by
 have lb:us.length=xs.length:=p1.length.symm
 refine zZ (xs:=us) (fun D i ys H'=>ys=strsV (xs.take i)/\∀b o,H b=some o->H' b=some o) (fun D hD=>⟨rfl,qV hD _⟩)
  (fun D i ys H' _ hP=>(show Same H H' from hP.2).seq (SqL.of e1)) (fun D i x ys H' N hD hDy ex hP hN=>?_) (fun wd ys H2 hD hDy hP=>?_)
 .obtain⟨rfl,hk⟩:=hP
  obtain⟨b,eb⟩:∃b,xs[i]? = some b:=⟨_,yYA (by rw[<- lb];exact(yYB.mp ex).1)⟩
  obtain⟨ba,zs,rfl,hba⟩:=xV p1 eb ex
  refine⟨⟨[some (.ref ba)],rfl,rfl⟩,?_⟩
  refine⟨_,rfl,ba,_,0,.str b,rfl,rfl,SqT.of (hk _ _ hba),qKl _ _,hDy,?_,hN _ _ qW ⟨?_,fun b o e=>?_⟩⟩
  .rw[xA,yYF];exact small (by omega)
  .rw[yYM,eb,jJ];rfl
  .rw[qA (qB e hD)];exact hk _ _ e
 obtain⟨rfl,hk2⟩:=hP
 rw[lb,yYJ] at hDy
 exact q wd H2 hD hk2 hDy
theorem yW {H:Hp}{ds:List Deed}{us:List V}(p:Paired (DeedIn H) ds us):Paired (fun x u=>∃a ys,u=.ref a/\H a=some (.tup (.str x::ys))) (ds.map Deed.name) us:=by
 induction p with
 | nil=>exact .nil
 | cons h _ ih=>
  obtain⟨a,_,_,_,e,q,_⟩:=h
  exact .cons ⟨a,_,e,q⟩ ih
theorem qBg {H:Hp}{ds:List Look}{us:List V}(p:Paired (LookIn H) ds us):Paired (fun x u=>∃a ys,u=.ref a/\H a=some (.tup (.str x::ys))) (ds.map Look.name) us:=by
 induction p with
 | nil=>exact .nil
 | cons h _ ih=>
  obtain⟨a,_,e,q,_⟩:=h
  exact .cons ⟨a,_,e,q⟩ ih
theorem qGg {σ:St}{H:Hp}{Q:VK}{dx:Addr}{us:List V}{ps:List (Deed×V×List (List V))}(e1:H dx=some (.lst us))(p1:Paired (fun p u=>DeedAt (fun _=>True) H p.1.name p.1.price p.2 u) ps us)(hl:ps.length<=1000)
  (h2:∀p∈ps,p.2.2.length<=100)
  (q:∀(D:Addr) (ys:List V) (H':Hp),H D=none->Same H H'->H' D=some (.lst ys)->Paired (fun p u=>DeedAt (fun b=>H b=none/\b≠D) H' p.1.name p.1.price p.2 u) ps ys->Q (.ref D) H'):
  rdC 1 [] (gName 0) tYes (tCall qYe [] E0 (tCons (tVar 0) tNil)) (Itl K dx) σ H Q:=by
 have lb:us.length=ps.length:=p1.length.symm
 refine zZ (xs:=us) (fun D i ys H'=>Paired (fun p u=>DeedAt (fun b=>H b=none/\b≠D) H' p.1.name p.1.price p.2 u) (ps.take i) ys/\∀b o,H b=some o->H' b=some o) (fun D hD=>⟨.nil,qV hD _⟩)
  (fun D i ys H' _ hP=>(show Same H H' from hP.2).seq (SqL.of e1)) (fun D i x ys H' N hD hDy ex hP hN=>?_) (fun D ys H2 hD hDy hP=>?_)
 .obtain⟨pl,hk⟩:=hP
  have hi:i<ps.length:=by rw[<- lb];exact(yYB.mp ex).1
  obtain⟨b,eb⟩:∃b,ps[i]? = some b:=⟨_,yYA hi⟩
  have db:=xV p1 eb ex
  have ll:=pl.length
  rw[yYF] at ll
  refine⟨⟨[some x],rfl,rfl⟩,?_⟩
  refine⟨_,rfl,x,b.1.name,b.1.price,b.2,rfl,db.move (fun b o _ e=>hk _ _ e) (qC hk) (fun _ z=>z),h2 b (yYE eb),fun y H4 S4 dy=>?_⟩
  have eD:=S4 _ _ hDy
  refine⟨eD,small (by omega),hN _ _ qW ⟨?_,fun b o e=>?_⟩⟩
  .have T4:Tups H4 (upd H4 D (.lst (ys++[y]))):=fun b xs e=>by rw[qA (jU e eD (by intro z;cases z))];exact e
   rw[yYM,eb]
   refine Paired.snoc (Paired.mapP pl fun _ _ z=>z.move (fun b o ok e=>?_) ((qC S4).trans T4) fun _ z=>z) (dy.move (fun b o ok e=>?_) T4 fun b ok=>?_)
   .rw[qA ok.2];exact S4 _ _ e
   .rw[qA (fun z=>by subst z;rw[hDy] at ok;cases ok)];exact e
   .exact⟨(show Same H H' from hk).free ok,fun z=>by subst z;rw[hDy] at ok;cases ok⟩
  .rw[qA (qB e hD)];exact S4 _ _ (hk _ _ e)
 obtain⟨pl,hk⟩:=hP
 rw[lb,yYJ] at pl
 exact q D ys H2 hD hk hDy pl
theorem qCx (F:Fd K mg "world_of" (top 22) ["boxes","deeds","looks","begin","goal"])(B:Bl mg)(uP:Dn P w K mg base "refuse_boxes" 2 ["boxes"] qCo)(jl:Dn P w K mg base "refuse_twice" 1 ["names","kind"] qYb)
  (vL:Dn P w K mg base "refuse_price" 2 ["name","price"] qIk) (jb:Dn P w K mg base "refuse_strange_names" 14 ["thing","names"] qXv) (ua:Dn P w K mg base "refuse_ways" 15 ["deed_name","ways","names"] spWays)
  (uQ:Dn P w K mg base "refuse_begin" 27 ["begin","boxes"] qIa) (ub:Dn P w K mg base "copied_deed" 1 ["deed"] qYe):Dn P w K mg base "world_of" 28 ["boxes","deeds","looks","begin","goal"] qVw:=by
 refine F.ok zB (fun vs H Q E h=>?_) (fun f zy A outer s H vs Q E hr h=>?_)
 .obtain⟨_,_,_,_,_,_,rfl,_⟩:=h
  rfl
 obtain⟨W,bx,dx,lx,bv,gv,rfl,A0,ok,q⟩:=h
 obtain⟨us,ebx,pb⟩:=A0.boxes
 obtain⟨du,edx,pd⟩:=A0.deeds
 obtain⟨lu,elx,pl⟩:=A0.looks
 have b6:=ok.b6
 have dl:=ok.dl
 have ll:=ok.ll
 refine⟨_,(qZ (qR (qD uP hr (qQ (pv 0) qX)))
  (qZ (qR (qD jl hr (qQ (xX xVf (zJ rfl qQb (xQ (K:=K) (pv 1)) (fun cl fp s H=>(qH (i:=0) qQb.nd rfl (Or.inl rfl) (.inr rfl))) (fun cl fp s H=>zF) (fun cl fp s H=>(xF (qT (K:=K)) (pv 0) qF))) (zJ rfl qQa (xQ (K:=K) (pv 2)) (fun cl fp s H=>(qH (i:=0) qQa.nd rfl (Or.inl rfl) (.inr rfl))) (fun cl fp s H=>zF) (fun cl fp s H=>(xF (qT (K:=K)) (pv 0) qF)))) (qQ qG qX))))
  (qZ (yI (i:=5) zB.nd rfl (by wtm_at "zo") rfl kT (xQ (K:=K) (pv 0)) (fun cl fp s H=>(zH (K:=K) (n:=2) rfl (qI (qH (i:=0) kT.nd rfl (Or.inl rfl) (.inr rfl)) (qI (qH (i:=1) kT.nd rfl (Or.inl rfl) (.inr rfl)) qM)))) (fun cl fp s H=>zF) (fun cl fp s H=>(pv 0)))
  (qZ (xT PassesOwn.never rfl (xQ (K:=K) (pv 1)) (zH (K:=K) (n:=4) rfl (qI (qH (i:=6) zB.nd rfl (by wtm_at "zo")) (qI (qH (i:=7) zB.nd rfl (by wtm_at "zo")) (qI (qH (i:=8) zB.nd rfl (by wtm_at "zo")) (qI (qH (i:=9) zB.nd rfl (by wtm_at "zo")) qM))))) (qZ (qR (qD vL hr (qQ (pv 6) (qQ (pv 7) qX))))
  (qZ (qR (qD jb hr (qQ (pv 8) (qQ (pv 5) qX))))
  (qJ (qR (qD ua hr (qQ (pv 6) (qQ (pv 9) (qQ (pv 5) qX)))))))))
  (qZ (xT PassesOwn.never rfl (xQ (K:=K) (pv 2)) (zH (K:=K) (n:=3) rfl (qI (qH (i:=6) zB.nd rfl (by wtm_at "zo")) (qI (qH (i:=7) zB.nd rfl (by wtm_at "zo")) (qI (qH (i:=10) zB.nd rfl (by wtm_at "zo")) qM)))) (qZ (qR (qD vL hr (qQ (pv 6) (qQ (pv 7) qX))))
  (qJ (qR (qD jb hr (qQ (pv 10) (qQ (pv 5) qX)))))))
  (qZ (qR (qD jb hr (qQ (pv 3) (qQ (pv 5) qX))))
  (qZ (qR (qD jb hr (qQ (pv 4) (qQ (pv 5) qX))))
  (qZ (qR (qD uQ hr (qQ (pv 3) (qQ (pv 0) qX))))
  (qJ (qO (xP (qQ (xZ (jG (K:=K)) rfl B.list' vT (qQ (pv 0) qX)) (qQ (zJ rfl qQw (xQ (K:=K) (pv 1)) (fun cl fp s H=>(qH (i:=0) qQw.nd rfl (Or.inl rfl) (.inr rfl))) (fun cl fp s H=>zF) (fun cl fp s H=>(qD ub hr (qQ (pv 0) qX)))) (qQ (xZ (jG (K:=K)) rfl B.list' vT (qQ (pv 2) qX)) (qQ (pv 3) (qQ (pv 4) qX)))))))))))))))),?_⟩
 wtm_at"z"
 refine⟨bx,W.bs,us,rfl,ebx,pb,ok.b1,by omega,ok.b25,ok.named,fun H1 S1=>?_⟩
 wtm_at"z"
 refine⟨_,rfl,dx,rfl,⟨du,SqL.of (S1 _ _ edx)⟩,vR (S1 _ _ edx) (yW (Paired.mapP pd fun _ _ y=>y.same S1)) (by rw[yYC];omega) fun d1 H2 nd1 S2 ed1=>?_⟩
 have S12:=S1.trans S2
 refine⟨_,rfl,lx,rfl,⟨lu,SqL.of (S12 _ _ elx)⟩,vR (S12 _ _ elx) (qBg (Paired.mapP pl fun _ _ y=>y.same S12)) (by rw[yYC];omega) fun d2 H3 nd2 S3 ed2=>?_⟩
 have S13:=S12.trans S3
 refine⟨d1,d2,_,_,rfl,rfl,S3 _ _ ed1,ed2,?_,fun d3 hd3=>?_⟩
 .rw[xA,xA,yYC,yYC];exact smallE (by omega)
 have S14:=S13.trans (qV hd3 (.lst (strsV (W.ds.map Deed.name)++strsV (W.ls.map Look.name))))
 wtm_at"z"
 refine⟨d3,W.ds.map Deed.name++W.ls.map Look.name,_,rfl,by rw[jJ];exact qW,ok.nd,by rw[yYI,yYC,yYC];omega,fun H5 S5=>?_⟩
 have S15:=S14.trans S5
 wtm_at"z"
 refine⟨_,rfl,bx,rfl,⟨us,SqL.of (S15 _ _ ebx)⟩,qJb (S15 _ _ ebx) (xK (qC S15) pb) (by omega) fun nl H6 S6 enl=>?_⟩
 have S16:=S15.trans S6
 wtm_at "zf"
 refine⟨dx,rfl,⟨du,SqL.of (S16 _ _ edx)⟩,?_⟩
 refine xS (xs:=du) (fun i σ' H'=>∃z6 z7 z8 z9 z10:Option V,σ'=[some (.ref bx),some (.ref dx),some (.ref lx),some bv,some gv,some (.ref nl),z6,z7,z8,z9,z10]/\Same H6 H') ⟨none,none,none,none,none,rfl,Same.refl _⟩
  (fun i σ' H' _ hP=>?_) (fun N rt bk i x σ' H' ex hP hN=>?_) (fun σ' H' hP=>?_)
 .obtain⟨_,_,_,_,_,rfl,S⟩:=hP
  exact SqL.of (S _ _ (S16 _ _ edx))
 .obtain⟨z6,z7,z8,z9,z10,rfl,S7⟩:=hP
  obtain⟨d,ed⟩:∃b,W.ds[i]? = some b:=⟨_,yYA (by rw[pd.length];exact(yYB.mp ex).1)⟩
  have S17:=S16.trans S7
  obtain⟨a,nv,wa,wu,rfl,ea,nat,ewa,pw⟩:=(xV pd ed ex).same S17
  have dok:=ok.deeds d (yYE ed)
  wtm_at"z"
  refine⟨.str d.name,d.price,rfl,dok.price,?_⟩
  wtm_at"z"
  refine⟨d.need,nv,nl,_,rfl,nat,dok.need.ok,dok.dep,S7 _ _ enl,dok.need.in,fun H8 S8=>?_⟩
  wtm_at"z"
  refine⟨.str d.name,wa,nl,wu,_,d.ways,rfl,S8 _ _ ewa,Paired.mapP pw fun _ _ y=>y.same S8,dok.ne,dok.le,dok.ways,S8 _ _ (S7 _ _ enl),fun H9 S9=>?_⟩
  exact hN _ _ ⟨_,_,_,_,_,rfl,S7.trans (S8.trans S9)⟩
 obtain⟨z6,z7,z8,z9,z10,rfl,S7⟩:=hP
 have S17:=S16.trans S7
 wtm_at "zf"
 refine⟨lx,rfl,⟨lu,SqL.of (S17 _ _ elx)⟩,?_⟩
 refine xS (xs:=lu) (fun i σ' H'=>∃z6 z7 z8 z9 z10:Option V,σ'=[some (.ref bx),some (.ref dx),some (.ref lx),some bv,some gv,some (.ref nl),z6,z7,z8,z9,z10]/\Same H6 H') ⟨z6,z7,z8,z9,z10,rfl,S7⟩
  (fun i σ' H' _ hP=>?_) (fun N rt bk i x σ' H' ex hP hN=>?_) (fun σ' H' hP=>?_)
 .obtain⟨_,_,_,_,_,rfl,S⟩:=hP
  exact SqL.of (S _ _ (S16 _ _ elx))
 .obtain⟨z6,z7,z8,z9,z10,rfl,S8⟩:=hP
  obtain⟨d,ed⟩:∃b,W.ls[i]? = some b:=⟨_,yYA (by rw[pl.length];exact(yYB.mp ex).1)⟩
  have S18:=S16.trans S8
  obtain⟨a,nv,rfl,ea,nat⟩:=(xV pl ed ex).same S18
  have dok:=ok.looks d (yYE ed)
  wtm_at"z"
  refine⟨.str d.name,d.price,rfl,dok.price,?_⟩
  wtm_at"z"
  refine⟨d.part,nv,nl,_,rfl,nat,dok.part.ok,dok.dep,S8 _ _ enl,dok.part.in,fun H9 S9=>?_⟩
  exact hN _ _ ⟨_,_,_,_,_,rfl,S8.trans S9⟩
 obtain⟨z6,z7,z8,z9,z10,rfl,S8⟩:=hP
 have S18:=S16.trans S8
 wtm_at"z"
 refine⟨W.bt,bv,nl,_,rfl,A0.beg.mono (qC S18),ok.beg.ok,ok.begd,S8 _ _ enl,ok.beg.in,fun H9 S9=>?_⟩
 wtm_at"z"
 have S19:=S18.trans S9
 refine⟨W.gt,gv,nl,_,rfl,A0.goal.mono (qC S19),ok.goal.ok,ok.goald,S9 _ _ (S8 _ _ enl),ok.goal.in,fun H10 S10=>?_⟩
 wtm_at"z"
 have S110:=S19.trans S10
 refine⟨W.bt,bv,bx,W.bs,us,rfl,A0.beg.mono (qC S110),ok.beg,ok.begd,S110 _ _ ebx,xK (qC S110) pb,ok.b6,ok.b25,ok.some',fun H11 S11=>?_⟩
 have S111:=S110.trans S11
 wtm_at"z"
 refine⟨bx,us,rfl,.inl (SqL.of (S111 _ _ ebx)),fun bx' hbx'=>?_⟩
 have S112:=S111.trans (qV hbx' (.lst us))
 have ebx':upd H11 bx' (.lst us) bx'=some (.lst us):=qW
 generalize upd H11 bx' (.lst us)=H12 at S112 ebx'
 obtain⟨ps,eps,dat,pds⟩:=qCv (Paired.mapP pd fun _ _ y=>y.same S112)
 have lps:ps.length=W.ds.length:=by rw[<- eps,yYC]
 have p100:∀p∈ps,p.2.2.length<=100:=fun p hp=>by
  have h1:=(dat p hp).2.length
  have h2:=(ok.deeds p.1 (by rw[<- eps];exact yYP.mpr ⟨p,hp,rfl⟩)).le
  omega
 refine⟨_,rfl,dx,rfl,⟨du,SqL.of (S112 _ _ edx)⟩,qGg (S112 _ _ edx) pds (by omega) p100 fun dx' ys H13 ndx' S13' edx' pys=>?_⟩
 have S113:=S112.trans S13'
 wtm_at"z"
 refine⟨lx,lu,rfl,.inl (SqL.of (S113 _ _ elx)),fun lx' hlx'=>?_⟩
 wtm_at"z"
 refine⟨ll5,fun p hp=>?_⟩
 have Sf:Same H13 (upd (upd H13 lx' (.lst lu)) p (.tup [.ref bx',.ref dx',.ref lx',bv,gv])):=(qV hlx' _).trans (qV hp _)
 have S114:=S113.trans Sf
 have elx':upd (upd H13 lx' (.lst lu)) p (.tup [.ref bx',.ref dx',.ref lx',bv,gv]) lx'=some (.lst lu):=qV hp _ _ _ qW
 have ep:upd (upd H13 lx' (.lst lu)) p (.tup [.ref bx',.ref dx',.ref lx',bv,gv]) p=some (.tup [.ref bx',.ref dx',.ref lx',bv,gv]):=qW
 generalize upd (upd H13 lx' (.lst lu)) p (.tup [.ref bx',.ref dx',.ref lx',bv,gv])=H14 at Sf S114 elx' ep
 have pys':=Paired.mapP pys fun _ _ z=>z.move (ok':=fun b=>H b=none) (fun b o _ e=>Sf _ _ e) (qC Sf) fun b z=>S112.free z.1
 have dat':∀p∈ps,kC H14 p.1 p.2:=fun p hp=>(dat p hp).same (S13'.trans Sf)
 exact q p H14 S114 ⟨bx',dx',lx',bv,gv,us,ys,lu,ps,ep,S111.free hbx',S112.free ndx',S113.free hlx',Sf _ _ (S13' _ _ ebx'),xK (qC S114) pb,eps,dat',Sf _ _ edx',pys',elx',Paired.mapP pl fun _ _ y=>y.same S114,A0.beg.mono (qC S114),A0.goal.mono (qC S114)⟩
theorem qQl:xH ["things","name","kind","thing"] ["things","name","kind"] (xB (top 24)):=by constructor <;> first | rfl | wtm_at"d"
def qAn:Sp:=fun vs H Q _=>∃(la:Addr) (us:List V) (xs:List Str) (x:Str) (k:V),vs=[.ref la,.str x,k]/\H la=some (.lst us)/\Paired (fun x u=>∃a ys,u=.ref a/\H a=some (.tup (.str x::ys))) xs us/\xs.Nodup/\
 ∃i:Nat,xs[i]? = some x/\∀u,us[i]? = some u->Q u H
theorem qUa (F:Fd K mg "named" (top 24) ["things","name","kind"]):Dn P w K mg base "named" 1 ["things","name","kind"] qAn:=by
 refine F.ok qQl (fun vs H Q E h=>?_) (fun f zy A outer s H vs Q E hr h=>?_)
 .obtain⟨_,_,_,_,_,rfl,_⟩:=h
  rfl
 obtain⟨la,us,xs,x,k,rfl,ela,px,nd,i0,ei0,q⟩:=h
 refine⟨_,(qZ (xT PassesOwn.never rfl (xQ (K:=K) (pv 0)) (qH (i:=3) qQl.nd rfl (by wtm_at "zo")) (qJ (zG (qS jM (xF (qT (K:=K)) (pv 3) qF) (pv 1) (xE _)) (qJ (qO (pv 3))) qY)))
  (qJ jS)),?_⟩
 wtm_at "zf"
 refine⟨la,rfl,⟨us,SqL.of ela⟩,?_⟩
 refine jK (xs:=us) (fun i σ' H'=>∃z:Option V,σ'=[some (.ref la),some (.str x),some k,z]/\H'=H/\i<=i0) ⟨none,rfl,rfl,yZG _⟩ (fun i σ' H' _ hP=>?_) (fun i u σ' H' ex hP=>?_) (fun σ' H' hP=>?_)
 .obtain⟨_,rfl,rfl,_⟩:=hP
  exact SqL.of ela
 .obtain⟨z,rfl,rfl,hi⟩:=hP
  obtain⟨y,ey⟩:∃b,xs[i]? = some b:=⟨_,yYA (by rw[px.length];exact(yYB.mp ex).1)⟩
  obtain⟨a,ys,rfl,ea⟩:=xV px ey ex
  wtm_at"z"
  by_cases e:y=x
  .subst e
   rw[jZ]
   refine iteT ?_
   have:i=i0:=by
    obtain⟨h1,g1⟩:=yYB.mp ey
    obtain⟨h2,g2⟩:=yYB.mp ei0
    exact(List.getElem_inj nd).mp (g1.trans g2.symm)
   subst this
   wtm_at"z"
   exact q _ ex
  .rw[xW e]
   refine iteF ?_
   refine⟨_,rfl,rfl,?_⟩
   by_cases h:i=i0
   .subst h;rw[ei0] at ey;cases ey;exact absurd rfl e
   .omega
 .obtain⟨z,rfl,rfl,hi⟩:=hP
  have:=(yYB.mp ei0).1
  rw[px.length] at this
  omega
def sizeOf' (bs:List (Str×Int))(x:Str):Int:=match bs.lookup x with
 | some z=>z
 | none=>1
def xU (bs:List (Str×Int))(wy:List (Str×Th))(vals:List Int):List Int:=(bs.zip vals).map fun p=>match wy.lookup p.1.1 with
 | some t=>t.worth (envOf (kvsOf bs vals)) % p.1.2
 | none=>p.2
def putsK (bs:List (Str×Int))(ρ:Str->Int)(acc:List (Key×V))(wy:List (Str×Th)):List (Key×V):=wy.foldl (fun a c=>putK a (Sum.inr c.1) (.int (c.2.worth ρ % sizeOf' bs c.1))) acc
theorem qVl {bs:List (Str×Int)}{ρ:Str->Int}{acc:List (Key×V)}{wy:List (Str×Th)}{i:Nat}{c:Str×Th}(h:wy[i]? = some c):putsK bs ρ acc (wy.take (i+1))=putK (putsK bs ρ acc (wy.take i)) (Sum.inr c.1) (.int (c.2.worth ρ % sizeOf' bs c.1)):=by
 unfold putsK
 rw[yYM,h,List.foldl_append]
 rfl
theorem qYh {bs:List (Str×Int)}{ρ:Str->Int}{x:Str}:∀(wy:List (Str×Th)) (acc:List (Key×V)),(wy.map (·.1)).Nodup->valV (putsK bs ρ acc wy) (Sum.inr x)=(match wy.lookup x with | some t=>some (.int (t.worth ρ % sizeOf' bs x)) | none=>valV acc (Sum.inr x))
 | [],acc,_=>rfl
 | (n,t)::wy,acc,nd=>by
  have nd':=List.nodup_cons.mp nd
  show valV (putsK bs ρ (putK acc (Sum.inr n) (.int (t.worth ρ % sizeOf' bs n))) wy) (Sum.inr x)=_
  rw[qYh wy _ nd'.2]
  by_cases e:x=n
  .subst e
   rw[qBf nd'.1,yO]
   show valV (putK acc (Sum.inr x) _) (Sum.inr x)=_
   rw[vJ,if_pos rfl]
  .rw[yY t wy (by simpa using e)]
   cases wy.lookup x with
   | some u=>rfl
   | none=>
    show valV (putK acc (Sum.inr n) _) (Sum.inr x)=valV acc (Sum.inr x)
    rw[vJ,if_neg (fun z=>e (Sum.inr.inj z))]
theorem qSa {kvs:List (Key×V)}{k:Key}{v:V}:(putK kvs k v).length<=kvs.length+1:=by
 unfold putK
 split
 .rw[yYC];omega
 .rw[yYI];show kvs.length+1<=_;omega
theorem qYi {bs:List (Str×Int)}{ρ:Str->Int}:∀(wy:List (Str×Th)) (acc:List (Key×V)),(putsK bs ρ acc wy).length<=acc.length+wy.length
 | [],acc=>yZD _
 | c::wy,acc=>by
  have h1:=qYi (bs:=bs) (ρ:=ρ) wy (putK acc (Sum.inr c.1) (.int (c.2.worth ρ % sizeOf' bs c.1)))
  have h2:=qSa (kvs:=acc) (k:=Sum.inr c.1) (v:=.int (c.2.worth ρ % sizeOf' bs c.1))
  show(putsK bs ρ (putK acc (Sum.inr c.1) (.int (c.2.worth ρ % sizeOf' bs c.1))) wy).length<=acc.length+(wy.length+1)
  omega
theorem qBl (bs:List (Str×Int))(vals:List Int):(kvsOf bs vals).length<=bs.length:=by
 have:=kK (zipK (bs.map (·.1)) (intsV vals)) []
 unfold zipK at this
 rw[yYC,List.length_zip,yYC,yYU] at this
 unfold kvsOf zipK
 omega
theorem qZk {bs:List (Str×Int)}{vals:List Int}{i:Nat}{b:Str×Int}{v:Int}(nd:(bs.map (·.1)).Nodup)(hl:vals.length=bs.length)(eb:bs[i]? = some b)(ev:vals[i]? = some v):valV (kvsOf bs vals) (Sum.inr b.1)=some (.int v):=by
 have e:((bs.map (fun b:Str×Int=>b.1)).zip (intsV vals)).map (·.1)=bs.map (·.1):=List.map_fst_zip (by rw[yYC,zS,hl];exact yZD _)
 show valV (mergeK [] (pairK ((bs.map (fun b:Str×Int=>b.1)).zip (intsV vals)))) (Sum.inr b.1)=_
 rw[wW _ _ (by rw[e];exact nd)]
 have ez:((bs.map (fun b:Str×Int=>b.1)).zip (intsV vals))[i]? = some (b.1,.int v):=List.getElem?_zip_eq_some.mpr ⟨by rw[yYO,eb];rfl,by rw[yYO,ev];rfl⟩
 rw[qZz (by rw[e];exact nd) ez]
theorem qYg {bs:List (Str×Int)}{i:Nat}{b:Str×Int}(nd:(bs.map (·.1)).Nodup)(eb:bs[i]? = some b):sizeOf' bs b.1=b.2:=by
 unfold sizeOf'
 rw[qZz (v:=b.2) nd eb]
theorem qZh {bs:List (Str×Int)}{wy:List (Str×Th)}{vals:List Int}{i:Nat}{b:Str×Int}{v:Int}(eb:bs[i]? = some b)(ev:vals[i]? = some v):
  (xU bs wy vals)[i]? = some (match wy.lookup b.1 with | some t=>t.worth (envOf (kvsOf bs vals)) % b.2 | none=>v):=by
 unfold xU
 have ez:(bs.zip vals)[i]? = some (b,v):=List.getElem?_zip_eq_some.mpr ⟨eb,ev⟩
 rw[yYO,ez]
 rfl
theorem vB {bs:List (Str×Int)}{wy:List (Str×Th)}{vals:List Int}(hl:vals.length=bs.length):(xU bs wy vals).length=bs.length:=by
 unfold xU
 rw[yYC,List.length_zip,hl,Nat.min_self]
theorem qAv {H:Hp}{bs:List (Str×Int)}{us:List V}(p:Paired (BoxIn H) bs us):Paired (PairIn H) (bs.map fun b=>(b.1,V.int b.2)) us:=by
 induction p with
 | nil=>exact .nil
 | cons h _ ih=>
  obtain⟨a,e,q⟩:=h
  exact .cons ⟨a,e,q⟩ ih
def qDd:Sp:=fun vs H Q _=>∃(bx wa st:Addr) (bs:List (Str×Int)) (wy:List (Str×Th)) (vals:List Int) (us cs:List V),vs=[.ref bx,.ref wa,.ref st]/\H bx=some (.lst us)/\Paired (BoxIn H) bs us/\(bs.map (·.1)).Nodup/\bs.length<=100/\
 (∀b∈bs,2<=b.2/\b.2<=5)/\H wa=some (.lst cs)/\Paired (yX H) wy cs/\WayOk (bs.map (·.1)) wy/\H st=some (.tup (intsV vals))/\Fits bs vals/\∀(r:Addr) (H':Hp),Same H H'->H' r=some (.tup (intsV (xU bs wy vals)))->Q (.ref r) H'
theorem zN:xH ["boxes","way","standing","sizes","ahead","behind","name","expression"] ["boxes","way","standing"] (xB (top 26)):=by constructor <;> first | rfl | wtm_at"d"
theorem yE:CompOk (xB (top 26)) ["boxes","way","standing","sizes","ahead","behind","name","expression"] (scAt (xC (top 26)) [4] [1]) ["name","size","behind"] 2 [5]:=
 by constructor <;> wtm_at"d"
theorem qOh (F:Fd K mg "behind_way" (top 26) ["boxes","way","standing"])(B:Bl mg)(jr:Dn P w K mg base "values_by_name" 1 ["boxes","standing"] qYa)(jn:Dn P w K mg base "worth_by" 13 ["expression","values"] (jI 12)):
  Dn P w K mg base "behind_way" 14 ["boxes","way","standing"] qDd:=by
 refine F.ok zN (fun vs H Q E h=>?_) (fun f zy A outer s H vs Q E hr h=>?_)
 .obtain⟨_,_,_,_,_,_,_,_,rfl,_⟩:=h
  rfl
 obtain⟨bx,wa,st,bs,wy,vals,us,cs,rfl,ebx,pb,nd,hbl,h25,ewa,pc,wok,est,fits,q⟩:=h
 have hu:=qWh hr
 have fs:=fits.stands h25
 have env:=qOk fs
 refine⟨_,(qZ (xG (i:=3) zN.nd rfl (xZ (qQc rfl) rfl B.dict' vU (qQ (pv 0) qX)))
  (qZ (xG (i:=4) zN.nd rfl (qD jr hr (qQ (pv 0) (qQ (pv 2) qX))))
  (qZ (xG (i:=5) zN.nd rfl (xZ yF rfl B.dict' vU (qQ (pv 4) qX)))
  (qZ (xT PassesOwn.never rfl (xQ (K:=K) (pv 1)) (zH (K:=K) (n:=2) rfl (qI (qH (i:=6) zN.nd rfl (by wtm_at "zo")) (qI (qH (i:=7) zN.nd rfl (by wtm_at "zo")) qM))) (qJ (qYm hu (pv 5) (pv 6) (xX qJa (qD jn hr (qQ (pv 7) (qQ (pv 4) qX))) (wU hu (pv 3) (pv 6) (fun _ _=>rfl))) rfl)))
  (qJ (qO (xZ (qCd (K:=K)) rfl B.tuple' qUn (qQ (zJ rfl yE (xQ (K:=K) (pv 0)) (fun cl fp s H=>(zH (K:=K) (n:=2) rfl (qI (qH (i:=0) yE.nd rfl (Or.inl rfl) (.inr rfl)) (qI (qH (i:=1) yE.nd rfl (Or.inl rfl) (.inr rfl)) qM)))) (fun cl fp s H=>zF) (fun cl fp s H=>(wU hu (pv 2) (pv 0) (fun _ _=>rfl)))) qX)))))))),?_⟩
 wtm_at"z"
 refine⟨bx,us,_,rfl,ebx,qAv pb,by rw[yYC];omega,fun sz hsz=>?_⟩
 generalize eQ:upd H sz _=H1
 obtain⟨S1,esz⟩:=laid hsz eQ
 wtm_at"z"
 refine⟨bx,st,bs,vals,rfl,⟨⟨us,S1 _ _ ebx,xK (qC S1) pb⟩,S1 _ _ est,fs,hbl⟩,fun ah H2 S2 eah=>?_⟩
 wtm_at"z"
 refine⟨ah,_,rfl,eah,fun be hbe=>?_⟩
 have S3:Same H1 (upd H2 be (.dK (kvsOf bs vals))):=S2.trans (qV hbe _)
 have S03:=S1.trans S3
 have ebe:upd H2 be (.dK (kvsOf bs vals)) be=some (.dK (kvsOf bs vals)):=qW
 have eah3:=qV hbe (.dK (kvsOf bs vals)) _ _ eah
 have nbe:H1 be=none:=S2.free hbe
 have nahb:ah≠be:=qB eah hbe
 generalize upd H2 be (.dK (kvsOf bs vals))=H3 at S3 S03 ebe eah3
 wtm_at "zf"
 refine⟨wa,rfl,⟨cs,SqL.of (S03 _ _ ewa)⟩,?_⟩
 have lc:=pc.length
 have wle:=wok.le
 have kl:=qBl bs vals
 have nwb:wa≠be:=qB (S1 _ _ ewa) nbe
 refine xS (xs:=cs) (fun i σ' H'=>∃z6 z7:Option V,σ'=[some (.ref bx),some (.ref wa),some (.ref st),some (.ref sz),some (.ref ah),some (.ref be),z6,z7]/\But be H3 H'/\H' be=some (.dK (putsK bs (envOf (kvsOf bs vals)) (kvsOf bs vals) (wy.take i))))
  ⟨none,none,rfl,But.refl _,ebe⟩ (fun i σ' H' _ hP=>?_) (fun N rt bk i x σ' H' ex hP hN=>?_) (fun σ' H' hP=>?_)
 .obtain⟨_,_,rfl,hb,_⟩:=hP
  exact SqL.of (hb _ _ nwb (S03 _ _ ewa))
 .obtain⟨z6,z7,rfl,hb,ebe'⟩:=hP
  have hi:i<wy.length:=by rw[lc];exact(yYB.mp ex).1
  obtain⟨c,ec⟩:∃b,wy[i]? = some b:=⟨_,yYA hi⟩
  obtain⟨ca,cv,rfl,eca,cat⟩:=xV pc ec ex
  obtain⟨o1,o2,o3⟩:=wok.ok c (yYE ec)
  have T3:Tups H H':=(qC S03).trans fun b ys e=>hb _ _ (jU e ebe (by intro z;cases z)) e
  have eca':=T3 _ _ eca
  obtain⟨b,hbm,eb1⟩:=yYP.mp o1
  obtain⟨k,ek⟩:=List.mem_iff_getElem?.mp hbm
  have hb25:=h25 b hbm
  have zs:=qYg nd ek
  wtm_at"z"
  refine⟨c.2,cv,ah,_,_,envOf (kvsOf bs vals),rfl,cat.mono T3,o2,o3,hb _ _ nahb eah3,env,?_⟩
  wtm_at"z"
  refine⟨sz,.int (sizeOf' bs c.1),rfl,?_,?_⟩
  .have hv:valV (mergeK [] (pairK (bs.map fun b=>(b.1,V.int b.2)))) (Sum.inr c.1)=some (.int (sizeOf' bs c.1)):=by
    have e2:(bs.map fun b=>(b.1,V.int b.2)).map (·.1)=bs.map (·.1):=by rw[List.map_map];rfl
    rw[wW _ _ (by rw[e2];exact nd),<- eb1,qZz (v:=.int b.2) (i:=k) (by rw[e2];exact nd) (by rw[yYO,ek];rfl),zs]
   rw[<- hv]
   exact DGet.k (k:=Sum.inr c.1) (hb _ _ (qB esz nbe) (S3 _ _ esz))
  refine w_I (show 0<sizeOf' bs c.1 by rw[<- eb1,zs];omega) ?_
  wtm_at"z"
  have pl:=qYi (bs:=bs) (ρ:=envOf (kvsOf bs vals)) (wy.take i) (kvsOf bs vals)
  rw[yYF] at pl
  refine⟨be,_,rfl,DPut.k (k:=Sum.inr c.1) ebe' (small (by omega)),?_⟩
  refine hN _ _ ⟨_,_,rfl,hb.trans But.upd,?_⟩
  rw[qW,qVl ec]
 obtain⟨z6,z7,rfl,hb,ebe'⟩:=hP
 rw[<- lc,yYJ] at ebe'
 have K3:∀b o,H b=some o->H' b=some o:=fun b o e=>hb _ _ (qB (S1 _ _ e) nbe) (S03 _ _ e)
 have S4:Same H H':=K3
 have lb:=pb.length
 wtm_at"z"
 refine⟨_,rfl,bx,rfl,⟨us,SqL.of (S4 _ _ ebx)⟩,?_⟩
 refine zZ (xs:=us) (fun D i ys H''=>ys=intsV ((xU bs wy vals).take i)/\∀b o,H' b=some o->H'' b=some o) (fun D hD=>⟨rfl,qV hD _⟩)
  (fun D i ys H'' _ hP=>SqL.of (hP.2 _ _ (S4 _ _ ebx))) (fun D i x ys H'' N hD hDy ex hP hN=>?_) (fun D ys H5 hD hDy hP=>?_)
 .obtain⟨rfl,hk⟩:=hP
  have hi:i<bs.length:=by rw[lb];exact(yYB.mp ex).1
  obtain⟨b,eb⟩:∃b,bs[i]? = some b:=⟨_,yYA hi⟩
  obtain⟨v,ev⟩:∃v,vals[i]? = some v:=⟨_,yYA (by rw[fits.1];exact hi)⟩
  obtain⟨ba,rfl,hba⟩:=xV pb eb ex
  have bat:=qZh (wy:=wy) eb ev
  have hv:valV (putsK bs (envOf (kvsOf bs vals)) (kvsOf bs vals) wy) (Sum.inr b.1)=some (.int (match wy.lookup b.1 with | some t=>t.worth (envOf (kvsOf bs vals)) % b.2 | none=>v)):=by
   rw[qYh _ _ wok.nd,qYg nd eb,qZk nd fits.1 eb ev]
   cases wy.lookup b.1 <;> rfl
  refine⟨ba,_,rfl,SqT.of (hk _ _ (S4 _ _ hba)),rfl,_,_,rfl,_,_,rfl,rfl,⟨[some (.str b.1),some (.int b.2)],rfl,rfl⟩,?_⟩
  refine⟨_,rfl,_,rfl,be,_,rfl,(by rw[<- hv];exact DGet.k (k:=Sum.inr b.1) (hk _ _ ebe')),hDy,?_,hN _ _ qW ⟨?_,fun b o e=>?_⟩⟩
  .rw[zS,yYF];exact small (by omega)
  .rw[yYM,bat,<- qQz];rfl
  .rw[qA (qB e hD)];exact hk _ _ e
 obtain⟨rfl,hk⟩:=hP
 rw[<- lb,List.take_of_length_le (by rw[vB fits.1];exact yZD _)] at hDy
 wtm_at"z"
 refine⟨D,_,rfl,SqL.of hDy,fun r hr'=>?_⟩
 exact q r _ (S4.trans ((show Same H' H5 from hk).trans (qV hr' _))) qW
theorem qHb {σ:St}{H:Hp}{Q:VK}{js:List Nat}{te:TE}{wa:Addr}{wu:List V}{wys:List (List (Str×Th))}{bs:List (Str×Int)}{vals:List Int}(ewa:H wa=some (.lst wu))(pw:Paired (WayIn H) wys wu)(hl:wys.length<=100)
  (hte:∀(u:V) (wy:List (Str×Th)) (H':Hp) (R:VK),wy∈wys->WayIn H' wy u->Same H H'->(∀(r:Addr) (H'':Hp),Same H' H''->H'' r=some (.tup (intsV (xU bs wy vals)))->R (.ref r) H'')->te ([some u]++frees js σ) H' R)
  (q:∀(D:Addr) (ys:List V) (H':Hp),H D=none->Same H H'->H' D=some (.lst ys)->Paired (TupIn H') (wys.map fun wy=>xU bs wy vals) ys->Q (.ref D) H'):
  rdC 1 js (gName 0) tYes te (Itl K wa) σ H Q:=by
 have lw:=pw.length
 refine zZ (xs:=wu) (fun D i ys H'=>Paired (TupIn H') ((wys.take i).map fun wy=>xU bs wy vals) ys/\∀b o,H b=some o->H' b=some o) (fun D hD=>⟨.nil,qV hD _⟩)
  (fun D i ys H' _ hP=>SqL.of (hP.2 _ _ ewa)) (fun D i x ys H' N hD hDy ex hP hN=>?_) (fun D ys H5 hD hDy hP=>?_)
 .obtain⟨pl,hk⟩:=hP
  have hi:i<wys.length:=by rw[lw];exact(yYB.mp ex).1
  obtain⟨wy,ewy⟩:∃b,wys[i]? = some b:=⟨_,yYA hi⟩
  have wi:=(xV pw ewy ex).same hk
  have ll:=pl.length
  rw[yYC,yYF] at ll
  refine⟨⟨[some x],rfl,rfl⟩,?_⟩
  refine hte x wy H' _ (yYE ewy) wi hk fun r H4 S4 er=>?_
  have eD:=S4 _ _ hDy
  refine⟨eD,small (by omega),hN _ _ qW ⟨?_,fun b o e=>?_⟩⟩
  .have T4:Tups H4 (upd H4 D (.lst (ys++[.ref r]))):=fun b xs e=>by rw[qA (jU e eD (by intro z;cases z))];exact e
   rw[yYM,ewy,yYW]
   exact Paired.snoc (xY T4 (xY (qC S4) pl)) ⟨r,rfl,T4 _ _ er⟩
  .rw[qA (qB e hD)];exact S4 _ _ (hk _ _ e)
 obtain⟨pl,hk⟩:=hP
 rw[<- lw,yYJ] at pl
 exact q D ys H5 hD hk hDy pl
def goodV (bs:List (Str×Int))(t:Th):List (List Int):=(allV bs).filter fun vals=>t.truth (envOf (kvsOf bs vals))
theorem jQ {α:Type}{p:α->Bool}{l:List α}{i:Nat}{x:α}(h:l[i]? = some x):(l.take (i+1)).filter p=(l.take i).filter p++(if p x then [x] else []):=by
 rw[yYM,h,List.filter_append]
 congr 1
 cases e:p x <;> simp[e]
theorem qBh {n:Nat}(h:n<=1000000):n<=sizeLine:=by rw[show sizeLine=16777216 by decide];omega
theorem qYk {vals:List Int}{i:Nat}(h:i<vals.length):vals[i]? = some (vals.getD i 0):=by
 rw[List.getD_eq_getElem?_getD,yYA h];rfl
theorem qEg {bs:List (Str×Int)}:∀i:Nat,i<=bs.length->∀r,Fits (bs.take i) r->r∈allV (bs.take i)
 | 0,_=>fun r f=>by
  have:r=[]:=List.length_eq_zero_iff.mp (by rw[f.1];rfl)
  subst this
  exact yYL.mpr rfl
 | i+1,hi=>fun r f=>by
  have hb:bs[i]? = some (bs[i]'(by omega)):=yYA (by omega)
  have lr:r.length=i+1:=by rw[f.1,yYF];omega
  have er:r=r.take i++[r.getD i 0]:=by
   have e:=qYk (vals:=r) (i:=i) (by omega)
   have:r.take (i+1)=r.take i++[r.getD i 0]:=by rw[yYM,e];rfl
   rw[<- this,List.take_of_length_le (by omega)]
  have ft:Fits (bs.take i) (r.take i):=by
   refine⟨by rw[yYF,yYF];omega,fun j b v eb ev=>?_⟩
   have hj:j<i:=by
    have:=(yYB.mp ev).1
    rw[yYF] at this
    omega
   rw[List.getElem?_take_of_lt hj] at eb ev
   exact f.2 j b v (by rw[List.getElem?_take_of_lt (by omega)];exact eb) ev
  have fi:=f.2 i (bs[i]'(by omega)) (r.getD i 0) (by rw[List.getElem?_take_of_lt (by omega)];exact hb) (qYk (by omega))
  rw[yR hb]
  unfold rowsBy
  refine List.mem_flatMap.mpr ⟨r.take i,qEg i (by omega) _ ft,yYP.mpr ⟨(r.getD i 0).toNat,List.mem_range.mpr (by omega),?_⟩⟩
  rw[Int.toNat_of_nonneg fi.1]
  exact er.symm
theorem qQm {bs:List (Str×Int)}{r:List Int}(f:Fits bs r):r∈allV bs:=by
 have:=qEg bs.length (yZD _) r
 rw[yYJ] at this
 exact this f
theorem qZg {bs:List (Str×Int)}{wy:List (Str×Th)}{vals:List Int}(f:Fits bs vals)(h:∀b∈bs,2<=b.2):Fits bs (xU bs wy vals):=by
 refine⟨vB f.1,fun i b v eb ev=>?_⟩
 have hi:i<vals.length:=by rw[f.1];exact(yYB.mp eb).1
 rw[qZh eb (qYk hi)] at ev
 have fb:=f.2 i b _ eb (qYk hi)
 have b2:=h b (yYE eb)
 generalize wy.lookup b.1=o at ev
 cases o with
 | none=>cases ev;exact fb
 | some x=>cases ev;exact⟨Int.emod_nonneg _ (by omega),Int.emod_lt_of_pos _ (by omega)⟩
theorem qVf:xH ["world"] ["world"] (xB (top 23)):=by constructor <;> first | rfl | wtm_at"d"
def wM:Sp:=fun vs H Q _=>∃(W:Wd) (p bx dx lx:Addr) (bv gv:V),vs=[.ref p]/\H p=some (.tup [.ref bx,.ref dx,.ref lx,bv,gv])/\WAt H W bx dx lx bv gv/\WOk W/\
 ∀(r:Addr) (ss:List V) (H':Hp),H r=none->Same H H'->H' r=some (.lst ss)->Paired (TupIn H') (allV W.bs) ss->Q (.ref r) H'
theorem qCj (F:Fd K mg "standings" (top 23) ["world"])(jo:Dn P w K mg base "standings_of_boxes" 1 ["boxes"] qYc):Dn P w K mg base "standings" 2 ["world"] wM:=by
 refine F.ok qVf (fun vs H Q E h=>?_) (fun f zy A outer s H vs Q E hr h=>?_)
 .obtain⟨_,_,_,_,_,_,_,rfl,_⟩:=h
  rfl
 obtain⟨W,p,bx,dx,lx,bv,gv,rfl,ep,A0,ok,q⟩:=h
 obtain⟨us,ebx,pb⟩:=A0.boxes
 refine⟨_,(qJ (qO (qD jo hr (qQ (xF (qT (K:=K)) (pv 0) qF) qX)))),?_⟩
 wtm_at"z"
 exact⟨bx,W.bs,us,rfl,ebx,pb,ok.b6,ok.b25,q⟩
theorem qZb {σ:St}{H:Hp}{Q:VK}{js:List Nat}{tt:TT}{a:Addr}{us:List V}{rows:List (List Int)}{p:List Int->Bool}(ea:H a=some (.lst us))(pr:Paired (TupIn H) rows us)(hl:rows.length<=100000)
  (htt:∀(ra:Addr) (row:List Int) (H':Hp) (R:Bool->Hp->Prop),row∈rows->H' ra=some (.tup (intsV row))->Same H H'->(∀H'',Same H' H''->R (p row) H'')->tt ([some (.ref ra)]++frees js σ) H' R)
  (q:∀(D:Addr) (ys:List V) (H':Hp),H D=none->Same H H'->H' D=some (.lst ys)->Paired (TupIn H') (rows.filter p) ys->Q (.ref D) H'):
  rdC 1 js (gName 0) tt (tVar 0) (Itl K a) σ H Q:=by
 have lr:=pr.length
 refine zZ (xs:=us) (fun D i ys H'=>Paired (TupIn H') ((rows.take i).filter p) ys/\∀b o,H b=some o->H' b=some o) (fun D hD=>⟨.nil,qV hD _⟩)
  (fun D i ys H' _ hP=>SqL.of (hP.2 _ _ ea)) (fun D i x ys H' N hD hDy ex hP hN=>?_) (fun D ys H5 hD hDy hP=>?_)
 .obtain⟨pl,hk⟩:=hP
  have hi:i<rows.length:=by rw[lr];exact(yYB.mp ex).1
  obtain⟨row,erow⟩:∃b,rows[i]? = some b:=⟨_,yYA hi⟩
  obtain⟨ra,rfl,hra⟩:=xV pr erow ex
  have ll:=pl.length
  have lf:((rows.take i).filter p).length<=i:=yZJ (List.length_filter_le _ _) (by rw[yYF];omega)
  refine⟨⟨[some (.ref ra)],rfl,rfl⟩,?_⟩
  refine htt ra row H' _ (yYE erow) (hk _ _ hra) hk fun H4 S4=>?_
  have eD:=S4 _ _ hDy
  have fs:=jQ (p:=p) erow
  cases e:p row with
  | false=>
   refine iteF (hN _ _ eD ⟨?_,fun b o z=>S4 _ _ (hk _ _ z)⟩)
   rw[fs,e,if_neg yZL,List.append_nil]
   exact xY (qC S4) pl
  | true=>
   refine iteT ⟨_,rfl,eD,small2 (by omega),hN _ _ qW ⟨?_,fun b o z=>?_⟩⟩
   .have T4:Tups H' (upd H4 D (.lst (ys++[.ref ra]))):=fun b xs z=>by rw[qA (jU z hDy (by intro z;cases z))];exact S4 _ _ z
    rw[fs,e,if_pos rfl]
    exact Paired.snoc (xY T4 pl) ⟨ra,rfl,T4 _ _ (hk _ _ hra)⟩
   .rw[qA (qB z hD)];exact S4 _ _ (hk _ _ z)
 obtain⟨pl,hk⟩:=hP
 rw[<- lr,yYJ] at pl
 exact q D ys H5 hD hk hDy pl
theorem qZl:xH ["world"] ["world"] (xB (top 37)):=by constructor <;> first | rfl | wtm_at"d"
theorem kU:CompOk (xB (top 37)) ["world"] (scAt (xC (top 37)) [0] []) ["standing","world"] 1 [0]:=
 by constructor <;> wtm_at"d"
def qIv:Sp:=fun vs H Q _=>∃(W:Wd) (p bx dx lx:Addr) (bv gv:V),vs=[.ref p]/\H p=some (.tup [.ref bx,.ref dx,.ref lx,bv,gv])/\WAt H W bx dx lx bv gv/\WOk W/\
 ∀(r:Addr) (ss:List V) (H':Hp),H r=none->Same H H'->H' r=some (.lst ss)->Paired (TupIn H') (goodV W.bs W.bt) ss->Q (.ref r) H'
theorem qUc (F:Fd K mg "first_known" (top 37) ["world"])(kh:Dn P w K mg base "standings" 2 ["world"] wM)(jq:Dn P w K mg base "holds" 26 ["condition","boxes","standing"] qYd):Dn P w K mg base "first_known" 27 ["world"] qIv:=by
 refine F.ok qZl (fun vs H Q E h=>?_) (fun f zy A outer s H vs Q E hr h=>?_)
 .obtain⟨_,_,_,_,_,_,_,rfl,_⟩:=h
  rfl
 obtain⟨W,p,bx,dx,lx,bv,gv,rfl,ep,A0,ok,q⟩:=h
 have b6:=ok.b6
 have lal:=wG ok.b25 W.bs.length (yZD _)
 rw[yYJ] at lal
 have p5:=pow56 ok.b6
 refine⟨_,(qJ (qO (zJ rfl kU (xQ (K:=K) (qD kh hr (qQ (pv 0) qX))) (fun cl fp s H=>(qH (i:=0) kU.nd rfl (Or.inl rfl) (.inr rfl))) (fun cl fp s H=>(kQ (kG (qD jq hr (qQ (xF (qT (K:=K)) (pv 1) qF) (qQ (xF (qT (K:=K)) (pv 1) qF) (qQ (pv 0) qX))))))) (fun cl fp s H=>(pv 0))))),?_⟩
 wtm_at "zf"
 refine⟨W,p,bx,dx,lx,bv,gv,rfl,ep,A0,ok,fun al ss H1 nal S1 eal pal=>?_⟩
 refine xYo (SqL.of eal) ?_
 refine qZb (p:=fun vals=>W.bt.truth (envOf (kvsOf W.bs vals))) eal pal (by omega) (fun ra row H' R hrow era S2 hR=>?_) fun D ys H' nD S2 eD py=>q D ys H' (S1.free nD) (S1.trans S2) eD py
 have A2:=A0.same (S1.trans S2)
 have ep2:=S2 _ _ (S1 _ _ ep)
 have fits:=jP hrow
 wtm_at"z"
 refine⟨W.bt,bv,bx,ra,W.bs,row,rfl,A2.beg,ok.beg,ok.begd,⟨A2.boxes,era,fits.stands ok.b25,by omega⟩,fun H3 S3=>?_⟩
 wtm_at"z"
 exact hR H3 S3
theorem kF:xH ["condition","boxes","known","standing"] ["condition","boxes","known"] (xB (top 42)):=by constructor <;> first | rfl | wtm_at"d"
def spEach:Sp:=fun vs H Q _=>∃(t:Th) (v:V) (bx ka:Addr) (bs:List (Str×Int)) (rows:List (List Int)) (ss:List V),vs=[v,.ref bx,.ref ka]/\t.At H v/\Cond' (bs.map (·.1)) t/\t.dep<=12/\(∃us,H bx=some (.lst us)/\Paired (BoxIn H) bs us)/\bs.length<=6/\(∀b∈bs,2<=b.2/\b.2<=5)/\
 H ka=some (.lst ss)/\Paired (TupIn H) rows ss/\(∀row∈rows,Fits bs row)/\∀H',Same H H'->Q (.bl (rows.all fun r=>t.truth (envOf (kvsOf bs r)))) H'
theorem qUo {α:Type}{p:α->Bool}{l:List α}{i:Nat}{x:α}(h:l[i]? = some x)(a:(l.take i).all p=true)(b:p x=true):(l.take (i+1)).all p=true:=by
 rw[yYM,h,List.all_append,a]
 simp[b]
theorem xYq (F:Fd K mg "holds_at_each" (top 42) ["condition","boxes","known"])(jq:Dn P w K mg base "holds" 26 ["condition","boxes","standing"] qYd):Dn P w K mg base "holds_at_each" 27 ["condition","boxes","known"] spEach:=by
 refine F.ok kF (fun vs H Q E h=>?_) (fun f zy A outer s H vs Q E hr h=>?_)
 .obtain⟨_,_,_,_,_,_,_,rfl,_⟩:=h
  rfl
 obtain⟨t,v,bx,ka,bs,rows,ss,rfl,at',cx,dp,hb,b6,b25,eka,pr,hf,q⟩:=h
 have lr:=pr.length
 refine⟨_,(qZ (xT PassesOwn.never rfl (xQ (K:=K) (pv 2)) (qH (i:=3) kF.nd rfl (by wtm_at "zo")) (qJ (zG (qJv (kG (qD jq hr (qQ (pv 0) (qQ (pv 1) (qQ (pv 3) qX)))))) (qJ (qO qQh)) qY)))
  (qJ (qO qQh))),?_⟩
 wtm_at "zf"
 refine xYo (SqL.of eka) ?_
 refine jK (xs:=ss) (fun i σ' H'=>∃z3:Option V,σ'=[some v,some (.ref bx),some (.ref ka),z3]/\Same H H'/\((rows.take i).all fun r=>t.truth (envOf (kvsOf bs r)))=true) ⟨none,rfl,Same.refl _,rfl⟩
  (fun i σ' H' _ hP=>?_) (fun i x σ' H' ex hP=>?_) (fun σ' H' hP=>?_)
 .obtain⟨_,rfl,S1,_⟩:=hP
  exact SqL.of (S1 _ _ eka)
 .obtain⟨z3,rfl,S1,ha⟩:=hP
  have hi:i<rows.length:=by rw[lr];exact(yYB.mp ex).1
  obtain⟨row,erow⟩:∃b,rows[i]? = some b:=⟨_,yYA hi⟩
  have hm:=yYE erow
  obtain⟨ra,rfl,hra⟩:=xV pr erow ex
  obtain⟨us,ebx,pb⟩:=hb
  wtm_at"z"
  refine⟨t,v,bx,ra,bs,row,rfl,at'.mono (qC S1),cx,dp,⟨⟨us,S1 _ _ ebx,xK (qC S1) pb⟩,S1 _ _ hra,(hf row hm).stands b25,by omega⟩,fun H3 S3=>?_⟩
  wtm_at"z"
  cases e:t.truth (envOf (kvsOf bs row)) with
  | true=>
   wtm_at"z"
   exact⟨_,rfl,S1.trans S3,qUo erow ha e⟩
  | false=>
   have z:(rows.all fun r=>t.truth (envOf (kvsOf bs r)))=false:=Bool.eq_false_iff.mpr fun y=>by
    have:=List.all_eq_true.mp y row hm
    rw[e] at this
    cases this
   rw[z] at q
   wtm_at"z"
   exact q H3 (S1.trans S3)
 .obtain⟨z3,rfl,S1,ha⟩:=hP
  rw[<- lr,yYJ] at ha
  rw[ha] at q
  wtm_at"z"
  exact q H' S1
structure Srt (ms S:List (List Int)):Prop where
 up:ms.Pairwise fun a b=>HT.lexLt a b=true
 mem:∀k,k∈ms↔k∈S
theorem xKb {ms:List (List Int)}(h:ms.Pairwise fun a b=>HT.lexLt b a=false)(nd:ms.Nodup):ms.Pairwise fun a b=>HT.lexLt a b=true:=by
 refine(List.Pairwise.and h nd).imp fun{a b} ⟨h1,h2⟩=>?_
 cases c:HT.lexLt a b with
 | true=>rfl
 | false=>exact absurd (TM.lex_total a b c h1) h2
theorem wK {ws xs:List (List Int)}(nd:ws.Nodup)(h:∀x∈ws,x∈xs):ws.length<=xs.length:=ST.nd_le ws xs nd h
def zY (bs:List (Str×Int))(wys:List (List (Str×Th)))(rows:List (List Int)):List (List Int):=rows.flatMap fun r=>wys.map fun wy=>xU bs wy r
theorem qZe {bs:List (Str×Int)}{wys:List (List (Str×Th))}{rows:List (List Int)}{i:Nat}{r:List Int}(h:rows[i]? = some r):zY bs wys (rows.take (i+1))=zY bs wys (rows.take i)++wys.map fun wy=>xU bs wy r:=by
 unfold zY
 rw[yYM,h,List.flatMap_append]
 show _++(_++[])=_
 rw[List.append_nil]
theorem qJn (bs:List (Str×Int))(wys:List (List (Str×Th))):∀rows:List (List Int),(zY bs wys rows).length=rows.length * wys.length
 | []=>by rw[yYU,Nat.zero_mul];rfl
 | r::rows=>by
  show((wys.map fun wy=>xU bs wy r)++zY bs wys rows).length=_
  rw[yYI,yYC,qJn bs wys rows,yYT,Nat.succ_mul]
  omega
theorem kW {bs:List (Str×Int)}{wys:List (List (Str×Th))}{rows:List (List Int)}(h:∀r∈rows,Fits bs r)(h2:∀b∈bs,2<=b.2):∀k∈zY bs wys rows,Fits bs k:=fun k hk=>by
 obtain⟨r,hr,hk⟩:=List.mem_flatMap.mp hk
 obtain⟨wy,_,rfl⟩:=yYP.mp hk
 exact qZg (h r hr) h2
theorem qIe:xH ["world","known","name"] ["world","known","name"] (xB (top 39)):=by constructor <;> first | rfl | wtm_at"d"
structure Ask (H:Hp)(W:Wd)(p ka:Addr)(rows:List (List Int)):Prop where
 at':∃(bx dx lx:Addr) (bv gv:V),H p=some (.tup [.ref bx,.ref dx,.ref lx,bv,gv])/\WAt H W bx dx lx bv gv
 ok:WOk W
 b3:W.bs.length<=3
 known:∃ss,H ka=some (.lst ss)/\Paired (TupIn H) rows ss
 fits:∀r∈rows,Fits W.bs r
 few:rows.length<=200
def spMay:Sp:=fun vs H Q _=>∃(W:Wd) (p ka:Addr) (rows:List (List Int)) (d:Deed),vs=[.ref p,.ref ka,.str d.name]/\Ask H W p ka rows/\d∈W.ds/\∀H',Same H H'->Q (.bl (rows.all fun r=>d.need.truth (envOf (kvsOf W.bs r)))) H'
theorem xWh (F:Fd K mg "may_do" (top 39) ["world","known","name"])(kL:Dn P w K mg base "named" 1 ["things","name","kind"] qAn)(jw:Dn P w K mg base "holds_at_each" 27 ["condition","boxes","known"] spEach):Dn P w K mg base "may_do" 28 ["world","known","name"] spMay:=by
 refine F.ok qIe (fun vs H Q E h=>?_) (fun f zy A outer s H vs Q E hr h=>?_)
 .obtain⟨_,_,_,_,_,rfl,_⟩:=h
  rfl
 obtain⟨W,p,ka,rows,d,rfl,x,hd,q⟩:=h
 obtain⟨bx,dx,lx,bv,gv,ep,A0⟩:=x.at'
 obtain⟨ss,eka,pss⟩:=x.known
 have ok:=x.ok
 obtain⟨du,edx,pd⟩:=A0.deeds
 obtain⟨i,ei⟩:=List.mem_iff_getElem?.mp hd
 have dok:=ok.deeds d hd
 refine⟨_,(qJ (qO (qD jw hr (qQ (xF (qT (K:=K)) (qD kL hr (qQ (xF (qT (K:=K)) (pv 0) qF) (qQ (pv 2) (qQ qG qX)))) qF) (qQ (xF (qT (K:=K)) (pv 0) qF) (qQ (pv 1) qX)))))),?_⟩
 wtm_at"z"
 refine⟨dx,du,W.ds.map Deed.name,d.name,.str "deed",rfl,edx,yW pd,(yYV.mp ok.nd).1,i,by rw[yYO,ei];rfl,fun u eu=>?_⟩
 obtain⟨a,nv,wa,wu,rfl,ea,nat,ewa,pw⟩:=xV pd ei eu
 wtm_at"z"
 exact⟨d.need,nv,bx,ka,W.bs,rows,ss,rfl,nat,dok.need,dok.dep,A0.boxes,ok.b6,ok.b25,eka,pss,x.fits,q⟩
theorem wJ:xH ["world","known","name","ways","coming","standing"] ["world","known","name"] (xB (top 40)):=by constructor <;> first | rfl | wtm_at"d"
theorem qJo:CompOk (xB (top 40)) ["world","known","name","ways","coming","standing"] (scAt (xC (top 40)) [2,0] [1]) ["way","standing","world"] 1 [5,0]:=
 by constructor <;> wtm_at"d"
def qVc:Sp:=fun vs H Q _=>∃(W:Wd) (p ka:Addr) (rows:List (List Int)) (d:Deed),vs=[.ref p,.ref ka,.str d.name]/\Ask H W p ka rows/\d∈W.ds/\d.ways.length<=100/\(zY W.bs d.ways rows).length<=3/\
 ∀(r:Addr) (us:List V) (ms:List (List Int)) (H':Hp),H r=none->Same H H'->H' r=some (.lst us)->Paired (TupIn H') ms us->Srt ms (zY W.bs d.ways rows)->Q (.ref r) H'
theorem qGb (F:Fd K mg "behind" (top 40) ["world","known","name"])(B:Bl mg)(yl:mg "set" = none)(yn:mg "sorted" = none)(kL:Dn P w K mg base "named" 1 ["things","name","kind"] qAn)(uj:Dn P w K mg base "behind_way" 14 ["boxes","way","standing"] qDd):Dn P w K mg base "behind" 15 ["world","known","name"] qVc:=by
 refine F.ok wJ (fun vs H Q E h=>?_) (fun f zy A outer s H vs Q E hr h=>?_)
 .obtain⟨_,_,_,_,_,rfl,_⟩:=h
  rfl
 obtain⟨W,p,ka,rows,d,rfl,x,hd,dl,l64,q⟩:=h
 obtain⟨bx,dx,lx,bv,gv,ep,A0⟩:=x.at'
 obtain⟨ss,eka,pss⟩:=x.known
 have ok:=x.ok
 have few:=x.few
 have b6:=ok.b6
 obtain⟨us,ebx,pb⟩:=A0.boxes
 obtain⟨du,edx,pd⟩:=A0.deeds
 obtain⟨i0,ei⟩:=List.mem_iff_getElem?.mp hd
 have dok:=ok.deeds d hd
 have ls0:=pss.length
 refine⟨_,(qZ (xG (i:=3) wJ.nd rfl (xF (qT (K:=K)) (qD kL hr (qQ (xF (qT (K:=K)) (pv 0) qF) (qQ (pv 2) (qQ qG qX)))) qF))
  (qZ (xG (i:=4) wJ.nd rfl (xO qX))
  (qZ (xT PassesOwn.never rfl (xQ (K:=K) (pv 1)) (qH (i:=5) wJ.nd rfl (by wtm_at "zo")) (qJ (qR (yN (K:=K) PySem.F.plainAttrs_list PySem.F.slot_list_extend PySem.F.type_list_extend qXo (pv 4) (qQ (zJ rfl qJo (xQ (K:=K) (pv 3)) (fun cl fp s H=>(qH (i:=0) qJo.nd rfl (Or.inl rfl) (.inr rfl))) (fun cl fp s H=>zF) (fun cl fp s H=>(qD uj hr (qQ (xF (qT (K:=K)) (pv 2) qF) (qQ (pv 0) (qQ (pv 1) qX)))))) qX)))))
  (qJ (qO (xJ (qGn (P:=P) (w:=w) rfl) rfl yn qPn (qQ (xZ (qPf (P:=P) (w:=w) (K:=K) rfl hr.units) rfl yl xXj (qQ (pv 4) qX)) qX))))))),?_⟩
 wtm_at"z"
 refine⟨dx,du,W.ds.map Deed.name,d.name,.str "deed",rfl,edx,yW pd,(yYV.mp ok.nd).1,i0,by rw[yYO,ei];rfl,fun u eu=>?_⟩
 obtain⟨a,nv,wa,wu,rfl,ea,nat,ewa,pw⟩:=xV pd ei eu
 wtm_at"z"
 refine⟨ll0,fun cg hcg=>?_⟩
 generalize eQ:upd H cg _=H1
 obtain⟨S1,ecg⟩:=laid hcg eQ
 wtm_at "zf"
 refine⟨ka,rfl,⟨ss,SqL.of (S1 _ _ eka)⟩,?_⟩
 refine xS (xs:=ss) (fun i σ' H'=>∃(z:Option V) (ys:List V),σ'=[some (.ref p),some (.ref ka),some (.str d.name),some (.ref wa),some (.ref cg),z]/\H' cg=some (.lst ys)/\Paired (TupIn H') (zY W.bs d.ways (rows.take i)) ys/\Same H H') ⟨none,[],rfl,ecg,.nil,S1⟩
  (fun i σ' H' _ hP=>?_) (fun N rt bk i u σ' H' ex hP hN=>?_) (fun σ' H' hP=>?_)
 .obtain⟨_,_,_,_,_,S⟩:=hP
  exact SqL.of (S _ _ eka)
 .obtain⟨z,ys,rfl,ecg',py,S'⟩:=hP
  have hi:i<rows.length:=by rw[ls0];exact(yYB.mp ex).1
  obtain⟨row,erow⟩:∃b,rows[i]? = some b:=⟨_,yYA hi⟩
  obtain⟨st,rfl,est⟩:=xV pss erow ex
  have fits:=x.fits row (yYE erow)
  have ly:=py.length
  rw[qJn,yYF] at ly
  have lb:(min i rows.length) * d.ways.length<=200 * 100:=Nat.mul_le_mul (by omega) dl
  wtm_at"z"
  refine qVx (SqL.of ecg') ?_
  wtm_at"z"
  refine xQx ?_
  wtm_at"z"
  refine⟨wa,rfl,⟨wu,SqL.of (S' _ _ ewa)⟩,?_⟩
  refine qHb (bs:=W.bs) (vals:=row) (S' _ _ ewa) (Paired.mapP pw fun _ _ y=>y.same S') dok.le (fun u wy H2 R hwy wi S2 hR=>?_) fun D zs H2 nD S2 eD pz=>?_
  .obtain⟨ya,cs,rfl,eya,pc⟩:=wi
   have S3:=S'.trans S2
   refine⟨_,rfl,p,_,0,.ref bx,rfl,rfl,SqT.of (S3 _ _ ep),rfl,_,rfl,_,rfl,bx,ya,st,W.bs,wy,row,us,cs,rfl,S3 _ _ ebx,xK (qC S3) pb,ok.named.nd,by omega,ok.b25,eya,pc,dok.ways wy hwy,S3 _ _ est,fits,hR⟩
  .have lz:=pz.length
   rw[yYC] at lz
   wtm_at"z"
   refine⟨cg,D,ys,zs,rfl,rfl,S2 _ _ ecg',eD,qBh (by omega),?_⟩
   have T:Tups H2 (upd H2 cg (.lst (ys++zs))):=fun b xs e=>by rw[qA (jU e (S2 _ _ ecg') (by intro z;cases z))];exact e
   refine hN _ _ ⟨_,ys++zs,rfl,qW,?_,fun b o e=>by rw[qA (qB e hcg)];exact(S'.trans S2) _ _ e⟩
   rw[qZe erow]
   exact qQq (xY ((qC S2).trans T) py) (xY T pz)
 obtain⟨z,ys,rfl,ecg',py,S'⟩:=hP
 rw[<- ls0,yYJ] at py
 have cf:=kW (wys:=d.ways) x.fits fun b hb=>(ok.b25 b hb).1
 have al:=wG ok.b25 W.bs.length (yZD _)
 rw[yYJ] at al
 have p125:5 ^ W.bs.length<=5 ^ 3:=Nat.pow_le_pow_right (by decide) x.b3
 wtm_at"z"
 refine⟨cg,ys,zY W.bs d.ways rows,rfl,SqL.of ecg',py,fun zs nd sub=>yZJ (wK nd sub) l64,fun sp xs nsp ndx hx hall=>?_⟩
 have S2:=qV nsp (SetT P w sp xs)
 have esp:upd H' sp (SetT P w sp xs) sp=some (SetT P w sp xs):=qW
 generalize upd H' sp (SetT P w sp xs)=H2 at S2 esp ⊢
 wtm_at"z"
 refine⟨sp,xs,rfl,esp,yZJ (by have:=wK ndx fun k hk=>(by obtain⟨y,hy,rfl⟩:=yYP.mp hk;exact(hx y hy).1);rw[yYC] at this;exact this) l64,fun y hy=>⟨fun z=>?_,S2 _ _ (hx y hy).2⟩,fun L ms nL pm so=>?_⟩
 .have f1:=(cf y.1 (hx y hy).1).1
  rw[z] at f1
  have:=ok.b1
  rw[yYU] at f1
  omega
 have S3:=S2.trans (qV nL (.lst (ms.map fun x=>V.ref x.2)))
 have S4:=S'.trans S3
 refine q L (ms.map fun x=>V.ref x.2) (ms.map (·.1)) _ ((S'.trans S2).free nL) S4 qW ?_ ⟨xKb so ((pm.map (·.1)).nodup_iff.mpr ndx),fun k=>?_⟩
 .have all:∀y∈ms,H' y.2=some (.tup (intsV y.1)):=fun y hy=>(hx y (pm.mem_iff.mp hy)).2
  have:∀l:List (List Int×Addr),(∀y∈l,H' y.2=some (.tup (intsV y.1)))->Paired (TupIn (upd H2 L (.lst (ms.map fun x=>V.ref x.2)))) (l.map (·.1)) (l.map fun x=>V.ref x.2):=by
   intro l
   induction l with
   | nil=>intro _;exact .nil
   | cons y l ih=>intro h;exact .cons ⟨y.2,rfl,S3 _ _ (h y yYG)⟩ (ih fun z hz=>h z (yYH _ hz))
  exact this ms all
 .rw[(pm.map (·.1)).mem_iff]
  constructor
  .intro hk
   obtain⟨y,hy,rfl⟩:=yYP.mp hk
   exact(hx y hy).1
  .exact hall k
theorem band (a b:Nat):Builtin.bitAnd (a:Int) (b:Int)=((a &&& b:Nat):Int):=by
 unfold Builtin.bitAnd
 simp
theorem bnot2 (a:Nat):Builtin.bitNot (Builtin.bitNot (a:Int))=(a:Int):=by
 unfold Builtin.bitNot
 omega
theorem bor (a b:Nat):Builtin.bitOr (a:Int) (b:Int)=((a ||| b:Nat):Int):=by
 have n:∀a:Nat,decide (0<=Builtin.bitNot (a:Int))=false:=fun a=>decide_eq_false (by unfold Builtin.bitNot;omega)
 unfold Builtin.bitOr Builtin.bitAnd
 rw[n a,n b]
 show Builtin.bitNot (Builtin.bitNot _)=_
 rw[bnot2,bnot2,bnot2]
 rfl
structure Msk (rows:List (List Int))(m:Nat)(S:List Int->Bool):Prop where
 at':∀(j:Nat) r,rows[j]? = some r->m.testBit j=S r
 out:∀j:Nat,rows.length<=j->m.testBit j=false
section
variable {rows:List (List Int)}{m m':Nat}{S S':List Int->Bool}
theorem Msk.zero:Msk rows 0 fun _=>false:=⟨fun j r _=>Nat.zero_testBit j,fun j _=>Nat.zero_testBit j⟩
theorem Msk.or (a:Msk rows m S)(b:Msk rows m' S'):Msk rows (m ||| m') fun r=>S r || S' r:=
 ⟨fun j r e=>by rw[Nat.testBit_or,a.at' j r e,b.at' j r e],fun j h=>by rw[Nat.testBit_or,a.out j h,b.out j h];rfl⟩
theorem Msk.one (nd:rows.Nodup){i:Nat}{r:List Int}(e:rows[i]? = some r):Msk rows (2 ^ i) fun q=>decide (q=r):=by
 have hi:=(yYB.mp e).1
 refine⟨fun j q eq=>?_,fun j h=>?_⟩
 .rw[Nat.testBit_two_pow]
  refine decide_eq_decide.mpr ⟨fun z=>?_,fun z=>?_⟩
  .subst z;rw[e] at eq;exact(Option.some.inj eq).symm
  .subst z;exact(List.getElem?_inj hi nd).mp (e.trans eq.symm)
 .rw[Nat.testBit_two_pow];exact decide_eq_false (by omega)
theorem Msk.congr (a:Msk rows m S)(h:∀r∈rows,S r=S' r):Msk rows m S':=⟨fun j r e=>by rw[a.at' j r e,h r (yYE e)],a.out⟩
theorem Msk.within (a:Msk rows m S)(b:Msk rows m' S'):decide (m &&& m'=m)=rows.all fun r=>!S r || S' r:=by
 rw[Bool.eq_iff_iff,decide_eq_true_iff,List.all_eq_true]
 constructor
 .intro h r hr
  obtain⟨j,ej⟩:=List.mem_iff_getElem?.mp hr
  have z:=congrArg (fun x=>Nat.testBit x j) h
  simp only[Nat.testBit_and,a.at' j r ej,b.at' j r ej] at z
  cases h1:S r <;> cases h2:S' r <;> simp[h1,h2] at z ⊢
 .intro h
  refine Nat.eq_of_testBit_eq fun j=>?_
  rw[Nat.testBit_and]
  by_cases hj:j<rows.length
  .obtain⟨r,er⟩:∃r,rows[j]? = some r:=⟨_,yYA hj⟩
   have z:=h r (yYE er)
   rw[a.at' j r er,b.at' j r er]
   cases h1:S r <;> cases h2:S' r <;> simp[h1,h2] at z ⊢
  .rw[a.out j (by omega)];rfl
theorem Msk.bit (a:Msk rows m S){i:Nat}{r:List Int}(e:rows[i]? = some r):decide (((m &&& 2 ^ i:Nat):Int)≠0)=S r:=by
 rw[<- a.at' i r e,Bool.eq_iff_iff,decide_eq_true_iff]
 constructor
 .intro h
  cases hb:m.testBit i with
  | true=>rfl
  | false=>
   refine absurd ?_ h
   have:m &&& 2 ^ i=0:=Nat.eq_of_testBit_eq fun j=>by
    rw[Nat.testBit_and,Nat.testBit_two_pow,Nat.zero_testBit]
    by_cases z:i=j
    .subst z;rw[hb];rfl
    .rw[decide_eq_false z,Bool.and_false]
   rw[this];rfl
 .intro h z
  have z:m &&& 2 ^ i=0:=by omega
  have y:=congrArg (fun x=>Nat.testBit x i) z
  simp only[Nat.testBit_and,Nat.testBit_two_pow,Nat.zero_testBit,h,decide_true,Bool.and_true] at y
  cases y
end
def bitsK:List (List Int)->Nat->List (List Key×V)
 | [],_=>[]
 | r::rs,i=>(ST.ik r,.int ((2 ^ i:Nat):Int))::bitsK rs (i+1)
theorem jW:∀(rows:List (List Int)) (i:Nat),(bitsK rows i).length=rows.length
 | [],_=>rfl
 | r::rs,i=>by rw[bitsK,yYT,yYT,jW rs]
theorem vZ:∀(rows:List (List Int)) (i j:Nat) (r:List Int),rows[j]? = some r->(bitsK rows i)[j]? = some (ST.ik r,.int ((2 ^ (i+j):Nat):Int))
 | [],_,_,_,h=>by simp at h
 | q::rs,i,0,r,h=>by cases h;rfl
 | q::rs,i,j+1,r,h=>by
  have:=vZ rs (i+1) j r h
  rw[show i+1+j=i+(j+1) by omega] at this
  exact this
theorem qYx:∀(rows:List (List Int)) (i:Nat) (r:List Int),bitsK (rows++[r]) i=bitsK rows i++[(ST.ik r,.int ((2 ^ (i+rows.length):Nat):Int))]
 | [],_,_=>rfl
 | q::rs,i,r=>by
  show _::bitsK (rs++[r]) (i+1)=_::(bitsK rs (i+1)++_)
  rw[qYx rs (i+1) r,yYT,show i+1+rs.length=i+(rs.length+1) by omega]
theorem ik_inj {a b:List Int}(h:ST.ik a=ST.ik b):a=b:=(List.map_inj_right fun x y e=>Sum.inl.inj e).mp h
theorem qAw:∀(rows:List (List Int)) (i j:Nat) (r:List Int),rows.Nodup->rows[j]? = some r->valV (bitsK rows i) (ST.ik r)=some (.int ((2 ^ (i+j):Nat):Int))
 | [],_,_,_,_,h=>by simp at h
 | q::rs,i,0,r,_,h=>by cases h;exact zW rfl
 | q::rs,i,j+1,r,nd,h=>by
  have nd':=List.nodup_cons.mp nd
  have h:rs[j]? = some r:=h
  have ne:¬ST.ik q=ST.ik r:=fun z=>nd'.1 (by rw[ik_inj z];exact yYE h)
  have:=qAw rs (i+1) j r nd'.2 h
  rw[show i+1+j=i+(j+1) by omega] at this
  rw[bitsK,zA ne];exact this
theorem qRz {rows:List (List Int)}{i:Nat}{r:List Int}{v:V}(h:r∉rows):putK (bitsK rows i) (ST.ik r) v=bitsK rows i++[(ST.ik r,v)]:=by
 unfold putK
 rw[if_neg]
 intro z
 obtain⟨x,hx,e⟩:=List.any_eq_true.mp z
 obtain⟨j,ej⟩:=List.mem_iff_getElem?.mp hx
 have hj:j<rows.length:=by rw[<- jW rows i];exact(yYB.mp ej).1
 have eg:=vZ rows i j _ (yYA hj)
 rw[ej] at eg
 cases eg
 have e:=of_decide_eq_true e
 have e:rows[j]=r:=ik_inj e
 exact h (by rw[<- e];exact List.getElem_mem hj)
structure Kind (K:yZP)(C:Addr)(fs:List Str):Prop where
 cls:Cls K C
 no:∀f∈fs,NoAttr K C f
theorem qJz {a C dx:Addr}{fs:List (Str×V)}{ns:List Str}{v:V}{f:Str}{i:Nat}{σ:St}{H:Hp}{Q:VK}(hv:σ[i]? = some (some (.ref a)))(ha:H a=some (.ins C dx fs))(kd:Kind K C ns)(hf:f∈ns)(l:fs.lookup f=some v)(q:Q v H):tFld K (tVar i) f σ H Q:=
 ⟨_,hv,a,C,dx,fs,v,rfl,ha,kd.cls,kd.no f hf,l,q⟩
def chartF:List Str:=["bits","goal","deeds","looks"]
theorem chF:Str.ofString "bits" ∈ chartF/\Str.ofString "goal" ∈ chartF/\Str.ofString "deeds" ∈ chartF/\Str.ofString "looks" ∈ chartF:=by wtm_at"d"
theorem qEc {H:Hp}{a:Addr}{r:List Int}(h:H a=some (.tup (intsV r))):H a=some (.tup ((ST.ik r).map kV)):=by rw[ST.ik_kV];exact h
theorem wR {H H1:Hp}{r:Addr}{o:HO}(S:Same H H1)(n:H r=none):Same H (upd H1 r o):=fun b u e=>by rw[qA (qB e n)];exact S _ _ e
theorem yJ:xH ["things","bits","bit","thing"] ["things"] (xB (top 45)):=by constructor <;> first | rfl | wtm_at"d"
def spBits:Sp:=fun vs H Q _=>∃(la:Addr) (ss:List V) (rows:List (List Int)),vs=[.ref la]/\H la=some (.lst ss)/\Paired (TupIn H) rows ss/\rows.Nodup/\rows.length<=200/\
 ∀(d:Addr) (H':Hp),H d=none->Same H H'->H' d=some (.dT (bitsK rows 0))->Q (.ref d) H'
theorem xYz (F:Fd K mg "bits_for" (top 45) ["things"]):Dn P w K mg base "bits_for" 1 ["things"] spBits:=by
 refine F.ok yJ (fun vs H Q E h=>?_) (fun f zy A outer s H vs Q E hr h=>?_)
 .obtain⟨_,_,_,rfl,_⟩:=h
  rfl
 obtain⟨la,ss,rows,rfl,ela,pr,nd,l200,q⟩:=h
 have lr:=pr.length
 have hu:=qWh hr
 refine⟨_,(qZ (xG (i:=1) yJ.nd rfl qSh)
  (qZ (xG (i:=2) yJ.nd rfl qF)
  (qZ (xT PassesOwn.never rfl (xQ (K:=K) (pv 0)) (qH (i:=3) yJ.nd rfl (by wtm_at "zo")) (qZ (qYm hu (pv 1) (pv 3) (pv 2) rfl)
  (qJ (qMq (i:=2) yJ.nd rfl (by wtm_at "zo") (pv 2) xJc))))
  (qJ (qO (pv 1)))))),?_⟩
 wtm_at"z"
 intro d hd
 generalize eQ:upd H d _=H1
 obtain⟨Sd,ed⟩:=laid hd eQ
 wtm_at "zf"
 refine⟨la,rfl,⟨ss,SqL.of (Sd _ _ ela)⟩,?_⟩
 refine xS (xs:=ss) (fun i σ' H'=>∃z3:Option V,σ'=[some (.ref la),some (.ref d),some (.int ((2 ^ i:Nat):Int)),z3]/\Same H H'/\H' d=some (.dT (bitsK (rows.take i) 0))) ⟨none,rfl,Sd,ed⟩ (fun i σ' H' _ hP=>?_) ?_ ?_
 .obtain⟨_,rfl,S',_⟩:=hP
  exact SqL.of (S' _ _ ela)
 .rintro N rt bk i u σ' H' eu ⟨z3,rfl,S',ed'⟩ hN
  obtain⟨r,er⟩:∃r,rows[i]? = some r:=⟨_,yYA (by rw[lr];exact(yYB.mp eu).1)⟩
  obtain⟨ra,rfl,era⟩:=xV pr er eu
  have hi:=(yYB.mp er).1
  have lt:(rows.take i).length=i:=by rw[yYF];omega
  have nr:r∉rows.take i:=fun z=>by
   obtain⟨j,ej⟩:=List.mem_iff_getElem?.mp z
   rw[List.getElem?_take] at ej
   by_cases hj:j<i
   .rw[if_pos hj] at ej
    have:=(List.getElem?_inj (by omega) nd).mp (ej.trans er.symm)
    omega
   .rw[if_neg hj] at ej;cases ej
  wtm_at"z"
  refine⟨d,_,rfl,.t ed' (qEc (S' _ _ era)) (small (by rw[jW];omega)),?_⟩
  rw[qRz nr]
  refine⟨_,rfl,_,rfl,_,_,rfl,rfl,?_⟩
  refine hN _ _ ⟨some (.ref ra),?_,wR S' hd,?_⟩
  .show [some (V.ref la),some (V.ref d),some (V.int (((2 ^ i:Nat):Int)+((2 ^ i:Nat):Int))),some (V.ref ra)]=_
   rw[show((2 ^ i:Nat):Int)+((2 ^ i:Nat):Int)=((2 ^ (i+1):Nat):Int) by rw[Nat.pow_succ];omega]
  .rw[qW,yYM,er]
   show _=some (HO.dT (bitsK (rows.take i++[r]) 0))
   rw[qYx,lt,Nat.zero_add]
 .rintro σ' H' ⟨z3,rfl,S',ed'⟩
  rw[<- lr,yYJ] at ed'
  wtm_at"z"
  exact q d H' hd S' ed'
theorem qVg:xH ["known","other"] ["known","other"] (xB (top 46)):=by constructor <;> first | rfl | wtm_at"d"
def qYw:Sp:=fun vs H Q _=>∃a b:Nat,vs=[.int (a:Int),.int (b:Int)]/\Q (.bl (decide (a &&& b=a))) H
theorem qOv (F:Fd K mg "is_within" (top 46) ["known","other"]):Dn P w K mg base "is_within" 1 ["known","other"] qYw:=by
 refine F.ok qVg (fun vs H Q E h=>?_) (fun f zy A outer s H vs Q E hr h=>?_)
 .obtain⟨_,_,rfl,_⟩:=h
  rfl
 obtain⟨a,b,rfl,q⟩:=h
 refine⟨_,(qJ (qO (kX jM (xX qEj (pv 0) (pv 1)) (pv 0) (xE _)))),?_⟩
 wtm_at"z"
 rw[band]
 have e:decide (V.int ((a &&& b:Nat):Int)=V.int (a:Int))=decide (a &&& b=a):=decide_eq_decide.mpr ⟨fun z=>by have:=V.int.inj z;omega,fun z=>by rw[z]⟩
 rw[e]
 exact q
theorem wZ:xH ["knowns","whole","known"] ["knowns"] (xB (top 47)):=by constructor <;> first | rfl | wtm_at"d"
def orAll (ms:List Nat):Nat:=ms.foldl (· ||| ·) 0
def qDw:Sp:=fun vs H Q _=>∃(la:Addr) (ms:List Nat),vs=[.ref la]/\H la=some (.lst (ms.map fun m:Nat=>V.int (m:Int)))/\Q (.int (orAll ms:Int)) H
theorem qOe (F:Fd K mg "joined" (top 47) ["knowns"]):Dn P w K mg base "joined" 1 ["knowns"] qDw:=by
 refine F.ok wZ (fun vs H Q E h=>?_) (fun f zy A outer s H vs Q E hr h=>?_)
 .obtain⟨_,_,rfl,_⟩:=h
  rfl
 obtain⟨la,ms,rfl,ela,q⟩:=h
 refine⟨_,(qZ (xG (i:=1) wZ.nd rfl qF)
  (qZ (xT PassesOwn.never rfl (xQ (K:=K) (pv 0)) (qH (i:=2) wZ.nd rfl (by wtm_at "zo")) (qJ (qMq (i:=1) wZ.nd rfl (by wtm_at "zo") (pv 2) xQm)))
  (qJ (qO (pv 1))))),?_⟩
 wtm_at "zf"
 refine⟨la,rfl,⟨_,SqL.of ela⟩,?_⟩
 refine xS (xs:=ms.map fun m:Nat=>V.int (m:Int)) (fun i σ' H'=>∃z2:Option V,σ'=[some (.ref la),some (.int (orAll (ms.take i):Int)),z2]/\H'=H) ⟨none,rfl,rfl⟩ (fun i σ' H' _ hP=>?_) ?_ ?_
 .obtain⟨_,rfl,rfl⟩:=hP
  exact SqL.of ela
 .rintro N rt bk i u σ' H' eu ⟨z2,rfl,rfl⟩ hN
  rw[yYO] at eu
  obtain⟨m,em,rfl⟩:=Option.map_eq_some_iff.mp eu
  wtm_at"z"
  refine⟨_,rfl,_,rfl,_,_,rfl,rfl,?_⟩
  refine hN _ _ ⟨some (.int (m:Int)),?_,rfl⟩
  show [some (V.ref la),some (V.int (Builtin.bitOr _ _)),some (V.int (m:Int))]=_
  rw[bor]
  unfold orAll
  rw[yYM,em,List.foldl_append]
  rfl
 .rintro σ' H' ⟨z2,rfl,rfl⟩
  rw[yYC,yYJ]
  wtm_at"z"
  exact q
theorem qFj:xH ["world","known"] ["world","known"] (xB (top 38)):=by constructor <;> first | rfl | wtm_at"d"
def qDe:Sp:=fun vs H Q _=>∃(W:Wd) (p ka:Addr) (rows:List (List Int)),vs=[.ref p,.ref ka]/\Ask H W p ka rows/\∀H',Same H H'->Q (.bl (rows.all fun r=>W.gt.truth (envOf (kvsOf W.bs r)))) H'
theorem qGc (F:Fd K mg "at_goal" (top 38) ["world","known"])(jw:Dn P w K mg base "holds_at_each" 27 ["condition","boxes","known"] spEach):Dn P w K mg base "at_goal" 28 ["world","known"] qDe:=by
 refine F.ok qFj (fun vs H Q E h=>?_) (fun f zy A outer s H vs Q E hr h=>?_)
 .obtain⟨_,_,_,_,rfl,_⟩:=h
  rfl
 obtain⟨W,p,ka,rows,rfl,x,q⟩:=h
 obtain⟨bx,dx,lx,bv,gv,ep,A0⟩:=x.at'
 obtain⟨ss,eka,pss⟩:=x.known
 have ok:=x.ok
 refine⟨_,(qJ (qO (qD jw hr (qQ (xF (qT (K:=K)) (pv 0) qF) (qQ (xF (qT (K:=K)) (pv 0) qF) (qQ (pv 1) qX)))))),?_⟩
 wtm_at"z"
 exact⟨W.gt,gv,bx,ka,W.bs,rows,ss,rfl,A0.goal,ok.goal,ok.goald,A0.boxes,ok.b6,ok.b25,eka,pss,x.fits,q⟩
theorem zI:xH ["self","known","number","standing"] ["self","known"] (xB (mth 44 3)):=by constructor <;> first | rfl | wtm_at"d"
structure Bts (K:yZP)(C:Addr)(H:Hp)(x:Addr)(rows:List (List Int)):Prop where
 ex:∃dx bd fs,H x=some (.ins C dx fs)/\fs.lookup (Str.ofString "bits")=some (.ref bd)/\Rd H bd (.dT (bitsK rows 0))
 kd:Kind K C chartF
 nd:rows.Nodup
def spNum (K:yZP)(C:Addr):Sp:=fun vs H Q _=>∃(x ka:Addr) (rows ks:List (List Int)) (ss:List V),vs=[.ref x,.ref ka]/\Bts K C H x rows/\H ka=some (.lst ss)/\Paired (TupIn H) ks ss/\(∀k∈ks,k∈rows)/\
 ∀m:Nat,Msk rows m (fun r=>decide (r∈ks))->Q (.int (m:Int)) H
theorem qOi {C:Addr}(F:Md K C "number_of" "Chart.number_of" (mth 44 3) ["self","known"]):Dm P w K mg base C "number_of" 1 ["self","known"] (spNum K C):=by
 refine F.ok zI (fun vs H Q E h=>?_) (fun f zy A outer s H vs Q E hr h=>?_)
 .obtain⟨_,_,_,_,_,rfl,_⟩:=h
  rfl
 obtain⟨x,ka,rows,ks,ss,rfl,b,eka,pk,sub,q⟩:=h
 obtain⟨dx,bd,fs,ex,lb,rd⟩:=b.ex
 have hu:=qWh hr
 have lk:=pk.length
 refine⟨_,(qZ (xG (i:=2) zI.nd rfl qF)
  (qZ (xT PassesOwn.never rfl (xQ (K:=K) (pv 1)) (qH (i:=3) zI.nd rfl (by wtm_at "zo")) (qJ (qMq (i:=2) zI.nd rfl (by wtm_at "zo") (qSl hu (vP (K:=K) (pv 0)) (pv 3) qF ⟨rfl,rfl,rfl,rfl⟩) xQm)))
  (qJ (qO (pv 2))))),?_⟩
 wtm_at "zf"
 refine⟨ka,rfl,⟨ss,SqL.of eka⟩,?_⟩
 refine xS (xs:=ss) (fun i σ' H'=>∃(m:Nat) (z3:Option V),σ'=[some (.ref x),some (.ref ka),some (.int (m:Int)),z3]/\H'=H/\Msk rows m fun r=>decide (r∈ks.take i)) ⟨0,none,rfl,rfl,Msk.zero.congr fun r _=>by simp⟩ (fun i σ' H' _ hP=>?_) ?_ ?_
 .obtain⟨_,_,rfl,rfl,_⟩:=hP
  exact SqL.of eka
 .rintro N rt bk i u σ' H' eu ⟨m,z3,rfl,rfl,mk⟩ hN
  obtain⟨r,er⟩:∃r,ks[i]? = some r:=⟨_,yYA (by rw[lk];exact(yYB.mp eu).1)⟩
  obtain⟨ra,rfl,era⟩:=xV pk er eu
  obtain⟨j,ej⟩:=List.mem_iff_getElem?.mp (sub r (yYE er))
  have vb:=qAw rows 0 j r b.nd ej
  wtm_at"z"
  refine⟨_,rfl,qJz rfl ex b.kd chF.1 lb ?_⟩
  refine⟨bd,rfl,.inr ⟨_,rd⟩,_,rfl,_,.inr ⟨_,ST.ik r,ra,rd,rfl,qEc era,rfl⟩,?_⟩
  rw[vb,Nat.zero_add]
  refine⟨_,_,rfl,rfl,?_⟩
  refine hN _ _ ⟨m ||| 2 ^ j,some (.ref ra),?_,rfl,(mk.or (.one b.nd ej)).congr fun q _=>?_⟩
  .show [some (V.ref x),some (V.ref ka),some (V.int (Builtin.bitOr _ _)),some (V.ref ra)]=_
   rw[bor]
  .rw[yYM,er,Bool.eq_iff_iff]
   simp
 .rintro σ' H' ⟨m,z3,rfl,rfl,mk⟩
  rw[<- lk,yYJ] at mk
  wtm_at"z"
  exact q m mk
theorem qHe {tl:TE}{σ:St}{H:Hp}{R:It->Hp->Prop}(q:tl σ H fun x H1=>∃v d kvs,x=.ref v/\H1 v=some (ItemsV v d)/\((H1 d=some (.dT kvs)/\∀o,R (Itit d o kvs) (upd H1 d (.frz o (.dT kvs))))\/∃o,H1 d=some (.frz o (.dT kvs))/\R (Itit d o kvs) H1)):qNi tl σ H R:=q
theorem qRa {to:TE}{σ:St}{H:Hp}{Q:VK}(q:to σ H fun x H1=>qBq x [] H1 Q):qIq to σ H Q:=q
theorem qRb {tl:TE}{σ:St}{H:Hp}{R:It->Hp->Prop}(q:tl σ H fun x H1=>∃d kvs,x=.ref d/\((H1 d=some (.dT kvs)/\∀o,R (Itdt d o kvs) (upd H1 d (.frz o (.dT kvs))))\/∃o,H1 d=some (.frz o (.dT kvs))/\R (Itdt d o kvs) H1)):iDictT tl σ H R:=q
theorem qXd:xH ["self","number"] ["self","number"] (xB (mth 44 4)):=by constructor <;> first | rfl | wtm_at"d"
theorem jO:CompOk (xB (mth 44 4)) ["self","number"] (scAt (xC (mth 44 4)) [0] []) ["standing","bit","number"] 2 [1]:=
 by constructor <;> wtm_at"d"
structure BtsF (K:yZP)(C:Addr)(H:Hp)(x:Addr)(rows:List (List Int)):Prop where
 ex:∃dx bd fs o,H x=some (.ins C dx fs)/\fs.lookup (Str.ofString "bits")=some (.ref bd)/\H bd=some (.frz o (.dT (bitsK rows 0)))
 kd:Kind K C chartF
 nd:rows.Nodup
theorem BtsF.b {C:Addr}{H:Hp}{x:Addr}{rows:List (List Int)}(b:BtsF K C H x rows):Bts K C H x rows:=let ⟨dx,bd,fs,o,h1,h2,h3⟩:=b.ex;⟨⟨dx,bd,fs,h1,h2,.inr ⟨o,h3⟩⟩,b.kd,b.nd⟩
def qDx (K:yZP)(C:Addr):Sp:=fun vs H Q _=>∃(x:Addr) (rows:List (List Int)) (m:Nat) (S:List Int->Bool),vs=[.ref x,.int (m:Int)]/\BtsF K C H x rows/\Msk rows m S/\rows.length<=200/\
 ∀(r:Addr) (ss:List V) (H':Hp),H r=none->Same H H'->H' r=some (.lst ss)->Paired (TupIn H') (rows.filter S) ss->Q (.ref r) H'
theorem qOl {C:Addr}(F:Md K C "listed" "Chart.listed" (mth 44 4) ["self","number"]):Dm P w K mg base C "listed" 1 ["self","number"] (qDx K C):=by
 refine F.ok qXd (fun vs H Q E h=>?_) (fun f zy A outer s H vs Q E hr h=>?_)
 .obtain⟨_,_,_,_,rfl,_⟩:=h
  rfl
 obtain⟨x,rows,m,S,rfl,b,mk,l200,q⟩:=h
 obtain⟨dx,bd,fs,o,ex,lb,ebd⟩:=b.ex
 refine⟨_,(qJ (qO (zJ rfl jO (qMw (qMc (vP (K:=K) (pv 0)))) (fun cl fp s H=>(zH (K:=K) (n:=2) rfl (qI (qH (i:=0) jO.nd rfl (Or.inl rfl) (.inr rfl)) (qI (qH (i:=1) jO.nd rfl (Or.inl rfl) (.inr rfl)) qM)))) (fun cl fp s H=>(kQ (xQv (xX qEj (pv 2) (pv 1))))) (fun cl fp s H=>(pv 0))))),?_⟩
 wtm_at "zf"
 refine qHe (qRa (qJz rfl ex b.kd chF.1 lb ?_))
 refine⟨bd,bitsK rows 0,rfl,rfl,.inr ⟨o,ebd⟩,fun v hv=>?_⟩
 have S1:=qV hv (ItemsV v bd)
 refine⟨v,bd,_,rfl,qW,.inr ⟨o,S1 _ _ ebd,?_⟩⟩
 generalize upd H v (ItemsV v bd)=H1 at S1
 have ebd1:=S1 _ _ ebd
 refine qCw (fun D i ys H'=>Same H1 H'/\Paired (TupIn H') ((rows.take i).filter S) ys) (fun D hD=>⟨qV hD _,.nil⟩) (fun D i ys H' _ hP=>hP.1 _ _ ebd1) (fun D i k v a T ys H' N hD hDy ek ha nT hP hN=>?_) (fun D ys H2 hD hDy hP=>?_)
 .obtain⟨hk,py⟩:=hP
  have hi:i<rows.length:=by rw[<- jW rows 0];exact(yYB.mp ek).1
  obtain⟨r,er⟩:∃r,rows[i]? = some r:=⟨_,yYA hi⟩
  have eg:=vZ rows 0 i r er
  rw[ek,Nat.zero_add] at eg
  cases eg
  rw[ST.ik_kV] at ha
  have ST:=qV nT (.tup [.ref a,.int ((2 ^ i:Nat):Int)])
  have ly:=py.length
  refine⟨T,_,rfl,SqT.of qW,rfl,_,_,rfl,_,_,rfl,rfl,⟨[some (.ref a),some (.int ((2 ^ i:Nat):Int))],rfl,rfl⟩,?_⟩
  refine⟨_,rfl,_,rfl,_,_,rfl,rfl,_,rfl,?_⟩
  have e1:(Builtin.bitAnd (m:Int) ((2 ^ i:Nat):Int) != 0)=S r:=by
   rw[band,<- mk.bit er]
   by_cases z:((m &&& 2 ^ i:Nat):Int)=0
   .rw[z];rfl
   .rw[decide_eq_true z];exact bne_iff_ne.mpr z
  have hDy1:=ST _ _ hDy
  have ha1:=ST _ _ ha
  have py1:=xY (qC ST) py
  generalize upd H' T (.tup [.ref a,.int ((2 ^ i:Nat):Int)])=H3 at ST hDy1 ha1 py1
  rw[e1]
  have fs:=jQ (p:=S) er
  cases hS:S r with
  | false=>
   refine iteF (hN _ _ hDy1 ⟨hk.trans ST,?_⟩)
   rw[fs,hS,if_neg yZL,List.append_nil];exact py1
  | true=>
   refine iteT ⟨_,rfl,hDy1,small (by have:=List.length_filter_le S (rows.take i);rw[yYF] at this;omega),hN _ _ qW ⟨fun b o e=>?_,?_⟩⟩
   .rw[qA (qB e hD)];exact ST _ _ (hk _ _ e)
   .rw[fs,hS,if_pos rfl]
    have T5:Tups H3 (upd H3 D (.lst (ys++[.ref a]))):=fun b xs e=>by rw[qA (jU e hDy1 (by intro z;cases z))];exact e
    exact Paired.snoc (xY T5 py1) ⟨a,rfl,T5 _ _ ha1⟩
 .obtain⟨hk,py⟩:=hP
  rw[jW,yYJ] at py
  exact q D ys H2 (S1.free hD) (S1.trans hk) hDy py
theorem qQg:xH ["self","known"] ["self","known"] (xB (mth 44 6)):=by constructor <;> first | rfl | wtm_at"d"
def qDa (K:yZP)(C:Addr):Sp:=fun vs H Q _=>∃(x dx:Addr) (fs:List (Str×V)) (rows:List (List Int)) (m g:Nat) (S G:List Int->Bool),vs=[.ref x,.int (m:Int)]/\H x=some (.ins C dx fs)/\Kind K C chartF/\fs.lookup (Str.ofString "goal")=some (.int (g:Int))/\Msk rows m S/\Msk rows g G/\Q (.bl (rows.all fun r=>!S r || G r)) H
theorem qGd {C:Addr}(F:Md K C "is_goal" "Chart.is_goal" (mth 44 6) ["self","known"])(ki:Dn P w K mg base "is_within" 1 ["known","other"] qYw):Dm P w K mg base C "is_goal" 2 ["self","known"] (qDa K C):=by
 refine F.ok qQg (fun vs H Q E h=>?_) (fun f zy A outer s H vs Q E hr h=>?_)
 .obtain⟨_,_,_,_,_,_,_,_,rfl,_⟩:=h
  rfl
 obtain⟨x,dx,fs,rows,m,g,S,G,rfl,ex,kd,lg,mk,gk,q⟩:=h
 refine⟨_,(qJ (qO (qD ki hr (qQ (pv 1) (qQ (vP (K:=K) (pv 0)) qX))))),?_⟩
 wtm_at"z"
 refine qJz rfl ex kd chF.2.1 lg ?_
 wtm_at"z"
 refine⟨m,g,rfl,?_⟩
 rw[mk.within gk]
 exact q
theorem zM:xH ["self","world","name","need","coming"] ["self","world","name"] (xB (mth 44 1)):=by constructor <;> first | rfl | wtm_at"d"
theorem jC:CompOk (xB (mth 44 1)) ["self","world","name","need","coming"] (scAt (xC (mth 44 1)) [0] [1]) ["standing","world","name"] 1 [1,2]:=
 by constructor <;> wtm_at"d"
theorem jB:CompOk (xB (mth 44 1)) ["self","world","name","need","coming"] (scAt (xC (mth 44 1)) [1] []) ["standing","self","world","name"] 1 [0,1,2]:=
 by constructor <;> wtm_at"d"
def Saves (d:Addr)(H H':Hp):Prop:=∀b o,b≠d->H b=some o->H' b=some o
structure WSm (W:Wd):Prop where
 ok:WOk W
 b3:W.bs.length<=3
 few:(allV W.bs).length<=200
 ways:∀d∈W.ds,d.ways.length<=3
 nd:(allV W.bs).Nodup
def WPt (H:Hp)(W:Wd)(p:Addr):Prop:=∃(bx dx lx:Addr) (bv gv:V),H p=some (.tup [.ref bx,.ref dx,.ref lx,bv,gv])/\WAt H W bx dx lx bv gv
theorem WPt.same {H H':Hp}{W:Wd}{p:Addr}(x:WPt H W p)(s:Same H H'):WPt H' W p:=let ⟨bx,dx,lx,bv,gv,e,a⟩:=x;⟨bx,dx,lx,bv,gv,s _ _ e,a.same s⟩
structure ChD (H:Hp)(W:Wd)(d:Deed)(need:Nat)(cd:Addr):Prop where
 ex:∃kvs,H cd=some (.dT kvs)/\∀r∈allV W.bs,∃m:Nat,valV kvs (ST.ik r)=some (.int (m:Int))/\Msk (allV W.bs) m fun q=>decide (q∈zY W.bs d.ways [r])
 need:Msk (allV W.bs) need fun r=>d.need.truth (envOf (kvsOf W.bs r))
theorem jE {d:Addr}{H0 H H':Hp}(s:Same H0 H)(n:H0 d=none)(v:Saves d H H'):Same H0 H':=fun b o e=>v b o (qB e n) (s _ _ e)
theorem qCh {C:Addr}{i:Nat}{σ:St}{H:Hp}{R:It->Hp->Prop}{x dx bd:Addr}{fs:List (Str×V)}{kvs:List (List Key×V)}(hv:σ[i]? = some (some (.ref x)))(ex:H x=some (.ins C dx fs))(kd:Kind K C chartF)(lb:fs.lookup (Str.ofString "bits")=some (.ref bd))(rd:Rd H bd (.dT kvs))
  (h:∀o H1,Saves bd H H1->H1 bd=some (.frz o (.dT kvs))->R (Itdt bd o kvs) H1):iDictT (tFld K (tVar i) (Str.ofString "bits")) σ H R:=by
 refine qRb (qJz hv ex kd chF.1 lb ⟨bd,kvs,rfl,?_⟩)
 rcases rd with e | ⟨o,e⟩
 .exact .inl ⟨e,fun o=>h o _ (fun b u hb eb=>by rw[qA hb];exact eb) qW⟩
 .exact .inr ⟨o,e,h o H (fun _ _ _ e=>e) e⟩
theorem xWa {C x dx bd:Addr}{fs:List (Str×V)}{kvs:List (List Key×V)}{H:Hp}(ex:H x=some (.ins C dx fs))(rd:Rd H bd (.dT kvs)):x≠bd:=fun z=>by
 subst z
 rcases rd with e | ⟨o,e⟩ <;> (rw[ex] at e;cases e)
theorem w_yes {σ:St}{H:Hp}{C:Bool->Hp->Prop}(h:C true H):tYes σ H C:=h
theorem qNa {σ:St}{H:Hp}{Q:VK}{js:List Nat}{tt:TT}{bd:Addr}{o:Obj}{rows:List (List Int)}{f:List Int->Bool}(ebd:H bd=some (.frz o (.dT (bitsK rows 0))))(hl:rows.length<=200)
  (htt:∀(a:Addr) (r:List Int) (H':Hp) (R:Bool->Hp->Prop),r∈rows->H' a=some (.tup (intsV r))->Same H H'->(∀H'',Same H' H''->R (f r) H'')->tt ([some (.ref a)]++frees js σ) H' R)
  (q:∀(D:Addr) (ys:List V) (H':Hp),H D=none->Same H H'->H' D=some (.lst ys)->Paired (TupIn H') (rows.filter f) ys->Q (.ref D) H'):
  rdC 1 js (gName 0) tt (tVar 0) (Itdt bd o (bitsK rows 0)) σ H Q:=by
 refine qJm (fun D i ys H'=>Same H H'/\Paired (TupIn H') ((rows.take i).filter f) ys) (fun D hD=>⟨qV hD _,.nil⟩) (fun D i ys H' _ hP=>hP.1 _ _ ebd) (fun D i k v a ys H' N hD hDy ek ha hP hN=>?_) (fun D ys H2 hD hDy hP=>?_)
 .obtain⟨hk,py⟩:=hP
  have hi:i<rows.length:=by rw[<- jW rows 0];exact(yYB.mp ek).1
  obtain⟨r,er⟩:∃r,rows[i]? = some r:=⟨_,yYA hi⟩
  have eg:=vZ rows 0 i r er
  rw[ek] at eg
  cases eg
  rw[ST.ik_kV] at ha
  have ly:=py.length
  refine⟨⟨[some (.ref a)],rfl,rfl⟩,?_⟩
  refine htt a r H' _ (yYE er) ha hk fun H3 S3=>?_
  have fs:=jQ (p:=f) er
  cases hS:f r with
  | false=>
   refine iteF (hN _ _ (S3 _ _ hDy) ⟨hk.trans S3,?_⟩)
   rw[fs,hS,if_neg yZL,List.append_nil];exact xY (qC S3) py
  | true=>
   have hDy3:=S3 _ _ hDy
   refine iteT ⟨_,rfl,hDy3,small (by have:=List.length_filter_le f (rows.take i);rw[yYF] at this;omega),hN _ _ qW ⟨fun b o e=>?_,?_⟩⟩
   .rw[qA (qB e hD)];exact S3 _ _ (hk _ _ e)
   .rw[fs,hS,if_pos rfl]
    have T5:Tups H3 (upd H3 D (.lst (ys++[.ref a]))):=fun b xs e=>by rw[qA (jU e hDy3 (by intro z;cases z))];exact e
    exact Paired.snoc (xY T5 (xY (qC S3) py)) ⟨a,rfl,T5 _ _ (S3 _ _ ha)⟩
 .obtain⟨hk,py⟩:=hP
  rw[jW,yYJ] at py
  exact q D ys H2 hD hk hDy py
theorem qCa {σ:St}{H:Hp}{Q:VK}{js:List Nat}{te:TE}{bd:Addr}{o:Obj}{rows:List (List Int)}{G:List Int->Nat->Prop}(ebd:H bd=some (.frz o (.dT (bitsK rows 0))))(hl:rows.length<=200)
  (hte:∀(a:Addr) (r:List Int) (H':Hp) (R:VK),r∈rows->H' a=some (.tup (intsV r))->Same H H'->(∀(m:Nat) (t:Addr) (H'':Hp),G r m->Same H' H''->H'' t=some (.tup [.ref a,.int (m:Int)])->R (.ref t) H'')->te ([some (.ref a)]++frees js σ) H' R)
  (q:∀(D:Addr) (ys:List V) (kvs:List (List Key×V)) (H':Hp),H D=none->Same H H'->H' D=some (.lst ys)->Paired (PairT H') kvs ys->kvs.length=rows.length->(∀(i:Nat) r,rows[i]? = some r->∃m:Nat,kvs[i]? = some (ST.ik r,.int (m:Int))/\G r m)->Q (.ref D) H'):
  rdC 1 js (gName 0) tYes te (Itdt bd o (bitsK rows 0)) σ H Q:=by
 refine qJm (fun D i ys H'=>Same H H'/\∃kvs,Paired (PairT H') kvs ys/\kvs.length=i/\∀(j:Nat) r,j<i->rows[j]? = some r->∃m:Nat,kvs[j]? = some (ST.ik r,.int (m:Int))/\G r m) (fun D hD=>⟨qV hD _,[],.nil,rfl,fun j r h=>absurd h (Nat.not_lt_zero _)⟩) (fun D i ys H' _ hP=>hP.1 _ _ ebd) (fun D i k v a ys H' N hD hDy ek ha hP hN=>?_) (fun D ys H2 hD hDy hP=>?_)
 .obtain⟨hk,kvs,py,lk,all⟩:=hP
  have hi:i<rows.length:=by rw[<- jW rows 0];exact(yYB.mp ek).1
  obtain⟨r,er⟩:∃r,rows[i]? = some r:=⟨_,yYA hi⟩
  have eg:=vZ rows 0 i r er
  rw[ek] at eg
  cases eg
  rw[ST.ik_kV] at ha
  have ly:=py.length
  refine⟨⟨[some (.ref a)],rfl,rfl⟩,w_yes (iteT ?_)⟩
  refine hte a r H' _ (yYE er) ha hk fun m t H3 g S3 et=>?_
  have hDy3:=S3 _ _ hDy
  refine⟨hDy3,small (by omega),hN _ _ qW ⟨fun b o e=>?_,kvs++[(ST.ik r,.int (m:Int))],?_,by rw[yYI,lk];rfl,fun j r' hj er'=>?_⟩⟩
  .rw[qA (qB e hD)];exact S3 _ _ (hk _ _ e)
  .have T5:Tups H3 (upd H3 D (.lst (ys++[.ref t]))):=fun b xs e=>by rw[qA (jU e hDy3 (by intro z;cases z))];exact e
   exact Paired.snoc (Paired.mapP py fun _ _ ⟨a,b,h1,h2,h3⟩=>⟨a,b,h1,T5 _ _ (S3 _ _ h2),T5 _ _ (S3 _ _ h3)⟩) ⟨t,a,rfl,T5 _ _ et,T5 _ _ (qEc (S3 _ _ ha))⟩
  .by_cases z:j<i
   .obtain⟨m',h1,h2⟩:=all j r' z er'
    exact⟨m',by rw[List.getElem?_append_left (by omega)];exact h1,h2⟩
   .have:j=i:=by omega
    subst this
    rw[er] at er'
    cases er'
    exact⟨m,by rw[List.getElem?_append_right (by omega),lk,Nat.sub_self];rfl,g⟩
 .obtain⟨hk,kvs,py,lk,all⟩:=hP
  rw[jW] at lk all
  exact q D ys kvs H2 hD hk hDy py lk fun i r er=>all i r (yYB.mp er).1 er
theorem qJf:∀(kvs acc:List (List Key×V)),(∀k∈kvs.map (·.1),k∉acc.map (·.1))->(kvs.map (·.1)).Nodup->mergeT acc kvs=acc++kvs
 | [],acc,_,_=>(List.append_nil _).symm
 | p::kvs,acc,h,nd=>by
  have nd':=List.nodup_cons.mp nd
  have e:putK acc p.1 p.2=acc++[p]:=by
   unfold putK
   rw[if_neg]
   intro z
   obtain⟨x,hx,e⟩:=List.any_eq_true.mp z
   exact h p.1 yYG (by rw[<- of_decide_eq_true e];exact List.mem_map_of_mem hx)
  show mergeT (putK acc p.1 p.2) kvs=_
  rw[e,qJf kvs (acc++[p]) (fun k hk z=>?_) nd'.2,yYQ]
  .rfl
  .rw[yYW] at z
   rcases yYS.mp z with z | z
   .exact h k (yYH _ hk) z
   .exact nd'.1 (show p.1∈_ by rw[List.map_singleton] at z;rw[<- yYL.mp z];exact hk)
theorem qHg:∀{kvs:List (List Key×V)} {i:Nat} {k:List Key} {v:V},(kvs.map (·.1)).Nodup->kvs[i]? = some (k,v)->valV kvs k=some v
 | [],_,_,_,_,h=>by simp at h
 | p::kvs,0,k,v,_,h=>by cases h;exact zW rfl
 | p::kvs,i+1,k,v,nd,h=>by
  have nd':=List.nodup_cons.mp nd
  have h:kvs[i]? = some (k,v):=h
  rw[zA fun z=>nd'.1 (show p.1∈_ by rw[z];exact yYP.mpr ⟨(k,v),yYE h,rfl⟩)]
  exact qHg nd'.2 h
theorem xJa {rows:List (List Int)}{kvs:List (List Key×V)}(nd:rows.Nodup)(lk:kvs.length=rows.length)(all:∀(i:Nat) r,rows[i]? = some r->∃v,kvs[i]? = some (ST.ik r,v)):(kvs.map (·.1)).Nodup:=by
 have e:kvs.map (·.1)=rows.map ST.ik:=List.ext_getElem? fun i=>by
  rw[yYO,yYO]
  by_cases hi:i<rows.length
  .obtain⟨v,ev⟩:=all i _ (yYA hi)
   rw[ev,yYA hi];rfl
  .rw[List.getElem?_eq_none (by omega),List.getElem?_eq_none (by omega)];rfl
 rw[e]
 exact List.Pairwise.map _ (fun a b h z=>h (ik_inj z)) nd
def qDc (K:yZP)(C:Addr):Sp:=fun vs H Q _=>∃(H0:Hp) (W:Wd) (x dx bd p:Addr) (fs:List (Str×V)) (d:Deed),vs=[.ref x,.ref p,.str d.name]/\Same H0 H/\H0 bd=none/\fs.lookup (Str.ofString "number_of")=none/\H x=some (.ins C dx fs)/\Kind K C chartF/\fs.lookup (Str.ofString "bits")=some (.ref bd)/\Rd H bd (.dT (bitsK (allV W.bs) 0))/\WPt H0 W p/\WSm W/\d∈W.ds/\
 ∀(t cd:Addr) (need:Nat) (o:Obj) (H':Hp),Saves bd H H'->H' bd=some (.frz o (.dT (bitsK (allV W.bs) 0)))->H t=none->H cd=none->H' t=some (.tup [.int (need:Int),.ref cd])->ChD H' W d need cd->Q (.ref t) H'
theorem qGm (bs:List (Str×Int))(wys:List (List (Str×Th)))(r:List Int):(zY bs wys [r]).length=wys.length:=by
 unfold zY
 rw[List.flatMap_cons,List.flatMap_nil,List.append_nil,yYC]
theorem qGe {C:Addr}(jc:Cls K C)(F:Md K C "charted_deed" "Chart.charted_deed" (mth 44 1) ["self","world","name"])(B:Bl mg)(Jx:Dn P w K mg base "may_do" 28 ["world","known","name"] spMay)(yo:Dn P w K mg base "behind" 15 ["world","known","name"] qVc)(je:Dm P w K mg base C "number_of" 1 ["self","known"] (spNum K C)):Dm P w K mg base C "charted_deed" 29 ["self","world","name"] (qDc K C):=by
 refine F.ok zM (fun vs H Q E h=>?_) (fun f zy A outer s H vs Q E hr h=>?_)
 .obtain⟨_,_,_,_,_,_,_,_,rfl,_⟩:=h
  rfl
 obtain⟨H0,W,x,dx,bd,p,fs,d,rfl,S0,nbd,ln,ex,kd,lb,rd,wp,sm,hd,q⟩:=h
 have few:=sm.few
 have nx:=xWa ex rd
 have ask:∀{H':Hp} {a ka:Addr} {r:List Int},Same H0 H'->r∈allV W.bs->H' a=some (.tup (intsV r))->H' ka=some (.lst [.ref a])->Ask H' W p ka [r]:=fun s hr ha hka=>⟨wp.same s,sm.ok,sm.b3,⟨_,hka,.cons ⟨_,rfl,ha⟩ .nil⟩,fun q hq=>by rw[yYL.mp hq];exact jP hr,(by show 1<=200;decide)⟩
 refine⟨_,(qZ (xG (i:=3) zM.nd rfl (jT je jc (pv 0) hr (qQ (zJ rfl jC (qDn (vP (K:=K) (pv 0))) (fun cl fp s H=>(qH (i:=0) jC.nd rfl (Or.inl rfl) (.inr rfl))) (fun cl fp s H=>(kQ (kG (qD Jx hr (qQ (pv 1) (qQ (xO (qQ (pv 0) qX)) (qQ (pv 2) qX))))))) (fun cl fp s H=>(pv 0))) qX)))
  (qZ (yI (i:=4) zM.nd rfl (by wtm_at "zo") rfl jB (qDn (vP (K:=K) (pv 0))) (fun cl fp s H=>(qH (i:=0) jB.nd rfl (Or.inl rfl) (.inr rfl))) (fun cl fp s H=>zF) (fun cl fp s H=>(xP (qQ (pv 0) (qQ (jT je jc (pv 1) hr (qQ (qD yo hr (qQ (pv 2) (qQ (xO (qQ (pv 0) qX)) (qQ (pv 3) qX)))) qX)) qX)))))
  (qJ (qO (xP (qQ (pv 3) (qQ (xZ (qZo hr.units rfl) rfl B.dict' vU (qQ (pv 4) qX)) qX))))))),?_⟩
 wtm_at"z"
 refine⟨_,rfl,x,dx,fs,rfl,ex,ln,?_⟩
 wtm_at "zf"
 refine qCh rfl ex kd lb rd fun o H1 sv1 e1=>?_
 have S01:=jE S0 nbd sv1
 have ex1:=sv1 _ _ nx ex
 refine qNa (f:=fun r=>d.need.truth (envOf (kvsOf W.bs r))) e1 few (fun a r H' R hr ha S' hR=>?_) fun D ys H2 nD S2 eD py=>?_
 .wtm_at"z"
  refine⟨ll1,fun l1 hl1=>?_⟩
  generalize eQ:upd H' l1 _=HA
  obtain⟨Sl1,el1⟩:=laid hl1 eQ
  wtm_at"z"
  refine⟨W,p,l1,[r],d,rfl,ask ((S01.trans S').trans Sl1) hr (Sl1 _ _ ha) el1,hd,fun H3 S3=>?_⟩
  wtm_at"z"
  rw[List.all_cons,List.all_nil,Bool.and_true]
  exact hR _ (Sl1.trans S3)
 wtm_at"z"
 have e12:=S2 _ _ e1
 have ex12:=S2 _ _ ex1
 refine⟨x,D,allV W.bs,_,ys,rfl,⟨⟨dx,bd,fs,ex12,lb,.inr ⟨o,e12⟩⟩,kd,sm.nd⟩,eD,py,fun k hk=>(yYR.mp hk).1,fun need mk=>?_⟩
 wtm_at "zf"
 refine qCh rfl ex12 kd lb (.inr ⟨o,e12⟩) fun o' H3 sv3 e3=>?_
 have S03:=jE (S01.trans S2) nbd sv3
 have ex3:=sv3 _ _ nx ex12
 refine qCa (G:=fun r m=>Msk (allV W.bs) m fun q=>decide (q∈zY W.bs d.ways [r])) e3 few (fun a r H' R hr ha S' hR=>?_) fun D2 ys2 kvs H4 nD2 S4 eD2 py2 lk all=>?_
 .wtm_at"z"
  refine⟨_,rfl,x,dx,fs,rfl,S' _ _ ex3,ln,?_⟩
  wtm_at"z"
  refine⟨ll1,fun l1 hl1=>?_⟩
  generalize eQ:upd H' l1 _=HA
  obtain⟨Sl1,el1⟩:=laid hl1 eQ
  wtm_at"z"
  refine⟨W,p,l1,[r],d,rfl,ask ((S03.trans S').trans Sl1) hr (Sl1 _ _ ha) el1,hd,yZJ (sm.ways d hd) (by decide),yZJ (Nat.le_of_eq (qGm W.bs d.ways r)) (sm.ways d hd),fun rr us ms H5 nrr S5 err pms srt=>?_⟩
  have S15:=Sl1.trans S5
  have S'5:=S'.trans S15
  wtm_at"z"
  refine⟨x,rr,allV W.bs,ms,us,rfl,⟨⟨dx,bd,fs,S'5 _ _ ex3,lb,.inr ⟨o',S'5 _ _ e3⟩⟩,kd,sm.nd⟩,err,pms,fun k hk=>?_,fun m mm=>?_⟩
  .refine qQm (kW (rows:=[r]) (fun q hq=>by rw[yYL.mp hq];exact jP hr) (fun b hb=>(sm.ok.b25 b hb).1) k ((srt.mem k).mp hk))
  wtm_at"z"
  refine⟨ll2,fun t ht=>?_⟩
  generalize eQ:upd H5 t _=H6
  obtain⟨St,et⟩:=laid ht eQ
  exact hR m t H6 (mm.congr fun q _=>decide_eq_decide.mpr (srt.mem q)) (S15.trans St) et
 have kn:=xJa sm.nd lk fun i r er=>let ⟨m,h,_⟩:=all i r er;⟨_,h⟩
 wtm_at"z"
 refine⟨D2,ys2,kvs,rfl,eD2,py2,by omega,fun cd hcd=>?_⟩
 rw[qJf kvs [] (fun k _ z=>nomatch z) kn,List.nil_append]
 generalize eQ:upd H4 cd _=H5
 obtain⟨Scd,ecd⟩:=laid hcd eQ
 wtm_at"z"
 refine⟨ll2,fun t ht=>?_⟩
 generalize eQ:upd H5 t _=H6
 obtain⟨St,et⟩:=laid ht eQ
 have S46:=Scd.trans St
 have sv:Saves bd H H6:=fun b u hb eb=>S46 _ _ (S4 _ _ (sv3 _ _ hb (S2 _ _ (sv1 _ _ hb eb))))
 have back:∀b,H4 b=none->H b=none:=fun b hb=>by
  cases z:H b with
  | none=>rfl
  | some u=>
   by_cases y:b=bd
   .subst y;rw[S4 _ _ e3] at hb;cases hb
   .rw[S4 _ _ (sv3 _ _ y (S2 _ _ (sv1 _ _ y z)))] at hb;cases hb
 refine q t cd need o' H6 sv (S46 _ _ (S4 _ _ e3)) (back t (Scd.free ht)) (back cd hcd) et ⟨⟨kvs,St _ _ ecd,fun r hr=>?_⟩,mk.congr fun r hr=>?_⟩
 .obtain⟨i,ei⟩:=List.mem_iff_getElem?.mp hr
  obtain⟨m,h1,h2⟩:=all i r ei
  exact⟨m,qHg kn h1,h2⟩
 .rw[Bool.eq_iff_iff,decide_eq_true_iff,yYR]
  exact⟨fun z=>z.2,fun z=>⟨hr,z⟩⟩
theorem xI:xH ["self","known","there","steps","name","price","need","by_standing","shares","coming"] ["self","known"] (xB (mth 44 7)):=by constructor <;> first | rfl | wtm_at"d"
theorem jR:CompOk (xB (mth 44 7)) ["self","known","there","steps","name","price","need","by_standing","shares","coming"] (scAt (xC (mth 44 7)) [2,0,0] [1,2,0,1,1]) ["standing","by_standing"] 1 [7]:=
 by constructor <;> wtm_at"d"
theorem zP:CompOk (xB (mth 44 7)) ["self","known","there","steps","name","price","need","by_standing","shares","coming"] (scAt (xC (mth 44 7)) [3,0] []) ["worth","share","known"] 2 [1]:=
 by constructor <;> wtm_at"d"
def ChDIn (H:Hp)(W:Wd)(d:Deed)(u:V):Prop:=∃a need cd,u=.ref a/\H a=some (.tup [.str d.name,.int d.price,.int ((need:Nat):Int),.ref cd])/\ChD H W d need cd
theorem ChD.same {H H':Hp}{W:Wd}{d:Deed}{need:Nat}{cd:Addr}(x:ChD H W d need cd)(s:Same H H'):ChD H' W d need cd:=let ⟨kvs,h1,h2⟩:=x.ex;⟨⟨kvs,s _ _ h1,h2⟩,x.need⟩
theorem ChDIn.same {H H':Hp}{W:Wd}{d:Deed}{u:V}(x:ChDIn H W d u)(s:Same H H'):ChDIn H' W d u:=let ⟨a,need,cd,h1,h2,h3⟩:=x;⟨a,need,cd,h1,s _ _ h2,h3.same s⟩
structure CHA where
 x:Addr
 dx:Addr
 bd:Addr
 g:Nat
 dl:Addr
 ll:Addr
def CHA.fs (c:CHA):List (Str×V):=[("bits",.ref c.bd),("goal",.int (c.g:Int)),("deeds",.ref c.dl),("looks",.ref c.ll)]
theorem CHA.l1 (c:CHA):c.fs.lookup (Str.ofString "bits")=some (.ref c.bd):=rfl
theorem CHA.l2 (c:CHA):c.fs.lookup (Str.ofString "goal")=some (.int (c.g:Int)):=rfl
theorem CHA.l3 (c:CHA):c.fs.lookup (Str.ofString "deeds")=some (.ref c.dl):=rfl
theorem CHA.l4 (c:CHA):c.fs.lookup (Str.ofString "looks")=some (.ref c.ll):=rfl
structure ChAt (K:yZP)(C:Addr)(H:Hp)(c:CHA)(W:Wd):Prop where
 at':H c.x=some (.ins C c.dx c.fs)
 kd:Kind K C chartF
 bits:∃o,H c.bd=some (.frz o (.dT (bitsK (allV W.bs) 0)))
 goal:Msk (allV W.bs) c.g fun r=>W.gt.truth (envOf (kvsOf W.bs r))
 deeds:∃du,H c.dl=some (.lst du)/\Paired (ChDIn H W) W.ds du
 looks:H c.ll=some (.lst [])
theorem ChAt.same {C:Addr}{H H':Hp}{c:CHA}{W:Wd}(x:ChAt K C H c W)(s:Same H H'):ChAt K C H' c W:=
 let ⟨o,eo⟩:=x.bits
 let ⟨du,e,p⟩:=x.deeds
 ⟨s _ _ x.at',x.kd,⟨o,s _ _ eo⟩,x.goal,⟨du,s _ _ e,Paired.mapP p fun _ _ y=>y.same s⟩,s _ _ x.looks⟩
theorem ChAt.b {C:Addr}{H:Hp}{c:CHA}{W:Wd}(x:ChAt K C H c W)(nd:(allV W.bs).Nodup):BtsF K C H c.x (allV W.bs):=let ⟨o,eo⟩:=x.bits;⟨⟨c.dx,c.bd,c.fs,o,x.at',c.l1,eo⟩,x.kd,nd⟩
def afterS (W:Wd)(d:Deed)(S:List Int->Bool)(q:List Int):Bool:=(allV W.bs).any fun r=>S r && decide (q∈zY W.bs d.ways [r])
def mayS (W:Wd)(S:List Int->Bool)(d:Deed):Bool:=(allV W.bs).all fun r=>!S r || d.need.truth (envOf (kvsOf W.bs r))
def StepC (H:Hp)(W:Wd)(S:List Int->Bool)(d:Deed)(u:V):Prop:=∃(a la ta:Addr) (num:Nat),u=.ref a/\H a=some (.tup [.str d.name,.int d.price,.ref la])/\H la=some (.lst [.ref ta])/\H ta=some (.tup [.non,.int (num:Int)])/\Msk (allV W.bs) num (afterS W d S)
def StepN (sl:Addr)(H:Hp)(W:Wd)(S:List Int->Bool)(d:Deed)(u:V):Prop:=∃(a la ta:Addr) (num:Nat),la≠sl/\u=.ref a/\H a=some (.tup [.str d.name,.int d.price,.ref la])/\H la=some (.lst [.ref ta])/\H ta=some (.tup [.non,.int (num:Int)])/\Msk (allV W.bs) num (afterS W d S)
theorem qWx {rows:List (List Int)}{f:List Int->List Int->Bool}:∀(L:List (List Int)) (ms:List Nat) (m0:Nat) (S0:List Int->Bool),L.length=ms.length->(∀(i:Nat) r m,L[i]? = some r->ms[i]? = some m->Msk rows m (f r))->Msk rows m0 S0->Msk rows (ms.foldl (· ||| ·) m0) fun q=>S0 q || L.any fun r=>f r q
 | [],[],m0,S0,_,_,h0=>h0.congr fun q _=>by simp
 | [],m::ms,_,_,h,_,_=>by simp at h
 | r::L,[],_,_,h,_,_=>by simp at h
 | r::L,m::ms,m0,S0,hl,h,h0=>by
  have h1:=qWx L ms (m0 ||| m) (fun q=>S0 q || f r q) (by simpa using hl) (fun i r' m' e1 e2=>h (i+1) r' m' e1 e2) (h0.or (h 0 r m rfl rfl))
  exact h1.congr fun q _=>by rw[List.any_cons,Bool.or_assoc]
theorem qNo {σ:St}{H:Hp}{Q:VK}{js:List Nat}{te:TE}{a:Addr}{us:List V}{L:List (List Int)}{G:List Int->Nat->Prop}(ea:H a=some (.lst us))(pr:Paired (TupIn H) L us)(hl:L.length<=1000)
  (hte:∀(ra:Addr) (r:List Int) (H':Hp) (R:VK),r∈L->H' ra=some (.tup (intsV r))->Same H H'->(∀m:Nat,G r m->R (.int (m:Int)) H')->te ([some (.ref ra)]++frees js σ) H' R)
  (q:∀(D:Addr) (ms:List Nat) (H':Hp),H D=none->Same H H'->H' D=some (.lst (ms.map fun m:Nat=>V.int (m:Int)))->L.length=ms.length->(∀(i:Nat) r m,L[i]? = some r->ms[i]? = some m->G r m)->Q (.ref D) H'):
  rdC 1 js (gName 0) tYes te (Itl K a) σ H Q:=by
 have lr:=pr.length
 refine zZ (xs:=us) (fun D i ys H'=>∃ms:List Nat,ys=(ms.map fun m:Nat=>V.int (m:Int))/\ms.length=i/\Same H H'/\∀(j:Nat) r m,L[j]? = some r->ms[j]? = some m->G r m) (fun D hD=>⟨[],rfl,rfl,qV hD _,fun j r m _ h=>by simp at h⟩)
  (fun D i ys H' _ hP=>let ⟨_,_,_,hk,_⟩:=hP;SqL.of (hk _ _ ea)) (fun D i x ys H' N hD hDy ex hP hN=>?_) (fun D ys H5 hD hDy hP=>?_)
 .obtain⟨ms,rfl,lm,hk,all⟩:=hP
  have hi:i<L.length:=by rw[lr];exact(yYB.mp ex).1
  obtain⟨r,er⟩:∃b,L[i]? = some b:=⟨_,yYA hi⟩
  obtain⟨ra,rfl,hra⟩:=xV pr er ex
  refine⟨⟨[some (.ref ra)],rfl,rfl⟩,?_⟩
  refine hte ra r H' _ (yYE er) (hk _ _ hra) hk fun m g=>?_
  refine⟨hDy,by rw[yYC,lm];exact small (by omega),hN _ _ qW ⟨ms++[m],by rw[yYW];rfl,by rw[yYI,lm];rfl,fun b o e=>?_,fun j r' m' e1 e2=>?_⟩⟩
  .rw[qA (qB e hD)];exact hk _ _ e
  .by_cases z:j<ms.length
   .rw[List.getElem?_append_left z] at e2
    exact all j r' m' e1 e2
   .have hj:=(yYB.mp e2).1
    rw[yYI] at hj
    have hj:j<ms.length+1:=hj
    have:j=i:=by omega
    subst this
    rw[er] at e1
    cases e1
    rw[List.getElem?_append_right (by omega),lm,Nat.sub_self] at e2
    cases e2
    exact g
 .obtain⟨ms,rfl,lm,hk,all⟩:=hP
  exact q D ms H5 hD hk hDy (by rw[lm,lr]) all
def qIj (K:yZP)(C:Addr):Sp:=fun vs H Q _=>∃(c:CHA) (W:Wd) (m:Nat) (S:List Int->Bool),vs=[.ref c.x,.int (m:Int)]/\ChAt K C H c W/\WSm W/\W.ds.length<=100/\Msk (allV W.bs) m S/\
 ∀(r:Addr) (su:List V) (H':Hp),Same H H'->H' r=some (.lst su)->Paired (StepC H' W S) (W.ds.filter (mayS W S)) su->Q (.ref r) H'
theorem qUe {C:Addr}(jc:Cls K C)(F:Md K C "steps_from" "Chart.steps_from" (mth 44 7) ["self","known"])(B:Bl mg)(ki:Dn P w K mg base "is_within" 1 ["known","other"] qYw)(Jy:Dn P w K mg base "joined" 1 ["knowns"] qDw)(uR:Dm P w K mg base C "listed" 1 ["self","number"] (qDx K C)):Dm P w K mg base C "steps_from" 2 ["self","known"] (qIj K C):=by
 refine F.ok xI (fun vs H Q E h=>?_) (fun f zy A outer s H vs Q E hr h=>?_)
 .obtain⟨_,_,_,_,rfl,_⟩:=h
  rfl
 obtain⟨c,W,m,S,rfl,ch,sm,l100,mk,q⟩:=h
 obtain⟨du,edl,pd⟩:=ch.deeds
 have few:=sm.few
 have hu:=qWh hr
 have lb:=pd.length
 refine⟨_,(qZ (xG (i:=2) xI.nd rfl (jT uR jc (pv 0) hr (qQ (pv 1) qX)))
  (qZ (xG (i:=3) xI.nd rfl (xO qX))
  (qZ (xT PassesOwn.never rfl (xQ (K:=K) (vP (K:=K) (pv 0))) (zH (K:=K) (n:=4) rfl (qI (qH (i:=4) xI.nd rfl (by wtm_at "zo")) (qI (qH (i:=5) xI.nd rfl (by wtm_at "zo")) (qI (qH (i:=6) xI.nd rfl (by wtm_at "zo")) (qI (qH (i:=7) xI.nd rfl (by wtm_at "zo")) qM))))) (qJ (zG (kG (qD ki hr (qQ (pv 1) (qQ (pv 6) qX)))) (qJ (qR (yN (K:=K) PySem.F.plainAttrs_list PySem.F.slot_list_append PySem.F.type_list_append zR (pv 3) (qQ (xP (qQ (pv 4) (qQ (pv 5) (qQ (xO (qQ (xP (qQ qJw (qQ (qD Jy hr (qQ (zJ rfl jR (xQ (K:=K) (pv 2)) (fun cl fp s H=>(qH (i:=0) jR.nd rfl (Or.inl rfl) (.inr rfl))) (fun cl fp s H=>zF) (fun cl fp s H=>(wU hu (pv 1) (pv 0) (fun _ _=>rfl)))) qX)) qX))) qX)) qX)))) qX)))) qY)))
  (qZ (xT PassesOwn.never rfl (xQ (K:=K) (vP (K:=K) (pv 0))) (zH (K:=K) (n:=3) rfl (qI (qH (i:=4) xI.nd rfl (by wtm_at "zo")) (qI (qH (i:=5) xI.nd rfl (by wtm_at "zo")) (qI (qH (i:=8) xI.nd rfl (by wtm_at "zo")) qM)))) (qZ (yI (i:=9) xI.nd rfl (by wtm_at "zo") rfl zP (xQ (K:=K) (pv 8)) (fun cl fp s H=>(zH (K:=K) (n:=2) rfl (qI (qH (i:=0) zP.nd rfl (Or.inl rfl) (.inr rfl)) (qI (qH (i:=1) zP.nd rfl (Or.inl rfl) (.inr rfl)) qM)))) (fun cl fp s H=>(kQ (xQv (xX qEj (pv 2) (pv 1))))) (fun cl fp s H=>(xP (qQ (pv 0) (qQ (xX qEj (pv 2) (pv 1)) qX)))))
  (qJ (zG (qS xVe (xJ (jV (K:=K)) rfl B.len' vI (qQ (pv 9) qX)) qF (xE _)) (qJ (qR (yN (K:=K) PySem.F.plainAttrs_list PySem.F.slot_list_append PySem.F.type_list_append zR (pv 3) (qQ (xP (qQ (pv 4) (qQ (pv 5) (qQ (pv 9) qX)))) qX)))) qY))))
  (qJ (qO (pv 3))))))),?_⟩
 wtm_at"z"
 refine⟨_,rfl,c.x,c.dx,c.fs,rfl,ch.at',rfl,?_⟩
 wtm_at"z"
 refine⟨c.x,allV W.bs,m,S,rfl,ch.b sm.nd,mk,few,fun tr ts H1 ntr S1 etr ptr=>?_⟩
 wtm_at"z"
 refine⟨ll0,fun sl hsl=>?_⟩
 generalize eQ:upd H1 sl _=H2
 obtain⟨Ssl,esl⟩:=laid hsl eQ
 have S02:=S1.trans Ssl
 have nsl:H sl=none:=S1.free hsl
 wtm_at "zf"
 refine qJz rfl (S02 _ _ ch.at') ch.kd chF.2.2.1 c.l3 ?_
 refine⟨c.dl,rfl,⟨du,SqL.of (S02 _ _ edl)⟩,?_⟩
 refine xS (xs:=du) (fun i σ' H'=>∃(su:List V) (z4 z5 z6 z7 z8 z9:Option V),σ'=[some (.ref c.x),some (.int (m:Int)),some (.ref tr),some (.ref sl),z4,z5,z6,z7,z8,z9]/\Same H H'/\H' tr=some (.lst ts)/\Paired (TupIn H') ((allV W.bs).filter S) ts/\H' sl=some (.lst su)/\Paired (StepN sl H' W S) ((W.ds.take i).filter (mayS W S)) su) ⟨[],none,none,none,none,none,none,rfl,S02,Ssl _ _ etr,xY (qC Ssl) ptr,esl,.nil⟩ (fun i σ' H' _ hP=>?_) ?_ ?_
 .obtain⟨_,_,_,_,_,_,_,rfl,S',_⟩:=hP
  exact SqL.of (S' _ _ edl)
 .rintro N rt bk i u σ' H' eu ⟨su,z4,z5,z6,z7,z8,z9,rfl,S',etr',ptr',esl',psu⟩ hN
  obtain⟨d,ed⟩:∃d,W.ds[i]? = some d:=⟨_,yYA (by rw[lb];exact(yYB.mp eu).1)⟩
  obtain⟨da,need,cd,rfl,eda,chd⟩:=xV pd ed eu
  have eda':=S' _ _ eda
  obtain⟨kvs,ecd,vk⟩:=chd.ex
  have fs:=jQ (p:=mayS W S) ed
  have lsu:=psu.length
  have lf:=List.length_filter_le (mayS W S) (W.ds.take i)
  rw[yYF] at lf
  wtm_at"z"
  refine⟨m,need,rfl,?_⟩
  rw[mk.within chd.need]
  show∃k,V.bl (mayS W S d)=V.bl k/\_
  wtm_at"z"
  cases hM:mayS W S d with
  | false=>
   refine iteF ?_
   wtm_at"z"
   exact hN _ _ ⟨su,_,_,_,_,_,_,rfl,S',etr',ptr',esl',by rw[fs,hM,if_neg yZL,List.append_nil];exact psu⟩
  | true=>
   refine iteT ?_
   wtm_at"z"
   refine qVx (SqL.of esl') ?_
   wtm_at "zf"
   refine⟨tr,rfl,⟨ts,SqL.of etr'⟩,qNo (G:=fun r n=>Msk (allV W.bs) n fun q=>decide (q∈zY W.bs d.ways [r])) etr' ptr' (by have:=List.length_filter_le S (allV W.bs);omega) (fun ra r HX R hr era SX hR=>?_) fun D ms HA nD SA eD lms all=>?_⟩
   .obtain⟨n,vn,mn⟩:=vk r (yYR.mp hr).1
    refine⟨_,rfl,_,rfl,cd,_,rfl,?_,hR n mn⟩
    rw[<- vn]
    exact .t (SX _ _ (S' _ _ ecd)) (qEc era)
   have mo:=qWx (rows:=allV W.bs) (f:=fun r q=>decide (q∈zY W.bs d.ways [r])) ((allV W.bs).filter S) ms 0 (fun _=>false) lms (fun i r n e1 e2=>all i r n e1 e2) Msk.zero
   have mo:Msk (allV W.bs) (orAll ms) (afterS W d S):=mo.congr fun q _=>by
    unfold afterS
    rw[Bool.false_or,List.any_filter]
   wtm_at"z"
   refine⟨D,ms,rfl,eD,?_⟩
   generalize orAll ms=num at mo
   wtm_at"z"
   refine⟨ll2,fun ta hta=>?_⟩
   generalize eQ:upd HA ta _=HB
   obtain⟨Sta,eta⟩:=laid hta eQ
   wtm_at"z"
   refine⟨ll1,fun la hla=>?_⟩
   generalize eQ:upd HB la _=HC
   obtain⟨Sla,ela⟩:=laid hla eQ
   wtm_at"z"
   refine⟨ll3,fun aa haa=>?_⟩
   generalize eQ:upd HC aa _=HD
   obtain⟨Saa,eaa⟩:=laid haa eQ
   have S'D:=SA.trans (Sta.trans (Sla.trans Saa))
   wtm_at"z"
   refine qRc (S'D _ _ esl') (small (by omega)) ?_
   have K5:∀b o,b≠sl->HD b=some o->upd HD sl (.lst (su++[.ref aa])) b=some o:=fun b o hb e=>by rw[qA hb];exact e
   have ntr:tr≠sl:=qB etr hsl
   have stp:∀d' u',StepN sl H' W S d' u'->StepN sl (upd HD sl (.lst (su++[.ref aa]))) W S d' u':=fun d' u' ⟨a1,l1,t1,n1,h0,h1,h2,h3,h4,h5⟩=>
    ⟨a1,l1,t1,n1,h0,h1,K5 _ _ (jU h2 esl' (by intro z;cases z)) (S'D _ _ h2),K5 _ _ h0 (S'D _ _ h3),K5 _ _ (jU h4 esl' (by intro z;cases z)) (S'D _ _ h4),h5⟩
   have esA:=SA _ _ esl'
   have nta:ta≠sl:=(qB esA hta).symm
   have nla:la≠sl:=(qB (Sta _ _ esA) hla).symm
   have naa:aa≠sl:=(qB (Sla _ _ (Sta _ _ esA)) haa).symm
   refine hN _ _ ⟨su++[.ref aa],_,_,_,_,_,_,rfl,wR (S'.trans S'D) nsl,K5 _ _ ntr (S'D _ _ etr'),Paired.mapP ptr' fun _ _ ⟨a,e,h⟩=>⟨a,e,K5 _ _ (jU h esl' (by intro z;cases z)) (S'D _ _ h)⟩,qW,?_⟩
   rw[fs,hM,if_pos rfl]
   exact Paired.snoc (Paired.mapP psu stp) ⟨aa,la,ta,num,nla,rfl,K5 _ _ naa eaa,K5 _ _ nla (Saa _ _ ela),K5 _ _ nta (Saa _ _ (Sla _ _ eta)),mo⟩
 .rintro σ' H' ⟨su,z4,z5,z6,z7,z8,z9,rfl,S',etr',ptr',esl',psu⟩
  rw[<- lb,yYJ] at psu
  wtm_at "zf"
  refine qJz rfl (S' _ _ ch.at') ch.kd chF.2.2.2 c.l4 ?_
  refine⟨c.ll,rfl,⟨[],SqL.of (S' _ _ ch.looks)⟩,?_⟩
  refine xS (xs:=[]) (fun i σ' H''=>σ'=[some (.ref c.x),some (.int (m:Int)),some (.ref tr),some (.ref sl),z4,z5,z6,z7,z8,z9]/\H''=H') ⟨rfl,rfl⟩ (fun i σ' H'' _ hP=>?_) ?_ ?_
  .obtain⟨rfl,rfl⟩:=hP
   exact SqL.of (S' _ _ ch.looks)
  .rintro N rt bk i u σ' H'' eu _ _
   simp at eu
  .rintro σ' H'' ⟨rfl,rfl⟩
   wtm_at"z"
   exact q sl su H'' S' esl' (Paired.mapP psu fun _ _ ⟨a,la,ta,num,_,h⟩=>⟨a,la,ta,num,h⟩)
theorem wrote {H H':Hp}{x:Addr}{o:HO}(h:upd H x o=H'):H' x=some o/\Saves x H H':=by
 subst h
 exact⟨qW,fun b o hb e=>by rw[qA hb];exact e⟩
theorem xQq {ta tv:TE}{f:Str}{D:Ends}{σ:St}{H:Hp}(q:tv σ H fun v H1=>ta σ H1 fun x H2=>∃a C dx fs,x=.ref a/\H2 a=some (.ins C dx fs)/\Cls K C/\NoAttr K C f/\fs.length<1000/\D.nx σ (upd H2 a (.ins C dx (putF f v fs)))):sFld K ta tv f D σ H:=q
theorem kR:xH ["self","world","name"] ["self","world","name"] (xB (mth 44 2)):=by constructor <;> first | rfl | wtm_at"d"
def spNo:Sp:=fun _ _ _ _=>False
theorem xBz {C:Addr}(F:Md K C "charted_look" "Chart.charted_look" (mth 44 2) ["self","world","name"]):Dm P w K mg base C "charted_look" 1 ["self","world","name"] spNo:=
 F.ok kR (fun vs H Q E h=>h.elim) (fun f zy A outer s H vs Q E hr h=>h.elim)
theorem wY:xH ["self","world","every"] ["self","world"] (xB (mth 44 0)):=by constructor <;> first | rfl | wtm_at"d"
theorem vH:CompOk (xB (mth 44 0)) ["self","world","every"] (scAt (xC (mth 44 0)) [2] [1]) ["standing","world"] 1 [1]:=
 by constructor <;> wtm_at"d"
theorem vG:CompOk (xB (mth 44 0)) ["self","world","every"] (scAt (xC (mth 44 0)) [3] []) ["deed","world","self"] 1 [1,0]:=
 by constructor <;> wtm_at"d"
theorem vF:CompOk (xB (mth 44 0)) ["self","world","every"] (scAt (xC (mth 44 0)) [4] []) ["look","world","self"] 1 [1,0]:=
 by constructor <;> wtm_at"d"
def qIw (K:yZP)(C:Addr):Sp:=fun vs H Q _=>∃(H0:Hp) (x dx p:Addr) (W:Wd),vs=[.ref x,.ref p]/\Same H0 H/\H0 x=none/\H x=some (.ins C dx [])/\Kind K C chartF/\WPt H0 W p/\WSm W/\W.ls=[]/\W.ds≠[]/\W.ds.length<=100/\
 ∀(c:CHA) (H':Hp),c.x=x->Same H0 H'->ChAt K C H' c W->Q .non H'
theorem qUg {C:Addr}(jc:Cls K C)(F:Mi K mg "Chart" C "Chart.__init__" (mth 44 0) ["self","world"])(B:Bl mg)(kh:Dn P w K mg base "standings" 2 ["world"] wM)(Je:Dn P w K mg base "bits_for" 1 ["things"] spBits)(Jl:Dn P w K mg base "at_goal" 28 ["world","known"] qDe)
  (je:Dm P w K mg base C "number_of" 1 ["self","known"] (spNum K C)) (vi:Dm P w K mg base C "charted_deed" 29 ["self","world","name"] (qDc K C)) (vj:Dm P w K mg base C "charted_look" 1 ["self","world","name"] spNo):Dk P w K mg base "Chart" C 30 ["self","world"] (qIw K C):=by
 refine F.ok wY (fun vs H Q E h=>?_) (fun f zy A outer s H vs Q E hr h=>?_)
 .obtain⟨_,_,_,_,_,rfl,_⟩:=h
  rfl
 obtain⟨H0,x,dx,p,W,rfl,S0,nx,ex,kd,wp,sm,nl,dne,l100,q⟩:=h
 have few:=sm.few
 obtain⟨bx,dx0,lx,bv,gv,ep,A0⟩:=id wp
 obtain⟨du,edx,pd⟩:=A0.deeds
 obtain⟨lu,elx,pl⟩:=A0.looks
 rw[nl] at pl
 cases pl
 have ask:∀{H':Hp} {a ka:Addr} {r:List Int},Same H0 H'->r∈allV W.bs->H' a=some (.tup (intsV r))->H' ka=some (.lst [.ref a])->Ask H' W p ka [r]:=fun s hr ha hka=>⟨wp.same s,sm.ok,sm.b3,⟨_,hka,.cons ⟨_,rfl,ha⟩ .nil⟩,fun q hq=>by rw[yYL.mp hq];exact jP hr,(by show 1<=200;decide)⟩
 refine⟨_,(qZ (xG (i:=2) wY.nd rfl (qD kh hr (qQ (pv 1) qX)))
  (qZ (qYl (K:=K) (pv 0) (qD Je hr (qQ (pv 2) qX)))
  (qZ (qYl (K:=K) (pv 0) (jT je jc (pv 0) hr (qQ (zJ rfl vH (xQ (K:=K) (pv 2)) (fun cl fp s H=>(qH (i:=0) vH.nd rfl (Or.inl rfl) (.inr rfl))) (fun cl fp s H=>(kQ (kG (qD Jl hr (qQ (pv 1) (qQ (xO (qQ (pv 0) qX)) qX)))))) (fun cl fp s H=>(pv 0))) qX)))
  (qZ (qYl (K:=K) (pv 0) (zJ rfl vG (xQ (K:=K) (xF (qT (K:=K)) (pv 1) qF)) (fun cl fp s H=>(qH (i:=0) vG.nd rfl (Or.inl rfl) (.inr rfl))) (fun cl fp s H=>zF) (fun cl fp s H=>(xX (qEz (K:=K)) (xP (qQ (xF (qT (K:=K)) (pv 0) qF) (qQ (xF (qT (K:=K)) (pv 0) qF) qX))) (jT vi jc (pv 2) hr (qQ (pv 1) (qQ (xF (qT (K:=K)) (pv 0) qF) qX)))))))
  (qJ (qYl (K:=K) (pv 0) (zJ rfl vF (xQ (K:=K) (xF (qT (K:=K)) (pv 1) qF)) (fun cl fp s H=>(qH (i:=0) vF.nd rfl (Or.inl rfl) (.inr rfl))) (fun cl fp s H=>zF) (fun cl fp s H=>(xP (qQ (xF (qT (K:=K)) (pv 0) qF) (qQ (xF (qT (K:=K)) (pv 0) qF) (qQ (jT vj jc (pv 2) hr (qQ (pv 1) (qQ (xF (qT (K:=K)) (pv 0) qF) qX))) qX)))))))))))),?_⟩
 wtm_at"z"
 refine⟨W,p,bx,dx0,lx,bv,gv,rfl,S0 _ _ ep,A0.same S0,sm.ok,fun ev es H1 nev S1 eev pev=>?_⟩
 have S01:=S0.trans S1
 wtm_at"z"
 refine⟨_,rfl,ev,es,allV W.bs,rfl,eev,pev,sm.nd,few,fun bd H2 nbd S2 ebd=>?_⟩
 have S02:=S01.trans S2
 have nbd0:H0 bd=none:=S01.free nbd
 have ex2:=S2 _ _ (S1 _ _ ex)
 refine⟨_,rfl,x,C,dx,_,rfl,ex2,kd.cls,kd.no _ chF.1,(show 0<1000 by decide),?_⟩
 generalize hK:upd H2 x _=H3
 obtain⟨ex3,s3⟩:=wrote hK
 clear hK
 have S03:=jE S02 nx s3
 have nbx:bd≠x:=(jU ex2 ebd (by intro z;cases z)).symm
 have ebd3:=s3 _ _ nbx ebd
 have nex:ev≠x:=jU eev (S1 _ _ ex) (by intro z;cases z)
 have eev3:=s3 _ _ nex (S2 _ _ eev)
 have pev3:Paired (TupIn H3) (allV W.bs) es:=Paired.mapP pev fun _ _ ⟨a,e,h⟩=>⟨a,e,s3 _ _ (jU (S2 _ _ h) ex2 (by intro z;cases z)) (S2 _ _ h)⟩
 wtm_at"z"
 refine⟨_,rfl,x,dx,_,rfl,ex3,rfl,?_⟩
 wtm_at "zf"
 refine⟨ev,rfl,⟨es,SqL.of eev3⟩,?_⟩
 refine qZb (p:=fun r=>W.gt.truth (envOf (kvsOf W.bs r))) eev3 pev3 (by omega) (fun ra r H' R hr era S' hR=>?_) fun D ys H4 nD S4 eD py=>?_
 .wtm_at"z"
  refine⟨ll1,fun l1 hl1=>?_⟩
  generalize eQ:upd H' l1 _=HA
  obtain⟨Sl1,el1⟩:=laid hl1 eQ
  wtm_at"z"
  refine⟨W,p,l1,[r],rfl,ask ((S03.trans S').trans Sl1) hr (Sl1 _ _ era) el1,fun H6 S6=>?_⟩
  wtm_at"z"
  rw[List.all_cons,List.all_nil,Bool.and_true]
  exact hR _ (Sl1.trans S6)
 have S04:=S03.trans S4
 have ex4:=S4 _ _ ex3
 have ebd4:=S4 _ _ ebd3
 wtm_at"z"
 refine⟨x,D,allV W.bs,_,ys,rfl,⟨⟨dx,bd,_,ex4,rfl,.inl ebd4⟩,kd,sm.nd⟩,eD,py,fun k hk=>(yYR.mp hk).1,fun g gk=>?_⟩
 have gk:Msk (allV W.bs) g fun r=>W.gt.truth (envOf (kvsOf W.bs r)):=gk.congr fun r hr=>by
  rw[Bool.eq_iff_iff,decide_eq_true_iff,yYR]
  exact⟨fun z=>z.2,fun z=>⟨hr,z⟩⟩
 refine⟨_,rfl,x,C,dx,_,rfl,ex4,kd.cls,kd.no _ chF.2.1,(show 1<1000 by decide),?_⟩
 generalize hK:upd H4 x _=H5
 obtain⟨ex5,s5⟩:=wrote hK
 clear hK
 have ex5:H5 x=some (.ins C dx [(Str.ofString "bits",.ref bd),(Str.ofString "goal",.int (g:Int))]):=ex5
 have S05:=jE S04 nx s5
 have ebd5:=s5 _ _ nbx ebd4
 clear eD py nD eev3 pev3 S4 s3 ex4 ebd4 ebd3 ex3 S04 s5
 wtm_at"z"
 refine xQq ?_
 have ep5:=S05 _ _ ep
 wtm_at "zf"
 have lb:=pd.length
 refine⟨dx0,rfl,⟨du,SqL.of (S05 _ _ edx)⟩,?_⟩
 refine zZ (xs:=du) (fun D i ys H'=>Same H0 H'/\H' x=some (.ins C dx [(Str.ofString "bits",.ref bd),(Str.ofString "goal",.int (g:Int))])/\Rd H' bd (.dT (bitsK (allV W.bs) 0))/\(0<i->∃o,H' bd=some (.frz o (.dT (bitsK (allV W.bs) 0))))/\Paired (ChDIn H' W) (W.ds.take i) ys/\D≠x/\D≠bd)
  (fun D hD=>⟨S05.trans (qV hD _),qV hD _ _ _ ex5,.inl (qV hD _ _ _ ebd5),fun z=>absurd z (by decide),.nil,(qB ex5 hD).symm,(qB ebd5 hD).symm⟩) (fun D i ys H' _ hP=>SqL.of (hP.1 _ _ edx)) (fun D i u ys H' N hD hDy eu hP hN=>?_) (fun D ys H6 hD hDy hP=>?_)
 .obtain⟨S',ex',rd',fz',py,ndx,ndb⟩:=hP
  obtain⟨d,ed⟩:∃d,W.ds[i]? = some d:=⟨_,yYA (by rw[lb];exact(yYB.mp eu).1)⟩
  obtain⟨da,nv,wa,wu,rfl,eda,nat,ewa,pw⟩:=xV pd ed eu
  have md:=yYE ed
  have eda':=S' _ _ eda
  have ly:=py.length
  rw[yYF] at ly
  refine⟨⟨[some (.ref da)],rfl,rfl⟩,w_yes (iteT ?_)⟩
  wtm_at"z"
  refine⟨ll2,fun t1 ht1=>?_⟩
  generalize eQ:upd H' t1 _=HA
  obtain⟨St1,et1⟩:=laid ht1 eQ
  have S'A:=S'.trans St1
  have rdA:Rd HA bd (.dT (bitsK (allV W.bs) 0)):=by
   rcases rd' with e | ⟨o,e⟩
   .exact .inl (St1 _ _ e)
   .exact .inr ⟨o,St1 _ _ e⟩
  refine⟨_,rfl,x,dx,_,rfl,St1 _ _ ex',rfl,?_⟩
  wtm_at"z"
  refine⟨H0,W,x,dx,bd,p,_,d,rfl,S'A,nbd0,rfl,St1 _ _ ex',kd,rfl,rdA,wp,sm,md,fun t cd need o HB sv eB nt ncd et chd=>?_⟩
  have nt1:t1≠bd:=fun z=>by
   rw[z] at et1
   rcases rdA with e | ⟨o,e⟩ <;> (rw[et1] at e;cases e)
  refine⟨t1,t,_,_,rfl,rfl,SqT.of (sv _ _ nt1 et1),SqT.of et,(by simp),qBh (show 4<=1000000 by decide),(fun z=>nomatch z),fun _ t2 ht2=>?_⟩
  generalize eQ:upd HB t2 _=HC
  obtain⟨St2,et2⟩:=laid ht2 eQ
  have hDB:HB D=some (.lst ys):=sv _ _ ndb (St1 _ _ hDy)
  have hDC:=St2 _ _ hDB
  have K5:∀b o,(∀zs,o≠.lst zs)->HC b=some o->upd HC D (.lst (ys++[.ref t2])) b=some o:=fun b o no e=>by
   rw[qA (fun z=>by subst z;rw[hDC] at e;cases e;exact no _ rfl)];exact e
  have nD0:H0 D=none:=by
   cases z:H0 D with
   | none=>rfl
   | some u=>rw[S05 _ _ z] at hD;cases hD
  have chd':∀d' u',ChDIn HC W d' u'->ChDIn (upd HC D (.lst (ys++[.ref t2]))) W d' u':=fun d' u' ⟨a1,n1,c1,h1,h2,⟨kvs,h3,h4⟩,h5⟩=>⟨a1,n1,c1,h1,K5 _ _ (by intro zs z;cases z) h2,⟨kvs,K5 _ _ (by intro zs z;cases z) h3,h4⟩,h5⟩
  refine⟨hDC,small (by omega),hN _ _ qW ⟨wR ((jE S'A nbd0 sv).trans St2) nD0,K5 _ _ (by intro zs z;cases z) (St2 _ _ (sv _ _ nbx.symm (St1 _ _ ex'))),.inr ⟨o,K5 _ _ (by intro zs z;cases z) (St2 _ _ eB)⟩,fun _=>⟨o,K5 _ _ (by intro zs z;cases z) (St2 _ _ eB)⟩,?_,ndx,ndb⟩⟩
  have pyC:Paired (ChDIn HC W) (W.ds.take i) ys:=by
   by_cases i0:i=0
   .subst i0
    rw[List.take_zero] at py ⊢
    cases py
    exact .nil
   .obtain⟨o',eo'⟩:=fz' (by omega)
    refine Paired.mapP py fun d' u' ⟨a1,n1,c1,h1,h2,⟨kvs,h3,h4⟩,h5⟩=>?_
    have na:a1≠bd:=fun z=>by subst z;rw[eo'] at h2;cases h2
    have nc:c1≠bd:=fun z=>by subst z;rw[eo'] at h3;cases h3
    exact⟨a1,n1,c1,h1,St2 _ _ (sv _ _ na (St1 _ _ h2)),⟨kvs,St2 _ _ (sv _ _ nc (St1 _ _ h3)),h4⟩,h5⟩
  rw[yYM,ed]
  exact Paired.snoc (Paired.mapP pyC chd') (chd' d _ ⟨t2,need,cd,rfl,et2,chd.same St2⟩)
 .obtain⟨S6,ex6,rd6,fz6,py,ndx,ndb⟩:=hP
  rw[<- lb,yYJ] at py
  obtain⟨o,ebd6⟩:=fz6 (by rw[<- lb];exact List.length_pos_iff.mpr dne)
  refine⟨_,rfl,x,C,dx,_,rfl,ex6,kd.cls,kd.no _ chF.2.2.1,(show 2<1000 by decide),?_⟩
  generalize hK:upd H6 x _=H7
  obtain⟨ex7,s7⟩:=wrote hK
  clear hK
  have S07:=jE S6 nx s7
  have k7:∀b o,(∀C dx fs,o≠.ins C dx fs)->H6 b=some o->H7 b=some o:=fun b o no e=>s7 _ _ (fun z=>by subst z;rw[ex6] at e;cases e;exact no _ _ _ rfl) e
  have ep7:=S07 _ _ ep
  dsimp only
  refine xQq ?_
  wtm_at "zf"
  refine⟨lx,rfl,⟨[],SqL.of (S07 _ _ elx)⟩,?_⟩
  refine zZ (xs:=[]) (fun D i ys H'=>ys=[]/\Same H7 H') (fun D hD=>⟨rfl,qV hD _⟩) (fun D i ys H' _ hP=>SqL.of (hP.2 _ _ (S07 _ _ elx))) (fun D i u ys H' N hD hDy eu hP hN=>?_) (fun LL ys H8 nLL hLL hP=>?_)
  .simp at eu
  obtain⟨rfl,S8⟩:=hP
  refine⟨_,rfl,x,C,dx,_,rfl,S8 _ _ ex7,kd.cls,kd.no _ chF.2.2.2,(show 3<1000 by decide),?_⟩
  generalize hK:upd H8 x _=H9
  obtain⟨ex9,s9⟩:=wrote hK
  clear hK
  have k9:∀b o,(∀C dx fs,o≠.ins C dx fs)->H7 b=some o->H9 b=some o:=fun b o no e=>s9 _ _ (fun z=>by subst z;rw[ex7] at e;cases e;exact no _ _ _ rfl) (S8 _ _ e)
  have k69:∀b o,(∀C dx fs,o≠.ins C dx fs)->H6 b=some o->H9 b=some o:=fun b o no e=>k9 b o no (k7 b o no e)
  have nLx:LL≠x:=(qB ex7 nLL).symm
  exact q ⟨x,dx,bd,g,D,LL⟩ H9 rfl (jE (S07.trans S8) nx s9) ⟨ex9,kd,⟨o,k69 _ _ (by intro _ _ _ z;cases z) ebd6⟩,gk,⟨ys,k69 _ _ (by intro _ _ _ z;cases z) hDy,Paired.mapP py fun d' u' ⟨a1,n1,c1,h1,h2,⟨kvs,h3,h4⟩,h5⟩=>⟨a1,n1,c1,h1,k69 _ _ (by intro _ _ _ z;cases z) h2,⟨kvs,k69 _ _ (by intro _ _ _ z;cases z) h3,h4⟩,h5⟩⟩,s9 _ _ nLx hLL⟩
def Short (x:Str):Prop:=x.length<=1000/\(reprText x).length<=100000
def qDq (C:Addr):Sp:=fun vs H Q E=>∃(la:Addr) (us:List V) (xs:List Str) (x kd:Str),vs=[.ref la,.str x,.str kd]/\H la=some (.lst us)/\Paired (fun x u=>∃a ys,u=.ref a/\H a=some (.tup (.str x::ys))) xs us/\Short x/\kd.length<=100/\
 (∀(i:Nat) u,xs[i]? = some x->us[i]? = some u->Q u H)/\(x∉xs->E (.ref C) none H)
theorem qUx {C:Addr}(F:Fd K mg "named" (top 24) ["things","name","kind"])(O_NoName:PyProof.Rows.OwnCls "NoName" C bmV "ValueError.__new__" mg base):Dx P w K mg base "named" 1 ["things","name","kind"] (qDq C):=by
 refine F.okx qQl (fun vs H Q E h=>?_) (fun f zy A outer s H vs Q E hr h=>?_)
 .obtain⟨_,_,_,_,_,rfl,_⟩:=h
  rfl
 obtain⟨la,us,xs,x,kd,rfl,ela,px,⟨sx,sr⟩,sk,q1,q2⟩:=h
 refine⟨_,(qZ (xT PassesOwn.leaving rfl (xQ (K:=K) (pv 0)) (qH (i:=3) qQl.nd rfl (by wtm_at "zo")) (qJ (zG (qS jM (xF (qT (K:=K)) (pv 3) qF) (pv 1) (xE _)) (qJ (qO (pv 3))) qY)))
  (qJ (qSc O_NoName (qQ (qMb (.cons qG (.cons (xVx (pv 2)) (.cons qG (.cons (xZg (pv 1)) .nil))))) qX)))),?_⟩
 wtm_at "zf"
 refine⟨la,rfl,⟨us,SqL.of ela⟩,?_⟩
 refine jK (xs:=us) (fun i σ' H'=>∃z:Option V,σ'=[some (.ref la),some (.str x),some (.str kd),z]/\H'=H/\x∉xs.take i) ⟨none,rfl,rfl,by simp⟩ (fun i σ' H' _ hP=>?_) (fun i u σ' H' ex hP=>?_) (fun σ' H' hP=>?_)
 .obtain⟨_,rfl,rfl,_⟩:=hP
  exact SqL.of ela
 .obtain⟨z,rfl,rfl,hi⟩:=hP
  obtain⟨y,ey⟩:∃b,xs[i]? = some b:=⟨_,yYA (by rw[px.length];exact(yYB.mp ex).1)⟩
  obtain⟨a,ys,rfl,ea⟩:=xV px ey ex
  wtm_at"z"
  by_cases e:y=x
  .subst e
   rw[jZ]
   refine iteT ?_
   wtm_at"z"
   exact q1 i _ ey ex
  .rw[xW e]
   refine iteF ?_
   refine⟨_,rfl,rfl,?_⟩
   rw[yYM,ey]
   exact fun z=>(yYS.mp z).elim hi fun r=>e (yYL.mp r).symm
 .obtain⟨z,rfl,rfl,hi⟩:=hP
  rw[<- px.length,yYJ] at hi
  wtm_at"z"
  refine⟨"no ",rfl,?_,.str kd,rfl,kd,rfl,?_,kd,rfl,?_," is called ",rfl,?_,.str x,rfl,x,rfl,?_,_,rfl,?_,?_,?_,q2 hi⟩
  all_goals refine qBh ?_
  all_goals (try simp only[Str.length_append,yYT,yYU])
  all_goals (try rw[show(Str.empty:Str).length=0 by decide])
  all_goals (try rw[show("no " : Str).length=3 by decide])
  all_goals (try rw[show(" is called " : Str).length=11 by decide])
  all_goals omega
theorem qQf:xH ["world"] ["world"] (xB (top 50)):=by constructor <;> first | rfl | wtm_at"d"
def Wd.bare (W:Wd):Wd:={ W with ls:=[] }
def qVa:Sp:=fun vs H Q _=>∃(W:Wd) (p:Addr),vs=[.ref p]/\WPt H W p/\∀(t:Addr) (H':Hp),Same H H'->WPt H' W.bare t->Q (.ref t) H'
theorem qGj (F:Fd K mg "without_looks" (top 50) ["world"]):Dn P w K mg base "without_looks" 1 ["world"] qVa:=by
 refine F.ok qQf (fun vs H Q E h=>?_) (fun f zy A outer s H vs Q E hr h=>?_)
 .obtain⟨_,_,rfl,_⟩:=h
  rfl
 obtain⟨W,p,rfl,⟨bx,dx,lx,bv,gv,ep,A0⟩,q⟩:=h
 refine⟨_,(qJ (qO (xP (qQ (xF (qT (K:=K)) (pv 0) qF) (qQ (xF (qT (K:=K)) (pv 0) qF) (qQ (xO qX) (qQ (xF (qT (K:=K)) (pv 0) qF) (qQ (xF (qT (K:=K)) (pv 0) qF) qX)))))))),?_⟩
 wtm_at"z"
 refine⟨ll0,fun l hl=>?_⟩
 generalize eQ:upd H l _=H1
 obtain⟨Sl,el⟩:=laid hl eQ
 have ep1:=Sl _ _ ep
 wtm_at"z"
 refine⟨ll5,fun t ht=>?_⟩
 generalize eQ:upd H1 t _=H2
 obtain⟨St,et⟩:=laid ht eQ
 have S2:=Sl.trans St
 have A2:=A0.same S2
 exact q t H2 S2 ⟨bx,dx,l,bv,gv,et,A2.boxes,A2.deeds,⟨[],St _ _ el,.nil⟩,A2.beg,A2.goal⟩
theorem qVh:xH ["step"] ["step"] (xB (top 52)):=by constructor <;> first | rfl | wtm_at"d"
def qDb:Sp:=fun vs H Q _=>∃(a la ta:Addr) (x:Str) (pr:Int) (num:Nat),vs=[.ref a]/\H a=some (.tup [.str x,.int pr,.ref la])/\H la=some (.lst [.ref ta])/\H ta=some (.tup [.non,.int (num:Int)])/\Q (.int (num:Int)) H
theorem qOg (F:Fd K mg "coming_of" (top 52) ["step"]):Dn P w K mg base "coming_of" 1 ["step"] qDb:=by
 refine F.ok qVh (fun vs H Q E h=>?_) (fun f zy A outer s H vs Q E hr h=>?_)
 .obtain⟨_,_,_,_,_,_,rfl,_⟩:=h
  rfl
 obtain⟨a,la,ta,x,pr,num,rfl,ea,ela,eta,q⟩:=h
 refine⟨_,(qJ (qO (xF (qT (K:=K)) (xF (qU (K:=K)) (xF (qT (K:=K)) (pv 0) qF) qF) qF))),?_⟩
 wtm_at"z"
 exact q
theorem kP:xH ["steps","name","step"] ["steps","name"] (xB (top 51)):=by constructor <;> first | rfl | wtm_at"d"
def qDv:Sp:=fun vs H Q _=>∃(r:Addr) (x:Str) (su:List V) (W:Wd) (S:List Int->Bool) (ds:List Deed),vs=[.ref r,.str x]/\H r=some (.lst su)/\Paired (StepC H W S) ds su/\
 (∀d num,ds.find? (fun d=>decide (d.name=x))=some d->Msk (allV W.bs) num (afterS W d S)->Q (.int (num:Int)) H)/\(ds.find? (fun d=>decide (d.name=x))=none->Q .non H)
theorem qOd (F:Fd K mg "known_behind" (top 51) ["steps","name"])(JI:Dn P w K mg base "coming_of" 1 ["step"] qDb):Dn P w K mg base "known_behind" 2 ["steps","name"] qDv:=by
 refine F.ok kP (fun vs H Q E h=>?_) (fun f zy A outer s H vs Q E hr h=>?_)
 .obtain⟨_,_,_,_,_,_,rfl,_⟩:=h
  rfl
 obtain⟨r,x,su,W,S,ds,rfl,er,ps,q1,q2⟩:=h
 have ls:=ps.length
 refine⟨_,(qZ (xT PassesOwn.never rfl (xQ (K:=K) (pv 0)) (qH (i:=2) kP.nd rfl (by wtm_at "zo")) (qJ (zG (qS jM (xF (qT (K:=K)) (pv 2) qF) (pv 1) (xE _)) (qJ (qO (qD JI hr (qQ (pv 2) qX)))) qY)))
  (qJ (qO qJw))),?_⟩
 wtm_at "zf"
 refine⟨r,rfl,⟨su,SqL.of er⟩,?_⟩
 refine jK (xs:=su) (fun i σ' H'=>∃z:Option V,σ'=[some (.ref r),some (.str x),z]/\H'=H/\(ds.take i).find? (fun d=>decide (d.name=x))=none) ⟨none,rfl,rfl,rfl⟩ (fun i σ' H' _ hP=>?_) (fun i u σ' H' ex hP=>?_) (fun σ' H' hP=>?_)
 .obtain⟨_,rfl,rfl,_⟩:=hP
  exact SqL.of er
 .obtain⟨z,rfl,rfl,hn⟩:=hP
  obtain⟨d,ed⟩:∃d,ds[i]? = some d:=⟨_,yYA (by rw[ls];exact(yYB.mp ex).1)⟩
  obtain⟨a,la,ta,num,rfl,ea,ela,eta,mk⟩:=xV ps ed ex
  wtm_at"z"
  by_cases e:d.name=x
  .rw[decide_eq_true (show V.str d.name=V.str x by rw[e])]
   refine iteT ?_
   wtm_at"z"
   refine⟨a,la,ta,d.name,d.price,num,rfl,ea,ela,eta,?_⟩
   wtm_at"z"
   refine q1 d num ?_ mk
   rw[<- List.take_append_drop i ds,List.find?_append,hn,Option.none_or]
   have dr:ds.drop i=d::ds.drop (i+1):=by
    rw[List.drop_eq_getElem_cons (yYB.mp ed).1,(yYB.mp ed).2]
   rw[dr,List.find?_cons,decide_eq_true e]
  .rw[decide_eq_false (show¬V.str d.name=V.str x from fun z=>e (V.str.inj z))]
   refine iteF ?_
   refine⟨_,rfl,rfl,?_⟩
   rw[yYM,ed,List.find?_append,hn,Option.none_or]
   show [d].find? _=none
   rw[List.find?_cons,decide_eq_false e];rfl
 .obtain⟨z,rfl,rfl,hn⟩:=hP
  rw[<- ls,yYJ] at hn
  wtm_at"z"
  exact q2 hn
theorem jX:xH ["world","row","name","chart","known"] ["world","row"] (xB (top 49)):=by constructor <;> first | rfl | wtm_at"d"
def runRow (W:Wd):List Str->(List Int->Bool)->Bool
 | [],S=>(allV W.bs).all fun r=>!S r || W.gt.truth (envOf (kvsOf W.bs r))
 | x::xs,S=>match (W.ds.filter (mayS W S)).find? (fun d=>decide (d.name=x)) with
  | some d=>runRow W xs (afterS W d S)
  | none=>false
def firstS (W:Wd)(r:List Int):Bool:=W.bt.truth (envOf (kvsOf W.bs r))
theorem xYl {C:Addr}{sp:Sp}{dvs:List V}{E:XK}{t:TA}{σ:St}{H:Hp}{Q:VK}(q:t σ H fun vs H1=>∀x dx,H1 x=none->H1 dx=none->dx≠x->sp (.ref x::(vs++dvs)) (upd (upd H1 dx (.own x)) x (.ins C dx [])) (fun v H2=>v=.non/\Q (.ref x) H2) E):tMake C sp dvs E t σ H Q:=q
theorem qIf {C x dx:Addr}{H:Hp}(h1:H x=none)(h2:H dx=none)(h3:dx≠x):Same H (upd (upd H dx (.own x)) x (.ins C dx [])):=fun b o e=>by
 rw[qA (qB e h1),qA (qB e h2)];exact e
theorem WSm.bare {W:Wd}(h:WSm W):WSm W.bare:=by
 obtain⟨a1,a2,a3,a4,a5,a6,a7,a8,a9,a10,a11,a12,a13,a14,a15⟩:=h.ok
 exact⟨⟨a1,a2,a3,a4,a5,a6,yZG _,by show(W.ds.map Deed.name++[]).Nodup;rw[List.append_nil];exact(yYV.mp a8).1,a9,(fun l hl=>nomatch hl),a11,a12,a13,a14,a15⟩,h.b3,h.few,h.ways,h.nd⟩
def spRow (K:yZP)(CN:Addr):Sp:=fun vs H Q E=>∃(W:Wd) (p ra:Addr) (row:List Str),vs=[.ref p,.ref ra]/\WPt H W p/\WSm W/\W.ds≠[]/\W.ds.length<=100/\H ra=some (.lst (strsV row))/\(∀x∈row,Short x)/\
 ((∀x∈row,x∈W.ds.map Deed.name)->∀H',Same H H'->Q (.bl (runRow W row (firstS W))) H')/\((∃x∈row,x∉W.ds.map Deed.name)->E (.ref CN) none H)
theorem xWe {CN C:Addr}(jc:Cls K C)(yp:Kind K C chartF)(F:Fd K mg "row_works" (top 49) ["world","row"])(uS:Dx P w K mg base "named" 1 ["things","name","kind"] (qDq CN))(uB:Dn P w K mg base "without_looks" 1 ["world"] qVa)(uc:Dn P w K mg base "first_known" 27 ["world"] qIv)(uT:Dn P w K mg base "known_behind" 2 ["steps","name"] qDv)
  (VR:Dk P w K mg base "Chart" C 30 ["self","world"] (qIw K C)) (je:Dm P w K mg base C "number_of" 1 ["self","known"] (spNum K C)) (vz:Dm P w K mg base C "steps_from" 2 ["self","known"] (qIj K C)) (uC:Dm P w K mg base C "is_goal" 2 ["self","known"] (qDa K C)):Dx P w K mg base "row_works" 32 ["world","row"] (spRow K CN):=by
 refine F.okx jX (fun vs H Q E h=>?_) (fun f zy A outer s H vs Q E hr h=>?_)
 .obtain⟨_,_,_,_,rfl,_⟩:=h
  rfl
 obtain⟨W,p,ra,row,rfl,wp,sm,dne,l100,era,sh,q1,q2⟩:=h
 obtain⟨bx,dx,lx,bv,gv,ep,A0⟩:=id wp
 obtain⟨du,edx,pd⟩:=A0.deeds
 refine⟨_,(qZ (xT PassesOwn.leaving rfl (xQ (K:=K) (pv 1)) (qH (i:=2) jX.nd rfl (by wtm_at "zo")) (qJ (qR (qE uS hr (qQ (xF (qT (K:=K)) (pv 0) qF) (qQ (pv 2) (qQ qG qX)))))))
  (qZ (xG (i:=3) jX.nd rfl (qSg VR hr (qQ (qD uB hr (qQ (pv 0) qX)) qX)))
  (qZ (xG (i:=4) jX.nd rfl (jT je jc (pv 3) hr (qQ (qD uc hr (qQ (pv 0) qX)) qX)))
  (qZ (xT PassesOwn.leaving rfl (xQ (K:=K) (pv 1)) (qH (i:=2) jX.nd rfl (by wtm_at "zo")) (qZ (xG (i:=4) jX.nd rfl (qD uT hr (qQ (jT vz jc (pv 3) hr (qQ (pv 4) qX)) (qQ (pv 2) qX))))
  (qJ (zG (qS qMh (pv 4) qJw (xE _)) (qJ (qO qQh)) qY))))
  (qJ (qO (jT uC jc (pv 3) hr (qQ (pv 4) qX)))))))),?_⟩
 wtm_at "zf"
 have ls:(strsV row).length=row.length:=xA row
 refine⟨ra,rfl,⟨_,SqL.of era⟩,?_⟩
 refine jK (xs:=strsV row) (fun i σ' H'=>∃z2:Option V,σ'=[some (.ref p),some (.ref ra),z2,none,none]/\H'=H/\∀x∈row.take i,x∈W.ds.map Deed.name) ⟨none,rfl,rfl,fun x h=>nomatch h⟩ (fun i σ' H' _ hP=>?_) (fun i u σ' H' ex hP=>?_) (fun σ' H' hP=>?_)
 .obtain⟨_,rfl,rfl,_⟩:=hP
  exact SqL.of era
 .obtain⟨z,rfl,rfl,all⟩:=hP
  rw[yYO] at ex
  obtain⟨x,er,rfl⟩:=Option.map_eq_some_iff.mp ex
  have mx:=yYE er
  wtm_at"z"
  refine⟨dx,du,W.ds.map Deed.name,x,"deed",rfl,edx,yW pd,sh x mx,by decide,fun j u ej eu=>?_,fun nx=>q2 ⟨x,mx,nx⟩⟩
  refine⟨_,rfl,rfl,fun y hy=>?_⟩
  rw[yYM,er] at hy
  rcases yYS.mp hy with h | h
  .exact all y h
  .rw[yYL.mp h];exact yYE ej
 obtain⟨z,rfl,rfl,all⟩:=hP
 rw[ls,yYJ] at all
 have q1:=q1 all
 wtm_at"z"
 refine xYl ?_
 wtm_at"z"
 refine⟨W,p,rfl,wp,fun t H1 S1 wp1=>?_⟩
 intro x dxx hx hdx hne
 have Sa:=qIf (C:=C) hx hdx hne
 have exa:upd (upd H1 dxx (.own x)) x (.ins C dxx []) x=some (.ins C dxx []):=qW
 generalize upd (upd H1 dxx (.own x)) x (.ins C dxx [])=Ha at Sa exa
 refine⟨H1,x,dxx,t,W.bare,rfl,Sa,hx,exa,yp,wp1,sm.bare,rfl,dne,l100,fun c H2 cx S2 ch=>⟨rfl,?_⟩⟩
 subst cx
 have S02:=S1.trans S2
 wtm_at"z"
 refine⟨_,rfl,c.x,c.dx,c.fs,rfl,ch.at',rfl,?_⟩
 wtm_at"z"
 refine⟨W,p,bx,dx,lx,bv,gv,rfl,S02 _ _ ep,A0.same S02,sm.ok,fun fr fs H3 nfr S3 efr pfr=>?_⟩
 have ch3:=ch.same S3
 have S03:=S02.trans S3
 wtm_at"z"
 refine⟨c.x,fr,allV W.bs,goodV W.bs W.bt,fs,rfl,(ch3.b sm.nd).b,efr,pfr,fun k hk=>(yYR.mp hk).1,fun m mk=>?_⟩
 have mk:Msk (allV W.bs) m (firstS W):=mk.congr fun r hr=>by
  unfold firstS goodV
  rw[Bool.eq_iff_iff,decide_eq_true_iff,yYR]
  exact⟨fun z=>z.2,fun z=>⟨hr,z⟩⟩
 clear efr pfr nfr
 wtm_at "zf"
 refine⟨ra,rfl,⟨_,SqL.of (S03 _ _ era)⟩,?_⟩
 refine jK (xs:=strsV row) (fun i σ' H'=>∃(m:Nat) (S:List Int->Bool) (z2:Option V),σ'=[some (.ref p),some (.ref ra),z2,some (.ref c.x),some (.int (m:Int))]/\Same H3 H'/\Msk (allV W.bs) m S/\runRow W (row.drop i) S=runRow W row (firstS W)) ⟨m,firstS W,z,rfl,.refl _,mk,rfl⟩ (fun i σ' H' _ hP=>?_) (fun i u σ' H' ex hP=>?_) (fun σ' H' hP=>?_)
 .obtain⟨_,_,_,rfl,S',_⟩:=hP
  exact SqL.of (S' _ _ (S03 _ _ era))
 .obtain⟨m,S,z2,rfl,S',mk,hrun⟩:=hP
  rw[yYO] at ex
  obtain⟨y,er,rfl⟩:=Option.map_eq_some_iff.mp ex
  have dr:row.drop i=y::row.drop (i+1):=by
   rw[List.drop_eq_getElem_cons (yYB.mp er).1,(yYB.mp er).2]
  rw[dr] at hrun
  have ch':=ch3.same S'
  wtm_at"z"
  refine⟨_,rfl,c.x,c.dx,c.fs,rfl,ch'.at',rfl,?_⟩
  wtm_at"z"
  refine⟨c,W.bare,m,S,rfl,ch',sm.bare,l100,mk,fun r su H4 S4 er4 psu=>?_⟩
  wtm_at"z"
  refine⟨r,y,su,W.bare,S,_,rfl,er4,psu,fun d num hf mn=>?_,fun hf=>?_⟩
  .have e1:runRow W (y::row.drop (i+1)) S=runRow W (row.drop (i+1)) (afterS W d S):=by
    show(match (W.ds.filter (mayS W S)).find? (fun d=>decide (d.name=y)) with | some d=>runRow W (row.drop (i+1)) (afterS W d S) | none=>false)=_
    rw[show(W.ds.filter (mayS W S)).find? (fun d=>decide (d.name=y))=some d from hf]
   wtm_at"z"
   refine⟨rfl,?_⟩
   wtm_at"z"
   exact⟨num,afterS W d S,_,rfl,S'.trans S4,mn,e1.symm.trans hrun⟩
  .have e1:runRow W (y::row.drop (i+1)) S=false:=by
    show(match (W.ds.filter (mayS W S)).find? (fun d=>decide (d.name=y)) with | some d=>runRow W (row.drop (i+1)) (afterS W d S) | none=>false)=_
    rw[show(W.ds.filter (mayS W S)).find? (fun d=>decide (d.name=y))=none from hf]
   wtm_at"z"
   refine⟨rfl,?_⟩
   wtm_at"z"
   have:=q1 H4 (S03.trans (S'.trans S4))
   rw[<- hrun,e1] at this
   exact this
 .obtain⟨m,S,z2,rfl,S',mk,hrun⟩:=hP
  rw[ls,List.drop_length] at hrun
  have ch':=ch3.same S'
  wtm_at"z"
  refine⟨_,rfl,c.x,c.dx,c.fs,rfl,ch'.at',rfl,?_⟩
  wtm_at"z"
  refine⟨c.x,c.dx,c.fs,allV W.bs,m,c.g,S,_,rfl,ch'.at',ch'.kd,c.l2,mk,ch'.goal,?_⟩
  have:=q1 H' (S03.trans S')
  rw[<- hrun] at this
  exact this
def hidL (xs:List Addr)(H:Hp):Hp:=fun b=>if b∈xs then none else H b
section
variable {xs ys:List Addr}{H H':Hp}{dk na:Addr}
theorem zT {b:Addr}{o:HO}(n:b∉xs)(e:H b=some o):hidL xs H b=some o:=by unfold hidL;rw[if_neg n];exact e
theorem xM:Same (hidL xs H) H:=fun b o e=>by
 by_cases h:b∈xs
 .unfold hidL at e;rw[if_pos h] at e;cases e
 .unfold hidL at e;rw[if_neg h] at e;exact e
theorem qKv (k:∀b o,b∉xs->H b=some o->H' b=some o):Same (hidL xs H) (hidL xs H'):=fun b o e=>by
 by_cases h:b∈xs
 .unfold hidL at e;rw[if_pos h] at e;cases e
 .exact zT h (k b o h (xM _ _ e))
theorem yQ (S:Same H H'):Same (hidL xs H) (hidL xs H'):=qKv fun b o _ e=>S b o e
theorem qBn {a:Addr}{o:HO}(m:a∈xs):Same (hidL xs H) (hidL xs (upd H a o)):=qKv fun b o' n e=>by rw[qA (fun z=>n (by rw[z];exact m))];exact e
theorem qNl (h:∀b∈ys,b∈xs):Same (hidL xs H) (hidL ys H):=fun b o e=>zT (fun z=>by
 unfold hidL at e;rw[if_pos (h b z)] at e;cases e) (xM _ _ e)
theorem xJd {H2:Hp}{a:Addr}(n:H a=none)(s1:Same (hidL xs H) (hidL xs H'))(s2:Same (hidL (xs++[a]) H') (hidL (xs++[a]) H2)):Same (hidL xs H) (hidL xs H2):=fun b o e=>by
 have nb:b∉xs:=fun z=>by unfold hidL at e;rw[if_pos z] at e;cases e
 refine zT nb (xM _ _ (s2 b o (zT (fun z=>?_) (xM _ _ (s1 b o e)))))
 rcases yYS.mp z with h | h
 .exact nb h
 .exact(qB (xM _ _ e) n) (yYL.mp h)
def Op (xs:List Addr)(H:Hp):Prop:=∀a∈xs,∃us,H a=some (.lst us)
theorem Op.tups (o:Op xs H):Tups H (hidL xs H):=fun b us e=>zT (fun z=>by obtain⟨vs,q⟩:=o b z;rw[q] at e;cases e) e
theorem Op.same (o:Op xs H)(s:Same H H'):Op xs H':=fun a h=>let ⟨us,e⟩:=o a h;⟨us,s _ _ e⟩
theorem Op.new (o:Op xs H){b:Addr}(e:H b=none):b∉xs:=fun z=>by obtain⟨vs,q⟩:=o b z;rw[q] at e;cases e
theorem Dq.op (D:Dq H dk na):Op [dk,na] H:=fun a h=>by
 obtain⟨ms,d,e1,e2⟩:=D.ex
 simp only[yYK,List.not_mem_nil,or_false] at h
 rcases h with rfl | rfl
 .exact⟨_,e1⟩
 .exact⟨_,e2⟩
theorem Dq.op1 (D:Dq H dk na){a:Addr}{us:List V}(e:H a=some (.lst us)):Op [dk,na,a] H:=fun b h=>by
 rcases yYS.mp (show b∈[dk,na]++[a] from h) with h | h
 .exact D.op b h
 .rw[yYL.mp h];exact⟨_,e⟩
theorem Dq.op2 (D:Dq H dk na){a b:Addr}{us vs:List V}(e:H a=some (.lst us))(e2:H b=some (.lst vs)):Op [dk,na,a,b] H:=fun c h=>by
 rcases yYS.mp (show c∈[dk,na,a]++[b] from h) with h | h
 .exact D.op1 e c h
 .rw[yYL.mp h];exact⟨_,e2⟩
theorem Bq.hid (b:Bq dk na H H')(zs:List Addr):Same (hidL (dk::na::zs) H) (hidL (dk::na::zs) H'):=qKv fun c o n e=>b c o (fun z=>n (by rw[z];exact yYG)) (fun z=>n (by rw[z];exact yYH _ yYG)) e
theorem Dq.set (D:Dq H dk na){a:Addr}{o:HO}(n:a∉[dk,na]):Dq (upd H a o) dk na:=by
 obtain⟨ms,d,h1,h2⟩:=D.ex
 exact⟨ms,d,by rw[qA (fun z=>n (by rw[z];exact yYG))];exact h1,by rw[qA (fun z=>n (by rw[z];exact yYH _ yYG))];exact h2⟩
theorem Bq.lst (b:Bq dk na H H'){a:Addr}{o:HO}(n:a∉[dk,na])(e:H a=some o):H' a=some o:=b a o (fun z=>n (by rw[z];exact yYG)) (fun z=>n (by rw[z];exact yYH _ yYG)) e
end
structure Bx (H:Hp)(dk na bx:Addr)(us:List V)(bs:List (Str×Int)):Prop where
 at':H bx=some (.lst us)
 no:bx∉[dk,na]
 pd:Paired (BoxIn H) bs us
 l1:1<=bs.length
 l2:bs.length<=2
section
variable {H H':Hp}{dk na bx:Addr}{us:List V}{bs:List (Str×Int)}
theorem Bx.move (x:Bx H dk na bx us bs)(b:Bq dk na H H')(D:Dq H dk na):Bx H' dk na bx us bs:=⟨b.lst x.no x.at',x.no,xK (b.tups D) x.pd,x.l1,x.l2⟩
theorem Bx.same (x:Bx H dk na bx us bs)(s:Same H H'):Bx H' dk na bx us bs:=⟨s _ _ x.at',x.no,xK (qC s) x.pd,x.l1,x.l2⟩
theorem Bx.pick (x:Bx H dk na bx us bs){k:Int}(h0:0<=k)(h1:k<us.length):∃(b:Str×Int) (a:Addr),b∈bs/\atI us k=some (.ref a)/\H a=some (.tup [.str b.1,.int b.2]):=by
 obtain⟨i,rfl⟩:∃i:Nat,k=(i:Int):=⟨k.toNat,by omega⟩
 have hi:i<us.length:=by omega
 obtain⟨b,eb⟩:∃b,bs[i]? = some b:=⟨_,yYA (by rw[x.pd.length];exact hi)⟩
 obtain⟨u,eu⟩:∃u,us[i]? = some u:=⟨_,yYA hi⟩
 obtain⟨a,rfl,ha⟩:=xV x.pd eb eu
 exact⟨b,a,yYE eb,qKm eu,ha⟩
theorem Bx.m0 (x:Bx H dk na bx us bs):(0:Int)<(us.length:Int):=by
 have:=x.l1
 have:=x.pd.length
 omega
theorem Bx.m1 (x:Bx H dk na bx us bs):((us.length:Nat):Int).natAbs<2 ^ 1000:=by
 have:=x.l2
 have:=x.pd.length
 exact yZI (show us.length<=2 by omega) (by wtm_at"d")
end
theorem k4' {z:Int}(h0:0<=z)(h1:z<4):z=0\/z=1\/z=2\/z=3:=by omega
theorem yD:xH ["deck","boxes","box","one","number"] ["deck","boxes"] (xB (top 56)):=by constructor <;> first | rfl | wtm_at"d"
def qIz:Sp:=fun vs H Q _=>∃(dk na bx:Addr) (us:List V) (bs:List (Str×Int)),vs=[.ref dk,.ref bx]/\Dq H dk na/\Bx H dk na bx us bs/\
 ∀(t:Th) (v:V) (H':Hp),Bq dk na H H'->Dq H' dk na->t.At H' v->Expr' (bs.map (·.1)) t->t.dep<=2->Q v H'
theorem qUv (F:Fd K mg "_law_thing" (top 56) ["deck","boxes"])(B:Bl mg)(jL:Dn P w K mg base "_law_take" 1 ["deck","many"] spTake):Dn P w K mg base "_law_thing" 2 ["deck","boxes"] qIz:=by
 refine F.ok yD (fun vs H Q E h=>?_) (fun f zy A outer s H vs Q E hr h=>?_)
 .obtain⟨_,_,_,_,_,rfl,_⟩:=h
  rfl
 obtain⟨dk,na,bx,us,bs,rfl,D0,X0,q⟩:=h
 have ebx:=X0.at'
 refine⟨_,(qZ (xG (i:=2) yD.nd rfl (xP (qQ qG (qQ (xF (qT (K:=K)) (xF (qU (K:=K)) (pv 1) (qD jL hr (qQ (pv 0) (qQ (xJ (jV (K:=K)) rfl B.len' vI (qQ (pv 1) qX)) qX)))) qF) qX))))
  (qZ (xG (i:=3) yD.nd rfl (xP (qQ qG (qQ qF qX))))
  (qZ (xG (i:=4) yD.nd rfl (xP (qQ qG (qQ (qD jL hr (qQ (pv 0) (qQ qF qX))) qX))))
  (qJ (qO (xF (qU (K:=K)) (xO (qQ (pv 4) (qQ (xP (qQ qG (qQ (pv 2) (qQ (pv 3) qX)))) (qQ (xP (qQ qG (qQ (pv 2) (qQ (pv 3) qX)))) (qQ (pv 4) qX))))) (qD jL hr (qQ (pv 0) (qQ qF qX))))))))),?_⟩
 wtm_at"z"
 refine⟨dk,na,_,rfl,D0,X0.m0,X0.m1,fun x H1 hx0 hx1 B1 D1=>?_⟩
 have X1:=X0.move B1 D0
 obtain⟨b,a,mb,ea,ha⟩:=X1.pick hx0 hx1
 have ebx1:=X1.at'
 wtm_at"z"
 refine⟨ll2,fun t1 ht1=>?_⟩
 generalize eQ:upd H1 t1 _=H2
 obtain⟨St1,et1⟩:=laid ht1 eQ
 wtm_at"z"
 refine⟨ll2,fun t2 ht2=>?_⟩
 generalize eQ:upd H2 t2 _=H3
 obtain⟨St2,et2⟩:=laid ht2 eQ
 wtm_at"z"
 have D3:=(D1.same St1).same St2
 refine⟨dk,na,4,rfl,D3,by decide,by wtm_at"d",fun y H4 hy0 hy1 B4 D4=>?_⟩
 have et1:=B4.tups D3 _ _ (St2 _ _ et1)
 have et2:=B4.tups D3 _ _ et2
 wtm_at"z"
 refine⟨ll2,fun t3 ht3=>?_⟩
 generalize eQ:upd H4 t3 _=H5
 obtain⟨St3,et3⟩:=laid ht3 eQ
 wtm_at"z"
 refine⟨ll3,fun t4 ht4=>?_⟩
 generalize eQ:upd H5 t4 _=H6
 obtain⟨St4,et4⟩:=laid ht4 eQ
 wtm_at"z"
 refine⟨ll3,fun t5 ht5=>?_⟩
 generalize eQ:upd H6 t5 _=H7
 obtain⟨St5,et5⟩:=laid ht5 eQ
 wtm_at"z"
 refine⟨ll4,fun l1 hl1=>?_⟩
 generalize eQ:upd H7 l1 _=H8
 obtain⟨Sl1,el1⟩:=laid hl1 eQ
 wtm_at"z"
 have S48:=((St3.trans St4).trans St5).trans Sl1
 have D8:=D4.same S48
 refine⟨dk,na,4,rfl,D8,by decide,by wtm_at"d",fun z H9 hz0 hz1 B9 D9=>?_⟩
 have T9:=B9.tups D8
 have nl1:=D4.op.new (show H4 l1=none from(((St3.trans St4).trans St5).free hl1))
 have el1:=B9.lst nl1 el1
 have f1:=T9 _ _ (S48 _ _ et1)
 have f2:=T9 _ _ (S48 _ _ et2)
 have f3:=T9 _ _ (((St4.trans St5).trans Sl1) _ _ et3)
 have f4:=T9 _ _ ((St5.trans Sl1) _ _ et4)
 have f5:=T9 _ _ (Sl1 _ _ et5)
 have bx1:b.1∈bs.map (·.1):=yYP.mpr ⟨b,mb,rfl⟩
 have pick:∃(t:Th) (a:Addr),atI [V.ref t3,.ref t4,.ref t5,.ref t3] z=some (.ref a)/\t.At H9 (.ref a)/\Expr' (bs.map (·.1)) t/\t.dep<=2:=by
  rcases k4' hz0 hz1 with rfl | rfl | rfl | rfl
  .exact⟨.num y,t3,rfl,⟨t3,rfl,f3⟩,⟨hy0,by omega⟩,by show 1<=2;decide⟩
  .exact⟨.bin "plus" (.box b.1) (.num 1),t4,rfl,⟨t4,_,_,rfl,f4,⟨t1,rfl,f1⟩,⟨t2,rfl,f2⟩⟩,⟨.inl rfl,bx1,by decide,by decide⟩,by show 2<=2;decide⟩
  .exact⟨.bin "less" (.box b.1) (.num 1),t5,rfl,⟨t5,_,_,rfl,f5,⟨t1,rfl,f1⟩,⟨t2,rfl,f2⟩⟩,⟨.inr rfl,bx1,by decide,by decide⟩,by show 2<=2;decide⟩
  .exact⟨.num y,t3,rfl,⟨t3,rfl,f3⟩,⟨hy0,by omega⟩,by show 1<=2;decide⟩
 obtain⟨t,a9,e9,at9,x9,d9⟩:=pick
 wtm_at"z"
 exact q t _ H9 (B1.trans ((Bq.of (St1.trans St2)).trans (B4.trans ((Bq.of S48).trans B9)))) D9 at9 x9 d9
def NB:Th->Prop
 | .un _ a=>NB a
 | .bin k _ _=>k ≠ "both"
 | _=>True
theorem yT:xH ["deck","boxes","box","number","some"] ["deck","boxes"] (xB (top 57)):=by constructor <;> first | rfl | wtm_at"d"
def spTest:Sp:=fun vs H Q _=>∃(dk na bx:Addr) (us:List V) (bs:List (Str×Int)),vs=[.ref dk,.ref bx]/\Dq H dk na/\Bx H dk na bx us bs/\
 ∀(t:Th) (v:V) (H':Hp),Bq dk na H H'->Dq H' dk na->t.At H' v->Cond' (bs.map (·.1)) t/\NB t->t.dep<=3->Q v H'
theorem xJn (F:Fd K mg "_law_test" (top 57) ["deck","boxes"])(B:Bl mg)(jL:Dn P w K mg base "_law_take" 1 ["deck","many"] spTake):Dn P w K mg base "_law_test" 2 ["deck","boxes"] spTest:=by
 refine F.ok yT (fun vs H Q E h=>?_) (fun f zy A outer s H vs Q E hr h=>?_)
 .obtain⟨_,_,_,_,_,rfl,_⟩:=h
  rfl
 obtain⟨dk,na,bx,us,bs,rfl,D0,X0,q⟩:=h
 have ebx:=X0.at'
 refine⟨_,(qZ (xG (i:=2) yT.nd rfl (xP (qQ qG (qQ (xF (qT (K:=K)) (xF (qU (K:=K)) (pv 1) (qD jL hr (qQ (pv 0) (qQ (xJ (jV (K:=K)) rfl B.len' vI (qQ (pv 1) qX)) qX)))) qF) qX))))
  (qZ (xG (i:=3) yT.nd rfl (xP (qQ qG (qQ (qD jL hr (qQ (pv 0) (qQ qF qX))) qX))))
  (qZ (xG (i:=4) yT.nd rfl (xO (qQ (xP (qQ qG qX)) (qQ (xP (qQ qG (qQ (pv 2) (qQ (pv 3) qX)))) (qQ (xP (qQ qG (qQ (pv 2) (qQ (xP (qQ qG (qQ qF qX))) qX)))) qX)))))
  (qZ (qR (yN (K:=K) PySem.F.plainAttrs_list PySem.F.slot_list_append PySem.F.type_list_append zR (pv 4) (qQ (xP (qQ qG (qQ (xP (qQ qG (qQ (pv 2) (qQ (pv 3) qX)))) qX))) qX)))
  (qJ (qO (xF (qU (K:=K)) (pv 4) (qD jL hr (qQ (pv 0) (qQ qF qX)))))))))),?_⟩
 wtm_at"z"
 refine⟨dk,na,_,rfl,D0,X0.m0,X0.m1,fun x H1 hx0 hx1 B1 D1=>?_⟩
 have X1:=X0.move B1 D0
 obtain⟨b,a,mb,ea,ha⟩:=X1.pick hx0 hx1
 have ebx1:=X1.at'
 wtm_at"z"
 refine⟨ll2,fun t1 ht1=>?_⟩
 generalize eQ:upd H1 t1 _=H2
 obtain⟨St1,et1⟩:=laid ht1 eQ
 wtm_at"z"
 have D2:=D1.same St1
 refine⟨dk,na,3,rfl,D2,by decide,by wtm_at"d",fun y H4 hy0 hy1 B4 D4=>?_⟩
 have et1:=B4.tups D2 _ _ et1
 wtm_at"z"
 refine⟨ll2,fun t3 ht3=>?_⟩
 generalize eQ:upd H4 t3 _=H5
 obtain⟨St3,et3⟩:=laid ht3 eQ
 wtm_at"z"
 refine⟨ll1,fun y1 hy1=>?_⟩
 generalize eQ:upd H5 y1 _=H6
 obtain⟨Sy1,ey1⟩:=laid hy1 eQ
 wtm_at"z"
 refine⟨ll3,fun t4 ht4=>?_⟩
 generalize eQ:upd H6 t4 _=H7
 obtain⟨St4,et4⟩:=laid ht4 eQ
 wtm_at"z"
 refine⟨ll2,fun t5 ht5=>?_⟩
 generalize eQ:upd H7 t5 _=H8
 obtain⟨St5,et5⟩:=laid ht5 eQ
 wtm_at"z"
 refine⟨ll3,fun t6 ht6=>?_⟩
 generalize eQ:upd H8 t6 _=H9
 obtain⟨St6,et6⟩:=laid ht6 eQ
 wtm_at"z"
 refine⟨ll3,fun l1 hl1=>?_⟩
 generalize eQ:upd H9 l1 _=HA
 obtain⟨Sl1,el1⟩:=laid hl1 eQ
 wtm_at"z"
 refine qVx (SqL.of el1) ?_
 wtm_at"z"
 refine⟨ll3,fun t7 ht7=>?_⟩
 generalize eQ:upd HA t7 _=HB
 obtain⟨St7,et7⟩:=laid ht7 eQ
 wtm_at"z"
 refine⟨ll2,fun t8 ht8=>?_⟩
 generalize eQ:upd HB t8 _=HC
 obtain⟨St8,et8⟩:=laid ht8 eQ
 wtm_at"z"
 have elC:=(St7.trans St8) _ _ el1
 refine⟨l1,_,.ref t8,rfl,rfl,elC,(show 3<sizeLine by decide),?_⟩
 have S4A:=((((St3.trans Sy1).trans St4).trans St5).trans St6).trans Sl1
 have S4C:=(S4A.trans St7).trans St8
 have nl1:=D4.op.new (show H4 l1=none from(((((St3.trans Sy1).trans St4).trans St5).trans St6).free hl1))
 have DD:=(D4.same S4C).set (o:=.lst ([V.ref y1,.ref t4,.ref t6]++[.ref t8])) nl1
 have TD:Tups HC (upd HC l1 (.lst ([V.ref y1,.ref t4,.ref t6]++[.ref t8]))):=fun b us e=>by rw[qA (jU e elC (by intro z;cases z))];exact e
 have BD:Bq dk na H4 (upd HC l1 (.lst ([V.ref y1,.ref t4,.ref t6]++[.ref t8]))):=fun c o _ _ e=>by rw[qA (qB e (((((St3.trans Sy1).trans St4).trans St5).trans St6).free hl1))];exact S4C _ _ e
 have elD:upd HC l1 (.lst ([V.ref y1,.ref t4,.ref t6]++[.ref t8])) l1=some (.lst ([V.ref y1,.ref t4,.ref t6]++[.ref t8])):=qW
 generalize upd HC l1 (.lst ([V.ref y1,.ref t4,.ref t6]++[.ref t8]))=HD at DD TD BD elD
 wtm_at"z"
 refine⟨dk,na,4,rfl,DD,by decide,by wtm_at"d",fun z HE hz0 hz1 BE DE=>?_⟩
 have TE:Tups HC HE:=TD.trans (BE.tups DD)
 have el1:=BE.lst nl1 elD
 have S78:=St7.trans St8
 have f1:=TE _ _ (S4C _ _ et1)
 have f3:=TE _ _ ((((((Sy1.trans St4).trans St5).trans St6).trans Sl1).trans S78) _ _ et3)
 have fy:=TE _ _ (((((St4.trans St5).trans St6).trans Sl1).trans S78) _ _ ey1)
 have f4:=TE _ _ ((((St5.trans St6).trans Sl1).trans S78) _ _ et4)
 have f5:=TE _ _ (((St6.trans Sl1).trans S78) _ _ et5)
 have f6:=TE _ _ ((Sl1.trans S78) _ _ et6)
 have f7:=TE _ _ (St8 _ _ et7)
 have f8:=TE _ _ et8
 have bx1:b.1∈bs.map (·.1):=yYP.mpr ⟨b,mb,rfl⟩
 have pick:∃(t:Th) (a:Addr),atI ([V.ref y1,.ref t4,.ref t6]++[.ref t8]) z=some (.ref a)/\t.At HE (.ref a)/\(Cond' (bs.map (·.1)) t/\NB t)/\t.dep<=3:=by
  rcases k4' hz0 hz1 with rfl | rfl | rfl | rfl
  .exact⟨.nul "yes",y1,rfl,⟨y1,rfl,fy⟩,⟨rfl,trivial⟩,by show 1<=3;decide⟩
  .exact⟨.bin "same" (.box b.1) (.num y),t4,rfl,⟨t4,_,_,rfl,f4,⟨t1,rfl,f1⟩,⟨t3,rfl,f3⟩⟩,⟨.inl ⟨.inl rfl,bx1,hy0,by omega⟩,(show("same" : Str) ≠ "both" by decide)⟩,by show 2<=3;decide⟩
  .exact⟨.bin "under" (.box b.1) (.num 3),t6,rfl,⟨t6,_,_,rfl,f6,⟨t1,rfl,f1⟩,⟨t5,rfl,f5⟩⟩,⟨.inl ⟨.inr rfl,bx1,by decide,by decide⟩,(show("under" : Str) ≠ "both" by decide)⟩,by show 2<=3;decide⟩
  .exact⟨.un "not" (.bin "same" (.box b.1) (.num y)),t8,rfl,⟨t8,_,rfl,f8,⟨t7,_,_,rfl,f7,⟨t1,rfl,f1⟩,⟨t3,rfl,f3⟩⟩⟩,⟨⟨rfl,.inl ⟨.inl rfl,bx1,hy0,by omega⟩⟩,(show("same" : Str) ≠ "both" by decide)⟩,by show 3<=3;decide⟩
 obtain⟨t,a9,e9,at9,x9,d9⟩:=pick
 wtm_at"z"
 exact q t _ HE (B1.trans ((Bq.of St1).trans (B4.trans (BD.trans BE)))) DE at9 x9 d9
abbrev dn45:List Str:=["go","gone","g","turn","goes"]
def sizes45:List (List Int):=[[2],[3],[3,2],[2,2],[5,4],[3,3]]
def bsOf (sz:List Int):List (Str×Int):=List.zip [("a" : Str),"aa"] sz
theorem xWn:∀sz∈sizes45,1<=(bsOf sz).length/\(bsOf sz).length<=2/\(bsOf sz).length=sz.length/\(∀b∈bsOf sz,2<=b.2/\b.2<=5)/\((bsOf sz).map (·.2)).foldl (· * ·) 1<=200/\(allV (bsOf sz)).length<=20/\(allV (bsOf sz)).Nodup/\((bsOf sz).map (·.1)).Nodup/\(∀x∈(bsOf sz).map (·.1),x∉cwords)/\("a" : Str)∈(bsOf sz).map (·.1):=by wtm_at"d"
theorem xWo:∀sz∈sizes45,∃vals∈allV (bsOf sz),(Th.bin "same" (.box "a") (.num 0)).truth (envOf (kvsOf (bsOf sz) vals))=true:=by wtm_at"d"
theorem xWm:∀sz∈sizes45,∃vals∈allV (bsOf sz),(Th.nul "yes").truth (envOf (kvsOf (bsOf sz) vals))=true:=by wtm_at"d"
structure WDr (W:Wd):Prop where
 ok:WOk W
 b2:W.bs.length<=2
 few:(allV W.bs).length<=20
 nd:(allV W.bs).Nodup
 ne:W.ds≠[]
 d5:W.ds.length<=5
 ways:∀d∈W.ds,d.ways.length<=3
 names:∀d∈W.ds,d.name∈dn45
 nb:NB W.bt/\NB W.gt/\∀d∈W.ds,NB d.need
theorem WDr.sm {W:Wd}(h:WDr W):WSm W:=⟨h.ok,yZJ h.b2 (by decide),yZJ h.few (by decide),h.ways,h.nd⟩
theorem zK:xH ["deck","sizes","boxes","deeds","name","ways","k","need","begin"] ["deck"] (xB (top 58)):=by constructor <;> first | rfl | wtm_at"d"
theorem kA:CompOk (xB (top 58)) ["deck","sizes","boxes","deeds","name","ways","k","need","begin"] (scAt (xC (top 58)) [1] []) ["name","size"] 2 []:=
 by constructor <;> wtm_at"d"
theorem xXa {σ:St}{H:Hp}{W:It->Hp->Prop}{ta:TA}(q:ta σ H fun vs H1=>∃t l xs ys,vs=[.ref t,.ref l]/\SqL K H1 t xs/\SqL K H1 l ys/\W (Itzll K t l) H1):iZipll K ta σ H W:=q
theorem qUi (xs:List V)(k:Nat):cutV xs none (some (k:Int))=xs.take k:=by
 unfold cutV
 rw[HT.sIx_none,HT.sIx_nat,List.drop_zero,Nat.sub_zero]
 by_cases h:k<=xs.length
 .rw[Nat.min_eq_left h]
 .rw[Nat.min_eq_right (by omega),List.take_of_length_le (yZD _),List.take_of_length_le (by omega)]
def qDz:Sp:=fun vs H Q _=>∃(dk na:Addr),vs=[.ref dk]/\Dq H dk na/\∀(W:Wd) (p:Addr) (H':Hp),Same (hidL [dk,na] H) (hidL [dk,na] H')->Dq H' dk na->WPt (hidL [dk,na] H') W p->WDr W->Q (.ref p) H'
theorem qOa (F:Fd K mg "_law_world" (top 58) ["deck"])(B:Bl mg)(jL:Dn P w K mg base "_law_take" 1 ["deck","many"] spTake)(JJ:Dn P w K mg base "_law_thing" 2 ["deck","boxes"] qIz)(uD:Dn P w K mg base "_law_test" 2 ["deck","boxes"] spTest):
  Dn P w K mg base "_law_world" 3 ["deck"] qDz:=by
 refine F.ok zK (fun vs H Q E h=>?_) (fun f zy A outer s H vs Q E hr h=>?_)
 .obtain⟨_,_,rfl,_⟩:=h
  rfl
 obtain⟨dk,na,rfl,D0,q⟩:=h
 refine⟨_,(qZ (xG (i:=1) zK.nd rfl (xF (qU (K:=K)) (xO (qQ (xO (qQ qF qX)) (qQ (xO (qQ qF qX)) (qQ (xO (qQ qF (qQ qF qX))) (qQ (xO (qQ qF (qQ qF qX))) (qQ (xO (qQ qF (qQ qF qX))) (qQ (xO (qQ qF (qQ qF qX))) qX))))))) (qD jL hr (qQ (pv 0) (qQ qF qX)))))
  (qZ (yI (i:=2) zK.nd rfl (by wtm_at "zo") rfl kA (qMk (K:=K) rfl B.zip' (qQ (xO (qQ qG (qQ qG qX))) (qQ (pv 1) qX))) (fun cl fp s H=>(zH (K:=K) (n:=2) rfl (qI (qH (i:=0) kA.nd rfl (Or.inl rfl) (.inr rfl)) (qI (qH (i:=1) kA.nd rfl (Or.inl rfl) (.inr rfl)) qM)))) (fun cl fp s H=>zF) (fun cl fp s H=>(xP (qQ (pv 0) (qQ (pv 1) qX)))))
  (qZ (xG (i:=3) zK.nd rfl (xO qX))
  (qZ (xT PassesOwn.never rfl (xQ (K:=K) (qYo (qDh (K:=K)) (xO (qQ qG (qQ qG (qQ qG (qQ qG (qQ qG qX)))))) qBz (qBx (xX qQj qF (qD jL hr (qQ (pv 0) (qQ qF qX))))))) (qH (i:=4) zK.nd rfl (by wtm_at "zo")) (qZ (xG (i:=5) zK.nd rfl (xO qX))
  (qZ (xT PassesOwn.never rfl (yM rfl B.range' (qQ (xF (qU (K:=K)) (xO (qQ qF (qQ qF (qQ qF (qQ qF qX))))) (qD jL hr (qQ (pv 0) (qQ qF qX)))) qX)) (qH (i:=6) zK.nd rfl (by wtm_at "zo")) (qJ (qR (yN (K:=K) PySem.F.plainAttrs_list PySem.F.slot_list_append PySem.F.type_list_append zR (pv 5) (qQ (xO (qQ (xP (qQ (xF (qT (K:=K)) (xF (qU (K:=K)) (pv 2) (qD jL hr (qQ (pv 0) (qQ (xJ (jV (K:=K)) rfl B.len' vI (qQ (pv 2) qX)) qX)))) qF) (qQ (qD JJ hr (qQ (pv 0) (qQ (pv 2) qX))) qX))) qX)) qX)))))
  (qZ (xG (i:=7) zK.nd rfl (xF (qU (K:=K)) (xO (qQ (xP (qQ qG qX)) (qQ (xP (qQ qG qX)) (qQ (qD uD hr (qQ (pv 0) (qQ (pv 2) qX))) qX)))) (qD jL hr (qQ (pv 0) (qQ qF qX)))))
  (qJ (qR (yN (K:=K) PySem.F.plainAttrs_list PySem.F.slot_list_append PySem.F.type_list_append zR (pv 3) (qQ (xP (qQ (pv 4) (qQ qF (qQ (pv 7) (qQ (pv 5) qX))))) qX))))))))
  (qZ (xG (i:=8) zK.nd rfl (xF (qU (K:=K)) (xO (qQ (xP (qQ qG qX)) (qQ (xP (qQ qG (qQ (xP (qQ qG (qQ qG qX))) (qQ (xP (qQ qG (qQ qF qX))) qX)))) qX))) (qD jL hr (qQ (pv 0) (qQ qF qX)))))
  (qJ (qO (xP (qQ (pv 2) (qQ (pv 3) (qQ (xO (qQ (xP (qQ qG (qQ qF (qQ (xP (qQ qG (qQ qG qX))) qX)))) qX)) (qQ (pv 8) (qQ (qD uD hr (qQ (pv 0) (qQ (pv 2) qX))) qX))))))))))))),?_⟩
 wtm_at"z"
 refine⟨ll1,fun s1 hs1=>?_⟩
 generalize eQ:upd H s1 _=H1
 obtain⟨Ss1,es1⟩:=laid hs1 eQ
 wtm_at"z"
 refine⟨ll1,fun s2 hs2=>?_⟩
 generalize eQ:upd H1 s2 _=H2
 obtain⟨Ss2,es2⟩:=laid hs2 eQ
 wtm_at"z"
 refine⟨ll2,fun s3 hs3=>?_⟩
 generalize eQ:upd H2 s3 _=H3
 obtain⟨Ss3,es3⟩:=laid hs3 eQ
 wtm_at"z"
 refine⟨ll2,fun s4 hs4=>?_⟩
 generalize eQ:upd H3 s4 _=H4
 obtain⟨Ss4,es4⟩:=laid hs4 eQ
 wtm_at"z"
 refine⟨ll2,fun s5 hs5=>?_⟩
 generalize eQ:upd H4 s5 _=H5
 obtain⟨Ss5,es5⟩:=laid hs5 eQ
 wtm_at"z"
 refine⟨ll2,fun s6 hs6=>?_⟩
 generalize eQ:upd H5 s6 _=H6
 obtain⟨Ss6,es6⟩:=laid hs6 eQ
 wtm_at"z"
 refine⟨ll6,fun sl hsl=>?_⟩
 generalize eQ:upd H6 sl _=H7
 obtain⟨Ssl,esl⟩:=laid hsl eQ
 wtm_at"z"
 have A2:=Ss1.trans Ss2
 have A3:=A2.trans Ss3
 have A4:=A3.trans Ss4
 have A5:=A4.trans Ss5
 have A6:=A5.trans Ss6
 have A7:=A6.trans Ssl
 have new:=fun{b:Addr}=>D0.op.new (b:=b)
 have D7:=D0.same A7
 refine⟨dk,na,6,rfl,D7,by decide,by wtm_at"d",fun x H8 hx0 hx1 B8 D8=>?_⟩
 have esl:=B8.lst (new (A6.free hsl)) esl
 have pick:∃sz∈sizes45,∃sa:Addr,atI [V.ref s1,.ref s2,.ref s3,.ref s4,.ref s5,.ref s6] x=some (.ref sa)/\H8 sa=some (.lst (intsV sz)):=by
  rcases(by omega:x=0\/x=1\/x=2\/x=3\/x=4\/x=5) with rfl | rfl | rfl | rfl | rfl | rfl
  .exact⟨[2],by decide,s1,rfl,B8.lst (new hs1) ((((((Ss2.trans Ss3).trans Ss4).trans Ss5).trans Ss6).trans Ssl) _ _ es1)⟩
  .exact⟨[3],by decide,s2,rfl,B8.lst (new (Ss1.free hs2)) (((((Ss3.trans Ss4).trans Ss5).trans Ss6).trans Ssl) _ _ es2)⟩
  .exact⟨[3,2],by decide,s3,rfl,B8.lst (new (A2.free hs3)) ((((Ss4.trans Ss5).trans Ss6).trans Ssl) _ _ es3)⟩
  .exact⟨[2,2],by decide,s4,rfl,B8.lst (new (A3.free hs4)) (((Ss5.trans Ss6).trans Ssl) _ _ es4)⟩
  .exact⟨[5,4],by decide,s5,rfl,B8.lst (new (A4.free hs5)) ((Ss6.trans Ssl) _ _ es5)⟩
  .exact⟨[3,3],by decide,s6,rfl,B8.lst (new (A5.free hs6)) (Ssl _ _ es6)⟩
 obtain⟨sz,msz,sa,epk,esa⟩:=pick
 have B08:Bq dk na H H8:=(Bq.of A7).trans B8
 clear A2 A3 A4 A5 A6 A7 Ss1 Ss2 Ss3 Ss4 Ss5 Ss6 es1 es2 es3 es4 es5 es6 hs1 hs2 hs3 hs4 hs5 hs6 new B8 D7 Ssl
 obtain⟨f1,f2,f3,f4,f5,f6,f7,f8,f9,f10⟩:=xWn sz msz
 wtm_at "zf"
 refine xXa ?_
 wtm_at"z"
 refine⟨ll2,fun nl hnl=>?_⟩
 generalize eQ:upd H8 nl _=H9
 obtain⟨Snl,enl⟩:=laid hnl eQ
 wtm_at"z"
 have esa9:=Snl _ _ esa
 refine⟨nl,sa,_,_,rfl,SqL.of enl,SqL.of esa9,?_⟩
 have lsz:(intsV sz).length=sz.length:=zS sz
 refine qGl (xs:=[.str "a",.str "aa"]) (ys:=intsV sz) (by rw[lsz,<- f3];exact f2) (fun D i zs H'=>Same H9 H'/\Paired (BoxIn H') ((bsOf sz).take i) zs) (fun D hD=>⟨qV hD _,.nil⟩)
  (fun D i zs H' _ hP=>⟨SqL.of (hP.1 _ _ enl),SqL.of (hP.1 _ _ esa9)⟩) (fun D i u v T zs H' N hD hDy ex ey hT hP hN=>?_) (fun bx us HA nbx ebx hP=>?_)
 .obtain⟨S',pz⟩:=hP
  have hi:i<(bsOf sz).length:=by rw[f3,<- lsz];exact(yYB.mp ey).1
  obtain⟨b,eb⟩:∃b,(bsOf sz)[i]? = some b:=⟨_,yYA hi⟩
  have ez:u=.str b.1/\v=.int b.2:=by
   obtain⟨z1,z2⟩:=List.getElem?_zip_eq_some.mp eb
   rw[show([V.str "a",.str "aa"]:List V)=[("a" : Str),"aa"].map V.str from rfl,yYO,z1] at ex
   rw[yYO,z2] at ey
   cases ex;cases ey;exact⟨rfl,rfl⟩
  obtain⟨rfl,rfl⟩:=ez
  refine⟨T,_,rfl,SqT.of qW,rfl,_,_,rfl,_,_,rfl,rfl,⟨[some (.str b.1),some (.int b.2)],rfl,rfl⟩,?_⟩
  generalize eQ:upd H' T _=H2
  obtain⟨ST,eT⟩:=laid hT eQ
  wtm_at"z"
  refine⟨ll2,fun t ht=>?_⟩
  generalize eQ:upd H2 t _=H3
  obtain⟨St,et⟩:=laid ht eQ
  have S3:=(S'.trans ST).trans St
  have eD:=(ST.trans St) _ _ hDy
  have T4:Tups H3 (upd H3 D (.lst (zs++[V.ref t]))):=fun b xs e=>by rw[qA (jU e eD (by intro z;cases z))];exact e
  refine⟨eD,?_,hN _ _ qW ⟨fun b o e=>?_,?_⟩⟩
  .have:=pz.length
   rw[yYF] at this
   exact yZI (show zs.length<=2 by omega) (by decide)
  .rw[qA (qB e hD)];exact S3 _ _ e
  .rw[yYM,eb]
   exact Paired.snoc (xK ((qC (ST.trans St)).trans T4) pz) ⟨t,rfl,T4 _ _ et⟩
 obtain⟨SA,pb⟩:=hP
 rw[lsz,<- f3,yYJ] at pb
 have D9:=D8.same Snl
 have DA:=D9.same SA
 have X0:Bx HA dk na bx us (bsOf sz):=⟨ebx,D9.op.new nbx,pb,f1,f2⟩
 have B0A:Bq dk na H HA:=B08.trans (Bq.of (Snl.trans SA))
 clear B08 Snl SA esl esa esa9 enl hnl hsl
 wtm_at"z"
 refine⟨ll0,fun da hda=>?_⟩
 generalize eQ:upd HA da _=HB
 obtain⟨Sda,eda⟩:=laid hda eQ
 have DB:=DA.same Sda
 have nda:=DA.op.new hda
 have XB:=X0.same Sda
 wtm_at "zf"
 refine⟨ll5,fun l0 hl0=>?_⟩
 generalize eQ:upd HB l0 _=HC
 obtain⟨Sl0,el0⟩:=laid hl0 eQ
 have el0:HC l0=some (.lst (strsV dn45)):=el0
 have nl0:=DB.op.new hl0
 have DC:=DB.same Sl0
 wtm_at"z"
 refine⟨dk,na,4,rfl,DC,by decide,by wtm_at"d",fun x3 HD hx30 hx31 BD DD=>?_⟩
 have el0:=BD.lst nl0 el0
 have XD:=(XB.same Sl0).move BD DC
 have eda:=BD.lst nda (Sl0 _ _ eda)
 wtm_at"z"
 refine⟨l0,_,rfl,SqL.of el0,fun l1 hl1=>?_⟩
 obtain⟨n3,en3⟩:∃n:Nat,2+x3=(n:Int):=⟨(2+x3).toNat,by omega⟩
 have hn3:2<=n3/\n3<=5:=by omega
 rw[en3,qUi,<- List.map_take]
 generalize eQ:upd HD l1 _=H9
 obtain⟨Sl1,el1⟩:=laid hl1 eQ
 have D9':=DD.same Sl1
 have l1n:l1∉[dk,na,da]:=(DD.op1 eda).new hl1
 have eda9:=Sl1 _ _ eda
 have X9:=XD.same Sl1
 have bx3:bx∉[dk,na,da]:=fun z=>by
  rcases yYS.mp (show bx∈[dk,na]++[da] from z) with h | h
  .exact X0.no h
  .exact(qB X0.at' hda) (yYL.mp h)
 have B9:Same (hidL [dk,na] H) (hidL [dk,na] H9):=(B0A.hid []).trans ((yQ (Sda.trans Sl0)).trans ((BD.hid []).trans (yQ Sl1)))
 have nH:H da=none\/da∈[dk,na]:=by
  cases z:H da with
  | none=>exact .inl rfl
  | some o=>
   refine .inr (Decidable.byContradiction fun n=>?_)
   rw[B0A.lst n z] at hda;cases hda
 refine⟨l1,rfl,⟨_,SqL.of el1⟩,?_⟩
 clear el0 hl0 hx30 hx31 Sl0 BD DC XB DB XD DD Sda DA hl1 Sl1 B0A pb D9 D8
 refine xS (xs:=strsV (dn45.take n3)) (fun i σ' H'=>∃(z4 z5 z6 z7:Option V) (du:List V) (ds:List Deed),σ'=[some (.ref dk),some (.ref sa),some (.ref bx),some (.ref da),z4,z5,z6,z7,none]/\Same (hidL [dk,na,da] H9) (hidL [dk,na,da] H')/\Dq H' dk na/\H' da=some (.lst du)/\
   Paired (DeedIn (hidL [dk,na,da] H')) ds du/\(∀d∈ds,DeedOk ((bsOf sz).map (·.1)) d/\d.ways.length<=3/\NB d.need)/\ds.map Deed.name=(dn45.take n3).take i)
  ⟨none,none,none,none,[],[],rfl,.refl _,D9',eda9,.nil,(fun d h=>nomatch h),rfl⟩ (fun i σ' H' _ hP=>?_) (fun N rt bk i u σ' Ha ex hP hN=>?_) (fun σ' HZ hP=>?_)
 .obtain⟨_,_,_,_,_,_,rfl,S,_⟩:=hP
  exact SqL.of (xM _ _ (S _ _ (zT l1n el1)))
 .obtain⟨z4,z5,z6,z7,du,ds,rfl,S3,Da,ea,pd,dok,nm⟩:=hP
  rw[yYO] at ex
  obtain⟨x,ex',rfl⟩:=Option.map_eq_some_iff.mp ex
  have Xa:Bx Ha dk na bx us (bsOf sz):=⟨xM _ _ (S3 _ _ (zT bx3 X9.at')),X0.no,xK ((D9'.op1 eda9).tups.trans ((qC S3).trans (qC xM))) X9.pd,f1,f2⟩
  have ldu:=pd.length
  have lds:ds.length<=5:=by
   have:=congrArg List.length nm
   rw[yYC,yYF,yYF] at this
   have e5:dn45.length=5:=rfl
   omega
  wtm_at"z"
  refine⟨ll0,fun wa hwa=>?_⟩
  generalize eQ:upd Ha wa _=Hb
  obtain⟨Swa,ewa⟩:=laid hwa eQ
  have nwa:=(Da.op1 ea).new hwa
  have nwa2:wa∉[dk,na]:=fun z=>nwa (List.mem_append_left [da] z)
  have Db:=Da.same Swa
  have eb:=Swa _ _ ea
  have Xb:=Xa.same Swa
  wtm_at "zf"
  refine⟨ll4,fun l4 hl4=>?_⟩
  generalize eQ:upd Hb l4 _=Hc
  obtain⟨Sl4,el4⟩:=laid hl4 eQ
  wtm_at"z"
  have nl4:=Db.op.new hl4
  have Dc:=Db.same Sl4
  refine⟨dk,na,4,rfl,Dc,by decide,by wtm_at"d",fun x4 Hd hx40 hx41 Bd Dd=>?_⟩
  have el4:=Bd.lst nl4 el4
  have ed:=Bd.lst nda (Sl4 _ _ eb)
  have ewd:=Bd.lst nwa2 (Sl4 _ _ ewa)
  have Xd:=(Xb.same Sl4).move Bd Dc
  obtain⟨n4,hn4,en4⟩:∃n:Nat,(1<=n/\n<=3)/\atI [V.int 1,.int 1,.int 2,.int 3] x4=some (.int (n:Int)):=by
   rcases k4' hx40 hx41 with rfl | rfl | rfl | rfl
   .exact⟨1,by decide,rfl⟩
   .exact⟨1,by decide,rfl⟩
   .exact⟨2,by decide,rfl⟩
   .exact⟨3,by decide,rfl⟩
  wtm_at"z"
  refine⟨_,rfl,by omega,by omega,?_⟩
  rw[Int.toNat_natCast]
  have bx4:bx∉[dk,na,da,wa]:=fun z=>by
   rcases yYS.mp (show bx∈[dk,na,da]++[wa] from z) with h | h
   .exact bx3 h
   .exact(qB Xa.at' hwa) (yYL.mp h)
  have S3d:Same (hidL [dk,na,da] Ha) (hidL [dk,na,da] Hd):=(yQ (Swa.trans Sl4)).trans (Bd.hid [da])
  refine vA (fun j σ' H'=>∃(y6:Option V) (wus:List V) (wys:List (List (Str×Th))),σ'=[some (.ref dk),some (.ref sa),some (.ref bx),some (.ref da),some (.str x),some (.ref wa),y6,z7,none]/\Same (hidL [dk,na,da,wa] Hd) (hidL [dk,na,da,wa] H')/\Dq H' dk na/\H' da=some (.lst du)/\H' wa=some (.lst wus)/\
    Paired (WayIn (hidL [dk,na,da,wa] H')) wys wus/\(∀wy∈wys,WayOk ((bsOf sz).map (·.1)) wy)/\wys.length=j)
   ⟨z6,[],[],rfl,.refl _,Dd,ed,ewd,.nil,(fun d h=>nomatch h),rfl⟩ ?_ ?_
  .rintro N2 rt2 bk2 j σ' He hj ⟨y6,wus,wys,rfl,S4,De,ee,ewe,pw,wok,wl⟩ hN2
   have lw:=pw.length
   have Xe:Bx He dk na bx us (bsOf sz):=⟨xM _ _ (S4 _ _ (zT bx4 Xd.at')),X0.no,xK ((Dd.op2 ed ewd).tups.trans ((qC S4).trans (qC xM))) Xd.pd,f1,f2⟩
   have ebe:=Xe.at'
   wtm_at"z"
   refine qVx (SqL.of ewe) ?_
   wtm_at"z"
   refine⟨dk,na,_,rfl,De,Xe.m0,Xe.m1,fun y Hf hy0 hy1 Bf Df=>?_⟩
   have Xf:=Xe.move Bf De
   obtain⟨b,a,mb,ea',ha⟩:=Xf.pick hy0 hy1
   have ebf:=Xf.at'
   wtm_at"z"
   refine⟨dk,na,bx,us,bsOf sz,rfl,Df,Xf,fun t v Hg Bg Dg atg xg dg=>?_⟩
   wtm_at"z"
   refine⟨ll2,fun c hc=>?_⟩
   generalize eQ:upd Hg c _=Hh
   obtain⟨Sc,ec⟩:=laid hc eQ
   wtm_at"z"
   refine⟨ll1,fun wy hwy=>?_⟩
   generalize eQ:upd Hh wy _=Hi
   obtain⟨Swy,ewy⟩:=laid hwy eQ
   wtm_at"z"
   have Beg:Bq dk na He Hg:=Bf.trans Bg
   have ewg:=Beg.lst nwa2 ewe
   have eeg:=Beg.lst nda ee
   have Sgi:=Sc.trans Swy
   refine⟨wa,wus,.ref wy,rfl,rfl,Sgi _ _ ewg,small (by omega),?_⟩
   have nwy:=(Dg.op2 eeg ewg).new (Sc.free hwy)
   have ewi:=Sgi _ _ ewg
   have Di:=(Dg.same Sgi).set (o:=.lst (wus++[V.ref wy])) nwa2
   have ei:upd Hi wa (.lst (wus++[V.ref wy])) da=some (.lst du):=by rw[qA (fun z=>nwa (by rw[<- z];exact yYN [dk,na] yYG))];exact Sgi _ _ eeg
   have So:Same (hidL [dk,na,da,wa] He) (hidL [dk,na,da,wa] (upd Hi wa (.lst (wus++[V.ref wy])))):=(Beg.hid [da,wa]).trans ((yQ Sgi).trans (qBn (yYN [dk,na,da] yYG)))
   have Si:Same (hidL [dk,na,da,wa] Hi) (hidL [dk,na,da,wa] (upd Hi wa (.lst (wus++[V.ref wy])))):=qBn (yYN [dk,na,da] yYG)
   have opi:=(Dg.op2 eeg ewg).same Sgi
   refine hN2 _ _ ⟨_,wus++[.ref wy],wys++[[(b.1,t)]],rfl,S4.trans So,Di,ei,qW,Paired.snoc (Paired.mapP pw fun _ _ z=>z.same So) ⟨wy,[.ref c],rfl,Si _ _ (zT nwy ewy),.cons ⟨c,v,rfl,Si _ _ (opi.tups _ _ (Swy _ _ ec)),(atg.mono ((qC Sgi).trans opi.tups)).mono (qC Si)⟩ .nil⟩,fun w' hw=>?_,by rw[yYI,wl];rfl⟩
   rcases yYS.mp hw with h | h
   .exact wok _ h
   .rw[yYL.mp h]
    exact⟨by show [b.1].Nodup;exact List.pairwise_singleton _ _,by show 1<=100;decide,fun c hc=>by rw[yYL.mp hc];exact⟨yYP.mpr ⟨b,mb,rfl⟩,xg,by show t.dep<=12;omega⟩⟩
  .rintro σ' He ⟨y6,wus,wys,rfl,S4,De,ee,ewe,pw,wok,wl⟩
   have Xe:Bx He dk na bx us (bsOf sz):=⟨xM _ _ (S4 _ _ (zT bx4 Xd.at')),X0.no,xK ((Dd.op2 ed ewd).tups.trans ((qC S4).trans (qC xM))) Xd.pd,f1,f2⟩
   have S3e:Same (hidL [dk,na,da] Ha) (hidL [dk,na,da] He):=xJd hwa S3d S4
   have pw3:Paired (WayIn (hidL [dk,na,da] He)) wys wus:=Paired.mapP pw fun _ _ z=>z.same (qNl fun b h=>List.mem_append_left [wa] h)
   wtm_at"z"
   refine⟨ll1,fun y1 hy1=>?_⟩
   generalize eQ:upd He y1 _=Hf
   obtain⟨Sy1,ey1⟩:=laid hy1 eQ
   wtm_at"z"
   refine⟨ll1,fun y2 hy2=>?_⟩
   generalize eQ:upd Hf y2 _=Hg
   obtain⟨Sy2,ey2⟩:=laid hy2 eQ
   wtm_at"z"
   have Sg:=Sy1.trans Sy2
   have Dg:=De.same Sg
   refine⟨dk,na,bx,us,bsOf sz,rfl,Dg,Xe.same Sg,fun t v Hh Bh Dh ath ch dh=>?_⟩
   have ey1:=Bh.tups Dg _ _ (Sy2 _ _ ey1)
   have ey2:=Bh.tups Dg _ _ ey2
   wtm_at"z"
   refine⟨ll3,fun l5 hl5=>?_⟩
   generalize eQ:upd Hh l5 _=Hi
   obtain⟨Sl5,el5⟩:=laid hl5 eQ
   wtm_at"z"
   have Di:=Dh.same Sl5
   refine⟨dk,na,3,rfl,Di,by decide,by wtm_at"d",fun x5 Hj hx50 hx51 Bj Dj=>?_⟩
   have el5:=Bj.lst (Dh.op.new hl5) el5
   have Tj:=(qC Sl5).trans (Bj.tups Di)
   obtain⟨nt,nv,en,atn,cn,dn⟩:∃(nt:Th) (nv:V),atI [V.ref y1,.ref y2,v] x5=some nv/\nt.At Hj nv/\(Cond' ((bsOf sz).map (·.1)) nt/\NB nt)/\nt.dep<=3:=by
    rcases(by omega:x5=0\/x5=1\/x5=2) with rfl | rfl | rfl
    .exact⟨.nul "yes",.ref y1,rfl,⟨y1,rfl,Tj _ _ ey1⟩,⟨rfl,trivial⟩,by show 1<=3;decide⟩
    .exact⟨.nul "yes",.ref y2,rfl,⟨y2,rfl,Tj _ _ ey2⟩,⟨rfl,trivial⟩,by show 1<=3;decide⟩
    .exact⟨t,v,rfl,ath.mono Tj,ch,dh⟩
   have Bej:Bq dk na He Hj:=(Bq.of Sg).trans (Bh.trans ((Bq.of Sl5).trans Bj))
   have ej:=Bej.lst nda ee
   wtm_at"z"
   refine qVx (SqL.of ej) ?_
   wtm_at"z"
   refine⟨ll4,fun dt hdt=>?_⟩
   generalize eQ:upd Hj dt _=Hk
   obtain⟨Sdt,edt⟩:=laid hdt eQ
   wtm_at"z"
   refine⟨da,du,.ref dt,rfl,rfl,Sdt _ _ ej,small (by omega),?_⟩
   have mda:da∈[dk,na,da]:=yYN [dk,na] yYG
   have Su:Same (hidL [dk,na,da] Hk) (hidL [dk,na,da] (upd Hk da (.lst (du++[V.ref dt])))):=qBn mda
   have Sej:Same (hidL [dk,na,da] He) (hidL [dk,na,da] Hk):=(Bej.hid [da]).trans (yQ Sdt)
   have Sau:=(S3e.trans Sej).trans Su
   have opk:=(Dj.same Sdt).op1 (Sdt _ _ ej)
   refine hN _ _ ⟨_,_,_,_,du++[.ref dt],ds++[⟨x,1,nt,wys⟩],rfl,S3.trans Sau,(Dj.same Sdt).set nda,qW,Paired.snoc (Paired.mapP pd fun _ _ z=>z.same Sau) ⟨dt,nv,wa,wus,rfl,Su _ _ (opk.tups _ _ edt),(atn.mono ((qC Sdt).trans opk.tups)).mono (qC Su),(Sej.trans Su) _ _ (zT nwa ewe),Paired.mapP pw3 fun _ _ z=>z.same (Sej.trans Su)⟩,fun d hd=>?_,?_⟩
   .rcases yYS.mp hd with h | h
    .exact dok d h
    .rw[yYL.mp h]
     refine⟨⟨Int.le_refl 1,cn.1,by show nt.dep<=12;omega,fun z=>?_,by show wys.length<=100;omega,wok⟩,by show wys.length<=3;omega,cn.2⟩
     have z:wys=[]:=z
     rw[z,yYU] at wl
     omega
   .rw[yYW,nm,yYM,ex']
    rfl
 obtain⟨z4,z5,z6,z7,du,ds,rfl,S3,DZ,eZ,pd,dok,nm⟩:=hP
 have lnm:(strsV (dn45.take n3)).length=n3:=by
  rw[xA,yYF]
  have e5:dn45.length=5:=rfl
  omega
 rw[lnm,List.take_of_length_le (by rw[yYF];omega)] at nm
 have XZ:Bx HZ dk na bx us (bsOf sz):=⟨xM _ _ (S3 _ _ (zT bx3 X9.at')),X0.no,xK ((D9'.op1 eda9).tups.trans ((qC S3).trans (qC xM))) X9.pd,f1,f2⟩
 have lds:ds.length=n3:=by
  have:=congrArg List.length nm
  rw[yYC,yYF] at this
  have e5:dn45.length=5:=rfl
  omega
 have S09:Same (hidL [dk,na] H) (hidL [dk,na] HZ):=fun b o e=>by
  have nb:b∉[dk,na]:=fun z=>by unfold hidL at e;rw[if_pos z] at e;cases e
  have e9:=xM _ _ (B9 b o e)
  refine zT nb (xM _ _ (S3 b o (zT (fun z=>?_) e9)))
  rcases yYS.mp (show b∈[dk,na]++[da] from z) with h | h
  .exact nb h
  .rw[yYL.mp h] at e nb
   rcases nH with h' | h'
   .rw[xM _ _ e] at h';cases h'
   .exact nb h'
 have pdZ:Paired (DeedIn (hidL [dk,na] HZ)) ds du:=Paired.mapP pd fun _ _ z=>z.same (qNl fun b h=>List.mem_append_left [da] h)
 wtm_at"z"
 refine⟨ll1,fun y1 hy1=>?_⟩
 generalize eQ:upd HZ y1 _=Ha
 obtain⟨Sy1,ey1⟩:=laid hy1 eQ
 wtm_at"z"
 refine⟨ll2,fun b1 hb1=>?_⟩
 generalize eQ:upd Ha b1 _=Hb
 obtain⟨Sb1,eb1⟩:=laid hb1 eQ
 wtm_at"z"
 refine⟨ll2,fun c1 hc1=>?_⟩
 generalize eQ:upd Hb c1 _=Hc
 obtain⟨Sc1,ec1⟩:=laid hc1 eQ
 wtm_at"z"
 refine⟨ll3,fun d1 hd1=>?_⟩
 generalize eQ:upd Hc d1 _=Hd
 obtain⟨Sd1,ed1⟩:=laid hd1 eQ
 wtm_at"z"
 refine⟨ll2,fun l6 hl6=>?_⟩
 generalize eQ:upd Hd l6 _=He
 obtain⟨Sl6,el6⟩:=laid hl6 eQ
 wtm_at"z"
 have SZd:=((Sy1.trans Sb1).trans Sc1).trans Sd1
 have De:=DZ.same (SZd.trans Sl6)
 refine⟨dk,na,2,rfl,De,by decide,by wtm_at"d",fun x6 Hf hx60 hx61 Bf Df=>?_⟩
 have el6:=Bf.lst (DZ.op.new (SZd.free hl6)) el6
 have Tf:=(qC Sl6).trans (Bf.tups De)
 obtain⟨bt,ba,eb,bat,cb,db,sb⟩:∃(bt:Th) (ba:V),atI [V.ref y1,.ref d1] x6=some ba/\bt.At Hf ba/\(Cond' ((bsOf sz).map (·.1)) bt/\NB bt)/\bt.dep<=12/\∃vals∈allV (bsOf sz),bt.truth (envOf (kvsOf (bsOf sz) vals))=true:=by
  rcases(by omega:x6=0\/x6=1) with rfl | rfl
  .exact⟨.nul "yes",.ref y1,rfl,⟨y1,rfl,Tf _ _ (((Sb1.trans Sc1).trans Sd1) _ _ ey1)⟩,⟨rfl,trivial⟩,by show 1<=12;decide,xWm sz msz⟩
  .exact⟨.bin "same" (.box "a") (.num 0),.ref d1,rfl,⟨d1,_,_,rfl,Tf _ _ ed1,⟨b1,rfl,Tf _ _ ((Sc1.trans Sd1) _ _ eb1)⟩,⟨c1,rfl,Tf _ _ (Sd1 _ _ ec1)⟩⟩,⟨.inl ⟨.inl rfl,f10,by decide,by decide⟩,(show("same" : Str) ≠ "both" by decide)⟩,by show 2<=12;decide,xWo sz msz⟩
 wtm_at"z"
 refine⟨ll2,fun g1 hg1=>?_⟩
 generalize eQ:upd Hf g1 _=Hg
 obtain⟨Sg1,eg1⟩:=laid hg1 eQ
 wtm_at"z"
 refine⟨ll3,fun g2 hg2=>?_⟩
 generalize eQ:upd Hg g2 _=Hh
 obtain⟨Sg2,eg2⟩:=laid hg2 eQ
 wtm_at"z"
 refine⟨ll1,fun lk hlk=>?_⟩
 generalize eQ:upd Hh lk _=Hi
 obtain⟨Slk,elk⟩:=laid hlk eQ
 wtm_at"z"
 have Sfi:=(Sg1.trans Sg2).trans Slk
 have Di:=Df.same Sfi
 have BZi:Bq dk na HZ Hi:=(Bq.of (SZd.trans Sl6)).trans (Bf.trans (Bq.of Sfi))
 refine⟨dk,na,bx,us,bsOf sz,rfl,Di,XZ.move BZi DZ,fun gt gv Hj Bj Dj gat gc gd=>?_⟩
 wtm_at"z"
 refine⟨ll5,fun p hp=>?_⟩
 generalize eQ:upd Hj p _=Hk
 obtain⟨Sp,ep⟩:=laid hp eQ
 have Sp2:=yQ (xs:=[dk,na]) Sp
 have nlk:=Df.op.new ((Sg1.trans Sg2).free hlk)
 have BZj:=BZi.trans Bj
 have SZk:=(BZj.hid []).trans Sp2
 have Tik:=(Bj.tups Di).trans (qC Sp)
 have opk:=(Dj.same Sp).op.tups
 have XZk:=(XZ.move BZj DZ).same Sp
 refine q ⟨bsOf sz,ds,[⟨"see",1,.box "a"⟩],bt,gt⟩ p Hk (S09.trans SZk) (Dj.same Sp) ⟨bx,da,lk,ba,gv,opk _ _ ep,⟨us,zT X0.no XZk.at',xK opk XZk.pd⟩,⟨du,SZk _ _ (zT nda eZ),Paired.mapP pdZ fun _ _ z=>z.same SZk⟩,⟨_,((Bj.hid []).trans Sp2) _ _ (zT nlk elk),.cons ⟨g2,.ref g1,rfl,opk _ _ (Tik _ _ (Slk _ _ eg2)),⟨g1,rfl,opk _ _ (Tik _ _ ((Sg2.trans Slk) _ _ eg1))⟩⟩ .nil⟩,bat.mono (((qC Sfi).trans Tik).trans opk),gat.mono ((qC Sp).trans opk)⟩ ⟨⟨f1,yZJ f2 (by decide),f4,f5,⟨f8,f9⟩,?_,by show 1<=100;decide,?_,fun d hd=>(dok d hd).1,fun l hl=>?_,cb.1,db,gc.1,by show gt.dep<=12;omega,sb⟩,f2,f6,f7,fun z=>?_,?_,fun d hd=>(dok d hd).2.1,fun d hd=>?_,⟨cb.2,gc.2,fun d hd=>(dok d hd).2.2⟩⟩
 .show ds.length<=100
  omega
 .show(ds.map Deed.name++[("see" : Str)]).Nodup
  rw[nm]
  exact((List.take_sublist n3 dn45).append (List.Sublist.refl [("see" : Str)])).nodup (by wtm_at"d")
 .rw[yYL.mp hl]
  exact⟨Int.le_refl 1,f10,by show 1<=12;decide⟩
 .have z:ds=[]:=z
  rw[z,yYU] at lds
  omega
 .show ds.length<=5
  omega
 .have:d.name∈ds.map Deed.name:=yYP.mpr ⟨d,hd,rfl⟩
  rw[nm] at this
  exact List.mem_of_mem_take this
theorem qJd:∀(more acc:List (Key×V)),(acc.map (·.1)++more.map (·.1)).Nodup->mergeK acc more=acc++more
 | [],acc,_=>(List.append_nil _).symm
 | (k,v)::more,acc,nd=>by
  show mergeK (putK acc k v) more=_
  have hk:k∉acc.map (·.1):=fun z=>(yYV.mp nd).2.2 k z k yYG rfl
  have e:putK acc k v=acc++[(k,v)]:=by
   unfold putK
   rw[if_neg]
   intro z
   obtain⟨q,hq,c⟩:=List.any_eq_true.mp z
   exact hk (yYP.mpr ⟨q,hq,of_decide_eq_true c⟩)
  rw[e,qJd more _ (by rw[yYW,yYQ];exact nd),yYQ]
  rfl
theorem qVq {ns:List Str}{xs:List V}(h:xs.length=ns.length):(zipK ns xs).map (·.1)=ns.map Sum.inr:=by
 unfold zipK
 rw[List.map_map,show((fun x:Key×V=>x.1)∘fun p:Str×V=>((Sum.inr p.1:Key),p.2))=(fun x:Str=>(Sum.inr x:Key))∘Prod.fst from rfl,<- List.map_map,List.map_fst_zip (by omega)]
theorem qZa {ns:List Str}(h:ns.Nodup):(ns.map (Sum.inr:Str->Key)).Nodup:=List.pairwise_map.mpr (List.Pairwise.imp (fun h e=>h (Sum.inr.inj e)) h)
section
variable {bs:List (Str×Int)}{r q:List Int}
theorem qEb (nd:(bs.map (·.1)).Nodup)(h:r.length=bs.length):kvsOf bs r=zipK (bs.map (·.1)) (intsV r):=by
 have e:=qJd (zipK (bs.map (·.1)) (intsV r)) [] (by rw[qVq (by rw[zS,yYC,h])];exact qZa nd)
 exact e
theorem qQn (nd:(bs.map (·.1)).Nodup)(h:r.length=bs.length):(kvsOf bs r).map (·.1)=(bs.map (·.1)).map Sum.inr:=by
 rw[qEb nd h,qVq (by rw[zS,yYC,h])]
theorem qEa (nd:(bs.map (·.1)).Nodup)(h:r.length=bs.length):DL.Ints (kvsOf bs r):=fun x hx=>by
 rw[qEb nd h] at hx
 obtain⟨p,hp,rfl⟩:=yYP.mp hx
 obtain⟨i,_,e⟩:=yYP.mp (List.of_mem_zip hp).2
 exact⟨i,e.symm⟩
theorem qBm:∀{ka kb:List (Key×V)},ka.map (·.1)=kb.map (·.1)->(ka.map (·.1)).Nodup->(∀k∈ka.map (·.1),valV kb k=valV ka k)->ka=kb
 | [],[],_,_,_=>rfl
 | [],_::_,e,_,_=>by cases e
 | _::_,[],e,_,_=>by cases e
 | (k,v)::ka,(k',v')::kb,e,nd,h=>by
  simp only[List.map_cons,List.cons.injEq] at e
  obtain⟨rfl,e⟩:=e
  have nd':=List.nodup_cons.mp nd
  have h0:=h k yYG
  rw[zW rfl,zW rfl] at h0
  have:ka=kb:=qBm e nd'.2 fun x hx=>by
   have:=h x (yYH _ hx)
   have ne:¬k=x:=fun z=>nd'.1 (by rw[z];exact hx)
   rwa [zA ne,zA ne] at this
  rw[this,show v'=v from Option.some.inj h0]
theorem xJv (nd:(bs.map (·.1)).Nodup)(h:r.length=bs.length)(h2:q.length=bs.length)(e:kvsOf bs r=kvsOf bs q):r=q:=by
 refine List.ext_getElem? fun i=>?_
 by_cases hi:i<bs.length
 .obtain⟨b,eb⟩:∃b,bs[i]? = some b:=⟨_,yYA hi⟩
  obtain⟨v,ev⟩:∃v,r[i]? = some v:=⟨_,yYA (by omega)⟩
  obtain⟨u,eu⟩:∃v,q[i]? = some v:=⟨_,yYA (by omega)⟩
  have e1:=qZk nd h eb ev
  rw[e,qZk nd h2 eb eu] at e1
  rw[ev,eu,V.int.inj (Option.some.inj e1)]
 .rw[List.getElem?_eq_none (by omega),List.getElem?_eq_none (by omega)]
theorem qNw (nd:(bs.map (·.1)).Nodup)(h:r.length=bs.length)(h2:q.length=bs.length):DL.eqD (kvsOf bs r) (kvsOf bs q)=decide (r=q):=by
 have k1:=qQn nd h
 have k2:=qQn nd h2
 have ndk:=qZa nd
 have self:∀(x:Key×V),x∈kvsOf bs r->valV (kvsOf bs r) x.1=some x.2:=fun x hx=>by
  obtain⟨i,hi⟩:=List.mem_iff_getElem?.mp hx
  have:∀(l:List (Key×V)) (i:Nat),(l.map (·.1)).Nodup->l[i]? = some x->valV l x.1=some x.2:=by
   intro l
   induction l with
   | nil=>intro i _ e;cases e
   | cons y l ih=>
    intro i nd e
    cases i with
    | zero=>cases e;exact zW rfl
    | succ i=>
     have nd':=List.nodup_cons.mp nd
     rw[zA (fun z:y.1=x.1=>nd'.1 (yYP.mpr ⟨x,yYE e,z.symm⟩))]
     exact ih i nd'.2 e
  exact this _ i (by rw[k1];exact ndk) hi
 rw[Bool.eq_iff_iff,decide_eq_true_iff]
 unfold DL.eqD
 rw[Bool.and_eq_true,List.all_eq_true]
 constructor
 .rintro⟨_,z⟩
  refine xJv nd h h2 (qBm (k1.trans k2.symm) (by rw[k1];exact ndk) fun k hk=>?_)
  obtain⟨x,hx,rfl⟩:=yYP.mp hk
  rw[of_decide_eq_true (z x hx),self x hx]
 .rintro rfl
  exact⟨beq_self_eq_true _,fun x hx=>decide_eq_true (self x hx)⟩
theorem qTk {i:Nat}{b:Str×Int}{v:Int}(eb:bs[i]? = some b)(h:r.length=i):putK (kvsOf (bs.take i) r) (Sum.inr b.1) (.int v)=kvsOf (bs.take (i+1)) (r++[v]):=by
 have hi:=(yYB.mp eb).1
 show _=mergeK [] (zipK ((bs.take (i+1)).map (·.1)) (intsV (r++[v])))
 rw[yYM,eb,yYW,show intsV (r++[v])=intsV r++[V.int v] from yYW]
 unfold zipK
 rw[List.zip_append (by rw[yYC,yYF,yYC];omega),yYW]
 unfold mergeK
 rw[List.foldl_append]
 rfl
theorem qIo {kvs:List (Key×V)}{k:Key}{v:V}(h:k∈kvs.map (·.1)):(putK kvs k v).map (·.1)=kvs.map (·.1):=by
 unfold putK
 rw[if_pos]
 .rw[List.map_map]
  refine List.map_congr_left fun x _=>?_
  show(if x.1=k then (x.1,v) else x).1=x.1
  split <;> rfl
 .obtain⟨x,hx,e⟩:=yYP.mp h
  exact List.any_eq_true.mpr ⟨x,hx,decide_eq_true e⟩
theorem qVm {ρ:Str->Int}:∀(wy:List (Str×Th)) (acc:List (Key×V)),(∀c∈wy,Sum.inr c.1∈acc.map (·.1))->(putsK bs ρ acc wy).map (·.1)=acc.map (·.1)
 | [],_,_=>rfl
 | c::wy,acc,h=>by
  show(putsK bs ρ (putK acc (Sum.inr c.1) (.int (c.2.worth ρ % sizeOf' bs c.1))) wy).map (·.1)=_
  have e:=qIo (v:=.int (c.2.worth ρ % sizeOf' bs c.1)) (h c yYG)
  rw[qVm wy _ (fun d hd=>by rw[e];exact h d (yYH _ hd)),e]
theorem qSv {wy:List (Str×Th)}(nd:(bs.map (·.1)).Nodup)(h:r.length=bs.length)(wok:WayOk (bs.map (·.1)) wy):putsK bs (envOf (kvsOf bs r)) (kvsOf bs r) wy=kvsOf bs (xU bs wy r):=by
 have k1:=qQn nd h
 have hb:=vB (wy:=wy) h
 have k2:=qQn nd hb
 have kp:=qVm (bs:=bs) (ρ:=envOf (kvsOf bs r)) wy (kvsOf bs r) fun c hc=>by rw[k1];exact yYP.mpr ⟨c.1,(wok.ok c hc).1,rfl⟩
 refine qBm (kp.trans (k1.trans k2.symm)) (by rw[kp,k1];exact qZa nd) fun k hk=>?_
 rw[kp,k1] at hk
 obtain⟨x,hx,rfl⟩:=yYP.mp hk
 obtain⟨b,hb',rfl⟩:=yYP.mp hx
 obtain⟨i,eb⟩:=List.mem_iff_getElem?.mp hb'
 have hi:=(yYB.mp eb).1
 obtain⟨v,ev⟩:∃v,r[i]? = some v:=⟨_,yYA (by omega)⟩
 rw[qYh _ _ wok.nd,qZk nd hb eb (qZh eb ev),qYg nd eb,qZk nd h eb ev]
 cases wy.lookup b.1 <;> rfl
end
theorem kN:xH ["thing","values","one","other"] ["thing","values"] (xB (top 59)):=by constructor <;> first | rfl | wtm_at"d"
def vK (n:Nat):Sp:=fun vs H Q _=>∃(t:Th) (v:V) (d:Addr) (kvs:List (Key×V)) (ws:List Str) (ρ:Str->Int),vs=[v,.ref d]/\t.At H v/\Expr' ws t/\t.dep<=n/\H d=some (.dK kvs)/\Env' kvs ws ρ/\∀H',Same H H'->Q (.int (t.worth ρ)) H'
theorem qGv {n:Nat}(F:Fd K mg "_law_worth" (top 59) ["thing","values"])(B:Bl mg)(ji:Dn P w K mg base "_law_worth" (n+1) ["thing","values"] (vK n)):Dn P w K mg base "_law_worth" (n+2) ["thing","values"] (vK (n+1)):=by
 refine F.ok (k:=n+1) kN (fun vs H Q E h=>?_) (fun f zy A outer s H vs Q E hr h=>?_)
 .obtain⟨_,_,_,_,_,_,rfl,_⟩:=h
  rfl
 obtain⟨t,v,d,kvs,ws,ρ,rfl,ht,ok,hd,ed,env,q⟩:=h
 have hu:=qWh hr
 refine⟨_,(qZ (zG (qS jM (xF (qT (K:=K)) (pv 0) qF) qG (xE _)) (qJ (qO (xF (qT (K:=K)) (pv 0) qF))) qY)
  (qZ (zG (qS jM (xF (qT (K:=K)) (pv 0) qF) qG (xE _)) (qJ (qO (wU hu (pv 1) (xF (qT (K:=K)) (pv 0) qF) (fun _ _=>rfl)))) qY)
  (qZ (xG (i:=2) kN.nd rfl (qD ji hr (qQ (xF (qT (K:=K)) (pv 0) qF) (qQ (pv 1) qX))))
  (qZ (xG (i:=3) kN.nd rfl (qD ji hr (qQ (xF (qT (K:=K)) (pv 0) qF) (qQ (pv 1) qX))))
  (qJ (qO (xF (qU (K:=K)) (xO (qQ (xX qQj (pv 2) (pv 3)) (qQ (xX xQe (pv 2) (pv 3)) qX))) (xZ qAj rfl B.int' qPo (qQ (kX jM (xF (qT (K:=K)) (pv 0) qF) qG (xE _)) qX))))))))),?_⟩
 cases t with
 | nul k=>exact ok.elim
 | un k a=>exact ok.elim
 | num m=>
  obtain⟨a,rfl,ea⟩:=ht
  wtm_at"z"
  exact q _ (.refl _)
 | box x=>
  obtain⟨a,rfl,ea⟩:=ht
  have hv:=(env x ok).1
  wtm_at"z"
  exact⟨d,.int (ρ x),rfl,by rw[<- hv];exact DGet.k (k:=Sum.inr x) ed,q _ (.refl _)⟩
 | bin k x y=>
  obtain⟨a,u1,u2,rfl,ea,h1,h2⟩:=ht
  obtain⟨hk,ok1,ok2⟩:=ok
  have d0:max x.dep y.dep+1<=n+1:=hd
  have k1:k ≠ "number" := by rcases hk with r | r <;> (rw[r];decide)
  have k2:k ≠ "box" := by rcases hk with r | r <;> (rw[r];decide)
  wtm_at"z"
  refine⟨x,u1,d,kvs,ws,ρ,rfl,h1,ok1,by omega,ed,env,fun H1 S1=>?_⟩
  have ea1:=S1 _ _ ea
  wtm_at"z"
  refine⟨y,u2,d,kvs,ws,ρ,rfl,Th.At.mono (qC S1) h2,ok2,by omega,S1 _ _ ed,env,fun H2 S2=>?_⟩
  have ea2:=S2 _ _ ea1
  wtm_at"z"
  refine⟨ll2,fun l hl=>?_⟩
  generalize eQ:upd H2 l _=H3
  obtain⟨Sl,el⟩:=laid hl eQ
  have ea3:=Sl _ _ ea2
  have qq:Q (.int (if k = "plus" then x.worth ρ+y.worth ρ else x.worth ρ - y.worth ρ)) H3:=q _ ((S1.trans S2).trans Sl)
  rcases hk with r | r
  .subst r
   wtm_at"z"
   refine .inr ⟨false,rfl,?_⟩
   rw[if_pos rfl] at qq
   exact⟨l,_,0,_,rfl,rfl,SqL.of el,rfl,qq⟩
  .subst r
   wtm_at"z"
   refine .inr ⟨true,rfl,?_⟩
   rw[if_neg (by decide)] at qq
   exact⟨l,_,1,_,rfl,rfl,SqL.of el,rfl,qq⟩
theorem qWm (F:Fd K mg "_law_worth" (top 59) ["thing","values"])(B:Bl mg):∀n:Nat,Dn P w K mg base "_law_worth" (n+1) ["thing","values"] (vK n)
 | 0=>F.never fun vs H Q E h=>by
  obtain⟨t,_,_,_,_,_,_,_,_,h1,_⟩:=h
  have:=t.dep_pos
  omega
 | n+1=>qGv F B (qWm F B n)
theorem kO:xH ["thing","values","one","other"] ["thing","values"] (xB (top 60)):=by constructor <;> first | rfl | wtm_at"d"
def vV (n:Nat):Sp:=fun vs H Q _=>∃(t:Th) (v:V) (d:Addr) (kvs:List (Key×V)) (ws:List Str) (ρ:Str->Int),vs=[v,.ref d]/\t.At H v/\(Cond' ws t/\NB t)/\t.dep<=n/\t.dep<=12/\H d=some (.dK kvs)/\Env' kvs ws ρ/\∀H',Same H H'->Q (.bl (t.truth ρ)) H'
theorem qGw {n:Nat}(F:Fd K mg "_law_holds" (top 60) ["thing","values"])(B:Bl mg)(ji:Dn P w K mg base "_law_worth" 13 ["thing","values"] (vK 12))(jj:Dn P w K mg base "_law_holds" (n+13) ["thing","values"] (vV n)):
  Dn P w K mg base "_law_holds" (n+14) ["thing","values"] (vV (n+1)):=by
 refine F.ok (k:=n+13) kO (fun vs H Q E h=>?_) (fun f zy A outer s H vs Q E hr h=>?_)
 .obtain⟨_,_,_,_,_,_,rfl,_⟩:=h
  rfl
 obtain⟨t,v,d,kvs,ws,ρ,rfl,ht,ok,hd,h12,ed,env,q⟩:=h
 refine⟨_,(qZ (zG (qS jM (xF (qT (K:=K)) (pv 0) qF) qG (xE _)) (qJ (qO qQh)) qY)
  (qZ (zG (qS jM (xF (qT (K:=K)) (pv 0) qF) qG (xE _)) (qJ (qO (qMa (qD jj hr (qQ (xF (qT (K:=K)) (pv 0) qF) (qQ (pv 1) qX)))))) qY)
  (qZ (xG (i:=2) kO.nd rfl (qD ji hr (qQ (xF (qT (K:=K)) (pv 0) qF) (qQ (pv 1) qX))))
  (qZ (xG (i:=3) kO.nd rfl (qD ji hr (qQ (xF (qT (K:=K)) (pv 0) qF) (qQ (pv 1) qX))))
  (qJ (qO (xF (qU (K:=K)) (xO (qQ (kX qFc (pv 2) (pv 3) (xE _)) (qQ (kX jM (pv 2) (pv 3) (xE _)) qX))) (xZ qAj rfl B.int' qPo (qQ (kX jM (xF (qT (K:=K)) (pv 0) qF) qG (xE _)) qX))))))))),?_⟩
 cases t with
 | num m=>exact ok.1.elim
 | box x=>exact ok.1.elim
 | nul k=>
  obtain⟨a,rfl,ea⟩:=ht
  cases(show k = "yes" from ok.1)
  wtm_at"z"
  exact q _ (.refl _)
 | un k x=>
  obtain⟨a,u1,rfl,ea,h1⟩:=ht
  obtain⟨⟨hk,ok1⟩,nb⟩:=ok
  subst hk
  have d0:x.dep+1<=n+1:=hd
  have d12:x.dep+1<=12:=h12
  wtm_at"z"
  refine⟨x,u1,d,kvs,ws,ρ,rfl,h1,⟨ok1,nb⟩,by omega,by omega,ed,env,fun H1 S1=>?_⟩
  wtm_at"z"
  exact q _ S1
 | bin k x y=>
  obtain⟨a,u1,u2,rfl,ea,h1,h2⟩:=ht
  have d0:max x.dep y.dep+1<=n+1:=hd
  have d12:max x.dep y.dep+1<=12:=h12
  obtain⟨ok,nb⟩:=ok
  rcases ok with⟨hk,ok1,ok2⟩ | ⟨hk,_⟩
  .have k1:k ≠ "yes" := by rcases hk with r | r <;> (rw[r];decide)
   have k2:k ≠ "not" := by rcases hk with r | r <;> (rw[r];decide)
   wtm_at"z"
   refine⟨x,u1,d,kvs,ws,ρ,rfl,h1,ok1,by omega,ed,env,fun H1 S1=>?_⟩
   have ea1:=S1 _ _ ea
   wtm_at"z"
   refine⟨y,u2,d,kvs,ws,ρ,rfl,Th.At.mono (qC S1) h2,ok2,by omega,S1 _ _ ed,env,fun H2 S2=>?_⟩
   have ea2:=S2 _ _ ea1
   wtm_at"z"
   refine⟨ll2,fun l hl=>?_⟩
   generalize eQ:upd H2 l _=H3
   obtain⟨Sl,el⟩:=laid hl eQ
   have ea3:=Sl _ _ ea2
   have qq:=q _ ((S1.trans S2).trans Sl)
   rcases hk with r | r
   .subst r
    rw[qJj] at qq
    wtm_at"z"
    refine .inr ⟨true,rfl,?_⟩
    have e:decide (V.int (x.worth ρ)=V.int (y.worth ρ))=decide (x.worth ρ=y.worth ρ):=decide_eq_decide.mpr ⟨fun z=>V.int.inj z,fun z=>by rw[z]⟩
    rw[e] at el
    exact⟨l,_,1,_,rfl,rfl,SqL.of el,rfl,qq⟩
   .subst r
    rw[qXx] at qq
    wtm_at"z"
    refine .inr ⟨false,rfl,?_⟩
    exact⟨l,_,0,_,rfl,rfl,SqL.of el,rfl,qq⟩
  .exact absurd hk nb
theorem qWn (F:Fd K mg "_law_holds" (top 60) ["thing","values"])(B:Bl mg)(D:Dn P w K mg base "_law_worth" 13 ["thing","values"] (vK 12)):∀n:Nat,Dn P w K mg base "_law_holds" (n+13) ["thing","values"] (vV n)
 | 0=>F.never fun vs H Q E h=>by
  obtain⟨t,_,_,_,_,_,_,_,_,h1,_⟩:=h
  have:=t.dep_pos
  omega
 | n+1=>qGw F B D (qWn F B D n)
def DV (H:Hp)(bs:List (Str×Int))(r:List Int)(u:V):Prop:=∃a,u=.ref a/\H a=some (.dK (kvsOf bs r))
section
variable {H H':Hp}{bs:List (Str×Int)}
theorem DV.same (s:Same H H'){r:List Int}{u:V}(x:DV H bs r u):DV H' bs r u:=let ⟨a,e1,e2⟩:=x;⟨a,e1,s _ _ e2⟩
theorem DV.put {l:Addr}{xs:List V}{o:HO}(e:H l=some (.lst xs)){r:List Int}{u:V}(x:DV H bs r u):DV (upd H l o) bs r u:=let ⟨a,e1,e2⟩:=x;⟨a,e1,by rw[qA (jU e2 e (by intro z;cases z))];exact e2⟩
theorem qWi {σ:St}{Q:VK}{js:List Nat}{tt:TT}{fa:Addr}{fu:List V}{rows:List (List Int)}{f:List Int->Bool}(efa:H fa=some (.lst fu))(pr:Paired (DV H bs) rows fu)(hl:rows.length<=1000)
  (htt:∀(a:Addr) (r:List Int) (H':Hp) (R:Bool->Hp->Prop),r∈rows->H' a=some (.dK (kvsOf bs r))->Same H H'->(∀H'',Same H' H''->R (f r) H'')->tt ([some (.ref a)]++frees js σ) H' R)
  (q:∀(D:Addr) (ys:List V) (H':Hp),Same H H'->H' D=some (.lst ys)->Paired (DV H' bs) (rows.filter f) ys->Q (.ref D) H'):
  rdC 1 js (gName 0) tt (tVar 0) (Itl K fa) σ H Q:=by
 have lp:=pr.length
 refine zZ (xs:=fu) (fun D i ys H'=>Same H H'/\Paired (DV H' bs) ((rows.take i).filter f) ys) (fun D hD=>⟨qV hD _,.nil⟩) (fun D i ys H' _ hP=>SqL.of (hP.1 _ _ efa)) (fun D i x ys H' N hD hDy ex hP hN=>?_) (fun D ys H2 hD hDy hP=>?_)
 .obtain⟨hk,py⟩:=hP
  have hi:i<rows.length:=by rw[lp];exact(yYB.mp ex).1
  obtain⟨r,er⟩:∃r,rows[i]? = some r:=⟨_,yYA hi⟩
  obtain⟨a,rfl,ha⟩:=xV pr er ex
  have ly:=py.length
  refine⟨⟨[some (.ref a)],rfl,rfl⟩,?_⟩
  refine htt a r H' _ (yYE er) (hk _ _ ha) hk fun H3 S3=>?_
  have fs:=jQ (p:=f) er
  cases hS:f r with
  | false=>
   refine iteF (hN _ _ (S3 _ _ hDy) ⟨hk.trans S3,?_⟩)
   rw[fs,hS,if_neg yZL,List.append_nil];exact Paired.mapP py fun _ _ z=>z.same S3
  | true=>
   have hDy3:=S3 _ _ hDy
   refine iteT ⟨_,rfl,hDy3,small (by have:=List.length_filter_le f (rows.take i);rw[yYF] at this;omega),hN _ _ qW ⟨fun b o e=>?_,?_⟩⟩
   .rw[qA (qB e hD)];exact S3 _ _ (hk _ _ e)
   .rw[fs,hS,if_pos rfl]
    exact Paired.snoc (Paired.mapP py fun _ _ z=>(z.same S3).put hDy3) (DV.put hDy3 ⟨a,rfl,(hk.trans S3) _ _ ha⟩)
 .obtain⟨hk,py⟩:=hP
  rw[<- lp,yYJ] at py
  exact q D ys H2 hk hDy py
end
theorem WDr.env {W:Wd}(h:WDr W){r:List Int}(f:Fits W.bs r):Env' (kvsOf W.bs r) (W.bs.map (·.1)) (envOf (kvsOf W.bs r)):=qOk (f.stands h.ok.b25)
theorem zV:xH ["world","found","name","size","longer","values","value","more"] ["world"] (xB (top 61)):=by constructor <;> first | rfl | wtm_at"d"
theorem wE:CompOk (xB (top 61)) ["world","found","name","size","longer","values","value","more"] (scAt (xC (top 61)) [2] []) ["values","world"] 1 [0]:=
 by constructor <;> wtm_at"d"
def qDk:Sp:=fun vs H Q _=>∃(W:Wd) (p:Addr),vs=[.ref p]/\WPt H W p/\WDr W/\∀(r:Addr) (us:List V) (H':Hp),Same H H'->H' r=some (.lst us)->Paired (DV H' W.bs) ((allV W.bs).filter (firstS W)) us->Q (.ref r) H'
theorem qOc (F:Fd K mg "_law_first" (top 61) ["world"])(B:Bl mg)(jj:Dn P w K mg base "_law_holds" 25 ["thing","values"] (vV 12)):Dn P w K mg base "_law_first" 26 ["world"] qDk:=by
 refine F.ok zV (fun vs H Q E h=>?_) (fun f zy A outer s H vs Q E hr h=>?_)
 .obtain⟨_,_,rfl,_⟩:=h
  rfl
 obtain⟨W,p,rfl,wp,dr,q⟩:=h
 have hu:=qWh hr
 obtain⟨bx,dx,lx,bv,gv,ep,A0⟩:=id wp
 obtain⟨us,ebx,pb⟩:=A0.boxes
 have lb:us.length=W.bs.length:=pb.length.symm
 have h2:=dr.b2
 have h25:=dr.ok.b25
 refine⟨_,(qZ (xG (i:=1) zV.nd rfl (xO (qQ qSi qX)))
  (qZ (xT PassesOwn.never rfl (xQ (K:=K) (xF (qT (K:=K)) (pv 0) qF)) (zH (K:=K) (n:=2) rfl (qI (qH (i:=2) zV.nd rfl (by wtm_at "zo")) (qI (qH (i:=3) zV.nd rfl (by wtm_at "zo")) qM))) (qZ (xG (i:=4) zV.nd rfl (xO qX))
  (qZ (xT PassesOwn.never rfl (xQ (K:=K) (pv 1)) (qH (i:=5) zV.nd rfl (by wtm_at "zo")) (qJ (xT PassesOwn.never rfl (yM rfl B.range' (qQ (pv 3) qX)) (qH (i:=6) zV.nd rfl (by wtm_at "zo")) (qZ (xG (i:=7) zV.nd rfl (xZ yF rfl B.dict' vU (qQ (pv 5) qX)))
  (qZ (qYm hu (pv 7) (pv 2) (pv 6) rfl)
  (qJ (qR (yN (K:=K) PySem.F.plainAttrs_list PySem.F.slot_list_append PySem.F.type_list_append zR (pv 4) (qQ (pv 7) qX)))))))))
  (qJ (xG (i:=1) zV.nd rfl (pv 4))))))
  (qJ (qO (zJ rfl wE (xQ (K:=K) (pv 1)) (fun cl fp s H=>(qH (i:=0) wE.nd rfl (Or.inl rfl) (.inr rfl))) (fun cl fp s H=>(kQ (kG (qD jj hr (qQ (xF (qT (K:=K)) (pv 1) qF) (qQ (pv 0) qX)))))) (fun cl fp s H=>(pv 0))))))),?_⟩
 wtm_at"z"
 intro d0 hd0
 generalize eQ:upd H d0 _=H1
 obtain⟨Sd0,ed0⟩:=laid hd0 eQ
 wtm_at"z"
 refine⟨ll1,fun f0 hf0=>?_⟩
 generalize eQ:upd H1 f0 _=H2
 obtain⟨Sf0,ef0⟩:=laid hf0 eQ
 have S0:=Sd0.trans Sf0
 have ep2:=S0 _ _ ep
 wtm_at "zf"
 refine⟨bx,rfl,⟨us,SqL.of (S0 _ _ ebx)⟩,?_⟩
 refine xS (xs:=us) (fun i σ' H'=>∃(fa:Addr) (fu:List V) (z2 z3 z4 z5 z6 z7:Option V),σ'=[some (.ref p),some (.ref fa),z2,z3,z4,z5,z6,z7]/\Same H H'/\H' fa=some (.lst fu)/\Paired (DV H' (W.bs.take i)) (allV (W.bs.take i)) fu)
  ⟨f0,[.ref d0],none,none,none,none,none,none,rfl,S0,ef0,.cons ⟨d0,rfl,Sf0 _ _ ed0⟩ .nil⟩ (fun i σ' H' _ hP=>?_) (fun N rt bk i x σ' Ha ex hP hN=>?_) (fun σ' Ha hP=>?_)
 .obtain⟨_,_,_,_,_,_,_,_,rfl,S,_⟩:=hP
  exact SqL.of (S _ _ ebx)
 .obtain⟨fa,fu,z2,z3,z4,z5,z6,z7,rfl,Sa,efa,pf⟩:=hP
  have hi:i<W.bs.length:=by rw[<- lb];exact(yYB.mp ex).1
  obtain⟨b,eb⟩:∃b,W.bs[i]? = some b:=⟨_,yYA hi⟩
  obtain⟨ba,rfl,hba⟩:=xV pb eb ex
  have hb25:=h25 b (yYE eb)
  have rl:=wG h25 i (by omega)
  have p5:=pow56 (i:=i) (by omega)
  have hba:=Sa _ _ hba
  have lf:=pf.length
  wtm_at"z"
  refine⟨ll0,fun lg hlg=>?_⟩
  generalize eQ:upd Ha lg _=Hb
  obtain⟨Slg,elg⟩:=laid hlg eQ
  wtm_at "zf"
  refine⟨fa,rfl,⟨fu,SqL.of (Slg _ _ efa)⟩,?_⟩
  refine xS (xs:=fu) (fun j σ' H'=>∃(z5 z6 z7:Option V) (lu:List V),σ'=[some (.ref p),some (.ref fa),some (.str b.1),some (.int b.2),some (.ref lg),z5,z6,z7]/\Same Ha H'/\H' lg=some (.lst lu)/\Paired (DV H' (W.bs.take (i+1))) (rowsBy ((allV (W.bs.take i)).take j) b.2.toNat) lu)
   ⟨z5,z6,z7,[],rfl,Slg,elg,.nil⟩ (fun j σ' H' _ hP=>?_) (fun N2 rt2 bk2 j x σ' Hc ex2 hP hN2=>?_) (fun σ' Hc hP=>?_)
  .obtain⟨_,_,_,_,rfl,S,_⟩:=hP
   exact SqL.of (S _ _ efa)
  .obtain⟨z5,z6,z7,lu,rfl,Sc,elc,pl⟩:=hP
   have hj:j<(allV (W.bs.take i)).length:=by rw[lf];exact(yYB.mp ex2).1
   obtain⟨row,erow⟩:∃row,(allV (W.bs.take i))[j]? = some row:=⟨_,yYA hj⟩
   obtain⟨ra,rfl,hra⟩:=xV pf erow ex2
   have hrl:=qKn W.bs i (by omega) row (yYE erow)
   have lm:=kS (allV (W.bs.take i)) b.2.toNat j
   have l5:(allV (W.bs.take i)).length * b.2.toNat<=15625 * 5:=Nat.mul_le_mul (by omega) (by omega)
   wtm_at "zf"
   refine⟨_,rfl,by omega,by omega,?_⟩
   refine vA (fun k σ' H'=>∃(z6 z7:Option V) (lu:List V),σ'=[some (.ref p),some (.ref fa),some (.str b.1),some (.int b.2),some (.ref lg),some (.ref ra),z6,z7]/\Same Ha H'/\H' lg=some (.lst lu)/\Paired (DV H' (W.bs.take (i+1))) (rowsBy ((allV (W.bs.take i)).take j) b.2.toNat++(List.range k).map fun v=>row++[((v:Nat):Int)]) lu)
    ⟨z6,z7,lu,rfl,Sc,elc,by rw[List.range_zero,List.map_nil,List.append_nil];exact pl⟩ ?_ ?_
   .rintro N3 rt3 bk3 k σ' Hd hk ⟨z6,z7,lu,rfl,Sd,eld,pl⟩ hN3
    have ll:=pl.length
    rw[yYI,yYC,List.length_range] at ll
    wtm_at"z"
    refine⟨ra,_,rfl,Sd _ _ hra,fun m hm=>?_⟩
    generalize eQ:upd Hd m _=He
    obtain⟨Sm,em⟩:=laid hm eQ
    have kl:=qBl (W.bs.take i) row
    rw[yYF] at kl
    wtm_at"z"
    refine⟨m,_,rfl,DPut.k (k:=Sum.inr b.1) em (small (by omega)),?_⟩
    rw[qTk eb hrl,Int.zero_add]
    have Sf:Same Hd (upd He m (.dK (kvsOf (W.bs.take (i+1)) (row++[(k:Int)])))):=fun c o e=>by rw[qA (qB e hm)];exact Sm _ _ e
    have ef:upd He m (.dK (kvsOf (W.bs.take (i+1)) (row++[(k:Int)]))) m=some (.dK (kvsOf (W.bs.take (i+1)) (row++[(k:Int)]))):=qW
    generalize upd He m (.dK (kvsOf (W.bs.take (i+1)) (row++[(k:Int)])))=Hf at Sf ef
    have elf:=Sf _ _ eld
    wtm_at"z"
    refine qVx (SqL.of elf) ?_
    wtm_at"z"
    refine⟨lg,lu,.ref m,rfl,rfl,elf,small2 (by omega),?_⟩
    refine hN3 _ _ ⟨_,_,lu++[.ref m],rfl,fun c o e=>by rw[qA (qB e hlg)];exact(Sd.trans Sf) _ _ e,qW,?_⟩
    rw[List.range_succ,yYW,<- yYQ]
    exact Paired.snoc (Paired.mapP pl fun _ _ z=>(z.same Sf).put elf) (DV.put elf ⟨m,rfl,ef⟩)
   .rintro σ' Hd ⟨z6,z7,lu,rfl,Sd,eld,pl⟩
    refine hN2 _ _ ⟨_,_,_,lu,rfl,Sd,eld,?_⟩
    rw[qXe erow];exact pl
  .obtain⟨z5,z6,z7,lu,rfl,Sc,elc,pl⟩:=hP
   wtm_at"z"
   refine hN _ _ ⟨lg,lu,_,_,_,_,_,_,rfl,Sa.trans Sc,elc,?_⟩
   rw[yR eb]
   rw[<- lf,yYJ] at pl
   exact pl
 obtain⟨fa,fu,z2,z3,z4,z5,z6,z7,rfl,Sa,efa,pf⟩:=hP
 rw[lb,yYJ] at pf
 have few:=dr.few
 have epa:=Sa _ _ ep
 wtm_at "zf"
 refine⟨fa,rfl,⟨fu,SqL.of efa⟩,qWi (f:=firstS W) efa pf (by omega) (fun a r H' R hr' ha S' hR=>?_) fun D ys H' S' eD py=>?_⟩
 .have epb:=S' _ _ epa
  wtm_at"z"
  exact⟨W.bt,bv,a,_,_,_,rfl,(A0.same (Sa.trans S')).beg,⟨dr.ok.beg,dr.nb.1⟩,dr.ok.begd,dr.ok.begd,ha,dr.env (jP hr'),fun H'' S''=>⟨_,rfl,hR _ S''⟩⟩
 .exact q D ys H' (Sa.trans S') eD py
theorem zD:xH ["world","known","deed","found","values","way","new","name","thing"] ["world","known","deed"] (xB (top 62)):=by constructor <;> first | rfl | wtm_at"d"
def qVb:Sp:=fun vs H Q _=>∃(W:Wd) (p ka:Addr) (dv:V) (rows:List (List Int)) (ku:List V) (d:Deed),vs=[.ref p,.ref ka,dv]/\WPt H W p/\WDr W/\H ka=some (.lst ku)/\Paired (DV H W.bs) rows ku/\(∀r∈rows,r∈allV W.bs)/\d∈W.ds/\DeedIn H d dv/\
 ((∀r∈rows,d.need.truth (envOf (kvsOf W.bs r))=true)->∀(ra:Addr) (us:List V) (ms:List (List Int)) (H':Hp),Same H H'->H' ra=some (.lst us)->Paired (DV H' W.bs) ms us->ms.Nodup->(∀q,q∈ms↔q∈zY W.bs d.ways rows)->Q (.ref ra) H')/\
 ((∃r∈rows,d.need.truth (envOf (kvsOf W.bs r))=false)->∀H',Same H H'->Q .non H')
theorem xWf {H:Hp}{bs:List (Str×Int)}{ms:List (List Int)}{us:List V}(p:Paired (DV H bs) ms us):Paired (fun k u=>∃a,u=V.ref a/\H a=some (.dK k)) (ms.map (kvsOf bs)) us:=by
 induction p with
 | nil=>exact .nil
 | cons h _ ih=>exact .cons h ih
theorem qGa (F:Fd K mg "_law_behind" (top 62) ["world","known","deed"])(B:Bl mg)(jj:Dn P w K mg base "_law_holds" 25 ["thing","values"] (vV 12))(ji:Dn P w K mg base "_law_worth" 13 ["thing","values"] (vK 12)):Dn P w K mg base "_law_behind" 26 ["world","known","deed"] qVb:=by
 refine F.ok zD (fun vs H Q E h=>?_) (fun f zy A outer s H vs Q E hr h=>?_)
 .obtain⟨_,_,_,_,_,_,_,rfl,_⟩:=h
  rfl
 obtain⟨W,p,ka,dv,rows,ku,d,rfl,wp,dr,eka,pk,kin,hd,din,q1,q2⟩:=h
 have hu:=qWh hr
 obtain⟨bx,dx,lx,bv,gv,ep,A0⟩:=id wp
 obtain⟨us,ebx,pb⟩:=A0.boxes
 obtain⟨da,nv,wa,wu,rfl,eda,nat,ewa,pw⟩:=din
 have dok:=dr.ok.deeds d hd
 have nd:=dr.ok.named.nd
 have h2:=dr.b2
 have h25:=dr.ok.b25
 have lk:=pk.length
 have lw:=pw.length
 have few:=dr.few
 refine⟨_,(qZ (xG (i:=3) zD.nd rfl (xO qX))
  (qZ (xT PassesOwn.never rfl (xQ (K:=K) (pv 1)) (qH (i:=4) zD.nd rfl (by wtm_at "zo")) (qZ (zG (qJv (kG (qD jj hr (qQ (xF (qT (K:=K)) (pv 2) qF) (qQ (pv 4) qX))))) (qJ (qO qJw)) qY)
  (qJ (xT PassesOwn.never rfl (xQ (K:=K) (xF (qT (K:=K)) (pv 2) qF)) (qH (i:=5) zD.nd rfl (by wtm_at "zo")) (qZ (xG (i:=6) zD.nd rfl (xZ yF rfl B.dict' vU (qQ (pv 4) qX)))
  (qZ (xT PassesOwn.never rfl (xQ (K:=K) (pv 5)) (zH (K:=K) (n:=2) rfl (qI (qH (i:=7) zD.nd rfl (by wtm_at "zo")) (qI (qH (i:=8) zD.nd rfl (by wtm_at "zo")) qM))) (qJ (qYm hu (pv 6) (pv 7) (xX qJa (qD ji hr (qQ (pv 8) (qQ (pv 4) qX))) (wU hu (xZ (qQc rfl) rfl B.dict' vU (qQ (xF (qT (K:=K)) (pv 0) qF) qX)) (pv 7) (fun _ _=>rfl))) rfl)))
  (qJ (zG (qS (qFb (K:=K) hr.units) (pv 6) (pv 3) (by with_unfolding_all rfl)) (qJ (qR (yN (K:=K) PySem.F.plainAttrs_list PySem.F.slot_list_append PySem.F.type_list_append zR (pv 3) (qQ (pv 6) qX)))) qY))))))))
  (qJ (qO (pv 3))))),?_⟩
 wtm_at"z"
 refine⟨ll0,fun fa hfa=>?_⟩
 generalize eQ:upd H fa _=H1
 obtain⟨Sfa,efa⟩:=laid hfa eQ
 wtm_at "zf"
 refine⟨ka,rfl,⟨ku,SqL.of (Sfa _ _ eka)⟩,?_⟩
 refine jK (xs:=ku) (fun i σ' H'=>∃(z4 z5 z6 z7 z8:Option V) (fu:List V) (ms:List (List Int)),σ'=[some (.ref p),some (.ref ka),some (.ref da),some (.ref fa),z4,z5,z6,z7,z8]/\Same H H'/\H' fa=some (.lst fu)/\Paired (DV H' W.bs) ms fu/\ms.Nodup/\(∀q,q∈ms↔q∈zY W.bs d.ways (rows.take i))/\∀r∈rows.take i,d.need.truth (envOf (kvsOf W.bs r))=true)
  ⟨none,none,none,none,none,[],[],rfl,Sfa,efa,.nil,List.Pairwise.nil,(fun q=>⟨fun z=>(nomatch z),fun z=>(nomatch z)⟩),fun r z=>(nomatch z)⟩ (fun i σ' H' _ hP=>?_) (fun i x σ' Ha ex hP=>?_) (fun σ' Ha hP=>?_)
 .obtain⟨_,_,_,_,_,_,_,rfl,S,_⟩:=hP
  exact SqL.of (S _ _ eka)
 .obtain⟨z4,z5,z6,z7,z8,fu,ms,rfl,Sa,efa,pf,ndm,mem,allt⟩:=hP
  have hi:i<rows.length:=by rw[lk];exact(yYB.mp ex).1
  obtain⟨r,er⟩:∃r,rows[i]? = some r:=⟨_,yYA hi⟩
  obtain⟨va,rfl,eva⟩:=xV pk er ex
  have mr:=yYE er
  have fr:=jP (kin r mr)
  have env:=dr.env fr
  have edaa:=Sa _ _ eda
  wtm_at"z"
  refine⟨d.need,nv,va,_,_,_,rfl,nat.mono (qC Sa),⟨dok.need,dr.nb.2.2 d hd⟩,dok.dep,dok.dep,Sa _ _ eva,env,fun Hb Sb=>?_⟩
  wtm_at"z"
  cases ct:d.need.truth (envOf (kvsOf W.bs r)) with
  | false=>
   refine iteT ?_
   wtm_at"z"
   exact q2 ⟨r,mr,ct⟩ _ (Sa.trans Sb)
  | true=>
  refine iteF ?_
  have Sab:=Sa.trans Sb
  have edab:=Sab _ _ eda
  wtm_at "zf"
  refine⟨wa,rfl,⟨wu,SqL.of (Sab _ _ ewa)⟩,?_⟩
  refine xS (xs:=wu) (fun j σ' H'=>∃(z5 z6 z7 z8:Option V) (fu:List V) (ms:List (List Int)),σ'=[some (.ref p),some (.ref ka),some (.ref da),some (.ref fa),some (.ref va),z5,z6,z7,z8]/\Same H H'/\H' fa=some (.lst fu)/\Paired (DV H' W.bs) ms fu/\ms.Nodup/\(∀q,q∈ms↔q∈zY W.bs d.ways (rows.take i)\/q∈(d.ways.take j).map fun wy=>xU W.bs wy r))
   ⟨z5,z6,z7,z8,fu,ms,rfl,Sab,Sb _ _ efa,Paired.mapP pf fun _ _ z=>z.same Sb,ndm,fun q=>⟨fun z=>.inl ((mem q).mp z),fun z=>(mem q).mpr (z.resolve_right fun y=>(nomatch y))⟩⟩ (fun j σ' H' _ hP=>?_) (fun N2 rt2 bk2 j x σ' Hc exw hP hN2=>?_) (fun σ' Hc hP=>?_)
  .obtain⟨_,_,_,_,_,_,rfl,S,_⟩:=hP
   exact SqL.of (S _ _ ewa)
  .obtain⟨z5,z6,z7,z8,fu,ms,rfl,Sc,efc,pf,ndm,mem⟩:=hP
   have hj:j<d.ways.length:=by rw[lw];exact(yYB.mp exw).1
   obtain⟨wy,ewy⟩:∃r,d.ways[j]? = some r:=⟨_,yYA hj⟩
   obtain⟨wya,cs,rfl,ewya,pc⟩:=xV pw ewy exw
   have mwy:=yYE ewy
   have wok:=dok.ways wy mwy
   have lc:=pc.length
   have wle:=wok.le
   have kl:=qBl W.bs r
   have msin:∀q∈ms,q∈allV W.bs:=fun q hq=>by
    rcases(mem q).mp hq with h | h
    .exact qQm (kW (fun r' hr'=>jP (kin r' (List.mem_of_mem_take hr'))) (fun b hb=>(h25 b hb).1) q h)
    .obtain⟨wy',_,rfl⟩:=yYP.mp h
     exact qQm (qZg fr fun b hb=>(h25 b hb).1)
   have lms:=wK ndm msin
   have lf:=pf.length
   wtm_at"z"
   refine⟨va,_,rfl,Sc _ _ eva,fun m hm=>?_⟩
   generalize eQ:upd Hc m _=Hd
   obtain⟨Sm,em⟩:=laid hm eQ
   have Sd:=Sc.trans Sm
   wtm_at "zf"
   refine⟨wya,rfl,⟨cs,SqL.of (Sd _ _ ewya)⟩,?_⟩
   have nm:∀{b:Addr} {o:HO},H b=some o->b≠m:=fun e=>qB (Sc _ _ e) hm
   refine xS (xs:=cs) (fun c σ' H'=>∃z7 z8:Option V,σ'=[some (.ref p),some (.ref ka),some (.ref da),some (.ref fa),some (.ref va),some (.ref wya),some (.ref m),z7,z8]/\Saves m Hd H'/\H' m=some (.dK (putsK W.bs (envOf (kvsOf W.bs r)) (kvsOf W.bs r) (wy.take c))))
    ⟨z7,z8,rfl,(fun b o _ e=>e),em⟩ (fun c σ' H' _ hP=>?_) (fun N3 rt3 bk3 c x σ' He exc hP hN3=>?_) (fun σ' He hP=>?_)
   .obtain⟨_,_,rfl,S,_⟩:=hP
    exact SqL.of (S _ _ (nm ewya) (Sd _ _ ewya))
   .obtain⟨z7,z8,rfl,sv,eme⟩:=hP
    have hc:c<wy.length:=by rw[lc];exact(yYB.mp exc).1
    obtain⟨ch,ech⟩:∃b,wy[c]? = some b:=⟨_,yYA hc⟩
    obtain⟨ca,cv,rfl,eca,cat⟩:=xV pc ech exc
    obtain⟨o1,o2,o3⟩:=wok.ok ch (yYE ech)
    have Se:∀b o,H b=some o->He b=some o:=fun b o e=>sv _ _ (nm e) (Sd _ _ e)
    have ecae:=Se _ _ eca
    have epe:=Se _ _ ep
    obtain⟨b,hbm,eb1⟩:=yYP.mp o1
    obtain⟨k,ek⟩:=List.mem_iff_getElem?.mp hbm
    have hb25:=h25 b hbm
    have zs:=qYg nd ek
    wtm_at"z"
    refine⟨ch.2,cv,va,_,_,_,rfl,cat.mono (qC Se),o2,o3,Se _ _ eva,env,fun Hf Sf=>?_⟩
    have epf:=Sf _ _ epe
    wtm_at"z"
    have Sef:Same H Hf:=(show Same H He from Se).trans Sf
    refine⟨bx,us,_,rfl,Sef _ _ ebx,qAv (xK (qC Sef) pb),by rw[yYC];omega,fun sz hsz=>?_⟩
    generalize eQ:upd Hf sz _=Hg
    obtain⟨Ssz,esz⟩:=laid hsz eQ
    wtm_at"z"
    refine⟨sz,.int (sizeOf' W.bs ch.1),rfl,?_,?_⟩
    .have hv:valV (mergeK [] (pairK (W.bs.map fun b=>(b.1,V.int b.2)))) (Sum.inr ch.1)=some (.int (sizeOf' W.bs ch.1)):=by
      have e2:(W.bs.map fun b=>(b.1,V.int b.2)).map (·.1)=W.bs.map (·.1):=by rw[List.map_map];rfl
      rw[wW _ _ (by rw[e2];exact nd),<- eb1,qZz (v:=.int b.2) (i:=k) (by rw[e2];exact nd) (by rw[yYO,ek];rfl),zs]
     rw[<- hv]
     exact DGet.k (k:=Sum.inr ch.1) esz
    refine w_I (show 0<sizeOf' W.bs ch.1 by rw[<- eb1,zs];omega) ?_
    wtm_at"z"
    have pl:=qYi (bs:=W.bs) (ρ:=envOf (kvsOf W.bs r)) (wy.take c) (kvsOf W.bs r)
    rw[yYF] at pl
    have emg:=(Sf.trans Ssz) _ _ eme
    refine⟨m,_,rfl,DPut.k (k:=Sum.inr ch.1) emg (small (by omega)),?_⟩
    refine hN3 _ _ ⟨_,_,rfl,fun b o n e=>by rw[qA n];exact(Sf.trans Ssz) _ _ (sv _ _ n e),?_⟩
    rw[qW,qVl ech]
   obtain⟨z7,z8,rfl,sv,eme⟩:=hP
   rw[<- lc,yYJ,qSv nd fr.1 wok] at eme
   have bl:=vB (wy:=wy) fr.1
   have Sce:Same Hc He:=fun b o e=>sv _ _ (qB e hm) (Sm _ _ e)
   have efe:=Sce _ _ efc
   have pfe:Paired (DV He W.bs) ms fu:=Paired.mapP pf fun _ _ z=>z.same Sce
   have eany:((ms.map (kvsOf W.bs)).any fun k=>DL.eqD k (kvsOf W.bs (xU W.bs wy r)))=decide (xU W.bs wy r∈ms):=by
    rw[List.any_map,Bool.eq_iff_iff,decide_eq_true_iff,List.any_eq_true]
    constructor
    .rintro⟨q,hq,e⟩
     have e:DL.eqD (kvsOf W.bs q) (kvsOf W.bs (xU W.bs wy r))=true:=e
     rw[qNw nd (jP (msin q hq)).1 bl] at e
     rw[<- of_decide_eq_true e];exact hq
    .intro h
     refine⟨_,h,?_⟩
     show DL.eqD (kvsOf W.bs _) (kvsOf W.bs (xU W.bs wy r))=true
     rw[qNw nd bl bl];exact decide_eq_true rfl
   have step:∀q,(q∈(d.ways.take (j+1)).map fun wy=>xU W.bs wy r)↔(q∈(d.ways.take j).map fun wy=>xU W.bs wy r)\/q=xU W.bs wy r:=fun q=>by
    rw[yYM,ewy,yYW,yYS]
    exact⟨fun h=>h.imp id fun z=>yYL.mp z,fun h=>h.imp id fun z=>yYL.mpr z⟩
   wtm_at"z"
   refine⟨m,fa,_,_,fu,rfl,rfl,eme,SqL.of efe,xWf pfe,qEa nd bl,fun k hk=>?_,by rw[qNw nd bl bl];exact decide_eq_true rfl,?_⟩
   .obtain⟨q,hq,rfl⟩:=yYP.mp hk
    exact qEa nd (jP (msin q hq)).1
   rw[eany]
   wtm_at"z"
   by_cases hin:xU W.bs wy r∈ms
   .rw[decide_eq_true hin]
    refine iteF ?_
    wtm_at"z"
    refine hN2 _ _ ⟨_,_,_,_,fu,ms,rfl,Sc.trans Sce,efe,pfe,ndm,fun q=>?_⟩
    rw[step,<- or_assoc,<- mem q]
    exact⟨.inl,fun z=>z.elim id fun y=>by rw[y];exact hin⟩
   .rw[decide_eq_false hin]
    refine iteT ?_
    wtm_at"z"
    refine qVx (SqL.of efe) ?_
    wtm_at"z"
    refine⟨fa,fu,.ref m,rfl,rfl,efe,small (by omega),?_⟩
    refine hN2 _ _ ⟨_,_,_,_,fu++[.ref m],ms++[xU W.bs wy r],rfl,fun b o e=>by rw[qA (qB e hfa)];exact(Sc.trans Sce) _ _ e,qW,Paired.snoc (Paired.mapP pfe fun _ _ z=>z.put efe) (DV.put efe ⟨m,rfl,eme⟩),?_,fun q=>?_⟩
    .exact yYV.mpr ⟨ndm,List.pairwise_singleton _ _,fun a ha b hb e=>hin (by rw[<- yYL.mp hb,<- e];exact ha)⟩
    .rw[step,<- or_assoc,<- mem q,yYS]
     exact⟨fun h=>h.imp id fun z=>yYL.mp z,fun h=>h.imp id fun z=>yYL.mpr z⟩
  .obtain⟨z5,z6,z7,z8,fu,ms,rfl,Sc,efc,pf,ndm,mem⟩:=hP
   refine⟨_,_,_,_,_,fu,ms,rfl,Sc,efc,pf,ndm,fun q=>?_,fun r' hr'=>?_⟩
   .rw[qZe er,yYS,mem q,<- lw,yYJ]
   .rw[yYM,er] at hr'
    rcases yYS.mp hr' with h | h
    .exact allt r' h
    .rw[yYL.mp h];exact ct
 obtain⟨z4,z5,z6,z7,z8,fu,ms,rfl,Sa,efa,pf,ndm,mem,allt⟩:=hP
 rw[<- lk,yYJ] at mem allt
 wtm_at"z"
 exact q1 allt fa fu ms Ha Sa efa pf ndm mem
theorem qOn {H:Hp}{σ:St}{Q:VK}{js:List Nat}{tt:TT}{dx:Addr}{du:List V}{ds:List Deed}{f:Deed->Bool}(edx:H dx=some (.lst du))(pd:Paired (DeedIn H) ds du)(hl:ds.length<=1000)
  (htt:∀(u:V) (d:Deed) (H':Hp) (R:Bool->Hp->Prop),d∈ds->DeedIn H' d u->Same H H'->R (f d) H'->tt ([some u]++frees js σ) H' R)
  (q:∀(D:Addr) (ys:List V) (H':Hp),Same H H'->H' D=some (.lst ys)->Paired (DeedIn H') (ds.filter f) ys->Q (.ref D) H'):
  rdC 1 js (gName 0) tt (tVar 0) (Itl K dx) σ H Q:=by
 have lp:=pd.length
 refine zZ (xs:=du) (fun D i ys H'=>Same H H'/\Paired (DeedIn H) ((ds.take i).filter f) ys) (fun D hD=>⟨qV hD _,.nil⟩) (fun D i ys H' _ hP=>SqL.of (hP.1 _ _ edx)) (fun D i x ys H' N hD hDy ex hP hN=>?_) (fun D ys H2 hD hDy hP=>?_)
 .obtain⟨hk,py⟩:=hP
  have hi:i<ds.length:=by rw[lp];exact(yYB.mp ex).1
  obtain⟨d,er⟩:∃r,ds[i]? = some r:=⟨_,yYA hi⟩
  have din:=xV pd er ex
  have ly:=py.length
  refine⟨⟨[some x],rfl,rfl⟩,?_⟩
  refine htt x d H' _ (yYE er) (din.same hk) hk ?_
  have fs:=jQ (p:=f) er
  cases hS:f d with
  | false=>
   refine iteF (hN _ _ hDy ⟨hk,?_⟩)
   rw[fs,hS,if_neg yZL,List.append_nil];exact py
  | true=>
   refine iteT ⟨_,rfl,hDy,small (by have:=List.length_filter_le f (ds.take i);rw[yYF] at this;omega),hN _ _ qW ⟨fun b o e=>?_,?_⟩⟩
   .rw[qA (qB e hD)];exact hk _ _ e
   .rw[fs,hS,if_pos rfl]
    exact Paired.snoc py din
 .obtain⟨hk,py⟩:=hP
  rw[<- lp,yYJ] at py
  exact q D ys H2 hk hDy (Paired.mapP py fun _ _ z=>z.same hk)
theorem qXl:∀{ds:List Deed} {d:Deed},(ds.map Deed.name).Nodup->d∈ds->ds.filter (fun e=>decide (e.name=d.name))=[d]
 | [],_,_,h=>(nomatch h)
 | e::ds,d,nd,h=>by
  have nd':=List.nodup_cons.mp nd
  rw[List.filter_cons]
  rcases yYK.mp h with rfl | h
  .rw[if_pos (decide_eq_true rfl),List.filter_eq_nil_iff.mpr]
   intro x hx z
   exact nd'.1 (yYP.mpr ⟨x,hx,of_decide_eq_true z⟩)
  .rw[if_neg,qXl nd'.2 h]
   intro z
   exact nd'.1 (yYP.mpr ⟨d,h,(of_decide_eq_true z).symm⟩)
structure Kn (W:Wd)(ms:List (List Int))(S:List Int->Bool):Prop where
 sub:∀r∈ms,r∈allV W.bs
 mem:∀r∈allV W.bs,r∈ms↔S r=true
theorem Kn.all {W:Wd}{ms:List (List Int)}{S:List Int->Bool}(k:Kn W ms S)(f:List Int->Bool):((allV W.bs).all fun r=>!S r || f r)=ms.all f:=by
 rw[Bool.eq_iff_iff,List.all_eq_true,List.all_eq_true]
 constructor
 .intro h r hr
  have:=h r (k.sub r hr)
  rw[(k.mem r (k.sub r hr)).mp hr] at this
  exact this
 .intro h r hr
  cases c:S r with
  | false=>rfl
  | true=>exact h r ((k.mem r hr).mpr c)
theorem Kn.next {W:Wd}{ms ms':List (List Int)}{S:List Int->Bool}(k:Kn W ms S)(h25:∀b∈W.bs,2<=b.2){d:Deed}(h:∀q,q∈ms'↔q∈zY W.bs d.ways ms):Kn W ms' (afterS W d S):=by
 refine⟨fun q hq=>qQm (kW (fun r hr=>jP (k.sub r hr)) h25 q ((h q).mp hq)),fun q _=>?_⟩
 rw[h q]
 unfold afterS zY
 rw[List.any_eq_true,List.mem_flatMap]
 constructor
 .rintro⟨r,hr,hq⟩
  refine⟨r,k.sub r hr,?_⟩
  rw[(k.mem r (k.sub r hr)).mp hr,Bool.true_and]
  exact decide_eq_true (by rw[List.flatMap_cons,List.flatMap_nil,List.append_nil];exact hq)
 .rintro⟨r,hr,hq⟩
  rw[Bool.and_eq_true] at hq
  refine⟨r,(k.mem r hr).mpr hq.1,?_⟩
  have:=of_decide_eq_true hq.2
  rw[List.flatMap_cons,List.flatMap_nil,List.append_nil] at this
  exact this
theorem qRn {W:Wd}{S:List Int->Bool}{d:Deed}{xs:List Str}(nd:(W.ds.map Deed.name).Nodup)(hd:d∈W.ds):runRow W (d.name::xs) S=if mayS W S d then runRow W xs (afterS W d S) else false:=by
 show(match (W.ds.filter (mayS W S)).find? (fun e=>decide (e.name=d.name)) with | some d=>runRow W xs (afterS W d S) | none=>false)=_
 have e:(W.ds.filter (mayS W S)).find? (fun e=>decide (e.name=d.name))=if mayS W S d then some d else none:=by
  have h1:=qXl nd hd
  have h2:(W.ds.filter (mayS W S)).filter (fun e=>decide (e.name=d.name))=[d].filter (mayS W S):=by
   rw[<- h1,List.filter_filter,List.filter_filter]
   exact List.filter_congr fun x _=>Bool.and_comm _ _
  rw[<- List.head?_filter,h2,List.filter_cons]
  split <;> rfl
 rw[e]
 cases mayS W S d <;> rfl
theorem yC:xH ["world","row","known","name"] ["world","row"] (xB (top 63)):=by constructor <;> first | rfl | wtm_at"d"
theorem wD:CompOk (xB (top 63)) ["world","row","known","name"] (scAt (xC (top 63)) [1,0] [3,0]) ["deed","name"] 1 [3]:=
 by constructor <;> wtm_at"d"
theorem wC:CompOk (xB (top 63)) ["world","row","known","name"] (scAt (xC (top 63)) [2] [0]) ["values","world"] 1 [0]:=
 by constructor <;> wtm_at"d"
def qDj:Sp:=fun vs H Q _=>∃(W:Wd) (p ra:Addr) (row:List Str),vs=[.ref p,.ref ra]/\WPt H W p/\WDr W/\H ra=some (.lst (strsV row))/\(∀x∈row,x∈W.ds.map Deed.name)/\∀H',Same H H'->Q (.bl (runRow W row (firstS W))) H'
theorem qOb (F:Fd K mg "_law_works" (top 63) ["world","row"])(B:Bl mg)(JK:Dn P w K mg base "_law_first" 26 ["world"] qDk)(uk:Dn P w K mg base "_law_behind" 26 ["world","known","deed"] qVb)(jj:Dn P w K mg base "_law_holds" 25 ["thing","values"] (vV 12)):Dn P w K mg base "_law_works" 27 ["world","row"] qDj:=by
 refine F.ok yC (fun vs H Q E h=>?_) (fun f zy A outer s H vs Q E hr h=>?_)
 .obtain⟨_,_,_,_,rfl,_⟩:=h
  rfl
 obtain⟨W,p,ra,row,rfl,wp,dr,era,hin,q⟩:=h
 obtain⟨bx,dx,lx,bv,gv,ep,A0⟩:=id wp
 obtain⟨du,edx,pd⟩:=A0.deeds
 have ls:(strsV row).length=row.length:=xA row
 have nd:=(yYV.mp dr.ok.nd).1
 have d5:=dr.d5
 have few:=dr.few
 refine⟨_,(qZ (xG (i:=2) yC.nd rfl (qD JK hr (qQ (pv 0) qX)))
  (qZ (xT PassesOwn.never rfl (xQ (K:=K) (pv 1)) (qH (i:=3) yC.nd rfl (by wtm_at "zo")) (qZ (xG (i:=2) yC.nd rfl (qD uk hr (qQ (pv 0) (qQ (pv 2) (qQ (xF (qU (K:=K)) (zJ rfl wD (xQ (K:=K) (xF (qT (K:=K)) (pv 0) qF)) (fun cl fp s H=>(qH (i:=0) wD.nd rfl (Or.inl rfl) (.inr rfl))) (fun cl fp s H=>(kQ (qS jM (xF (qT (K:=K)) (pv 0) qF) (pv 1) (xE _)))) (fun cl fp s H=>(pv 0))) qF) qX)))))
  (qJ (zG (qS qMh (pv 2) qJw (xE _)) (qJ (qO qQh)) qY))))
  (qJ (qO (kX (xZm (K:=K) hr.units) (zJ rfl wC (xQ (K:=K) (pv 2)) (fun cl fp s H=>(qH (i:=0) wC.nd rfl (Or.inl rfl) (.inr rfl))) (fun cl fp s H=>(kQ (qJv (kG (qD jj hr (qQ (xF (qT (K:=K)) (pv 1) qF) (qQ (pv 0) qX))))))) (fun cl fp s H=>(pv 0))) (xO qX) (xE _)))))),?_⟩
 wtm_at"z"
 refine⟨W,p,rfl,wp,dr,fun k0 u0 H1 S1 ek0 pk0=>?_⟩
 wtm_at "zf"
 refine⟨ra,rfl,⟨_,SqL.of (S1 _ _ era)⟩,?_⟩
 refine jK (xs:=strsV row) (fun i σ' H'=>∃(z3:Option V) (ka:Addr) (ku:List V) (ms:List (List Int)) (S:List Int->Bool),σ'=[some (.ref p),some (.ref ra),some (.ref ka),z3]/\Same H H'/\H' ka=some (.lst ku)/\Paired (DV H' W.bs) ms ku/\ms.Nodup/\Kn W ms S/\runRow W (row.drop i) S=runRow W row (firstS W))
  ⟨none,k0,u0,_,firstS W,rfl,S1,ek0,pk0,dr.nd.filter _,⟨fun r hr=>(yYR.mp hr).1,fun r hr=>⟨fun z=>(yYR.mp z).2,fun z=>yYR.mpr ⟨hr,z⟩⟩⟩,rfl⟩ (fun i σ' H' _ hP=>?_) (fun i x σ' Ha ex hP=>?_) (fun σ' Ha hP=>?_)
 .obtain⟨_,_,_,_,_,rfl,S,_⟩:=hP
  exact SqL.of (S _ _ era)
 .obtain⟨z3,ka,ku,ms,S,rfl,Sa,eka,pk,ndm,kn,hrun⟩:=hP
  rw[yYO] at ex
  obtain⟨y,er,rfl⟩:=Option.map_eq_some_iff.mp ex
  have dr':row.drop i=y::row.drop (i+1):=by
   rw[List.drop_eq_getElem_cons (yYB.mp er).1,(yYB.mp er).2]
  rw[dr'] at hrun
  obtain⟨d,hd,rfl⟩:=yYP.mp (hin y (yYE er))
  rw[qRn nd hd] at hrun
  have epa:=Sa _ _ ep
  have Aa:=A0.same Sa
  wtm_at "zf"
  refine⟨dx,rfl,⟨du,SqL.of (Sa _ _ edx)⟩,qOn (f:=fun e=>decide (e.name=d.name)) (Sa _ _ edx) (Paired.mapP pd fun _ _ z=>z.same Sa) (by omega) (fun u e H' R he din S' hR=>?_) fun D ys Hb Sb eD py=>?_⟩
  .obtain⟨a,nv,wa,us,rfl,ea,_⟩:=din
   wtm_at"z"
   have ee:decide (V.str e.name=V.str d.name)=decide (e.name=d.name):=decide_eq_decide.mpr ⟨fun z=>V.str.inj z,fun z=>by rw[z]⟩
   rw[ee]
   exact hR
  rw[qXl nd hd] at py
  cases py with
  | @cons _ u _ ys' h t=>
  cases t
  wtm_at"z"
  refine⟨W,p,ka,u,ms,ku,d,rfl,wp.same (Sa.trans Sb),dr,Sb _ _ eka,Paired.mapP pk fun _ _ z=>z.same Sb,kn.sub,hd,h,fun ha rr us' ms' Hc Sc err pr ndm' mem'=>?_,fun hf Hc Sc=>?_⟩
  .have hm:mayS W S d=true:=by
    unfold mayS
    rw[kn.all fun r=>d.need.truth (envOf (kvsOf W.bs r))]
    exact List.all_eq_true.mpr ha
   rw[hm,if_pos rfl] at hrun
   wtm_at"z"
   refine⟨rfl,?_⟩
   wtm_at"z"
   exact⟨_,rr,us',ms',afterS W d S,rfl,(Sa.trans Sb).trans Sc,err,pr,ndm',kn.next (fun b hb=>(dr.ok.b25 b hb).1) mem',hrun⟩
  .have hm:mayS W S d=false:=by
    unfold mayS
    rw[kn.all fun r=>d.need.truth (envOf (kvsOf W.bs r))]
    obtain⟨r,hr,e⟩:=hf
    exact List.all_eq_false.mpr ⟨r,hr,by rw[e];exact yZL⟩
   rw[hm,if_neg yZL] at hrun
   wtm_at"z"
   refine⟨rfl,?_⟩
   wtm_at"z"
   have:=q Hc ((Sa.trans Sb).trans Sc)
   rw[<- hrun] at this
   exact this
 .obtain⟨z3,ka,ku,ms,S,rfl,Sa,eka,pk,ndm,kn,hrun⟩:=hP
  rw[ls,List.drop_length] at hrun
  have lms:=wK ndm kn.sub
  have epa:=Sa _ _ ep
  wtm_at "zf"
  refine⟨ka,rfl,⟨ku,SqL.of eka⟩,qWi (f:=fun r=>!W.gt.truth (envOf (kvsOf W.bs r))) eka pk (by omega) (fun a r H' R hr' ha S' hR=>?_) fun D ys Hb Sb eD py=>?_⟩
  .have epb:=S' _ _ epa
   wtm_at"z"
   refine⟨W.gt,gv,a,_,_,_,rfl,(A0.same (Sa.trans S')).goal,⟨dr.ok.goal,dr.nb.2.1⟩,dr.ok.goald,dr.ok.goald,ha,dr.env (jP (kn.sub r hr')),fun H'' S''=>?_⟩
   wtm_at"z"
   exact hR _ S''
  wtm_at"z"
  refine⟨ll0,fun el hel=>?_⟩
  generalize eQ:upd Hb el _=Hc
  obtain⟨Sel,eel⟩:=laid hel eQ
  refine⟨D,el,ys,rfl,rfl,SqL.of (Sel _ _ eD),SqL.of eel,?_⟩
  have e:ys.isEmpty=runRow W [] S:=by
   show _=(allV W.bs).all fun r=>!S r || W.gt.truth (envOf (kvsOf W.bs r))
   rw[kn.all fun r=>W.gt.truth (envOf (kvsOf W.bs r)),Bool.eq_iff_iff,List.isEmpty_iff,List.all_eq_true]
   have lp:=py.length
   constructor
   .rintro rfl r hr
    have:=List.filter_eq_nil_iff.mp (List.length_eq_zero_iff.mp lp) r hr
    cases c:W.gt.truth (envOf (kvsOf W.bs r)) with
    | true=>rfl
    | false=>exact absurd (by rw[c];rfl) this
   .intro h
    have:ms.filter (fun r=>!W.gt.truth (envOf (kvsOf W.bs r)))=[]:=List.filter_eq_nil_iff.mpr fun r hr=>by rw[h r hr];exact yZL
    rw[this] at lp
    exact List.length_eq_zero_iff.mp lp.symm
  rw[e,hrun]
  exact q Hc ((Sa.trans Sb).trans Sel)
theorem jD:xH ["world","row","found","kinds","e"] ["world","row"] (xB (top 64)):=by constructor <;> first | rfl | wtm_at"d"
structure Refs45 (K:yZP)(mg:Str->Option Value)(CF CT:Addr)(oth:List Addr):Prop where
 F:Ref K mg "ForkError" CF bmV
 T:Ref K mg "NoName" CT (.ref CF::bmV)
 self:PySem.W.kitOne K (.ref CT) (.ref CT)=some true
 value:PySem.W.kitOne K (.ref CT) (.type "ValueError")=some true
 no:PySem.W.kitAny K (.ref CT) (oth.map Value.ref)=some false
def spTold:Sp:=fun vs H Q _=>∃(W:Wd) (p ra:Addr) (row:List Str),vs=[.ref p,.ref ra]/\WPt H W p/\WDr W/\H ra=some (.lst (strsV row))/\(∀x∈row,Short x)/\
 ((∀x∈row,x∈W.ds.map Deed.name)->∀(D ka:Addr) (H':Hp),Same H H'->H' D=some (.lst [.bl (runRow W row (firstS W)),.ref ka])->H' ka=some (.lst [])->Q (.ref D) H')/\
 ((∃x∈row,x∉W.ds.map Deed.name)->∀(D ka:Addr) (H':Hp),Same H H'->H' D=some (.lst [.non,.ref ka])->H' ka=some (.lst [.bl true,.bl true,.bl false])->Q (.ref D) H')
theorem xJm {CF CT C1 C2 C3 C4 C5 C6:Addr}(YK:K.In base)(F:Fd K mg "_law_told" (top 64) ["world","row"])(B:Bl mg)(ke:mg "ValueError" = none)(R:Refs45 K mg CF CT [C1,C2,C3,C4,C5,C6])
  {b1 b2 b3 b4 b5 b6:List Value} (yL:Ref K mg "NoOrder" C1 b1) (yq:Ref K mg "NoPlan" C2 b2) (yr:Ref K mg "NoText" C3 b3) (yb:Ref K mg "NotSure" C4 b4) (yd:Ref K mg "NoWorld" C5 b5) (ye:Ref K mg "TooMany" C6 b6)
  (JL:Dx P w K mg base "row_works" 32 ["world","row"] (spRow K CT)):Dn P w K mg base "_law_told" 33 ["world","row"] spTold:=by
 refine F.ok jD (fun vs H Q E h=>?_) (fun f zy A outer s H vs Q E hr h=>?_)
 .obtain⟨_,_,_,_,rfl,_⟩:=h
  rfl
 obtain⟨W,p,ra,row,rfl,wp,dr,era,sh,q1,q2⟩:=h
 have jd:=R.F
 have vm:=R.T
 refine⟨_,(qZ (xG (i:=2) jD.nd rfl qJw)
  (qZ (xG (i:=3) jD.nd rfl (xO qX))
  (qZ (xZv (i:=4) rfl rfl rfl jD.nd rfl rfl rfl jd.bd (jd.asks.at' _ YK) (xZz (xKi (i:=2) jD.nd rfl (by wtm_at "zo") (qIl JL hr (qQ (pv 0) (qQ (pv 1) qX))))) (fun x=>(qZ (xG (i:=3) jD.nd rfl (xO (qQ (xJ (qHx (K:=K)) rfl B.isinstance' zO (qQ (pv 4) (qQ (qXg vm) qX))) (qQ (xJ (qHq (K:=K)) rfl B.isinstance' zO (qQ (pv 4) (qQ (qSf rfl ke qKh) qX))) qX))))
  (qJ (qR (yN (K:=K) PySem.F.plainAttrs_list PySem.F.slot_list_append PySem.F.type_list_append zR (pv 3) (qQ (xJ (qGo (K:=K)) rfl B.isinstance' zO (qQ (pv 4) (qQ (xP (qQ (qXg yL) (qQ (qXg yq) (qQ (qXg yr) (qQ (qXg yb) (qQ (qXg yd) (qQ (qXg ye) qX))))))) qX))) qX)))))))
  (qJ (qO (xO (qQ (pv 2) (qQ (pv 3) qX)))))))),?_⟩
 wtm_at"z"
 refine⟨ll0,fun k0 hk0=>?_⟩
 generalize eQ:upd H k0 _=H1
 obtain⟨Sk0,ek0⟩:=laid hk0 eQ
 wtm_at"z"
 refine⟨_,rfl,_,rfl,W,p,ra,row,rfl,wp.same Sk0,dr.sm,dr.ne,yZJ dr.d5 (by decide),Sk0 _ _ era,sh,fun all H' S'=>?_,fun some'=>?_⟩
 .wtm_at"z"
  refine⟨ll2,fun D hD=>?_⟩
  generalize eQ:upd H' D _=H2
  obtain⟨SD,eD⟩:=laid hD eQ
  exact q1 all D k0 H2 ((Sk0.trans S').trans SD) eD (SD _ _ (S' _ _ ek0))
 refine⟨CT,_,rfl,R.T.asks.at' _ YK,(by rw[List.contains_cons,List.contains_cons,beq_self_eq_true,Bool.true_or,Bool.or_true]),fun e T he hT ne=>?_⟩
 have ex:held H1 e T (.ref CT) e=some (.ext (IsExc e T (.ref CT))):=qW
 have S2:Same H1 (held H1 e T (.ref CT)):=(qV hT _).trans (qV (by rw[qA ne.symm];exact he) _)
 generalize held H1 e T (.ref CT)=H2 at ex S2 ⊢
 wtm_at"z"
 refine⟨e,T,CT,_,CT,true,rfl,ex,R.T.asks,R.self,?_⟩
 wtm_at"z"
 refine⟨e,T,CT,_,"ValueError",true,rfl,ex,R.T.asks,R.value,?_⟩
 wtm_at"z"
 refine⟨ll2,fun ka hka=>?_⟩
 generalize eQ:upd H2 ka _=H3
 obtain⟨Ska,eka⟩:=laid hka eQ
 have ex3:=Ska _ _ ex
 have S12:=Sk0.trans S2
 wtm_at"z"
 refine⟨.inl ⟨rfl,_,SqL.of eka⟩,?_⟩
 wtm_at"z"
 refine⟨ll6,fun tt htt=>?_⟩
 generalize eQ:upd H3 tt _=H4
 obtain⟨Stt,ett⟩:=laid htt eQ
 wtm_at"z"
 refine⟨e,T,CT,_,tt,[C1,C2,C3,C4,C5,C6],false,rfl,Stt _ _ ex3,ett,R.T.asks,R.no,?_⟩
 wtm_at"z"
 refine⟨ka,_,.bl false,rfl,rfl,Stt _ _ eka,small (by show 2<=_;decide),?_⟩
 have S5:Same H (upd H4 ka (.lst ([V.bl true,.bl true]++[.bl false]))):=fun b o eb=>by rw[qA (qB eb (S12.free hka))];exact(Ska.trans Stt) _ _ (S12 _ _ eb)
 have e5:upd H4 ka (.lst ([V.bl true,.bl true]++[.bl false])) ka=some (.lst [.bl true,.bl true,.bl false]):=qW
 generalize upd H4 ka (.lst ([V.bl true,.bl true]++[.bl false]))=H5 at S5 e5
 refine xJi ?_
 wtm_at"z"
 refine⟨ll2,fun D hD=>?_⟩
 generalize eQ:upd H5 D _=H6
 obtain⟨SD,eD⟩:=laid hD eQ
 exact q2 some' D ka H6 (S5.trans SD) eD (SD _ _ e5)
theorem qKb {H:Hp}{n:Nat}{a b c d:V}(h1:DEq K H n a c)(h2:DEq K H n b d):∀(j:Nat) x y,[a,b][j]? = some x->[c,d][j]? = some y->DEq K H n x y:=fun j x y e1 e2=>by
 match j with
 | 0=>cases e1;cases e2;exact h1
 | 1=>cases e1;cases e2;exact h2
 | j+2=>cases e1
theorem qAq {H:Hp}:∀{t:Th} {n:Nat} {u v:V},t.dep<=n->t.At H u->t.At H v->DEq K H n u v
 | .num m,n,u,v,hn,hu,hv=>by
  obtain⟨a,rfl,ea⟩:=hu
  obtain⟨b,rfl,eb⟩:=hv
  obtain⟨n,rfl⟩:∃k,n=k+1:=⟨n - 1,by have:1<=n:=hn;omega⟩
  exact .tup (SqT.of ea) (SqT.of eb) rfl (qKb (.str _) (.int _))
 | .box m,n,u,v,hn,hu,hv=>by
  obtain⟨a,rfl,ea⟩:=hu
  obtain⟨b,rfl,eb⟩:=hv
  obtain⟨n,rfl⟩:∃k,n=k+1:=⟨n - 1,by have:1<=n:=hn;omega⟩
  exact .tup (SqT.of ea) (SqT.of eb) rfl (qKb (.str _) (.str _))
 | .nul k,n,u,v,hn,hu,hv=>by
  obtain⟨a,rfl,ea⟩:=hu
  obtain⟨b,rfl,eb⟩:=hv
  obtain⟨n,rfl⟩:∃k,n=k+1:=⟨n - 1,by have:1<=n:=hn;omega⟩
  refine .tup (SqT.of ea) (SqT.of eb) rfl fun j x y e1 e2=>?_
  match j with
  | 0=>cases e1;cases e2;exact .str _
  | j+1=>cases e1
 | .un k t,n,u,v,hn,hu,hv=>by
  obtain⟨a,u1,rfl,ea,h1⟩:=hu
  obtain⟨b,v1,rfl,eb,g1⟩:=hv
  have hn:t.dep+1<=n:=hn
  obtain⟨n,rfl⟩:∃k,n=k+1:=⟨n - 1,by omega⟩
  exact .tup (SqT.of ea) (SqT.of eb) rfl (qKb (.str _) (qAq (by omega) h1 g1))
 | .bin k t t',n,u,v,hn,hu,hv=>by
  obtain⟨a,u1,u2,rfl,ea,h1,h2⟩:=hu
  obtain⟨b,v1,v2,rfl,eb,g1,g2⟩:=hv
  have hn:max t.dep t'.dep+1<=n:=hn
  obtain⟨n,rfl⟩:∃k,n=k+1:=⟨n - 1,by omega⟩
  refine .tup (SqT.of ea) (SqT.of eb) rfl fun j x y e1 e2=>?_
  match j with
  | 0=>cases e1;cases e2;exact .str _
  | 1=>cases e1;cases e2;exact qAq (by omega) h1 g1
  | 2=>cases e1;cases e2;exact qAq (by omega) h2 g2
  | j+3=>cases e1
theorem qKc {α:Type}{F:Hp->α->V->Prop}{H:Hp}{n:Nat}{xs:List α}{us vs:List V}(p1:Paired (F H) xs us)(p2:Paired (F H) xs vs)(d:∀x∈xs,∀u v,F H x u->F H x v->DEq K H n u v):∀(j:Nat) x y,us[j]? = some x->vs[j]? = some y->DEq K H n x y:=fun j x y e1 e2=>by
 obtain⟨r,er⟩:∃b,xs[j]? = some b:=⟨_,yYA (by rw[p1.length];exact(yYB.mp e1).1)⟩
 exact d r (yYE er) x y (xV p1 er e1) (xV p2 er e2)
theorem xXv {H:Hp}{ws:List Str}{c:List (Str×Th)}{u v:V}(ok:WayOk ws c)(h:WayIn H c u)(g:WayIn H c v):DEq K H 14 u v:=by
 obtain⟨a,us,rfl,ea,h1⟩:=h
 obtain⟨b,vs,rfl,eb,g1⟩:=g
 refine .lst (SqL.of ea) (SqL.of eb) (h1.length.symm.trans g1.length) (qKc h1 g1 fun x hx u v p q=>?_)
 obtain⟨a,u1,rfl,ea,h1⟩:=p
 obtain⟨b,v1,rfl,eb,g1⟩:=q
 exact .tup (SqT.of ea) (SqT.of eb) rfl (qKb (.str _) (qAq (ok.ok x hx).2.2 h1 g1))
theorem qOo {H:Hp}{ws:List Str}{d:Deed}{u v:V}(ok:DeedOk ws d)(h:DeedIn H d u)(g:DeedIn H d v):DEq K H 16 u v:=by
 obtain⟨a,nv,wa,us,rfl,ea,h1,h2,h3⟩:=h
 obtain⟨b,nv',wb,vs,rfl,eb,g1,g2,g3⟩:=g
 refine .tup (SqT.of ea) (SqT.of eb) rfl fun j x y e1 e2=>?_
 match j with
 | 0=>cases e1;cases e2;exact .str _
 | 1=>cases e1;cases e2;exact .int _
 | 2=>cases e1;cases e2;exact qAq (by have:=ok.dep;omega) h1 g1
 | 3=>cases e1;cases e2;exact .lst (SqL.of h2) (SqL.of g2) (h3.length.symm.trans g3.length) (qKc h3 g3 fun x hx u v p q=>xXv (ok.ways x hx) p q)
 | j+4=>cases e1
theorem kE:xH ["script","deck","drawn","world","names","k","row","strange","handed","found","kinds"] ["script"] (xB (top 65)):=by constructor <;> first | rfl | wtm_at"d"
theorem qPd:CompOk (xB (top 65)) ["script","deck","drawn","world","names","k","row","strange","handed","found","kinds"] (scAt (xC (top 65)) [3] []) ["deed"] 1 []:=
 by constructor <;> wtm_at"d"
theorem qPc:CompOk (xB (top 65)) ["script","deck","drawn","world","names","k","row","strange","handed","found","kinds"] (scAt (xC (top 65)) [4,0] []) ["turn","names","deck"] 1 [4,1]:=
 by constructor <;> wtm_at"d"
theorem qPb:CompOk (xB (top 65)) ["script","deck","drawn","world","names","k","row","strange","handed","found","kinds"] (scAt (xC (top 65)) [4,6] [0]) ["name","names"] 1 [4]:=
 by constructor <;> wtm_at"d"
abbrev odd45:List Str:=["see","goe","gos","a"]
theorem short45:∀x∈dn45++odd45,Short x:=by
 intro x hx
 have:∀x∈dn45++odd45,x.length<=1000/\(reprText x).length<=100000:=by wtm_at"d"
 exact this x hx
structure St45 (H0 H:Hp)(dk na:Addr):Prop where
 sm:Same (hidL [dk,na] H0) (hidL [dk,na] H)
 dq:Dq H dk na
section
variable {H0 H H':Hp}{dk na:Addr}
theorem St45.same (x:St45 H0 H dk na)(s:Same H H'):St45 H0 H' dk na:=⟨x.sm.trans (yQ s),x.dq.same s⟩
theorem St45.take (x:St45 H0 H dk na)(b:Bq dk na H H')(d:Dq H' dk na):St45 H0 H' dk na:=⟨x.sm.trans (b.hid []),d⟩
theorem St45.put (x:St45 H0 H dk na){a:Addr}{o:HO}(n:H0 a=none)(m:a∉[dk,na]):St45 H0 (upd H a o) dk na:=⟨fun b u e=>by
 refine zT (fun z=>?_) ?_
 .unfold hidL at e;rw[if_pos z] at e;cases e
 .rw[qA (qB (xM _ _ e) n)];exact xM _ _ (x.sm b u e),x.dq.set m⟩
theorem St45.new (x:St45 H0 H dk na){a:Addr}(h:H a=none):H0 a=none\/a∈[dk,na]:=by
 cases z:H0 a with
 | none=>exact .inl rfl
 | some o=>
  refine .inr (Decidable.byContradiction fun n=>?_)
  rw[xM _ _ (x.sm a o (zT n z))] at h;cases h
theorem St45.at' (x:St45 H0 H dk na){a:Addr}{o:HO}(e:hidL [dk,na] H0 a=some o):H a=some o:=xM _ _ (x.sm a o e)
end
structure Row45 (H0 H:Hp)(dk na ra:Addr)(row:List Str)(n:Nat)(nm:List Str):Prop where
 at':H ra=some (.lst (strsV row))
 new:H0 ra=none
 no:ra∉[dk,na]
 le:row.length<=n
 mem:∀x∈row,x∈nm
theorem qVn {nm:List Str}{x:Int}(h0:0<=x)(h1:x<((strsV nm).length:Int)):∃y∈nm,atI (strsV nm) x=some (.str y):=by
 obtain⟨i,rfl⟩:∃i:Nat,x=(i:Int):=⟨x.toNat,by omega⟩
 rw[xA] at h1
 have hi:i<nm.length:=by omega
 exact⟨nm[i],List.getElem_mem hi,qKm (by rw[yYO,yYA hi];rfl)⟩
theorem qCm {H:Hp}{row:List Str}:∀(j:Nat) x y,(strsV row)[j]? = some x->(strsV row)[j]? = some y->DEq K H 0 x y:=fun j x y e1 e2=>by
 rw[e1] at e2
 cases e2
 rw[yYO] at e1
 cases e:row[j]? with
 | none=>rw[e] at e1;cases e1
 | some z=>rw[e] at e1;cases e1;exact .str _
theorem qCn {H:Hp}{σ:St}{Q:VK}{js:List Nat}{tt:TT}{ra:Addr}{row:List Str}{f:Str->Bool}(era:H ra=some (.lst (strsV row)))(hl:row.length<=1000)
  (htt:∀(x:Str) (H':Hp) (R:Bool->Hp->Prop),x∈row->Same H H'->R (f x) H'->tt ([some (.str x)]++frees js σ) H' R)
  (q:∀(D:Addr) (H':Hp),Same H H'->H' D=some (.lst (strsV (row.filter f)))->Q (.ref D) H'):rdC 1 js (gName 0) tt (tVar 0) (Itl K ra) σ H Q:=by
 have ls:(strsV row).length=row.length:=xA row
 refine zZ (xs:=strsV row) (fun D i ys H'=>Same H H'/\ys=strsV ((row.take i).filter f)) (fun D hD=>⟨qV hD _,rfl⟩) (fun D i ys H' _ hP=>SqL.of (hP.1 _ _ era)) (fun D i x ys H' N hD hDy ex hP hN=>?_) (fun D ys H2 hD hDy hP=>?_)
 .obtain⟨hk,rfl⟩:=hP
  rw[yYO] at ex
  obtain⟨y,er,rfl⟩:=Option.map_eq_some_iff.mp ex
  refine⟨⟨[some (.str y)],rfl,rfl⟩,?_⟩
  refine htt y H' _ (yYE er) hk ?_
  have fs:=jQ (p:=f) er
  cases hS:f y with
  | false=>
   refine iteF (hN _ _ hDy ⟨hk,?_⟩)
   rw[fs,hS,if_neg yZL,List.append_nil]
  | true=>
   refine iteT ⟨_,rfl,hDy,small (by rw[xA];have:=List.length_filter_le f (row.take i);rw[yYF] at this;omega),hN _ _ qW ⟨fun b o e=>?_,?_⟩⟩
   .rw[qA (qB e hD)];exact hk _ _ e
   .rw[fs,hS,if_pos rfl,jJ];rfl
 .obtain⟨hk,rfl⟩:=hP
  rw[ls,yYJ] at hDy
  exact q D H2 hk hDy
def spLaw (K:yZP):Sp:=fun vs H Q _=>∃(a:Addr) (ns:List Int),vs=[.ref a]/\SqL K H a (ns.map V.int)/\ns.length<=63/\∀H',Q (.bl true) H'
theorem xVg {f:Addr}{fd:FuncData}(F:Fun K "law" "law" (top 65) f fd)(B:Bl mg)(Jf:Dn P w K mg base "_law_deck" 1 ["script"] (spDeck K))(jL:Dn P w K mg base "_law_take" 1 ["deck","many"] spTake)(JM:Dn P w K mg base "_law_world" 3 ["deck"] qDz)(Jg:Dn P w K mg base "world_of" 28 ["boxes","deeds","looks","begin","goal"] qVw)
  (Jh:Dn P w K mg base "_law_told" 33 ["world","row"] spTold) (JN:Dn P w K mg base "_law_works" 27 ["world","row"] qDj):FnOk P w K mg base CX0 60 f fd ["script"] (spLaw K):=by
 refine F.ok (k:=59) kE (fun vs H Q E h=>?_) (fun zy A outer s H vs Q E hr h=>?_)
 .obtain⟨_,_,rfl,_⟩:=h
  rfl
 obtain⟨a,ns,rfl,hS,h63,q⟩:=h
 refine⟨_,(qZ (xG (i:=1) kE.nd rfl (qD Jf hr (qQ (pv 0) qX)))
  (qZ (xG (i:=2) kE.nd rfl (qD JM hr (qQ (pv 1) qX)))
  (qZ (xG (i:=3) kE.nd rfl (qD Jg hr (qQ (xZ (jG (K:=K)) rfl B.list' vT (qQ (xF (qT (K:=K)) (pv 2) qF) qX)) (qQ (xZ (jG (K:=K)) rfl B.list' vT (qQ (xF (qT (K:=K)) (pv 2) qF) qX)) (qQ (xZ (jG (K:=K)) rfl B.list' vT (qQ (xF (qT (K:=K)) (pv 2) qF) qX)) (qQ (xF (qT (K:=K)) (pv 2) qF) (qQ (xF (qT (K:=K)) (pv 2) qF) qX)))))))
  (qZ (xG (i:=4) kE.nd rfl (zJ rfl qPd (xQ (K:=K) (xF (qT (K:=K)) (pv 2) qF)) (fun cl fp s H=>(qH (i:=0) qPd.nd rfl (Or.inl rfl) (.inr rfl))) (fun cl fp s H=>zF) (fun cl fp s H=>(xF (qT (K:=K)) (pv 0) qF))))
  (qZ (xT PassesOwn.never rfl (yM rfl B.range' (qQ qF qX)) (qH (i:=5) kE.nd rfl (by wtm_at "zo")) (qZ (yI (i:=6) kE.nd rfl (by wtm_at "zo") rfl qPc (yM rfl B.range' (qQ (qD jL hr (qQ (pv 1) (qQ qF qX))) qX)) (fun cl fp s H=>(qH (i:=0) qPc.nd rfl (Or.inl rfl) (.inr rfl))) (fun cl fp s H=>zF) (fun cl fp s H=>(xF (qU (K:=K)) (pv 1) (qD jL hr (qQ (pv 2) (qQ (xJ (jV (K:=K)) rfl B.len' vI (qQ (pv 1) qX)) qX))))))
  (qK (zG (qS jM (pv 5) qF (xE _)) (qJ (xG (i:=6) kE.nd rfl (xO qX))) qY)
  (qK (zG (qS jM (qD jL hr (qQ (pv 1) (qQ qF qX))) qF (xE _)) (qZ (xG (i:=7) kE.nd rfl (xF (qU (K:=K)) (xO (qQ qG (qQ qG (qQ qG (qQ qG qX))))) (qD jL hr (qQ (pv 1) (qQ qF qX)))))
  (qJ (qR (yN (K:=K) PySem.F.plainAttrs_list PySem.F.slot_list_insert PySem.F.type_list_insert qNx (pv 6) (qQ (qD jL hr (qQ (pv 1) (qQ (xX qQj (xJ (jV (K:=K)) rfl B.len' vI (qQ (pv 6) qX)) qF) qX))) (qQ (pv 7) qX)))))) qY)
  (qZ (xG (i:=8) kE.nd rfl (xZ (jG (K:=K)) rfl B.list' vT (qQ (pv 6) qX)))
  (qZ (qP (qD Jh hr (qQ (pv 3) (qQ (pv 8) qX))) (xZc (K:=K) (n:=2) rfl (qI (qH (i:=9) kE.nd rfl (by wtm_at "zo")) (qI (qH (i:=10) kE.nd rfl (by wtm_at "zo")) qM))))
  (qZ (zG (qS (qMf (K:=K) hr.units) (pv 8) (pv 6) (xE _)) (qJ (qO qQh)) qY)
  (qJ (zG (qS (qMg (K:=K) hr.units) (zJ rfl qPb (xQ (K:=K) (pv 6)) (fun cl fp s H=>(qH (i:=0) qPb.nd rfl (Or.inl rfl) (.inr rfl))) (fun cl fp s H=>(kQ (qS (qWj (K:=K)) (pv 0) (pv 1) (by with_unfolding_all rfl)))) (fun cl fp s H=>(pv 0))) (xO qX) (xE _)) (qJ (zG (qS (qMf (K:=K) hr.units) (pv 10) (xO (qQ qQh (qQ qQh (qQ qQh qX)))) (xE _)) (qJ (qO qQh)) qY)) (qJ (zG (PW.pt (qSk (qJv (kG (xJ (vX (K:=K)) rfl B.isinstance' zO (qQ (pv 9) (qQ (qSf rfl B.bool' qRq) qX))))) (qIm (qS xVb (pv 9) (qD JN hr (qQ (pv 2) (qQ (pv 6) qX))) (xE _))))) (qJ (qO qQh)) qY)))))))))))
  (qJ (qO (kX (xZl (K:=K) hr.units) (xF (qT (K:=K)) (pv 3) qF) (xF (qT (K:=K)) (pv 2) qF) (xE _))))))))),?_⟩
 wtm_at"z"
 refine⟨a,ns,rfl,hS,h63,fun dk na H1 S1 _ _ D1=>?_⟩
 wtm_at"z"
 refine⟨dk,na,rfl,D1,fun W p H2 S2 D2 wp dr=>?_⟩
 obtain⟨bx,dx,lx,bv,gv,ep,A0⟩:=id wp
 obtain⟨us,ebx,pb⟩:=A0.boxes
 obtain⟨du,edx,pd⟩:=A0.deeds
 obtain⟨lu,elx,pl⟩:=A0.looks
 have hs:Same (hidL [dk,na] H2) H2:=xM
 have ep2:=hs _ _ ep
 wtm_at"z"
 refine⟨bx,us,rfl,.inl (SqL.of (hs _ _ ebx)),fun b1 hb1=>?_⟩
 generalize eQ:upd H2 b1 _=H3
 obtain⟨Sb1,eb1⟩:=laid hb1 eQ
 have ep3:=Sb1 _ _ ep2
 wtm_at"z"
 have hs3:=hs.trans Sb1
 refine⟨dx,du,rfl,.inl (SqL.of (hs3 _ _ edx)),fun b2 hb2=>?_⟩
 generalize eQ:upd H3 b2 _=H4
 obtain⟨Sb2,eb2⟩:=laid hb2 eQ
 have ep4:=Sb2 _ _ ep3
 wtm_at"z"
 have hs4:=hs3.trans Sb2
 refine⟨lx,lu,rfl,.inl (SqL.of (hs4 _ _ elx)),fun b3 hb3=>?_⟩
 generalize eQ:upd H4 b3 _=H5
 obtain⟨Sb3,eb3⟩:=laid hb3 eQ
 have ep5:=Sb3 _ _ ep4
 wtm_at"z"
 have hs5:=hs4.trans Sb3
 have A5:=A0.same hs5
 refine⟨W,b1,b2,b3,bv,gv,rfl,⟨⟨us,(Sb2.trans Sb3) _ _ eb1,xK (qC hs5) pb⟩,⟨du,Sb3 _ _ eb2,Paired.mapP pd fun _ _ z=>z.same hs5⟩,⟨lu,eb3,Paired.mapP pl fun _ _ z=>z.same hs5⟩,A5.beg,A5.goal⟩,dr.ok,fun qw H6 S6 wf=>?_⟩
 have S26:=((Sb1.trans Sb2).trans Sb3).trans S6
 have D6:=D2.same S26
 have op6:=D6.op
 have hs6:Same (hidL [dk,na] H2) (hidL [dk,na] H6):=yQ S26
 have wq:WPt (hidL [dk,na] H6) W qw:=(wf.move (ok':=fun _=>True) (H':=hidL [dk,na] H6) (fun b o hb e=>zT ((D2.same ((Sb1.trans Sb2).trans Sb3)).op.new hb) e) op6.tups fun _ _=>trivial).at'
 have wp6:=wp.same hs6
 have ep6:=S6 _ _ ep5
 clear ep5 ep4 ep3 hs3 hs4 hs5 A5 S6 wf eb1 eb2 eb3 Sb1 Sb2 Sb3 hb1 hb2 hb3
 wtm_at "zf"
 have d5:=dr.d5
 have pd6:Paired (DeedIn H6) W.ds du:=Paired.mapP pd fun _ _ z=>z.same (hs6.trans xM)
 refine⟨dx,rfl,⟨du,SqL.of ((hs6.trans xM) _ _ edx)⟩,vR (xs:=W.ds.map Deed.name) ((hs6.trans xM) _ _ edx) (yW pd6) (by rw[yYC];omega) fun nl H7 nnl S7 enl=>?_⟩
 have D7:=D6.same S7
 have hs7:Same (hidL [dk,na] H6) (hidL [dk,na] H7):=yQ S7
 have wp7:=wp6.same hs7
 have wq7:=wq.same hs7
 have enl7:hidL [dk,na] H7 nl=some (.lst (strsV (W.ds.map Deed.name))):=zT (op6.new nnl) enl
 have nmne:0<(W.ds.map Deed.name).length:=by rw[yYC];exact List.length_pos_iff.mpr dr.ne
 have nm5:(W.ds.map Deed.name).length<=5:=by rw[yYC];exact d5
 have nmok:∀x∈W.ds.map Deed.name,x∈dn45:=fun x hx=>by
  obtain⟨d,hd,rfl⟩:=yYP.mp hx
  exact dr.names d hd
 generalize enm:W.ds.map Deed.name=nm at enl enl7 nmne nm5 nmok
 clear enl ep6 ep2 hs wp6 wq hs6 hs7 S26 S7 pd6 op6 D6 D2 S2 D1 S1
 wtm_at "zf"
 refine xKq (by decide) (by decide) ?_
 refine vA (fun k σ' H'=>∃z5 z6 z7 z8 z9 z10:Option V,σ'=[some (.ref a),some (.ref dk),some (.ref p),some (.ref qw),some (.ref nl),z5,z6,z7,z8,z9,z10]/\St45 H7 H' dk na)
  ⟨none,none,none,none,none,none,rfl,⟨.refl _,D7⟩⟩ ?_ ?_
 .rintro N rt bk k σ' Ha hk ⟨z5,z6,z7,z8,z9,z10,rfl,st⟩ hN
  have ena:=st.at' enl7
  have lnm:((strsV nm).length:Int)=nm.length:=by rw[xA]
  wtm_at "zf"
  refine⟨dk,na,8,rfl,st.dq,by decide,by wtm_at"d",fun x Hb hx0 hx1 Bb Db=>?_⟩
  have stb:=st.take Bb Db
  wtm_at"z"
  refine⟨_,rfl,by omega,by omega,?_⟩
  refine qJl (fun D i ys H'=>∃xs:List Str,ys=strsV xs/\xs.length=i/\(∀y∈xs,y∈nm)/\St45 H7 H' dk na) (fun D hD=>⟨[],rfl,rfl,(fun y h=>(nomatch h)),stb.same (qV hD _)⟩) (fun D i ys H' N2 hD hDy hi hP hN2=>?_) (fun ra ru Hc hD hDy hP=>?_)
  .obtain⟨xs,rfl,lx,mx,st'⟩:=hP
   have ena':=st'.at' enl7
   have nD:=Db.op.new hD
   have nD7:H7 D=none:=(stb.new hD).resolve_right nD
   refine⟨⟨[some (.int (0+(i:Int)))],rfl,rfl⟩,?_⟩
   wtm_at"z"
   refine⟨dk,na,_,rfl,st'.dq,by rw[lnm];omega,yZI (show(strsV nm).length<=5 by rw[xA];exact nm5) (by wtm_at"d"),fun y H3 hy0 hy1 B3 D3=>?_⟩
   obtain⟨s,ms,es⟩:=qVn hy0 hy1
   have st3:=st'.take B3 D3
   have ena3:=st3.at' enl7
   have eD:=B3.lst nD hDy
   wtm_at"z"
   refine⟨eD,small (by rw[xA];omega),hN2 _ _ qW ⟨xs++[s],by rw[jJ];rfl,by rw[yYI,lx];rfl,fun y hy=>?_,st3.put nD7 nD⟩⟩
   .rcases yYS.mp hy with h | h
    .exact mx y h
    .rw[yYL.mp h];exact ms
  obtain⟨row,rfl,lrow,mrow,stc⟩:=hP
  have nra:=Db.op.new hD
  have nra7:H7 ra=none:=(stb.new hD).resolve_right nra
  refine⟨fun σ'' H''=>∃ra row,σ''=[some (.ref a),some (.ref dk),some (.ref p),some (.ref qw),some (.ref nl),some (.int (0+(k:Int))),some (.ref ra),z7,z8,z9,z10]/\St45 H7 H'' dk na/\Row45 H7 H'' dk na ra row 7 nm,?_,?_⟩
  .wtm_at"z"
   refine ite2 (fun c=>?_) (fun c=>?_)
   .wtm_at"z"
    refine⟨ll0,fun e0 he0=>?_⟩
    generalize eQ:upd Hc e0 _=Hd
    obtain⟨Se0,ee0⟩:=laid he0 eQ
    have n0:=stc.dq.op.new he0
    exact⟨e0,[],rfl,stc.same Se0,⟨ee0,(stc.new he0).resolve_right n0,n0,yZG _,fun x h=>(nomatch h)⟩⟩
   .wtm_at"z"
    exact⟨ra,row,rfl,stc,⟨hDy,nra7,nra,by omega,mrow⟩⟩
  rintro σ'' Hd ⟨ra,row,rfl,std,R⟩
  clear hDy nra nra7 lrow mrow stc hD stb Db Bb
  refine⟨fun σ'' H''=>∃ra row z7,σ''=[some (.ref a),some (.ref dk),some (.ref p),some (.ref qw),some (.ref nl),some (.int (0+(k:Int))),some (.ref ra),z7,z8,z9,z10]/\St45 H7 H'' dk na/\Row45 H7 H'' dk na ra row 8 (nm++odd45),?_,?_⟩
  .wtm_at"z"
   refine⟨dk,na,4,rfl,std.dq,by decide,by wtm_at"d",fun y He hy0 hy1 Be De=>?_⟩
   have ste:=std.take Be De
   have ere:=Be.lst R.no R.at'
   wtm_at"z"
   refine ite2 (fun c=>?_) (fun c=>?_)
   .wtm_at"z"
    refine⟨ll4,fun so hso=>?_⟩
    generalize eQ:upd He so _=Hf
    obtain⟨Sso,eso⟩:=laid hso eQ
    have nso:=De.op.new hso
    have stf:=ste.same Sso
    wtm_at"z"
    refine⟨dk,na,4,rfl,stf.dq,by decide,by wtm_at"d",fun y2 Hg hy20 hy21 Bg Dg=>?_⟩
    have eso:=Bg.lst nso eso
    obtain⟨s,ms,es⟩:∃s∈odd45,atI [V.str "see",.str "goe",.str "gos",.str "a"] y2=some (.str s):=qVn (nm:=odd45) hy20 hy21
    have stg:=stf.take Bg Dg
    have erg:=Bg.lst R.no (Sso _ _ ere)
    wtm_at"z"
    refine qVx (SqL.of erg) ?_
    have lr:(strsV row).length=row.length:=xA row
    have rle:=R.le
    wtm_at"z"
    refine⟨dk,na,_,rfl,Dg,by omega,yZI (show((((strsV row).length:Nat):Int)+1).natAbs<=8 by omega) (by wtm_at"d"),fun y3 Hh hy30 hy31 Bh Dh=>?_⟩
    have sth:=stg.take Bh Dh
    have erh:=Bh.lst R.no erg
    wtm_at"z"
    refine⟨ra,strsV row,y3,.str s,rfl,rfl,erh,hy30,by omega,by omega,?_⟩
    have ei:insAt (strsV row) y3.toNat (V.str s)=strsV (insAt row y3.toNat s):=by
     unfold insAt
     rw[jJ,<- List.map_take,<- List.map_drop];rfl
    rw[ei]
    refine⟨ra,insAt row y3.toNat s,_,rfl,sth.put R.new R.no,⟨qW,R.new,R.no,by rw[qWg];omega,fun x hx=>?_⟩⟩
    unfold insAt at hx
    rcases yYS.mp hx with h | h
    .exact List.mem_append_left _ (R.mem x (List.mem_of_mem_take h))
    .rcases yYK.mp h with rfl | h
     .exact yYN _ ms
     .exact List.mem_append_left _ (R.mem x (List.mem_of_mem_drop h))
   .wtm_at"z"
    exact⟨ra,row,z7,rfl,ste,⟨ere,R.new,R.no,Nat.le_succ_of_le R.le,fun x hx=>List.mem_append_left _ (R.mem x hx)⟩⟩
  rintro σ'' He ⟨ra,row,z7,rfl,ste,R⟩
  have era:=R.at'
  have rle:=R.le
  wtm_at"z"
  refine⟨ra,_,rfl,.inl (SqL.of era),fun ha hha=>?_⟩
  generalize eQ:upd He ha _=Hf
  obtain⟨Sha,eha⟩:=laid hha eQ
  have stf:=ste.same Sha
  have sh:∀x∈row,Short x:=fun x hx=>short45 x (by
   rcases yYS.mp (R.mem x hx) with h | h
   .exact List.mem_append_left _ (nmok x h)
   .exact yYN _ h)
  have ff:∀x,(!decide (x∈nm))=true↔x∉nm:=fun x=>by rw[Bool.not_eq_true',decide_eq_false_iff_not]
  wtm_at"z"
  refine⟨W,qw,ha,row,rfl,(wq7.same stf.sm).same xM,dr,eha,sh,fun all D ka Hg Sg eD eka=>?_,fun some' D ka Hg Sg eD eka=>?_⟩
  .rw[enm] at all
   have stg:=stf.same Sg
   have eng:=stg.at' enl7
   have erg:=Sg _ _ (Sha _ _ era)
   wtm_at"z"
   refine⟨D,_,rfl,SqL.of eD,rfl,?_⟩
   wtm_at"z"
   refine⟨0,ha,ra,_,_,by decide,rfl,rfl,SqL.of (Sg _ _ eha),SqL.of erg,rfl,qCm,?_⟩
   refine⟨false,rfl,iteF ?_⟩
   wtm_at "zf"
   refine⟨ra,rfl,⟨_,SqL.of erg⟩,qCn (f:=fun x=>!decide (x∈nm)) erg (by omega) (fun x H' R' _ S' hR=>?_) fun D2 Hh Sh eD2=>?_⟩
   .have en':=S' _ _ eng
    wtm_at"z"
    refine⟨nl,_,rfl,.inl (SqL.of en'),rfl,wB nm,?_⟩
    rw[if_pos rfl,qQo]
    exact⟨_,rfl,hR⟩
   wtm_at"z"
   refine⟨ll0,fun el hel=>?_⟩
   generalize eQ:upd Hh el _=Hi
   obtain⟨Sel,eel⟩:=laid hel eQ
   have Sgi:=Sh.trans Sel
   have sti:=stg.same Sgi
   have fe:row.filter (fun x=>!decide (x∈nm))=[]:=List.filter_eq_nil_iff.mpr fun x hx z=>(ff x).mp z (all x hx)
   rw[fe] at eD2
   refine⟨D2,el,_,rfl,rfl,SqL.of (Sel _ _ eD2),SqL.of eel,?_⟩
   refine⟨false,rfl,iteF ?_⟩
   wtm_at"z"
   refine⟨_,"bool",_,true,rfl,.bl _,(by with_unfolding_all rfl),?_⟩
   refine⟨true,rfl,iteF ?_⟩
   wtm_at"z"
   refine⟨W,p,ra,row,rfl,(wp7.same sti.sm).same xM,dr,Sgi _ _ erg,by rw[enm];exact all,fun Hj Sj=>?_⟩
   wtm_at"z"
   rw[decide_eq_true rfl]
   refine iteF ?_
   wtm_at"z"
   exact hN _ _ ⟨_,_,_,_,_,_,rfl,sti.same Sj⟩
  .rw[enm] at some'
   have stg:=stf.same Sg
   have eng:=stg.at' enl7
   have erg:=Sg _ _ (Sha _ _ era)
   wtm_at"z"
   refine⟨D,_,rfl,SqL.of eD,rfl,?_⟩
   wtm_at"z"
   refine⟨0,ha,ra,_,_,by decide,rfl,rfl,SqL.of (Sg _ _ eha),SqL.of erg,rfl,qCm,?_⟩
   refine⟨false,rfl,iteF ?_⟩
   wtm_at "zf"
   refine⟨ra,rfl,⟨_,SqL.of erg⟩,qCn (f:=fun x=>!decide (x∈nm)) erg (by omega) (fun x H' R' _ S' hR=>?_) fun D2 Hh Sh eD2=>?_⟩
   .have en':=S' _ _ eng
    wtm_at"z"
    refine⟨nl,_,rfl,.inl (SqL.of en'),rfl,wB nm,?_⟩
    rw[if_pos rfl,qQo]
    exact⟨_,rfl,hR⟩
   wtm_at"z"
   refine⟨ll0,fun el hel=>?_⟩
   generalize eQ:upd Hh el _=Hi
   obtain⟨Sel,eel⟩:=laid hel eQ
   have Sgi:=Sh.trans Sel
   have sti:=stg.same Sgi
   refine⟨D2,el,_,rfl,rfl,SqL.of (Sel _ _ eD2),SqL.of eel,?_⟩
   have fe:(!(strsV (row.filter (fun x=>!decide (x∈nm)))).isEmpty)=true:=by
    obtain⟨x,hx,nx⟩:=some'
    have hm:x∈row.filter (fun x=>!decide (x∈nm)):=yYR.mpr ⟨hx,(ff x).mpr nx⟩
    cases e:row.filter (fun x=>!decide (x∈nm)) with
    | nil=>rw[e] at hm;cases hm
    | cons _ _=>rfl
   rw[fe]
   refine⟨true,rfl,iteT ?_⟩
   wtm_at"z"
   refine⟨ll3,fun tl htl=>?_⟩
   generalize eQ:upd Hi tl _=Hj
   obtain⟨Stl,etl⟩:=laid htl eQ
   refine⟨0,ka,tl,_,_,by decide,rfl,rfl,SqL.of ((Sgi.trans Stl) _ _ eka),SqL.of etl,rfl,fun j x y e1 e2=>?_,?_⟩
   .rw[e1] at e2
    cases e2
    match j with
    | 0=>cases e1;exact .bl _
    | 1=>cases e1;exact .bl _
    | 2=>cases e1;exact .bl _
    | j+3=>cases e1
   refine⟨false,rfl,iteF ?_⟩
   wtm_at"z"
   exact hN _ _ ⟨_,_,_,_,_,_,rfl,sti.same Stl⟩
 .rintro σ' Ha ⟨z5,z6,z7,z8,z9,z10,rfl,st⟩
  obtain⟨bx',dx',lx',bv',gv',ep',A'⟩:=wp7.same st.sm
  obtain⟨bx2,dx2,lx2,bv2,gv2,ep2,A2⟩:=wq7.same st.sm
  obtain⟨u1,e1,p1⟩:=A'.deeds
  obtain⟨u2,e2,p2⟩:=A2.deeds
  have hs:Same (hidL [dk,na] Ha) Ha:=xM
  have ep':=hs _ _ ep'
  have ep2:=hs _ _ ep2
  wtm_at"z"
  refine⟨16,dx2,dx',u2,u1,by decide,rfl,rfl,SqL.of (hs _ _ e2),SqL.of (hs _ _ e1),p2.length.symm.trans p1.length,qKc (F:=DeedIn) (Paired.mapP p2 fun _ _ z=>z.same hs) (Paired.mapP p1 fun _ _ z=>z.same hs) (fun d hd u v h1 h2=>qOo (dr.ok.deeds d hd) h1 h2),?_⟩
  exact q _
end
theorem len1 {C:List Value->Prop}(h:∀a0:Value,C [a0])(us:List Value)(e:us.length=1):C us:=by
 cases us with
 | nil=>cases e
 | cons a r=>
  cases r with
  | nil=>exact h a
  | cons _ _=>exact absurd (Nat.succ.inj e) (Nat.succ_ne_zero _)
theorem len2 {C:List Value->Prop}(h:∀a0 a1:Value,C [a0,a1])(us:List Value)(e:us.length=2):C us:=by
 cases us with
 | nil=>cases e
 | cons a r=>exact len1 (C:=fun r=>C (a::r)) (h a) r (Nat.succ.inj e)
theorem len3 {C:List Value->Prop}(h:∀a0 a1 a2:Value,C [a0,a1,a2])(us:List Value)(e:us.length=3):C us:=by
 cases us with
 | nil=>cases e
 | cons a r=>exact len2 (C:=fun r=>C (a::r)) (h a) r (Nat.succ.inj e)
theorem len4 {C:List Value->Prop}(h:∀a0 a1 a2 a3:Value,C [a0,a1,a2,a3])(us:List Value)(e:us.length=4):C us:=by
 cases us with
 | nil=>cases e
 | cons a r=>exact len3 (C:=fun r=>C (a::r)) (h a) r (Nat.succ.inj e)
theorem len5 {C:List Value->Prop}(h:∀a0 a1 a2 a3 a4:Value,C [a0,a1,a2,a3,a4])(us:List Value)(e:us.length=5):C us:=by
 cases us with
 | nil=>cases e
 | cons a r=>exact len4 (C:=fun r=>C (a::r)) (h a) r (Nat.succ.inj e)
def DefIn (K:yZP)(x:Str)(st:Stmt):Prop:=∃f fd,PySem.W.nsIn K mainGlobals x=some (some (.ref f))/\Fun K x x st f fd
theorem DefIn.mk {K:yZP}{x:Str}{st:Stmt}{f:Addr}{od an:Option Addr}{sl:Array (Option Value)}{oc kV dc pm cd ct:Value}(a:PySem.W.nsIn K mainGlobals x=some (some (.ref f)))(l:K.lookup f=some ⟨oc,od,.func (PySem.W.fnOf x x (xD st) (xC st) (xB st) .none kV dc pm an cd ct),sl⟩)(c:PySem.W.codeIn K cd x=true)(k:PySem.W.keepIn K (.ref f)=true):DefIn K x st:=⟨f,_,a,qOq l c k⟩
theorem DefIn.fd {K:yZP}{x:Str}{st:Stmt}{h:Heap}{mg:Str->Option Value}{ps:List Str}(d:DefIn K x st)(X:K.In h)(G:h.Ns mainGlobals mg)
  (b:∀(kV doc pm:Value) (an:Option Addr) (zy ct:Value) (us:List Value),us.length=ps.length->bindArgs (PySem.W.fnOf x x (xD st) (xC st) (xB st) .none kV doc pm an zy ct) ⟨us,[]⟩=pure (ps.zip us):=by intro _ _ _ _ _ _;first | exact len1 (fun _=>rfl) | exact len2 (fun _ _=>rfl) | exact len3 (fun _ _ _=>rfl) | exact len5 (fun _ _ _ _ _=>rfl)):Fd K mg x st ps:=let ⟨f,fd,a,F⟩:=d;⟨f,fd,F,PySem.W.mg_of X G a,F.kp,F.binds b⟩
def MthIn (K:yZP)(C:Addr)(m q:Str)(st:Stmt):Prop:=∃f fd,PySem.W.findIn K (.ref C) m=some (some (.ref f))/\Fun K m q st f fd/\PySem.W.isFn K (.ref f)=true
theorem MthIn.mk {K:yZP}{C:Addr}{m q:Str}{st:Stmt}{f:Addr}{od an:Option Addr}{sl:Array (Option Value)}{oc kV dc pm cd ct:Value}(a:PySem.W.findIn K (.ref C) m=some (some (.ref f)))(l:K.lookup f=some ⟨oc,od,.func (PySem.W.fnOf m q (xD st) (xC st) (xB st) .none kV dc pm an cd ct),sl⟩)(c:PySem.W.codeIn K cd q=true)(k:PySem.W.keepIn K (.ref f)=true)(i:PySem.W.isFn K (.ref f)=true):MthIn K C m q st:=⟨f,_,a,qOq l c k,i⟩
section
variable {K:yZP}{C:Addr}{m q:Str}{st:Stmt}{h:Heap}{mg:Str->Option Value}{ps:List Str}
theorem MthIn.md (d:MthIn K C m q st)
  (b:∀(kV doc pm:Value) (an:Option Addr) (zy ct:Value) (us:List Value),us.length=ps.length->bindArgs (PySem.W.fnOf m q (xD st) (xC st) (xB st) .none kV doc pm an zy ct) ⟨us,[]⟩=pure (ps.zip us):=by intro _ _ _ _ _ _;first | exact len1 (fun _=>rfl) | exact len2 (fun _ _=>rfl) | exact len3 (fun _ _ _=>rfl) | exact len5 (fun _ _ _ _ _=>rfl)):Md K C m q st ps:=let ⟨f,fd,a,F,i⟩:=d;⟨f,fd,F,⟨a,i,F.kp⟩,F.binds b⟩
theorem MthIn.mi {x:Str}(d:MthIn K C "__init__" q st)(X:K.In h)(G:h.Ns mainGlobals mg)(cf:PySem.W.makesIn K C=true)(cg:PySem.W.keepIn K (.ref C)=true)(ca:PySem.W.nsIn K mainGlobals x=some (some (.ref C)))
  (b:∀(kV doc pm:Value) (an:Option Addr) (zy ct:Value) (us:List Value),us.length=ps.length->bindArgs (PySem.W.fnOf "__init__" q (xD st) (xC st) (xB st) .none kV doc pm an zy ct) ⟨us,[]⟩=pure (ps.zip us):=by intro _ _ _ _ _ _;first | exact len1 (fun _=>rfl) | exact len2 (fun _ _=>rfl) | exact len3 (fun _ _ _=>rfl) | exact len5 (fun _ _ _ _ _=>rfl)):Mi K mg x C q st ps:=let ⟨f,fd,a,F,i⟩:=d;⟨f,fd,F,⟨cf,a,i,cg⟩,PySem.W.mg_of X G ca,F.binds b⟩
end
def RefIn (K:yZP)(x:Str)(C:Addr)(bm:List Value):Prop:=∀{h:Heap} {mg:Str->Option Value},K.In h->h.Ns mainGlobals mg->(∀h,K.In h->OwnTail h bmV bm)->Ref K mg x C bm
theorem RefIn.mk {K:yZP}{x:Str}{C N:Addr}{nm q:Str}{bs bm su:List Value}{hd ab:Bool}{sn:List Str}{cl:Option Bool}{dd nd:Option Addr}{k0 k1 k2 k3 k5:Option Value}{nc:Value}{es:Array DictEntry}{ne:Nat}{ns:Array (Option Value)}(a:PySem.W.nsIn K mainGlobals x=some (some (.ref C)))(l:K.lookup C=some (excClassObj nm q C N bs bm hd sn su ab cl dd k0 k1 k2 k3 k5 "ValueError.__new__"))
  (lN:K.lookup N=some ⟨nc,nd,.dict es ne,ns⟩) (ok:qCf es.toList=true) (ni:PySem.W.nsIn K N "__init__" = some none) (l1:PySem.W.findIn K (.ref C) "__getattribute__" = some (some (.builtin "BaseException.__getattribute__"))) (l2:PySem.W.findIn K (.ref C) "__getattr__" = some none) (l3:PySem.W.findIn K (.ref C) "__class__" = some (some (.builtin "object.__class__"))):RefIn K x C bm:=fun X G t=>xKg X G t a l lN ok ni l1 l2 l3
theorem xAq {l:PySem.W.OpenLaw}{w:World}{K:yZP}{h:Heap}{mg:Str->Option Value}{fa f42:Addr}(X:K.In h)(G:h.Ns mainGlobals mg)(hfa:mg "law" = some (.ref fa))
  {od42 an42:Option Addr} {sl42:Array (Option Value)} {oc42 kV42 dc42 pm42 cd42 ct42:Value}
  (d0:DefIn K "holds" (top 3))
  (d1:DefIn K "names_in" (top 4))
  (d2:DefIn K "values_by_name" (top 5))
  (d3:DefIn K "worth_by" (top 6))
  (d4:DefIn K "holds_by" (top 7))
  (d5:DefIn K "world_of" (top 22))
  (d6:DefIn K "standings" (top 23))
  (d7:DefIn K "named" (top 24))
  (d8:DefIn K "standings_of_boxes" (top 25))
  (d9:DefIn K "behind_way" (top 26))
  (d10:DefIn K "copied_deed" (top 27))
  (d11:DefIn K "is_whole" (top 28))
  (d12:DefIn K "refuse_boxes" (top 29))
  (d13:DefIn K "refuse_twice" (top 30))
  (d14:DefIn K "refuse_price" (top 31))
  (d15:DefIn K "refuse_ways" (top 32))
  (d16:DefIn K "refuse_strange_name" (top 33))
  (d17:DefIn K "refuse_strange_names" (top 34))
  (d18:DefIn K "refuse_begin" (top 35))
  (d19:DefIn K "first_known" (top 37))
  (d20:DefIn K "at_goal" (top 38))
  (d21:DefIn K "may_do" (top 39))
  (d22:DefIn K "behind" (top 40))
  (d23:DefIn K "holds_at_each" (top 42))
  (d24:DefIn K "bits_for" (top 45))
  (d25:DefIn K "is_within" (top 46))
  (d26:DefIn K "joined" (top 47))
  (d27:DefIn K "row_works" (top 49))
  (d28:DefIn K "without_looks" (top 50))
  (d29:DefIn K "known_behind" (top 51))
  (d30:DefIn K "coming_of" (top 52))
  (d31:DefIn K "_law_deck" (top 54))
  (d32:DefIn K "_law_take" (top 55))
  (d33:DefIn K "_law_thing" (top 56))
  (d34:DefIn K "_law_test" (top 57))
  (d35:DefIn K "_law_world" (top 58))
  (d36:DefIn K "_law_worth" (top 59))
  (d37:DefIn K "_law_holds" (top 60))
  (d38:DefIn K "_law_first" (top 61))
  (d39:DefIn K "_law_behind" (top 62))
  (d40:DefIn K "_law_works" (top 63))
  (d41:DefIn K "_law_told" (top 64))
  (a42:PySem.W.nsIn K mainGlobals "law" = some (some (.ref f42))) (l42:K.lookup f42=some ⟨oc42,od42,.func (PySem.W.fnOf "law" "law" (xD (top 65)) (xC (top 65)) (xB (top 65)) .none kV42 dc42 pm42 an42 cd42 ct42),sl42⟩) (c42:PySem.W.codeIn K cd42 "law" = true) (k42:PySem.W.keepIn K (.ref f42)=true)
  {ul:Tok} (um:PySem.W.nsIn K mainGlobals "LEAST_SIZE" = some (some (.int 2 ul)))
  {uE:Tok} (uF:PySem.W.nsIn K mainGlobals "GREATEST_SIZE" = some (some (.int 5 uE)))
  {ud:Tok} (ue:PySem.W.nsIn K mainGlobals "LEAST_PRICE" = some (some (.int 1 ud)))
  {ju:Addr} {vc:Nat} {jm:Obj} {kj km kq:Tok}
  (vd:PySem.W.nsIn K mainGlobals "WORDS_OF_CONDITIONS" = some (some (.ref ju))) (kr:K.lookup ju=some jm) (kt:jm.cls=.type "tuple") (ky:jm.data=.seq #[.str "not" kj,.str "and" km,.str "yes" kq] vc)
  {jf:Addr} (JO:RefIn K "ForkError" jf bmV)
  {jy:Addr} (Jz:RefIn K "NoName" jy (.ref jf::bmV))
  {yf:Addr} (Jm:RefIn K "NoOrder" yf (.ref jf::bmV))
  {yt:Addr} (VA:RefIn K "NoPlan" yt (.ref jf::bmV))
  {yu:Addr} (VB:RefIn K "NoText" yu (.ref jf::bmV))
  {yg:Addr} (Jn:RefIn K "NotSure" yg (.ref jf::bmV))
  {yh:Addr} (Jo:RefIn K "NoWorld" yh (.ref jf::bmV))
  {yi:Addr} (Jp:RefIn K "TooMany" yi (.ref jf::bmV))
  (kn:PySem.W.kitOne K (.ref jy) (.ref jy)=some true)
  (kv:PySem.W.kitOne K (.ref jy) (.type "ValueError")=some true)
  (ko:PySem.W.kitAny K (.ref jy) ([yf,yt,yu,yg,yh,yi].map Value.ref)=some false)
  {ja:Addr} (VC:PySem.W.nsIn K mainGlobals "Chart" = some (some (.ref ja))) (VD:PySem.W.plainGet K ja Str.empty=true) (VE:PySem.W.hasDictIn K ja=true) (VF:PySem.W.plainOver K ja=true) (VG:PySem.W.findIn K (.ref ja) "__setattr__" = some (some (.builtin "object.__setattr__"))) (VH:PySem.W.makesIn K ja=true) (VI:PySem.W.keepIn K (.ref ja)=true)
  (uo:PySem.W.findIn K (.ref ja) "bits" = some none)
  (uq:PySem.W.findIn K (.ref ja) "goal" = some none)
  (uf:PySem.W.findIn K (.ref ja) "deeds" = some none)
  (ug:PySem.W.findIn K (.ref ja) "looks" = some none)
  (ur:MthIn K ja "__init__" "Chart.__init__" (mth 44 0))
  (vo:MthIn K ja "charted_deed" "Chart.charted_deed" (mth 44 1))
  (vp:MthIn K ja "charted_look" "Chart.charted_look" (mth 44 2))
  (ym:MthIn K ja "number_of" "Chart.number_of" (mth 44 3))
  (uU:MthIn K ja "listed" "Chart.listed" (mth 44 4))
  (vq:MthIn K ja "is_knowledge" "Chart.is_knowledge" (mth 44 5))
  (uG:MthIn K ja "is_goal" "Chart.is_goal" (mth 44 6))
  (yj:MthIn K ja "steps_from" "Chart.steps_from" (mth 44 7))
  (yv:MthIn K ja "together" "Chart.together" (mth 44 8))
  (Vi:PySem.W.nsIn K mainGlobals "len" = some none)
  (VS:PySem.W.nsIn K mainGlobals "range" = some none)
  (Vj:PySem.W.nsIn K mainGlobals "min" = some none)
  (ut:PySem.W.nsIn K mainGlobals "isinstance" = some none)
  (Vb:PySem.W.nsIn K mainGlobals "list" = some none)
  (Ji:PySem.W.nsIn K mainGlobals "reversed" = some none)
  (VT:PySem.W.nsIn K mainGlobals "tuple" = some none)
  (Vk:PySem.W.nsIn K mainGlobals "int" = some none)
  (Vc:PySem.W.nsIn K mainGlobals "bool" = some none)
  (Vd:PySem.W.nsIn K mainGlobals "dict" = some none)
  (Vl:PySem.W.nsIn K mainGlobals "zip" = some none)
  (Vm:PySem.W.nsIn K mainGlobals "set" = some none)
  (VJ:PySem.W.nsIn K mainGlobals "sorted" = some none)
  (JP:PySem.W.nsIn K mainGlobals "enumerate" = some none)
  (Vn:PySem.W.nsIn K mainGlobals "abs" = some none)
  (uu:PySem.W.nsIn K mainGlobals "ValueError" = some none):
  ∃fd:FuncData,(∀(s:Shared) (v:Value),BindsTo s fd ⟨[v],[]⟩ [("script",v)])/\∀base:Heap,K.In base->base.Ns mainGlobals mg->FnOk l.prog w K mg base CX0 60 fa fd ["script"] (spLaw K):=by
 have e:=hfa.symm.trans (PySem.W.mg_of X G a42)
 cases e
 have VL:=d0.fd (ps:=["condition","boxes","standing"]) X G
 have Vg:=d1.fd (ps:=["thing"]) X G
 obtain⟨f1,fd1,a1,F1⟩:=d1
 have E1:FunE K mg "names_in" f1 _ ["thing"]:=⟨PySem.W.mg_of X G a1,F1.kp,F1.binds (ps:=["thing"]) fun _ _ _ _ _ _=>len1 (fun _=>rfl)⟩
 have Jv:=d2.fd (ps:=["boxes","standing"]) X G
 obtain⟨f2,fd2,a2,F2⟩:=d2
 have E2:FunE K mg "values_by_name" f2 _ ["boxes","standing"]:=⟨PySem.W.mg_of X G a2,F2.kp,F2.binds (ps:=["boxes","standing"]) fun _ _ _ _ _ _=>len2 (fun _ _=>rfl)⟩
 have Vh:=d3.fd (ps:=["expression","values"]) X G
 obtain⟨f3,fd3,a3,F3⟩:=d3
 have E3:FunE K mg "worth_by" f3 _ ["expression","values"]:=⟨PySem.W.mg_of X G a3,F3.kp,F3.binds (ps:=["expression","values"]) fun _ _ _ _ _ _=>len2 (fun _ _=>rfl)⟩
 have JQ:=d4.fd (ps:=["condition","values"]) X G
 have JR:=d5.fd (ps:=["boxes","deeds","looks","begin","goal"]) X G
 have uv:=d6.fd (ps:=["world"]) X G
 have uw:=d7.fd (ps:=["things","name","kind"]) X G
 have ve:=d8.fd (ps:=["boxes"]) X G
 have uh:=d9.fd (ps:=["boxes","way","standing"]) X G
 have uV:=d10.fd (ps:=["deed"]) X G
 have JS:=d11.fd (ps:=["thing"]) X G
 have uH:=d12.fd (ps:=["boxes"]) X G
 have uI:=d13.fd (ps:=["names","kind"]) X G
 have uJ:=d14.fd (ps:=["name","price"]) X G
 have uW:=d15.fd (ps:=["deed_name","ways","names"]) X G
 have kz:=d16.fd (ps:=["name","names"]) X G
 have kf:=d17.fd (ps:=["thing","names"]) X G
 have uK:=d18.fd (ps:=["begin","boxes"]) X G
 have uX:=d19.fd (ps:=["world"]) X G
 have Jj:=d20.fd (ps:=["world","known"]) X G
 have Jq:=d21.fd (ps:=["world","known","name"]) X G
 have Jr:=d22.fd (ps:=["world","known","name"]) X G
 have yx:=d23.fd (ps:=["condition","boxes","known"]) X G
 have JT:=d24.fd (ps:=["things"]) X G
 have ux:=d25.fd (ps:=["known","other"]) X G
 have Js:=d26.fd (ps:=["knowns"]) X G
 have uy:=d27.fd (ps:=["world","row"]) X G
 have yy:=d28.fd (ps:=["world"]) X G
 have uL:=d29.fd (ps:=["steps","name"]) X G
 have uz:=d30.fd (ps:=["step"]) X G
 have JU:=d31.fd (ps:=["script"]) X G
 have JV:=d32.fd (ps:=["deck","many"]) X G
 have JA:=d33.fd (ps:=["deck","boxes"]) X G
 have JW:=d34.fd (ps:=["deck","boxes"]) X G
 have JB:=d35.fd (ps:=["deck"]) X G
 have JC:=d36.fd (ps:=["thing","values"]) X G
 have JD:=d37.fd (ps:=["thing","values"]) X G
 have JE:=d38.fd (ps:=["world"]) X G
 have ui:=d39.fd (ps:=["world","known","deed"]) X G
 have JF:=d40.fd (ps:=["world","row"]) X G
 have JX:=d41.fd (ps:=["world","row"]) X G
 have F42:=qOq (st:=top 65) l42 c42 k42
 have jz:Gi mg "LEAST_SIZE" 2:=⟨_,PySem.W.mg_of X G um⟩
 have jt:Gi mg "GREATEST_SIZE" 5:=⟨_,PySem.W.mg_of X G uF⟩
 have jx:Gi mg "LEAST_PRICE" 1:=⟨_,PySem.W.mg_of X G ue⟩
 have jh:Gs K mg "WORDS_OF_CONDITIONS" ["not","and","yes"]:=⟨_,PySem.W.mg_of X G vd,fun H=>.inr ⟨_,_,_,kr,kt,ky,(by show 3<=sizeLine;decide),.cons ⟨_,rfl⟩ (.cons ⟨_,rfl⟩ (.cons ⟨_,rfl⟩ (.nil)))⟩⟩
 have jd:=JO X G (fun _ _=>.base)
 have vm:=Jz X G jd.tail
 have yL:=Jm X G jd.tail
 have yq:=VA X G jd.tail
 have yr:=VB X G jd.tail
 have yb:=Jn X G jd.tail
 have yd:=Jo X G jd.tail
 have ye:=Jp X G jd.tail
 have jc:Cls K ja:=⟨VD,VE,VF,VG⟩
 have yp:Kind K ja chartF:=⟨jc,fun f hf=>by
  simp only[chartF,yYK,List.not_mem_nil,or_false] at hf
  rcases hf with rfl | rfl | rfl | rfl
  .exact uo
  .exact uq
  .exact uf
  .exact ug⟩
 have VM:=ur.mi (ps:=["self","world"]) X G VH VI VC
 have vf:=vo.md (ps:=["self","world","name"])
 have vg:=vp.md (ps:=["self","world","name"])
 have yk:=ym.md (ps:=["self","known"])
 have uM:=uU.md (ps:=["self","number"])
 have JY:=vq.md (ps:=["self","known"])
 have yz:=uG.md (ps:=["self","known"])
 have vt:=yj.md (ps:=["self","known"])
 have Jw:=yv.md (ps:=["self","costs"])
 have B:Bl mg:=⟨PySem.W.mg_none_of X G Vi,PySem.W.mg_none_of X G VS,PySem.W.mg_none_of X G Vj,PySem.W.mg_none_of X G ut,PySem.W.mg_none_of X G Vb,PySem.W.mg_none_of X G Ji,PySem.W.mg_none_of X G VT,PySem.W.mg_none_of X G Vk,PySem.W.mg_none_of X G Vc,PySem.W.mg_none_of X G Vd,PySem.W.mg_none_of X G Vl⟩
 have yl:mg "set" = none:=PySem.W.mg_none_of X G Vm
 have yn:mg "sorted" = none:=PySem.W.mg_none_of X G VJ
 have kg:mg "enumerate" = none:=PySem.W.mg_none_of X G JP
 have Jb:mg "abs" = none:=PySem.W.mg_none_of X G Vn
 have ke:mg "ValueError" = none:=PySem.W.mg_none_of X G uu
 refine⟨PySem.W.fnOf "law" "law" (xD (top 65)) (xC (top 65)) (xB (top 65)) .none kV42 dc42 pm42 an42 cd42 ct42,fun s v=>.of_eq rfl,fun base YK _=>?_⟩
 have JG:=Dn.mk (x := "values_by_name") ⟨_,_,qMl (P:=l.prog) (w:=w) (base:=base) F2 B,E2.mg,E2.kp,E2.bd⟩
 have GW:=qXm (P:=l.prog) (w:=w) (base:=base) F3 E3 12
 have D_wb:=Dn.mk (x := "worth_by") ⟨_,_,GW,E3.mg,E3.kp,E3.bd⟩
 have VU:=Dn.mk (x := "names_in") ⟨_,_,qEk (P:=l.prog) (w:=w) (base:=base) F1 E1 12,E1.mg,E1.kp,E1.bd⟩
 have jq:=qUb VL (qZd JQ D_wb 12) JG
 have VQ:=xWg (P:=l.prog) (w:=w) (base:=base) ve B
 have JZ:=qUj (P:=l.prog) (w:=w) (base:=base) JS B
 have VV:=qUw uJ JZ jx
 have uN:=qCz (P:=l.prog) (w:=w) (base:=base) kz
 have uZ:=qGk kf uN VU
 have uY:=qUk (P:=l.prog) (w:=w) (base:=base) uI B yl
 have VN:=qOw uH B uY JZ jz jt jh
 have Ve:=xJl uW B uY uN uZ
 have VW:=qUd uK VQ jq
 have VO:=qOf (P:=l.prog) (w:=w) (base:=base) uV B
 have VX:=qCx JR B VN uY VV uZ Ve VW VO
 have uO:=xJo (P:=l.prog) (w:=w) (base:=base) JV
 have kL:=qUa (P:=l.prog) (w:=w) (base:=base) uw
 have yo:=qOh uh B JG D_wb
 have RR:Refs45 K mg jf jy [yf,yt,yu,yg,yh,yi]:=⟨jd,vm,kn,kv,ko⟩
 have Ja:=qCj uv VQ
 have VY:=qUc uX Ja jq
 have Jt:=xYq yx jq
 have Vo:=xWh Jq kL Jt
 have D_bk:=qGb Jr B yl yn kL yo
 have JH:=qOv (P:=l.prog) (w:=w) (K:=K) (mg:=mg) (base:=base) ux
 have Jk:=qOi (P:=l.prog) (w:=w) (K:=K) (mg:=mg) (base:=base) yk
 have Ju:=qGe jc vf B Vo D_bk Jk
 have VZ:=qUe jc vt B JH (qOe (P:=l.prog) (w:=w) (K:=K) (mg:=mg) (base:=base) Js) (qOl (P:=l.prog) (w:=w) (K:=K) (mg:=mg) (base:=base) uM)
 have Va:=qUg jc VM B Ja (xYz (P:=l.prog) (w:=w) (K:=K) (mg:=mg) (base:=base) JT) (qGc Jj Jt) Jk Ju (xBz (P:=l.prog) (w:=w) (K:=K) (mg:=mg) (base:=base) vg)
 have uS:=qUx (P:=l.prog) (w:=w) (base:=base) uw (vm.own base YK)
 have Vp:=xWe jc yp uy uS (qGj (P:=l.prog) (w:=w) (K:=K) (mg:=mg) (base:=base) yy) VY (qOd uL (qOg (P:=l.prog) (w:=w) (K:=K) (mg:=mg) (base:=base) uz)) Va Jk VZ (qGd yz JH)
 have Vf:=xJm YK JX B ke RR yL yq yr yb yd ye Vp
 have VP:=qOa JB B uO (qUv JA B uO) (xJn JW B uO)
 have D_lw:=qWm (P:=l.prog) (w:=w) (K:=K) (mg:=mg) (base:=base) JC B 12
 have D_lh:=qWn JD B D_lw 12
 exact xVg F42 B (xYx (P:=l.prog) (w:=w) (K:=K) (mg:=mg) (base:=base) JU B kg Jb) uO VP VX Vf (qOb JF B (qOc JE B D_lh) (qGa ui B D_lh D_lw) D_lh)
theorem walk {l:PySem.W.OpenLaw}{q:Program}{loose:List Str}{XP:(Str->Option Value)->Heap->Prop}{YP:World->Heap->Prop}{d:DefRec}{K:Params->yZP}(hn:l.most=some 63)(hdf:d.params.defaults=[])
  (hY:∀(w:World) (h:Heap),YP w h->(K w.params).In h)
  (F:∀(w:World) (mg:Str->Option Value) (fa:Addr) (h:Heap),(K w.params).In h->h.Ns mainGlobals mg->mg d.name=some (.ref fa)->
   ∃fd:FuncData,(∀(s:Shared) (u:Value),BindsTo s fd ⟨[u],[]⟩ [("script",u)])/\∀base:Heap,(K w.params).In base->base.Ns mainGlobals mg->FnOk l.prog w (K w.params) mg base CX0 60 fa fd ["script"] (spLaw (K w.params))):
  PySem.W.WalkO q loose XP YP l.row.toRowW d [] (fun f vs=>PySem.call f vs):=
 L2.xXw (n:=63) (k:=60) (x := "script") (CX:=fun _=>CX0) (sp:=fun w=>spLaw (K w.params)) hn (by decide) hdf ⟨rfl,by decide,by decide⟩ hY F (fun _ _ a ns hl _ hS=>⟨a,ns,rfl,hS,hl,fun _=>rfl⟩) fun _ _ _ _ _ z=>z
end FP
open PySem PySem.W PyProof.Rows
set_option maxRecDepth 100000 in
set_option maxHeartbeats 0 in
theorem PySem.Challenge.cw_forkplan_k45_rows_that_work_holds : PySem.Challenge.rw_forkplan_k45_rows_that_work.Holds := by
 w_on
 refine PySem.W.holds_law FP.saidW fun said=>?_
 refine PySem.W.holds_open (q:=FP.qXz) (loose:=[]) (N:=7964) (YP:=InK FP.qAh) (XP:=XL FP.qXz [])
  (Xt:=fun s=>xlAt FP.qXz [] s && recOk (RowW.records (OpenRow.toRowW (PySem.W.OpenLaw.row PySem.Challenge.rw_forkplan_k45_rows_that_work))) s)
  (Yf:=Hook.obs FP.wH) (Ya:=Hook.val FP.wH) FP.xXd
  (Hook.of FP.wH) (Hook.keeps FP.wH) (fun s e=>xl_of s (Bool.and_eq_true_iff.mp e).1)
  XL.keeps (by rfl) (by rfl) (by rfl) (fun s e=>recFacts_of (Bool.and_eq_true_iff.mp e).2)
  (by rfl) (by first | assumption | wtm_at"d") (by wtm_at"d")
  ⟨rfl,rfl,rfl,rfl,rfl,by wtm_at"d"⟩ ?hw ?hc
 case hw=>w_witness2
 k_fill
 refine FP.walk (l:=PySem.Challenge.rw_forkplan_k45_rows_that_work) (K:=FP.qAh) rfl rfl (fun w h Y=>Y) ?F
 case F=>
  intro w mg fa h KX G hmg
  apply FP.xAq KX G hmg <;> first | (apply FP.DefIn.mk <;> k_is) | (apply FP.RefIn.mk <;> first | k_is | rfl | decide) | (apply FP.MthIn.mk <;> first | k_is | rfl | decide) | k_is | rfl | decide
