import PyProof.Rows.All
import Wide.All
import OpenK.AllK
import PySem.Challenge.RW_forkplan_k52_too_many_weighted
local macro_rules | `(tactic|wtm_at "d")=>`(tactic|decide +kernel)
set_option maxHeartbeats 4000000
set_option Elab.async false
set_option linter.all false
set_option maxRecDepth 100000
set_option maxHeartbeats 0 in
theorem FP.xb:PySem.Challenge.rw_forkplan_k52_too_many_weighted.wellSaid=true:=by wtm_at"d"
open List renaming getElem?_eq_getElem -> aH, getElem?_eq_some_iff -> aN, length_map -> av, size_toArray -> dO, mem_of_getElem? -> bw, length_take -> cJ, mem_cons_self -> aW, mem_cons_of_mem -> yYH, length_append -> bK, take_length -> dm, mem_cons -> aE, mem_singleton -> bB, take_add_one -> c5, mem_append_right -> fE, getElem?_map -> bb, mem_map -> aZ, append_assoc -> lS, mem_filter -> tO, mem_append -> fh, length_cons -> cP, length_nil -> gW, nodup_append -> rh, map_append -> cu
open PySem renaming wpAny_bind -> yYX, wpAny_pure -> yYY
open PySem.Heap renaming get?_push_of_some -> yYZ, lt_size -> aG, get?_push_size -> bg, size_push -> gj
open Nat renaming le_refl -> yZD, lt_of_lt_of_le -> yZE, ne_of_lt -> yZF, zero_le -> yZG, ne_of_gt -> yZH, lt_of_le_of_lt -> pS, le_trans -> yZJ
open Bool renaming false_eq_true -> bL, false_ne_true -> cj
open Array renaming length_toList -> eP, getElem?_toList -> lT
open Option renaming map_some -> nV
open PySem.W renaming Frag -> aq
open PySem.Str renaming ofString -> Yb
open PySem renaming sizeLine -> Yc, mainGlobals -> Yd
open List renaming cons_ne_nil -> Ye, replicate -> Yg, getD_eq_getElem?_getD -> Yh, getElem?_append_right -> Yi, length_replicate -> Yj, take_of_length_le -> Yk, map_cons -> Yl, mem_append_left -> Ym, map_map -> Yn, length_drop -> Yo, not_mem_nil -> Yp, append_nil -> Yq, getElem?_append_left -> Yr, mem_of_mem_take -> Ys, filterMap_cons -> Yt, replicate_succ -> Yu, take_sublist -> Yv, range_succ -> Yw
open PySem.F renaming plainAttrs_list -> Yx, slot_list_append -> Yy, type_list_append -> Yz
open PySem.W renaming nsIn -> YA, mg_of -> YB, mg_none_of -> YC, kia_one -> YD, fnOf -> YE
open Nat renaming pow_le_pow_right -> YF
open Int renaming emod_lt_of_pos -> YG, emod_nonneg -> YH
open Bool renaming eq_iff_iff -> YI
open Option renaming map_eq_some_iff -> YJ
noncomputable section
namespace L2
open PySem
def xD (s:Stmt):Arguments:=match s with
 | .FunctionDef _ a _ _ _ _ _ _ _ _=>a
 | _=>{ posonlyargs:=[],args:=[],vararg:=none,kwonlyargs:=[],kw_defaults:=[],kwarg:=none,defaults:=[] }
def xC (s:Stmt):List Stmt:=match s with
 | .FunctionDef _ _ b _ _ _ _ _ _ _=>b
 | _=>[]
def xB (s:Stmt):Scope:=match s with
 | .FunctionDef _ _ _ _ _ _ sc _ _ _=>sc
 | _=>{ kind:=.function,names:=[],isGenerator:=false,isCoroutine:=false }
end L2
namespace FP
open PySem
def top (i:Nat):Stmt:=PySem.Challenge.pw_forkplan_k52_too_many_weighted.main.body.getD i (.Pass ⟨0,0,0,0⟩)
abbrev oF (x:String)(i:Nat)(m:String)(n c:Nat):Obj:=Obj.mk (.type "function") none (Data.func (YE (Yb x) (Yb x) (L2.xD (top i)) (L2.xC (top i)) (L2.xB (top i)) .none .none .none (.str (Yb m) n) none (.ref c) .none)) #[]
abbrev oL (x:String)(i c:Nat):Obj:=oF x i "law_forkplan_k52_too_many_weighted" 699 c
abbrev oG (x:String)(i:Nat):Obj:=Obj.mk .none none (Data.func { YE (Yb x) (Yb x) (L2.xD (top i)) (L2.xC (top i)) (L2.xB (top i)) .none .none .none .none none .none .none with globals:=0 }) #[]
def bp (i j:Nat):Stmt:=match top i with | .ClassDef _ _ _ b _ _ _ _ _ _ _=>b.getD j (.Pass ⟨0,0,0,0⟩) | s=>s
abbrev oM (x q:String)(i j:Nat)(m:String)(n c:Nat):Obj:=Obj.mk (.type "function") none (Data.func (YE (Yb x) (Yb q) (L2.xD (bp i j)) (L2.xC (bp i j)) (L2.xB (bp i j)) .none .none .none (.str (Yb m) n) none (.ref c) .none)) #[]
abbrev oW (x q:String)(i j:Nat):Obj:=Obj.mk .none none (Data.func { YE (Yb x) (Yb q) (L2.xD (bp i j)) (L2.xC (bp i j)) (L2.xB (bp i j)) .none .none .none .none none .none .none with globals:=0 }) #[]
abbrev oE (P:Params)(k:String)(n:Nat)(v:Value):DictEntry:=DictEntry.mk (PyData.keyHash P (Yb k)) (.str (Yb k) n) v
abbrev oS (x:String)(n:Nat):Value:=.str (Yb x) n
abbrev oR (n:Nat):Value:=.ref n
abbrev oI (n:Int):Value:=.int n 0
abbrev oN:Obj:=Obj.mk .none none (Data.fields #[]) #[]
abbrev oT (x:Array Value):Obj:=Obj.mk (.type "tuple") none (Data.seq x 0) #[]
abbrev oC (x:Array Value):Obj:=Obj.mk (.type "code") none (Data.fields x) #[]
abbrev oK (x y:String)(a b c:Nat)(L n f:Int)(r q:Nat)(v w u z:Value)(t:Int)(t2:Nat):Obj:=oC #[(oS x a),(oS y b),(oS "/claim/cut.py" c),(oI L),(oI n),(oI 0),(oI 0),(oI f),(oR r),(.bool Bool.true),(oI 181),(oR q),v,w,u,z,(oI t),(oI L),(oS "/claim/cut.py" t2)]
open PySem.W
def Y0(a0)(a1)(a2)(a3)(a4)(a5)(a6)(a7)(a8):=Obj.mk (.type "type") none (Data.cls (ClassData.mk (Yb a0) [(oR 57)] [(oR a1),(oR 57),(.type "ValueError"),(.type "Exception"),(.type "BaseException"),(.type "object")] a2 (Yb a3) Bool.true [] [] Bool.false none Bool.false)) #[(some (oR a4)),none,(some (oS a5 a6)),(some (oS a7 a8)),(some (.builtin "ValueError.__new__")),(some (.bool Bool.true))]
def Y1(a0)(a1)(a2)(a3)(a4)(a5)(a6)(a7)(a8)(a9)(E9):=oC #[(oS a0 a1),(oS a2 a3),(oS "/claim/cut.py" a4),(oI a5),(oI 0),(oI 0),(oI 0),(oI 0),(oR a6),(.bool Bool.false),(oI 181),(oR a7),.none,.none,.none,.none,(oI a8),(oI a9),(oS "/claim/cut.py" E9)]
def Y2(a0)(a1)(a2)(a3):=Obj.mk (.type "frame") none Data.plain #[(some (oR a0)),(some (oR 3)),(some (oR a1)),none,(some (oS a2 a3)),none,(some (oR 0))]
def Y3 (P:Params)(a0)(a1)(a2)(a3)(a4)(a5)(a6)(a7)(a8):=Obj.mk (.type "dict") none (Data.dict #[(oE P "__module__" a0 (oS "forkplan.errors" 235)),(oE P "__qualname__" a1 (oS a2 a3)),(oE P "__firstlineno__" a4 (.int a5 a6)),(oE P "__static_attributes__" a7 (oR a8))] 4) #[]
def Y4 (P:Params)(a0)(a1)(a2)(a3)(a4)(a5)(a6):=Obj.mk (.type "dict") none (Data.dict #[(oE P "__module__" a0 (oS "forkplan.errors" 235)),(oE P "__firstlineno__" a1 (.int a2 a3)),(oE P "__static_attributes__" a4 (oR a5)),(oE P "__doc__" a6 .none)] 2) #[]
def Y5:=Obj.mk (.type "builtin_function_or_method") none (Data.fields #[(.builtin "type.__prepare__"),(.type "type")]) #[]
def Y6(a0)(a1)(a2):=Obj.mk (.type "super") none (Data.fields #[(oR a0),(oR a1),(oR a2)]) #[]
def Y7(a0):=Obj.mk (.type "builtin_function_or_method") none (Data.fields #[(.builtin "object.__init_subclass__"),(oR a0)]) #[]
def Z3 (P:Params):=Obj.mk (.type "dict") none (Data.dict #[(oE P "__name__" 165 (oS "law_forkplan_k52_too_many_weighted" 699)),(oE P "__doc__" 166 .none),(oE P "__package__" 167 .none),(oE P "__loader__" 168 (.builtin "__main__.__loader__#opaque")),(oE P "__spec__" 169 .none),(oE P "__annotations__" 170 (oR 6)),(oE P "__builtins__" 171 (oR 4)),(oE P "__file__" 173 (oS "/claim/cut.py" 172)),(oE P "__cached__" 174 .none),(oE P "worth" 197 (oR 21)),(oE P "holds" 206 (oR 28)),(oE P "values_by_name" 212 (oR 33)),(oE P "worth_by" 223 (oR 40)),(oE P "holds_by" 234 (oR 47)),(oE P "ForkError" 254 (oR 57)),(oE P "NoWorld" 270 (oR 70)),(oE P "NoName" 286 (oR 82)),(oE P "NoPlan" 302 (oR 94)),(oE P "NotSure" 318 (oR 106)),(oE P "NotPlain" 334 (oR 118)),(oE P "NoWeights" 350 (oR 130)),(oE P "TooMany" 366 (oR 142)),(oE P "NoText" 382 (oR 154)),(oE P "NoOrder" 398 (oR 166)),(oE P "standings" 407 (oR 175)),(oE P "shown" 416 (oR 182)),(oE P "named" 426 (oR 189)),(oE P "standings_of_boxes" 432 (oR 194)),(oE P "behind_way" 438 (oR 199)),(oE P "is_whole" 445 (oR 206)),(oE P "first_known" 453 (oR 211)),(oE P "at_goal" 461 (oR 218)),(oE P "may_do" 470 (oR 225)),(oE P "behind" 476 (oR 230)),(oE P "holds_at_each" 486 (oR 237)),(oE P "WeightedChart" 561 (oR 286)),(oE P "moved" 573 (oR 297)),(oE P "parted" 579 (oR 302)),(oE P "MOST_KNOWLEDGES" 583 (.int 2000 582)),(oE P "steps_of_all" 600 (oR 309)),(oE P "best_steps" 606 (oR 314)),(oE P "sources_of_all" 612 (oR 319)),(oE P "put_in" 623 (oR 326)),(oE P "plan_by" 629 (oR 331)),(oE P "shared_end" 637 (oR 338)),(oE P "node_of" 645 (oR 345)),(oE P "LEAST_WEIGHT" 649 (.int 1 648)),(oE P "least_mean" 660 (oR 352)),(oE P "refuse_ways" 671 (oR 359)),(oE P "refuse_weights" 680 (oR 366)),(oE P "lowest_terms" 689 (oR 373)),(oE P "greatest_divisor" 698 (oR 380)),(oE P "_law_cell_at" 708 (oR 387)),(oE P "_law_world" 724 (oR 394)),(oE P "_law_other" 731 (oR 401)),(oE P "law" 746 (oR 408))] 56) #[]
def Ki:=oK "worth" "worth" 189 190 191 2 3 3 15 16 .none (oR 17) (oR 18) (oR 19) 195 196
def Kj:=oF "worth" 1 "forkplan.exprs" 187 20
def Kk:=oK "holds" "holds" 198 199 200 4 3 3 22 23 .none (oR 24) (oR 25) (oR 26) 204 205
def Kl:=oF "holds" 2 "forkplan.exprs" 187 27
def Km:=oK "values_by_name" "values_by_name" 207 208 209 6 2 3 29 30 .none .none .none (oR 31) 210 211
def Kn:=oF "values_by_name" 3 "forkplan.exprs" 187 32
def Ko:=oK "worth_by" "worth_by" 213 214 215 8 2 3 34 35 .none (oR 36) (oR 37) (oR 38) 221 222
def Kp:=oF "worth_by" 4 "forkplan.exprs" 187 39
def Kq:=oK "holds_by" "holds_by" 224 225 226 17 2 3 41 42 .none (oR 43) (oR 44) (oR 45) 232 233
def Kr:=oF "holds_by" 5 "forkplan.exprs" 187 46
def Ks:=oT #[(.type "ValueError")]
def Kt (P:Params):=Obj.mk (.type "dict") none (Data.dict #[(oE P "__module__" 244 (oS "forkplan.errors" 235)),(oE P "__firstlineno__" 248 (.int 29 247)),(oE P "__static_attributes__" 249 (oR 55)),(oE P "__weakref__" 251 (oR 58)),(oE P "__doc__" 252 .none)] 3) #[]
def Ku:=Obj.mk (.type "type") none (Data.cls (ClassData.mk (Yb "ForkError") [(.type "ValueError")] [(oR 57),(.type "ValueError"),(.type "Exception"),(.type "BaseException"),(.type "object")] 56 (Yb "ForkError") Bool.true [] [(oR 70),(oR 82),(oR 94),(oR 106),(oR 118),(oR 130),(oR 142),(oR 154),(oR 166)] Bool.false none Bool.false)) #[(some (oR 48)),none,(some (oS "ForkError" 237)),(some (oS "ForkError" 245)),(some (.builtin "ValueError.__new__")),(some (.bool Bool.true))]
def Kv:=Obj.mk (.type "getset_descriptor") none (Data.fields #[(oS "__weakref__" 250),(oR 57),(.builtin "ExceptionGroup.__weakref__"),.none]) #[]
def Kw (P:Params):=Y4 P 262 266 31 265 267 68 268
def Kx:=Y0 "NoWorld" 70 69 "NoWorld" 61 "NoWorld" 255 "NoWorld" 263
def Ky (P:Params):=Y4 P 278 282 33 281 283 80 284
def Kz:=Y0 "NoName" 82 81 "NoName" 73 "NoName" 271 "NoName" 279
def KA (P:Params):=Y4 P 294 298 35 297 299 92 300
def KC:=Y0 "NoPlan" 94 93 "NoPlan" 85 "NoPlan" 287 "NoPlan" 295
def xc (P:Params):=Y4 P 310 314 37 313 315 104 316
def xf:=Y0 "NotSure" 106 105 "NotSure" 97 "NotSure" 303 "NotSure" 311
def xg (P:Params):=Y4 P 326 330 39 329 331 116 332
def xh:=Y0 "NotPlain" 118 117 "NotPlain" 109 "NotPlain" 319 "NotPlain" 327
def xi (P:Params):=Y4 P 342 346 41 345 347 128 348
def xj:=Y0 "NoWeights" 130 129 "NoWeights" 121 "NoWeights" 335 "NoWeights" 343
def xm (P:Params):=Y4 P 358 362 43 361 363 140 364
def xn:=Y0 "TooMany" 142 141 "TooMany" 133 "TooMany" 351 "TooMany" 359
def xo (P:Params):=Y4 P 374 378 45 377 379 152 380
def xp:=Y0 "NoText" 154 153 "NoText" 145 "NoText" 367 "NoText" 375
def xq (P:Params):=Y4 P 390 394 47 393 395 164 396
def xt:=Y0 "NoOrder" 166 165 "NoOrder" 157 "NoOrder" 383 "NoOrder" 391
def xu:=oK "standings" "standings" 401 402 403 50 1 3 169 170 .none (oR 171) (oR 172) (oR 173) 405 406
def xv:=oF "standings" 18 "forkplan.worlds" 399 174
def xw:=oK "shown" "shown" 408 409 410 52 3 3 176 177 .none (oR 178) (oR 179) (oR 180) 414 415
def xx:=oF "shown" 19 "forkplan.worlds" 399 181
def xy:=oK "named" "named" 417 418 419 54 3 3 183 184 .none (oR 185) (oR 186) (oR 187) 424 425
def x3:=oF "named" 20 "forkplan.worlds" 399 188
def x4:=oK "standings_of_boxes" "standings_of_boxes" 427 428 429 59 1 3 190 191 .none .none .none (oR 192) 430 431
def x8:=oF "standings_of_boxes" 21 "forkplan.worlds" 399 193
def x9:=oK "behind_way" "behind_way" 433 434 435 67 3 3 195 196 .none .none .none (oR 197) 436 437
def x':=oF "behind_way" 22 "forkplan.worlds" 399 198
def y0:=oK "is_whole" "is_whole" 439 440 441 74 1 3 200 201 .none (oR 202) (oR 203) (oR 204) 443 444
def y3:=oF "is_whole" 23 "forkplan.worlds" 399 205
def y4:=oK "first_known" "first_known" 448 449 450 77 1 3 207 208 .none .none .none (oR 209) 451 452
def za:=oF "first_known" 25 "forkplan.known" 446 210
def zb:=oK "at_goal" "at_goal" 454 455 456 79 2 3 212 213 .none (oR 214) (oR 215) (oR 216) 459 460
def zc:=oF "at_goal" 26 "forkplan.known" 446 217
def zd:=oK "may_do" "may_do" 462 463 464 81 3 3 219 220 .none (oR 221) (oR 222) (oR 223) 468 469
def ze:=oF "may_do" 27 "forkplan.known" 446 224
def zg:=oK "behind" "behind" 471 472 473 83 3 3 226 227 .none .none .none (oR 228) 474 475
def zi:=oF "behind" 28 "forkplan.known" 446 229
def zj:=oK "holds_at_each" "holds_at_each" 477 478 479 89 3 3 231 232 .none (oR 233) (oR 234) (oR 235) 484 485
def zk:=oF "holds_at_each" 29 "forkplan.known" 446 236
def zl:=oK "__init__" "WeightedChart.__init__" 501 502 503 97 2 3 245 246 .none .none .none (oR 247) 504 505
def zm:=oM "__init__" "WeightedChart.__init__" 31 0 "forkplan.charts" 487 248
def zq:=oK "charted_deed" "WeightedChart.charted_deed" 507 508 509 106 3 3 250 251 .none .none .none (oR 252) 510 511
def zt:=oM "charted_deed" "WeightedChart.charted_deed" 31 1 "forkplan.charts" 487 253
def zv:=oK "number_of" "WeightedChart.number_of" 513 514 515 111 2 3 255 256 .none (oR 257) (oR 258) (oR 259) 519 520
def zw:=oM "number_of" "WeightedChart.number_of" 31 2 "forkplan.charts" 487 260
def zx:=oK "first_number" "WeightedChart.first_number" 522 523 524 117 3 3 262 263 .none .none .none (oR 264) 525 526
def zL:=oM "first_number" "WeightedChart.first_number" 31 3 "forkplan.charts" 487 265
def Aa:=oK "is_goal" "WeightedChart.is_goal" 528 529 530 120 2 3 267 268 .none .none .none (oR 269) 531 532
def Ab:=oM "is_goal" "WeightedChart.is_goal" 31 4 "forkplan.charts" 487 270
def Ac:=oK "steps_from" "WeightedChart.steps_from" 534 535 536 123 2 3 272 273 .none .none .none (oR 274) 537 538
def Ad:=oM "steps_from" "WeightedChart.steps_from" 31 5 "forkplan.charts" 487 275
def Ae:=oK "together" "WeightedChart.together" 540 541 542 136 2 3 277 278 .none (oR 279) (oR 280) (oR 281) 545 546
def Af:=oM "together" "WeightedChart.together" 31 6 "forkplan.charts" 487 282
def Ag:=oT #[(oS "deeds" 548),(oS "goal" 549),(oS "looks" 550),(oS "numbers" 551),(oS "places" 552),(oS "rows" 553)]
def Ah (P:Params):=Obj.mk (.type "dict") none (Data.dict #[(oE P "__module__" 496 (oS "forkplan.charts" 487)),(oE P "__firstlineno__" 500 (.int 95 499)),(oE P "__init__" 506 (oR 249)),(oE P "charted_deed" 512 (oR 254)),(oE P "number_of" 521 (oR 261)),(oE P "first_number" 527 (oR 266)),(oE P "is_goal" 533 (oR 271)),(oE P "steps_from" 539 (oR 276)),(oE P "together" 547 (oR 283)),(oE P "__static_attributes__" 554 (oR 284)),(oE P "__dict__" 556 (oR 287)),(oE P "__weakref__" 558 (oR 288)),(oE P "__doc__" 559 .none)] 4) #[]
def Ai:=Obj.mk (.type "type") none (Data.cls (ClassData.mk (Yb "WeightedChart") [(.type "object")] [(oR 286),(.type "object")] 285 (Yb "WeightedChart") Bool.true [] [] Bool.false none Bool.false)) #[none,none,(some (oS "WeightedChart" 489)),(some (oS "WeightedChart" 497)),(some (.builtin "object.__new__")),(some (.bool Bool.true))]
def Aj:=Obj.mk (.type "getset_descriptor") none (Data.fields #[(oS "__dict__" 555),(oR 286),(.builtin "function.__dict__"),(.builtin "function.__dict__#set")]) #[]
def Ak:=Obj.mk (.type "getset_descriptor") none (Data.fields #[(oS "__weakref__" 557),(oR 286),(.builtin "ExceptionGroup.__weakref__"),.none]) #[]
def Am:=oK "moved" "moved" 562 563 564 138 2 3 291 292 .none (oR 293) (oR 294) (oR 295) 571 572
def An:=oF "moved" 32 "forkplan.charts" 487 296
def Ao:=oK "parted" "parted" 574 575 576 144 2 3 298 299 .none .none .none (oR 300) 577 578
def Ap:=oF "parted" 33 "forkplan.charts" 487 301
def Aq:=oK "steps_of_all" "steps_of_all" 584 585 586 151 2 3 303 304 .none (oR 305) (oR 306) (oR 307) 598 599
def Ar:=oF "steps_of_all" 36 "forkplan.find" 580 308
def As:=oK "best_steps" "best_steps" 601 602 603 166 2 3 310 311 .none .none .none (oR 312) 604 605
def Au:=oF "best_steps" 37 "forkplan.find" 580 313
def Av:=oK "sources_of_all" "sources_of_all" 607 608 609 183 1 3 315 316 .none .none .none (oR 317) 610 611
def Aw:=oF "sources_of_all" 38 "forkplan.find" 580 318
def Ax:=oK "put_in" "put_in" 613 614 615 190 2 3 320 321 .none (oR 322) (oR 323) (oR 324) 621 622
def Ay:=oF "put_in" 39 "forkplan.find" 580 325
def Az:=oK "plan_by" "plan_by" 624 625 626 200 3 3 327 328 .none .none .none (oR 329) 627 628
def AA:=oF "plan_by" 40 "forkplan.find" 580 330
def AB:=oK "shared_end" "shared_end" 630 631 632 217 2 3 332 333 .none (oR 334) (oR 335) (oR 336) 635 636
def AD:=oF "shared_end" 41 "forkplan.find" 580 337
def AE:=oK "node_of" "node_of" 638 639 640 219 2 3 339 340 .none (oR 341) (oR 342) (oR 343) 643 644
def AF:=oF "node_of" 42 "forkplan.find" 580 344
def AG:=oK "least_mean" "least_mean" 650 651 652 225 2 3 346 347 .none (oR 348) (oR 349) (oR 350) 658 659
def AH:=oF "least_mean" 45 "forkplan.means" 646 351
def AI:=oK "refuse_ways" "refuse_ways" 661 662 663 234 1 3 353 354 .none (oR 355) (oR 356) (oR 357) 669 670
def AJ:=oF "refuse_ways" 46 "forkplan.means" 646 358
def AK:=oK "refuse_weights" "refuse_weights" 672 673 674 238 2 3 360 361 .none (oR 362) (oR 363) (oR 364) 678 679
def AL:=oF "refuse_weights" 47 "forkplan.means" 646 365
def AM:=oK "lowest_terms" "lowest_terms" 681 682 683 244 2 3 367 368 .none (oR 369) (oR 370) (oR 371) 687 688
def AN:=oF "lowest_terms" 48 "forkplan.means" 646 372
def AO:=oK "greatest_divisor" "greatest_divisor" 690 691 692 247 2 3 374 375 .none (oR 376) (oR 377) (oR 378) 696 697
def AQ:=oF "greatest_divisor" 49 "forkplan.means" 646 379
def AR:=oK "_law_cell_at" "_law_cell_at" 701 702 703 254 2 3 381 382 .none (oR 383) (oR 384) (oR 385) 706 707
def AS:=oK "_law_world" "_law_world" 709 710 711 258 2 3 388 389 .none (oR 390) (oR 391) (oR 392) 722 723
def AU:=oK "_law_other" "_law_other" 725 726 727 273 1 3 395 396 .none (oR 397) (oR 398) (oR 399) 729 730
def AV:=oK "law" "law" 732 733 734 279 1 3 402 403 .none (oR 404) (oR 405) (oR 406) 744 745
def KD (P:Params):List Obj:=[boot_o_0 P,
boot_o_1 P,
boot_o_2 P,
Z3 P,
boot_o_4 P,
boot_o_5 P,
boot_o_6 P,
boot_o_7 P,
boot_o_8 P,
boot_o_9 P,
boot_o_10 P,
oT #[],
Obj.mk .none none (Data.fields #[(oI 2),(oI 0),(oR 20),(oI 4),(oI 0),(oR 27),(oI 6),(oI 0),(oR 32),(oI 8),(oI 0),(oR 39),(oI 17),(oI 0),(oR 46),(oI 29),(oI 0),(oR 53),(oI 31),(oI 0),(oR 66),(oI 33),(oI 0),(oR 78),(oI 35),(oI 0),(oR 90),(oI 37),(oI 0),(oR 102),(oI 39),(oI 0),(oR 114),(oI 41),(oI 0),(oR 126),(oI 43),(oI 0),(oR 138),(oI 45),(oI 0),(oR 150),(oI 47),(oI 0),(oR 162),(oI 50),(oI 0),(oR 174),(oI 52),(oI 0),(oR 181),(oI 54),(oI 0),(oR 188),(oI 59),(oI 0),(oR 193),(oI 67),(oI 0),(oR 198),(oI 74),(oI 0),(oR 205),(oI 77),(oI 0),(oR 210),(oI 79),(oI 0),(oR 217),(oI 81),(oI 0),(oR 224),(oI 83),(oI 0),(oR 229),(oI 89),(oI 0),(oR 236),(oI 95),(oI 0),(oR 243),(oI 138),(oI 0),(oR 296),(oI 144),(oI 0),(oR 301),(oI 151),(oI 0),(oR 308),(oI 166),(oI 0),(oR 313),(oI 183),(oI 0),(oR 318),(oI 190),(oI 0),(oR 325),(oI 200),(oI 0),(oR 330),(oI 217),(oI 0),(oR 337),(oI 219),(oI 0),(oR 344),(oI 225),(oI 0),(oR 351),(oI 234),(oI 0),(oR 358),(oI 238),(oI 0),(oR 365),(oI 244),(oI 0),(oR 372),(oI 247),(oI 0),(oR 379),(oI 254),(oI 0),(oR 386),(oI 258),(oI 0),(oR 393),(oI 273),(oI 0),(oR 400),(oI 279),(oI 0),(oR 407)]) #[],
Y1 "<module>" 182 "<module>" 183 184 1 11 12 185 1 186,
Y2 13 3 "__main__" 164,
oT #[],
oN,
oT #[(oS "expression" 192),(oS "boxes" 193),(oS "standing" 194)],
oT #[],
oG "worth" 1,
Ki,
Kj,
oT #[],
oN,
oT #[(oS "condition" 201),(oS "boxes" 202),(oS "standing" 203)],
oT #[],
oG "holds" 2,
Kk,
Kl,
oT #[],
oN,
oG "values_by_name" 3,
Km,
Kn,
oT #[],
oN,
oT #[(oS "expression" 216),(oS "values" 217),(oS "kind" 218),(oS "one" 219),(oS "other" 220)],
oT #[],
oG "worth_by" 4,
Ko,
Kp,
oT #[],
oN,
oT #[(oS "condition" 227),(oS "values" 228),(oS "kind" 229),(oS "one" 230),(oS "other" 231)],
oT #[],
oG "holds_by" 5,
Kq,
Kr,
Ks,
Y5,
Y3 P 244 246 "ForkError" 245 248 29 247 249 55,
oT #[],
oN,
Y1 "ForkError" 239 "ForkError" 240 241 29 51 52 242 29 243,
Y2 53 50 "forkplan.errors" 235,
oT #[],
Kt P,
Ku,
Kv,
Y6 57 57 57,
Y7 57,
oT #[(oR 57)],
Y5,
Y3 P 262 264 "NoWorld" 263 266 31 265 267 68,
oT #[],
oN,
Y1 "NoWorld" 257 "NoWorld" 258 259 31 64 65 260 31 261,
Y2 66 63 "forkplan.errors" 235,
oT #[],
Kw P,
Kx,
Y6 70 70 70,
Y7 70,
oT #[(oR 57)],
Y5,
Y3 P 278 280 "NoName" 279 282 33 281 283 80,
oT #[],
oN,
Y1 "NoName" 273 "NoName" 274 275 33 76 77 276 33 277,
Y2 78 75 "forkplan.errors" 235,
oT #[],
Ky P,
Kz,
Y6 82 82 82,
Y7 82,
oT #[(oR 57)],
Y5,
Y3 P 294 296 "NoPlan" 295 298 35 297 299 92,
oT #[],
oN,
Y1 "NoPlan" 289 "NoPlan" 290 291 35 88 89 292 35 293,
Y2 90 87 "forkplan.errors" 235,
oT #[],
KA P,
KC,
Y6 94 94 94,
Y7 94,
oT #[(oR 57)],
Y5,
Y3 P 310 312 "NotSure" 311 314 37 313 315 104,
oT #[],
oN,
Y1 "NotSure" 305 "NotSure" 306 307 37 100 101 308 37 309,
Y2 102 99 "forkplan.errors" 235,
oT #[],
xc P,
xf,
Y6 106 106 106,
Y7 106,
oT #[(oR 57)],
Y5,
Y3 P 326 328 "NotPlain" 327 330 39 329 331 116,
oT #[],
oN,
Y1 "NotPlain" 321 "NotPlain" 322 323 39 112 113 324 39 325,
Y2 114 111 "forkplan.errors" 235,
oT #[],
xg P,
xh,
Y6 118 118 118,
Y7 118,
oT #[(oR 57)],
Y5,
Y3 P 342 344 "NoWeights" 343 346 41 345 347 128,
oT #[],
oN,
Y1 "NoWeights" 337 "NoWeights" 338 339 41 124 125 340 41 341,
Y2 126 123 "forkplan.errors" 235,
oT #[],
xi P,
xj,
Y6 130 130 130,
Y7 130,
oT #[(oR 57)],
Y5,
Y3 P 358 360 "TooMany" 359 362 43 361 363 140,
oT #[],
oN,
Y1 "TooMany" 353 "TooMany" 354 355 43 136 137 356 43 357,
Y2 138 135 "forkplan.errors" 235,
oT #[],
xm P,
xn,
Y6 142 142 142,
Y7 142,
oT #[(oR 57)],
Y5,
Y3 P 374 376 "NoText" 375 378 45 377 379 152,
oT #[],
oN,
Y1 "NoText" 369 "NoText" 370 371 45 148 149 372 45 373,
Y2 150 147 "forkplan.errors" 235,
oT #[],
xo P,
xp,
Y6 154 154 154,
Y7 154,
oT #[(oR 57)],
Y5,
Y3 P 390 392 "NoOrder" 391 394 47 393 395 164,
oT #[],
oN,
Y1 "NoOrder" 385 "NoOrder" 386 387 47 160 161 388 47 389,
Y2 162 159 "forkplan.errors" 235,
oT #[],
xq P,
xt,
Y6 166 166 166,
Y7 166,
oT #[],
oN,
oT #[(oS "world" 404)],
oT #[],
oG "standings" 18,
xu,
xv,
oT #[],
oN,
oT #[(oS "world" 411),(oS "name" 412),(oS "standing" 413)],
oT #[],
oG "shown" 19,
xw,
xx,
oT #[],
oN,
oT #[(oS "things" 420),(oS "name" 421),(oS "kind" 422),(oS "thing" 423)],
oT #[],
oG "named" 20,
xy,
x3,
oT #[],
oN,
oG "standings_of_boxes" 21,
x4,
x8,
oT #[],
oN,
oG "behind_way" 22,
x9,
x',
oT #[],
oN,
oT #[(oS "thing" 442)],
oT #[],
oG "is_whole" 23,
y0,
y3,
oT #[],
oN,
oG "first_known" 25,
y4,
za,
oT #[],
oN,
oT #[(oS "world" 457),(oS "known" 458)],
oT #[],
oG "at_goal" 26,
zb,
zc,
oT #[],
oN,
oT #[(oS "world" 465),(oS "known" 466),(oS "name" 467)],
oT #[],
oG "may_do" 27,
zd,
ze,
oT #[],
oN,
oG "behind" 28,
zg,
zi,
oT #[],
oN,
oT #[(oS "condition" 480),(oS "boxes" 481),(oS "known" 482),(oS "standing" 483)],
oT #[],
oG "holds_at_each" 29,
zj,
zk,
oT #[],
Y5,
Obj.mk (.type "dict") none (Data.dict #[(oE P "__module__" 496 (oS "forkplan.charts" 487)),(oE P "__qualname__" 498 (oS "WeightedChart" 497)),(oE P "__firstlineno__" 500 (.int 95 499)),(oE P "__init__" 506 (oR 249)),(oE P "charted_deed" 512 (oR 254)),(oE P "number_of" 521 (oR 261)),(oE P "first_number" 527 (oR 266)),(oE P "is_goal" 533 (oR 271)),(oE P "steps_from" 539 (oR 276)),(oE P "together" 547 (oR 283)),(oE P "__static_attributes__" 554 (oR 284))] 11) #[],
oT #[],
Obj.mk .none none (Data.fields #[(oI 97),(oI 4),(oR 248),(oI 106),(oI 4),(oR 253),(oI 111),(oI 4),(oR 260),(oI 117),(oI 4),(oR 265),(oI 120),(oI 4),(oR 270),(oI 123),(oI 4),(oR 275),(oI 136),(oI 4),(oR 282)]) #[],
Y1 "WeightedChart" 491 "WeightedChart" 492 493 95 241 242 494 95 495,
Y2 243 240 "forkplan.charts" 487,
oT #[],
oN,
oW "__init__" "WeightedChart.__init__" 31 0,
zl,
zm,
oT #[],
oN,
oW "charted_deed" "WeightedChart.charted_deed" 31 1,
zq,
zt,
oT #[],
oN,
oT #[(oS "self" 516),(oS "row" 517),(oS "number" 518)],
oT #[],
oW "number_of" "WeightedChart.number_of" 31 2,
zv,
zw,
oT #[],
oN,
oW "first_number" "WeightedChart.first_number" 31 3,
zx,
zL,
oT #[],
oN,
oW "is_goal" "WeightedChart.is_goal" 31 4,
Aa,
Ab,
oT #[],
oN,
oW "steps_from" "WeightedChart.steps_from" 31 5,
Ac,
Ad,
oT #[],
oN,
oT #[(oS "self" 543),(oS "costs" 544)],
oT #[],
oW "together" "WeightedChart.together" 31 6,
Ae,
Af,
Ag,
Ah P,
Ai,
Aj,
Ak,
Y6 286 286 286,
Y7 286,
oT #[],
oN,
oT #[(oS "row" 565),(oS "targets" 566),(oS "weights" 567),(oS "place" 568),(oS "weight" 569),(oS "target" 570)],
oT #[],
oG "moved" 32,
Am,
An,
oT #[],
oN,
oG "parted" 33,
Ao,
Ap,
oT #[],
oN,
oT #[(oS "chart" 587),(oS "first" 588),(oS "found" 589),(oS "seen" 590),(oS "steps" 591),(oS "known" 592),(oS "name" 593),(oS "price" 594),(oS "coming" 595),(oS "worth" 596),(oS "behind" 597)],
oT #[],
oG "steps_of_all" 36,
Aq,
Ar,
oT #[],
oN,
oG "best_steps" 37,
As,
Au,
oT #[],
oN,
oG "sources_of_all" 38,
Av,
Aw,
oT #[],
oN,
oT #[(oS "waiting" 616),(oS "entry" 617),(oS "low" 618),(oS "high" 619),(oS "middle" 620)],
oT #[],
oG "put_in" 39,
Ax,
Ay,
oT #[],
oN,
oG "plan_by" 40,
Az,
AA,
oT #[],
oN,
oT #[(oS "chart" 633),(oS "known" 634)],
oT #[],
oG "shared_end" 41,
AB,
AD,
oT #[],
oN,
oT #[(oS "name" 641),(oS "forks" 642)],
oT #[],
oG "node_of" 42,
AE,
AF,
oT #[],
oN,
oT #[(oS "world" 653),(oS "weights" 654),(oS "chart" 655),(oS "first" 656),(oS "best" 657)],
oT #[],
oG "least_mean" 45,
AG,
AH,
oT #[],
oN,
oT #[(oS "world" 664),(oS "name" 665),(oS "price" 666),(oS "need" 667),(oS "ways" 668)],
oT #[],
oG "refuse_ways" 46,
AI,
AJ,
oT #[],
oN,
oT #[(oS "world" 675),(oS "weights" 676),(oS "weight" 677)],
oT #[],
oG "refuse_weights" 47,
AK,
AL,
oT #[],
oN,
oT #[(oS "over" 684),(oS "under" 685),(oS "greatest" 686)],
oT #[],
oG "lowest_terms" 48,
AM,
AN,
oT #[],
oN,
oT #[(oS "one" 693),(oS "other" 694),(oS "rest" 695)],
oT #[],
oG "greatest_divisor" 49,
AO,
AQ,
oT #[],
oN,
oT #[(oS "script" 704),(oS "k" 705)],
oT #[],
oG "_law_cell_at" 51,
AR,
oL "_law_cell_at" 51 386,
oT #[],
oN,
oT #[(oS "script" 712),(oS "alone" 713),(oS "yes" 714),(oS "never" 715),(oS "on" 716),(oS "other" 717),(oS "turn" 718),(oS "deeds" 719),(oS "at" 720),(oS "looks" 721)],
oT #[],
oG "_law_world" 52,
AS,
oL "_law_world" 52 393,
oT #[],
oN,
oT #[(oS "e" 728)],
oT #[],
oG "_law_other" 53,
AU,
oL "_law_other" 53 400,
oT #[],
oN,
oT #[(oS "script" 735),(oS "alone" 736),(oS "times" 737),(oS "weights" 738),(oS "weight" 739),(oS "k" 740),(oS "told" 741),(oS "caught" 742),(oS "e" 743)],
oT #[],
oG "law" 54,
AV,
oL "law" 54 407]
def KG (P:Params):List Obj:=[boot_o_0 P,boot_o_1 P,boot_o_2 P,boot_o_3 P,boot_o_4 P,boot_o_5 P,boot_o_6 P,boot_o_7 P,boot_o_8 P,boot_o_9 P,boot_o_10 P,oT #[],oN,oC #[(oS "<module>" 182),(oS "<module>" 183),(oS "/claim/cut.py" 184),(oI 1),(oI 0),(oI 0),(oI 0),(oI 0),(oR 11),(.bool Bool.false),(oI 181),(oR 12),.none,.none,.none,.none,(oI 185),(oI 1),(oS "/claim/cut.py" 186)],(Obj.mk (.type "frame") none Data.plain #[(some (oR 13)),(some (oR 3)),(some (oR 3)),none,(some (oS "__main__" 164)),none,(some (oR 0))])]
def wR (os:List Obj):Nat->Nat->Nat->BT
 | 0,_,_=>.nil
 | f+1,a,b=>match os[b]? with
  | some o=>.node o (wR os f (2 * a) (a+b)) (wR os f (2 * a) (2 * a+b))
  | none=>.nil
def DV:Life:=(Life.mk [] [] [] 0 [] [] Bool.false #[] [] 0 Bool.false Bool.false Bool.false 0 [2000,10,10] Bool.false 0 Bool.true [] [] 0 Bool.false)
def gX:Env:={ scope:=PySem.Challenge.pw_forkplan_k52_too_many_weighted.main.scope,locals:=mainNs,globals:=mainNs,cells:=[],code:=(Value.ref 13),frame:=some 14 }
def wS:List Stmt:=behindTheImports PySem.Challenge.pw_forkplan_k52_too_many_weighted
def vQ:Code:=.body wS gX
def AW (w:World)(os:OsState):Shared:=⟨⟨⟨KG w.params⟩,DV⟩,⟨[]⟩,(Drawn.mk 0 0 0 0),187,os⟩
def AX (w:World)(os:OsState):SharedT:=⟨wR (KG w.params) 12 1 0,15,DV,⟨[]⟩,(Drawn.mk 0 0 0 0),187,os⟩
def ri (w:World)(os:OsState):SharedT:=⟨wR (KD w.params) 12 1 0,409,DV,⟨[]⟩,(Drawn.mk 0 0 0 0),747,os⟩
theorem rj (w:World)(os:OsState):topGo treeTable PySem.Challenge.pw_forkplan_k52_too_many_weighted w 11 (some (Value.ref 6)) 12 ⟨boot_heap w.params,⟨[]⟩,boot_drawn,boot_toks,os⟩ (topStub PySem.Challenge.pw_forkplan_k52_too_many_weighted)=some (AW w os,⟨denote treeTable vQ,vQ,(Pos.mk 0 0 0 0),[topFrame (Pos.mk 0 0 0 0)]⟩):=by kernel_rfl
theorem PY (w:World)(os:OsState):segRun treeTable PySem.Challenge.pw_forkplan_k52_too_many_weighted w 11 (some (Value.ref 6)) 1 1 (AW w os) (blockOf wS gX vQ (Pos.mk 0 0 0 0) [topFrame (Pos.mk 0 0 0 0)])=some (.next,(AX w os).abs,vQ,(Pos.mk 0 0 0 0)):=by kernel_rfl
theorem rn (w:World)(os:OsState):segRunT treeTable PySem.Challenge.pw_forkplan_k52_too_many_weighted w 11 (some (Value.ref 6)) 1 3629 (AX w os) (piecesOf wS gX vQ (Pos.mk 0 0 0 0) [topFrame (Pos.mk 0 0 0 0)])=some (.next,ri w os,vQ,(Pos.mk 279 0 297 102)):=by kernel_rfl
theorem rp (w:World)(os:OsState):topRun treeTable PySem.Challenge.pw_forkplan_k52_too_many_weighted w 11 (some (Value.ref 6)) 2 (ri w os).abs ⟨doneF .next,vQ,(Pos.mk 279 0 297 102),[topFrame (Pos.mk 0 0 0 0)]⟩=some (ri w os).abs:=by kernel_rfl
def Fb (P:Params):aq:=
 (nat_lit 2,(Obj.mk .none none (Data.dict #[] 0) #[]))::
 (nat_lit 3,Z3 P)::
 (nat_lit 20,Ki)::
 (nat_lit 21,Kj)::
 (nat_lit 27,Kk)::
 (nat_lit 28,Kl)::
 (nat_lit 32,Km)::
 (nat_lit 33,Kn)::
 (nat_lit 39,Ko)::
 (nat_lit 40,Kp)::
 (nat_lit 46,Kq)::
 (nat_lit 47,Kr)::
 (nat_lit 48,Ks)::
 (nat_lit 55,(Obj.mk (.type "tuple") none (Data.seq #[] 0) #[]))::
 (nat_lit 56,Kt P)::
 (nat_lit 57,Ku)::
 (nat_lit 58,Kv)::
 (nat_lit 61,(Obj.mk (.type "tuple") none (Data.seq #[(.ref 57)] 0) #[]))::
 (nat_lit 68,(Obj.mk (.type "tuple") none (Data.seq #[] 0) #[]))::
 (nat_lit 69,Kw P)::
 (nat_lit 70,Kx)::
 (nat_lit 73,(Obj.mk (.type "tuple") none (Data.seq #[(.ref 57)] 0) #[]))::
 (nat_lit 80,(Obj.mk (.type "tuple") none (Data.seq #[] 0) #[]))::
 (nat_lit 81,Ky P)::
 (nat_lit 82,Kz)::
 (nat_lit 85,(Obj.mk (.type "tuple") none (Data.seq #[(.ref 57)] 0) #[]))::
 (nat_lit 92,(Obj.mk (.type "tuple") none (Data.seq #[] 0) #[]))::
 (nat_lit 93,KA P)::
 (nat_lit 94,KC)::
 (nat_lit 97,(Obj.mk (.type "tuple") none (Data.seq #[(.ref 57)] 0) #[]))::
 (nat_lit 104,(Obj.mk (.type "tuple") none (Data.seq #[] 0) #[]))::
 (nat_lit 105,xc P)::
 (nat_lit 106,xf)::
 (nat_lit 109,(Obj.mk (.type "tuple") none (Data.seq #[(.ref 57)] 0) #[]))::
 (nat_lit 116,(Obj.mk (.type "tuple") none (Data.seq #[] 0) #[]))::
 (nat_lit 117,xg P)::
 (nat_lit 118,xh)::
 (nat_lit 121,(Obj.mk (.type "tuple") none (Data.seq #[(.ref 57)] 0) #[]))::
 (nat_lit 128,(Obj.mk (.type "tuple") none (Data.seq #[] 0) #[]))::
 (nat_lit 129,xi P)::
 (nat_lit 130,xj)::
 (nat_lit 133,(Obj.mk (.type "tuple") none (Data.seq #[(.ref 57)] 0) #[]))::
 (nat_lit 140,(Obj.mk (.type "tuple") none (Data.seq #[] 0) #[]))::
 (nat_lit 141,xm P)::
 (nat_lit 142,xn)::
 (nat_lit 145,(Obj.mk (.type "tuple") none (Data.seq #[(.ref 57)] 0) #[]))::
 (nat_lit 152,(Obj.mk (.type "tuple") none (Data.seq #[] 0) #[]))::
 (nat_lit 153,xo P)::
 (nat_lit 154,xp)::
 (nat_lit 157,(Obj.mk (.type "tuple") none (Data.seq #[(.ref 57)] 0) #[]))::
 (nat_lit 164,(Obj.mk (.type "tuple") none (Data.seq #[] 0) #[]))::
 (nat_lit 165,xq P)::
 (nat_lit 166,xt)::
 (nat_lit 174,xu)::
 (nat_lit 175,xv)::
 (nat_lit 181,xw)::
 (nat_lit 182,xx)::
 (nat_lit 188,xy)::
 (nat_lit 189,x3)::
 (nat_lit 193,x4)::
 (nat_lit 194,x8)::
 (nat_lit 198,x9)::
 (nat_lit 199,x')::
 (nat_lit 205,y0)::
 (nat_lit 206,y3)::
 (nat_lit 210,y4)::
 (nat_lit 211,za)::
 (nat_lit 217,zb)::
 (nat_lit 218,zc)::
 (nat_lit 224,zd)::
 (nat_lit 225,ze)::
 (nat_lit 229,zg)::
 (nat_lit 230,zi)::
 (nat_lit 236,zj)::
 (nat_lit 237,zk)::
 (nat_lit 248,zl)::
 (nat_lit 249,zm)::
 (nat_lit 253,zq)::
 (nat_lit 254,zt)::
 (nat_lit 260,zv)::
 (nat_lit 261,zw)::
 (nat_lit 265,zx)::
 (nat_lit 266,zL)::
 (nat_lit 270,Aa)::
 (nat_lit 271,Ab)::
 (nat_lit 275,Ac)::
 (nat_lit 276,Ad)::
 (nat_lit 282,Ae)::
 (nat_lit 283,Af)::
 (nat_lit 284,Ag)::
 (nat_lit 285,Ah P)::
 (nat_lit 286,Ai)::
 (nat_lit 287,Aj)::
 (nat_lit 288,Ak)::
 (nat_lit 296,Am)::
 (nat_lit 297,An)::
 (nat_lit 301,Ao)::
 (nat_lit 302,Ap)::
 (nat_lit 308,Aq)::
 (nat_lit 309,Ar)::
 (nat_lit 313,As)::
 (nat_lit 314,Au)::
 (nat_lit 318,Av)::
 (nat_lit 319,Aw)::
 (nat_lit 325,Ax)::
 (nat_lit 326,Ay)::
 (nat_lit 330,Az)::
 (nat_lit 331,AA)::
 (nat_lit 337,AB)::
 (nat_lit 338,AD)::
 (nat_lit 344,AE)::
 (nat_lit 345,AF)::
 (nat_lit 351,AG)::
 (nat_lit 352,AH)::
 (nat_lit 358,AI)::
 (nat_lit 359,AJ)::
 (nat_lit 365,AK)::
 (nat_lit 366,AL)::
 (nat_lit 372,AM)::
 (nat_lit 373,AN)::
 (nat_lit 379,AO)::
 (nat_lit 380,AQ)::
 (nat_lit 386,AR)::
 (nat_lit 387,oL "_law_cell_at" 51 386)::
 (nat_lit 393,AS)::
 (nat_lit 394,oL "_law_world" 52 393)::
 (nat_lit 400,AU)::
 (nat_lit 401,oL "_law_other" 53 400)::
 (nat_lit 407,AV)::
 (nat_lit 408,oL "law" 54 407)::[]
def wP:Program:={ PySem.Challenge.pw_forkplan_k52_too_many_weighted with main:={ PySem.Challenge.pw_forkplan_k52_too_many_weighted.main with body:=([1,2,3,4,5,7,8,9,10,11,12,13,14,15,16,18,19,20,21,22,23,25,26,27,28,29,31,32,33,35,36,37,38,39,40,41,42,44,45,46,47,48,49,51,52,53,54]:List Nat).filterMap λi=>PySem.Challenge.pw_forkplan_k52_too_many_weighted.main.body[i]? } }
def vN:PySem.W.Hook:=PySem.W.kHook Fb [2,3,20,21,27,28,32,33,39,40,46,47,48,55,56,57,58,61,68,69,70,73,80,81,82,85,92,93,94,97,104,105,106,109,116,117,118,121,128,129,130,133,140,141,142,145,152,153,154,157,164,165,166,174,175,181,182,188,189,193,194,198,199,205,206,210,211,217,218,224,225,229,230,236,237,248,249,253,254,260,261,265,266,270,271,275,276,282,283,284,285,286,287,288,296,297,301,302,308,309,313,314,318,319,325,326,330,331,337,338,344,345,351,352,358,359,365,366,372,373,379,380,386,387,393,394,400,401,407,408] (λ_=>by kernel_rfl)
theorem PZ:LeftO (PySem.W.OpenLaw.row PySem.Challenge.rw_forkplan_k52_too_many_weighted).prog wP [] (λs=>xlAt wP [] s && recOk (RowW.records (OpenRow.toRowW (PySem.W.OpenLaw.row PySem.Challenge.rw_forkplan_k52_too_many_weighted))) s) (Hook.obs vN) (Hook.val vN) 7982:=
 LeftO.of_pieces (H₀:=boot_heap) (H₁:=λP=>absHeap (wR (KD P) 12 1 0) 409 DV) (gs₀:=⟨[]⟩) (gs₁:=⟨[]⟩) (d₀:=boot_drawn) (d₁:=(Drawn.mk 0 0 0 0)) (k₀:=boot_toks) (k₁:=747) (m₀:=11) (ann:=(some (Value.ref 6))) (M:=12+(1+(3629+2)))
  (boot_open (p:=PySem.Challenge.pw_forkplan_k52_too_many_weighted) (by kernel_rfl) (by wtm_at"d") (λs=>by rfl)) (λw=>by kernel_rfl)
  (λw os=>go_top (rj w os) (piece_block (PY w os) (Yq wS▸piece_app (l:=wS) (rest:=[]) (segRun_of (rn w os)) (rp w os)))) (by wtm_at"d") (λw=>by kernel_rfl)
end FP
namespace L2
open PySem PySem.Spec PyProof.Rows
abbrev Key:=Sum Int Str
def dU:Key->Value->Bool
 | .inl k,v=>Value.isInt k v
 | .inr x,v=>Value.isStrOf x v
def Fc (w:World):Key->Int
 | .inl k=>hashInt k
 | .inr x=>hashStr w x
theorem zY:∀{k:Key} {v:Value},dU k v=true->(∃i t,k=Sum.inl i/\v=Value.int i t)\/(∃x t,k=Sum.inr x/\v=Value.str x t)
 | .inl i,v,h=>by
  obtain⟨t,e⟩:=Value.isInt_shape (k:=i) (v:=v) h
  exact .inl ⟨i,t,rfl,e⟩
 | .inr x,v,h=>by
  obtain⟨t,e⟩:=Value.isStrOf_shape (x:=x) (v:=v) h
  exact .inr ⟨x,t,rfl,e⟩
theorem P0 (i:Int)(t:Tok):dU (.inl i) (.int i t)=true:=by simp[dU,Value.isInt]
theorem P1 (x:Str)(t:Tok):dU (.inr x) (.str x t)=true:=by simp[dU,Value.isStrOf]
theorem P4 (a b:Int):decide ((Sum.inl a:Key)=Sum.inl b)=(a == b):=by
 by_cases e:a=b
 .subst e;simp
 .have h:¬(Sum.inl a:Key)=Sum.inl b:=λq=>e (Sum.inl.inj q)
  rw[decide_eq_false h]
  exact(beq_eq_false_iff_ne.mpr e).symm
theorem P5 (a b:Str):decide ((Sum.inr a:Key)=Sum.inr b)=decide (a=b):=by
 by_cases e:a=b
 .subst e;simp
 .have h:¬(Sum.inr a:Key)=Sum.inr b:=λq=>e (Sum.inr.inj q)
  rw[decide_eq_false h,decide_eq_false e]
theorem P6 (a:Int)(b:Str):decide ((Sum.inl a:Key)=Sum.inr b)=false:=decide_eq_false (λq=>nomatch q)
theorem P7 (a:Str)(b:Int):decide ((Sum.inr a:Key)=Sum.inl b)=false:=decide_eq_false (λq=>nomatch q)
def xH (prog:Program)(w:World):PySem.KeyKind prog w Key where
 is:=dU
 hash:=Fc w
 inj:=λv a b ha hb=>by
  rcases zY ha with⟨i,t,rfl,rfl⟩ | ⟨x,t,rfl,rfl⟩
  .rcases zY hb with⟨j,u,rfl,e⟩ | ⟨y,u,rfl,e⟩
   .injection e with e1 _;rw[e1]
   .exact nomatch e
  .rcases zY hb with⟨j,u,rfl,e⟩ | ⟨y,u,rfl,e⟩
   .exact nomatch e
   .injection e with e1 _;rw[e1]
 byValue:=λk v h=>by
  rcases zY h with⟨i,t,rfl,rfl⟩ | ⟨x,t,rfl,rfl⟩ <;> rfl
 pyHash:=λhv h=>by
  rcases zY hv with⟨i,t,rfl,rfl⟩ | ⟨x,t,rfl,rfl⟩
  .exact wpAny_pyHash_int h
  .exact wpAny_pyHash_str h
 eqBool:=λhu hv h=>by
  rcases zY hu with⟨i,t,rfl,rfl⟩ | ⟨x,t,rfl,rfl⟩
  .rcases zY hv with⟨j,u,rfl,rfl⟩ | ⟨y,u,rfl,rfl⟩
   .rw[P4] at h;exact wpAny_eqBool_int h
   .rw[P6] at h;exact SeqAt.EqAt.int_str i t y u _ _ _ _ h
  .rcases zY hv with⟨j,u,rfl,rfl⟩ | ⟨y,u,rfl,rfl⟩
   .rw[P7] at h;exact SeqAt.EqAt.str_int x t j u _ _ _ _ h
   .rw[P5] at h;exact wpAny_eqBool_str h
 «strs»:=λk x t v h=>by
  rcases zY h with⟨i,u,rfl,e⟩ | ⟨y,u,rfl,e⟩
  .exact nomatch e
  .injection e with e1 _
   subst e1
   cases v <;> rfl
theorem KH (prog:Program)(w:World)(i:Int)(t:Tok):(xH prog w).is (.inl i) (.int i t)=true:=P0 i t
theorem vZ (prog:Program)(w:World)(x:Str)(t:Tok):(xH prog w).is (.inr x) (.str x t)=true:=P1 x t
end L2
namespace L2
open PySem PySem.Spec PyProof.Rows
inductive V where
 | non | bl (b:Bool) | int (i:Int) | str (x:Str) | byt (b:Array UInt8) | flt (b:UInt64) | ref (a:Addr) | ty (n:String)
 deriving DecidableEq
def RelV:V->Value->Prop
 | .non,u=>u=Value.none
 | .bl b,u=>u=Value.bool b
 | .int i,u=>∃t,u=Value.int i t
 | .str x,u=>∃t,u=Value.str x t
 | .byt b,u=>∃t,u=Value.bytes b t
 | .flt b,u=>∃t,u=Value.float b t
 | .ref a,u=>u=Value.ref a
 | .ty n,u=>u=Value.type n
abbrev Vals:List V->List Value->Prop:=Paired RelV
theorem Vals.length {xs:List V}{us:List Value}(r:Vals xs us):xs.length=us.length:=Paired.length r
theorem Vals.get:∀{xs:List V} {us:List Value} {i:Nat} {x:V},Vals xs us->xs[i]? = some x->∃u,us[i]? = some u/\RelV x u
 | _,_,_,_,.nil,e=>by simp at e
 | _,_,0,_,.cons r _,e=>by simp at e;subst e;exact⟨_,rfl,r⟩
 | _,_,i+1,x,.cons _ t,e=>by
  obtain⟨u,h1,h2⟩:=Vals.get (i:=i) (x:=x) t (by simpa using e)
  exact⟨u,by simpa using h1,h2⟩
theorem Vals.append:∀{xs ys:List V} {us ws:List Value},Vals xs us->Vals ys ws->Vals (xs++ys) (us++ws)
 | _,_,_,_,.nil,s=>s
 | _,_,_,_,.cons r t,s=>.cons r (Vals.append t s)
theorem Vals.take:∀{xs:List V} {us:List Value} (n:Nat),Vals xs us->Vals (xs.take n) (us.take n)
 | _,_,0,_=>.nil
 | _,_,_+1,.nil=>.nil
 | _,_,n+1,.cons r t=>.cons r (Vals.take n t)
theorem Vals.drop:∀{xs:List V} {us:List Value} (n:Nat),Vals xs us->Vals (xs.drop n) (us.drop n)
 | _,_,0,r=>r
 | _,_,_+1,.nil=>.nil
 | _,_,n+1,.cons _ t=>Vals.drop n t
def bU:Option V->Option Value->Prop
 | some v,some u=>RelV v u
 | none,none=>True
 | _,_=>False
def KV {κ:Type}:List (κ×V)->List (κ×Value)->Prop:=Paired λ(p:κ×V) (q:κ×Value)=>p.1=q.1/\RelV p.2 q.2
def kV:Key->V
 | .inl i=>.int i
 | .inr x=>.str x
inductive HO where
 /-- a list -/
 | lst (xs:List V)
 /-- a tuple (never changes) -/
 | tup (xs:List V)
 /-- a dict whose keys are ints and texts; one whose keys are tuples of ints and texts (the empty one is both) -/
 | dK (kvs:List (Key×V)) | dT (kvs:List (List Key×V))
 /-- a set of ints: its members, its size -/
 | set (S:Int->Bool) (n:Nat)
 /-- an instance of the class at C, its dict at dx, its attributes -/
 | ins (C dx:Addr) (fs:List (Str×V))
 /-- the dict of the instance at x -/
 | own (x:Addr)
 /-- the dict of an exception -/
 | xd (fs:List (Str×V))
 /-- a bound method, f of x -/
 | met (f x:Addr)
 /-- a range object lo, lo + 1, .. below hi -/
 | rng (lo hi:Int)
 /-- a AY that is known to the object (the script; a dict while a loop walks it): read, never written while it is so -/
 | frz (o:Obj) (u:HO)
 /-- a code object's table -/
 | tbl (ps:Array Value)
 /-- any other AY, by what is true of its one object (a def of one's own: SetO a S n := HO.ext λh => ..) -/
 | ext (φ:Heap->Prop)
abbrev Hp:=Addr->Option HO
def upd (H:Hp)(a:Addr)(o:HO):Hp:=λb=>if b=a then some o else H b
theorem qW {H:Hp}{a:Addr}{o:HO}:upd H a o a=some o:=by unfold upd;rw[if_pos rfl]
theorem qB {H:Hp}{a b:Addr}{o:HO}(h:b≠a):upd H a o b=H b:=by unfold upd;rw[if_neg h]
theorem jC {H:Hp}{a b:Addr}{o u:HO}(h:H a=some o)(h':H b=some u)(d:o≠u):a≠b:=by
 intro e;subst e;rw[h] at h';exact d (Option.some.inj h')
theorem qC {H:Hp}{a b:Addr}{o:HO}(h:H a=some o)(h':H b=none):a≠b:=by
 intro e;subst e;rw[h] at h';cases h'
def fF (h:Heap)(a:Addr)(its:Array Value):Prop:=∃o,h.get? a=some o/\o.cls=.type "tuple" /\ ∃n,o.data=.seq its n/\o.dict=none
theorem fF.tup {h:Heap}{a:Addr}{its:Array Value}(x:fF h a its):IsTup h a its:=let ⟨o,e,c,n,d,_⟩:=x;⟨o,e,c,n,d⟩
theorem fF.lt {h:Heap}{a:Addr}{its:Array Value}(x:fF h a its):a<h.objs.size:=x.tup.lt
theorem fF.new (h:Heap)(its:Array Value):fF (h.push { cls:=.type "tuple",data:=.seq its }) h.objs.size its:=⟨_,bg _ rfl,rfl,_,rfl,rfl⟩
section
variable (P:Program)(w:World)
def ao (H:Hp)(h:Heap)(a:Addr):HO->Prop
 | .lst xs=>xs.length<=Yc/\∃(its:List Value) (n:Nat),Vals xs its/\h.get? a=some { cls:=.type "list",data:=.seq its.toArray n }
 | .tup xs=>xs.length<=Yc/\∃its:List Value,Vals xs its/\fF h a its.toArray
 | .dK kvs=>kvs.length<=Yc/\(a == sysModules)=false/\∃vs,KV kvs vs/\h.DictOf (xH P w) a vs
 | .dT kvs=>kvs.length<=Yc/\(a == sysModules)=false/\∃xs:List (List Key×Addr×Value),
   Paired (λ(p:List Key×V) (q:List Key×Addr×Value)=>p.1=q.1/\H q.2.1=some (.tup (p.1.map kV))/\RelV p.2 q.2.2) kvs xs/\
   ∃o es ep,h.get? a=some o/\o.ExactDict/\o.data=.dict es ep/\es.toList=xs.map (entryOfKey (tupleKind (xH P w)))/\(xs.map (·.1)).Nodup
 | .set S n=>h.SetOf (intKind P w) a S n
 | .ins C dx fs=>H dx=some (.own a)/\fs.length<=1000/\dx≠a/\h.get? a=some (PySem.W.instObj C dx)/\
   ∃mA,h.Ns1 dx mA/\(∀f,bU (fs.lookup f) (mA f))/\PySem.Within mA (fs.map (·.1))
 | .own _=>∃o,h.get? a=some o
 | .xd fs=>∃mA,h.Ns1 a mA/\∀f,bU (fs.lookup f) (mA f)
 | .rng lo hi=>∃t u v,h.get? a=some { cls:=.type "range",data:=.fields #[.int lo t,.int hi u,.int 1 v] }
 | .frz o u=>h.get? a=some o/\ao H h a u
 | .tbl ps=>h.get? a=some { cls:=.none,data:=.fields ps }
 | .met f x=>h.get? a=some (PySem.W.methodObj (.ref f) (.ref x))
 | .ext φ=>φ h/\(∃o,h.get? a=some o)/\∀h1 h2:Heap,φ h1->(∀o,h1.get? a=some o->h2.get? a=some o)->φ h2
def ck (H:Hp)(h:Heap):Prop:=∀a o,H a=some o->ao P w H h a o
end
section
variable {P:Program}{w:World}{H H':Hp}{h h':Heap}{a:Addr}{o:HO}
theorem ao.lt (x:ao P w H h a o):a<h.objs.size:=by
 cases o with
 | lst xs=>obtain⟨_,_,_,_,e⟩:=x;exact aG e
 | tup xs=>obtain⟨_,_,_,p⟩:=x;exact p.lt
 | dK kvs=>obtain⟨_,_,_,_,o,_,_,e,_⟩:=x;exact aG e
 | dT kvs=>obtain⟨_,_,_,_,o,_,_,e,_⟩:=x;exact aG e
 | set S n=>obtain⟨o,_,_,_,e,_⟩:=x;exact aG e
 | ins C dx fs=>obtain⟨_,_,_,e,_⟩:=x;exact aG e
 | own y=>obtain⟨_,e⟩:=x;exact aG e
 | xd fs=>obtain⟨_,⟨_,_,_,e,_⟩,_⟩:=x;exact aG e
 | rng lo hi=>obtain⟨_,_,_,e⟩:=x;exact aG e
 | frz ob u=>obtain⟨e,_⟩:=x;exact aG e
 | tbl ps=>exact aG (show h.get? a=some _ from x)
 | met f y=>exact aG (show h.get? a=some _ from x)
 | ext φ=>obtain⟨_,⟨_,e⟩,_⟩:=x;exact aG e
theorem Paired.mapP {α β:Type}{F G:α->β->Prop}:∀{l₁:List α} {l₂:List β},Paired F l₁ l₂->(∀a b,F a b->G a b)->Paired G l₁ l₂
 | _,_,.nil,_=>.nil
 | _,_,.cons r t,f=>.cons (f _ _ r) (Paired.mapP t f)
theorem ao.stay (x:ao P w H h a o)(k:∀b u,(b=a\/H b=some (.own a))->h.get? b=some u->h'.get? b=some u)
  (ho:∀b,H b=some (.own a)->H' b=some (.own a)) (ht:∀b xs,H b=some (.tup xs)->H' b=some (.tup xs)):ao P w H' h' a o:=by
 induction o with
 | lst xs=>obtain⟨z,its,n,r,e⟩:=x;exact⟨z,its,n,r,k _ _ (.inl rfl) e⟩
 | tup xs=>obtain⟨z,its,r,ob,e,c⟩:=x;exact⟨z,its,r,ob,k _ _ (.inl rfl) e,c⟩
 | dK kvs=>obtain⟨z,y,vs,r,ob,es,ep,e,c⟩:=x;exact⟨z,y,vs,r,ob,es,ep,k _ _ (.inl rfl) e,c⟩
 | dT kvs=>
  obtain⟨z,y,xs,r,ob,es,ep,e,c⟩:=x
  exact⟨z,y,xs,Paired.mapP r λp q z=>⟨z.1,ht _ _ z.2.1,z.2.2⟩,ob,es,ep,k _ _ (.inl rfl) e,c⟩
 | set S n=>obtain⟨ob,es,ep,t,e,c⟩:=x;exact⟨ob,es,ep,t,k _ _ (.inl rfl) e,c⟩
 | ins C dx fs=>
  obtain⟨d,z,ne,e,mA,⟨od,es,ep,e2,c⟩,r⟩:=x
  exact⟨ho _ d,z,ne,k _ _ (.inl rfl) e,mA,⟨od,es,ep,k _ _ (.inr d) e2,c⟩,r⟩
 | own y=>obtain⟨ob,e⟩:=x;exact⟨ob,k _ _ (.inl rfl) e⟩
 | xd fs=>obtain⟨mA,⟨od,es,ep,e,c⟩,r⟩:=x;exact⟨mA,⟨od,es,ep,k _ _ (.inl rfl) e,c⟩,r⟩
 | rng lo hi=>obtain⟨t,u,v,e⟩:=x;exact⟨t,u,v,k _ _ (.inl rfl) e⟩
 | frz ob u ih=>obtain⟨e,q⟩:=x;exact⟨k _ _ (.inl rfl) e,ih q⟩
 | tbl ps=>
  have e:h.get? a=some { cls:=.none,data:=.fields ps }:=x
  show h'.get? a=some { cls:=.none,data:=.fields ps }
  exact k a _ (.inl rfl) e
 | met f y=>
  have e:h.get? a=some (PySem.W.methodObj (.ref f) (.ref y)):=x
  show h'.get? a=some (PySem.W.methodObj (.ref f) (.ref y))
  exact k a _ (.inl rfl) e
 | ext φ=>obtain⟨p,⟨o,e⟩,st⟩:=x;exact⟨st _ _ p λo q=>k _ _ (.inl rfl) q,⟨o,k _ _ (.inl rfl) e⟩,st⟩
theorem ck.lt (x:ck P w H h)(e:H a=some o):a<h.objs.size:=(x a o e).lt
theorem ck.fresh (x:ck P w H h)(e:h.objs.size<=a):H a=none:=by
 cases q:H a with
 | none=>rfl
 | some u=>exact absurd (yZE (x.lt q) e) (Nat.lt_irrefl _)
theorem ck.kept (x:ck P w H h)(k:∀b u,h.get? b=some u->h'.get? b=some u):ck P w H h':=λa o e=>
 (x a o e).stay (λb u _ q=>k b u q) (λ_ q=>q) λ_ _ q=>q
theorem ck.laid (x:ck P w H h)(k:∀b u,h.get? b=some u->h'.get? b=some u)(hp:h.objs.size<=a)(new:ao P w (upd H a o) h' a o):ck P w (upd H a o) h':=λb u e=>by
 have hn:=x.fresh hp
 by_cases hb:b=a
 .subst hb;rw[qW] at e;cases e;exact new
 .rw[qB hb] at e
  exact(x b u e).stay (λc v _ q=>k c v q) (λc q=>by rw[qB (qC q hn)];exact q) λc xs q=>by rw[qB (qC q hn)];exact q
end
def Rd (H:Hp)(a:Addr)(u:HO):Prop:=H a=some u\/∃o,H a=some (.frz o u)
theorem Rd.ok {P:Program}{w:World}{H:Hp}{h:Heap}{a:Addr}{u:HO}(r:Rd H a u)(x:ck P w H h):ao P w H h a u:=by
 rcases r with r | ⟨o,r⟩
 .exact x a u r
 .obtain⟨_,q⟩:=x a _ r
  exact q
def AZ:Option HO->Prop
 | some (.lst _)=>True
 | some (.dK _)=>True
 | some (.dT _)=>True
 | some (.set _ _)=>True
 | some (.ins _ _ _)=>True
 | some (.ext _)=>True
 | _=>False
section
variable {P:Program}{w:World}{H:Hp}{h h':Heap}{x e:Addr}{o':HO}
theorem ck.write (ok:ck P w H h)(mu:AZ (H x))(he:e=x\/H e=some (.own x))(k:∀b u,b≠e->h.get? b=some u->h'.get? b=some u)(tP:∃u,h'.get? e=some u)
  (new:ao P w (upd H x o') h' x o'):ck P w (upd H x o') h':=λb u q=>by
 have A1:∀c y,H c=some (.own y)->c≠x:=λc y r z=>by subst z;rw[r] at mu;exact mu
 have Fe:∀c xs,H c=some (.tup xs)->c≠x:=λc xs r z=>by subst z;rw[r] at mu;exact mu
 by_cases hb:b=x
 .subst hb;rw[qW] at q;cases q;exact new
 .rw[qB hb] at q
  by_cases lh:b=e
  .have q':H b=some (.own x):=by
    rcases he with z | z
    .exact absurd (lh.trans z) hb
    .rw[lh];exact z
   rw[q] at q';cases q'
   obtain⟨v,hv⟩:=tP
   exact⟨v,by rw[lh];exact hv⟩
  .refine(ok b u q).stay (λc v hc r=>k c v ?_ r) (λc r=>by rw[qB (A1 c b r)];exact r) λc xs r=>by rw[qB (Fe c xs r)];exact r
   rcases hc with rfl | hc
   .exact lh
   .rintro rfl
    rcases he with z | z
    .exact A1 c b hc z
    .rw[hc] at z;cases z;exact hb rfl
end
def Ff (x:Option HO):Prop:=x=none\/∃xs,x=some (.tup xs)
structure Un (fs ex:List Addr)(H H':Hp)(h h':Heap):Prop where
 keep:∀b o,h.get? b=some o->H b=none->b∉fs->b∉ex->h'.get? b=some o
 slot:∀b o,h.get? b=some o->H b=none->b∈fs->b∉ex->∃sl,h'.get? b=some { o with slots:=sl }
 free:∀b o,h.get? b=some o->H b=none->b∉ex->H' b=none
 there:∀b o,h.get? b=some o->b∉ex->∃o',h'.get? b=some o'
 tups:∀b xs,H b=some (.tup xs)->H' b=some (.tup xs)
 frzs:∀b o u,H b=some (.frz o u)->H' b=some (.frz o u)
 cK:∀b ps,H b=some (.tbl ps)->∃more,H' b=some (.tbl (ps++more))
 tupk:∀b xs o,H b=some (.tup xs)->h.get? b=some o->h'.get? b=some o
section
variable {fs P8 ex nW:List Addr}{H H1 H2:Hp}{h h1 h2 h':Heap}{a x e:Addr}{o:HO}
theorem Un.any (u:Un fs ex H H1 h h1){b:Addr}{ob:Obj}(q:h.get? b=some ob)(n:H b=none)(hx:b∉ex):∃sl,h1.get? b=some { ob with slots:=sl }:=by
 by_cases hb:b∈fs
 .exact u.slot b ob q n hb hx
 .exact⟨ob.slots,u.keep b ob q n hb hx⟩
theorem Un.trans (a:Un fs ex H H1 h h1)(b:Un fs ex H1 H2 h1 h2):Un fs ex H H2 h h2 where
 keep:=λc ob q n hc hx=>b.keep c ob (a.keep c ob q n hc hx) (a.free c ob q n hx) hc hx
 slot:=λc ob q n hc hx=>by
  obtain⟨sl,e1⟩:=a.slot c ob q n hc hx
  obtain⟨rq,e2⟩:=b.slot c _ e1 (a.free c ob q n hx) hc hx
  exact⟨rq,e2⟩
 free:=λc ob q n hx=>by
  obtain⟨o',e1⟩:=a.there c ob q hx
  exact b.free c o' e1 (a.free c ob q n hx) hx
 there:=λc ob q hx=>by
  obtain⟨o',e1⟩:=a.there c ob q hx
  exact b.there c o' e1 hx
 tups:=λc xs q=>b.tups c xs (a.tups c xs q)
 frzs:=λc ob xs q=>b.frzs c ob xs (a.frzs c ob xs q)
 cK:=λc ps q=>by
  obtain⟨m1,e1⟩:=a.cK c ps q
  obtain⟨m2,e2⟩:=b.cK c _ e1
  exact⟨m1++m2,by rw[e2,Array.append_assoc]⟩
 tupk:=λc xs ob q e=>b.tupk c xs ob (a.tups c xs q) (a.tupk c xs ob q e)
theorem Un.kept (k:∀b u,h.get? b=some u->h'.get? b=some u):Un fs ex H H h h':=
 ⟨λb ob q _ _ _=>k b ob q,λb ob q _ _ _=>⟨ob.slots,k b ob q⟩,λ_ _ _ n _=>n,λb ob q _=>⟨ob,k b ob q⟩,λ_ _ q=>q,λ_ _ _ q=>q,λ_ ps q=>⟨#[],by rw[q];simp⟩,λb _ ob _ e=>k b ob e⟩
theorem Un.refl:Un fs ex H H h h:=Un.kept λ_ _ q=>q
theorem Un.laid (k:∀b u,h.get? b=some u->h'.get? b=some u)(hp:h.objs.size<=a)(hn:H a=none):Un fs ex H (upd H a o) h h' where
 keep:=λb u q _ _ _=>k b u q
 slot:=λb u q _ _ _=>⟨u.slots,k b u q⟩
 free:=λb u q n _=>by rw[qB (yZF (yZE (aG q) hp))];exact n
 there:=λb u q _=>⟨u,k b u q⟩
 tups:=λb xs q=>by rw[qB (qC q hn)];exact q
 frzs:=λb u xs q=>by rw[qB (qC q hn)];exact q
 cK:=λb ps q=>⟨#[],by rw[qB (qC q hn),q];simp⟩
 tupk:=λb _ u _ e=>k b u e
theorem Un.write (mu:AZ (H x))(he:e=x\/H e=some (.own x))(k:∀b u,b≠e->h.get? b=some u->h'.get? b=some u)(tP:∃u,h'.get? e=some u):Un fs ex H (upd H x o) h h':=by
 have hx:∀b,H b=none->b≠x:=λb n z=>by subst z;rw[n] at mu;exact mu
 have hb:∀b,H b=none->b≠e:=λb n z=>by
  subst z
  rcases he with r | r
  .exact hx b n r
  .rw[n] at r;cases r
 have hm:∀b u,H b=some u->¬AZ (some u)->b≠x:=λb u q nm z=>by subst z;rw[q] at mu;exact nm mu
 refine⟨λb u q n _ _=>k b u (hb b n) q,λb u q n _ _=>⟨u.slots,k b u (hb b n) q⟩,λb u q n _=>by rw[qB (hx b n)];exact n,λb u q _=>?_,
  λb xs q=>by rw[qB (hm b _ q λz=>z)];exact q,λb u xs q=>by rw[qB (hm b _ q λz=>z)];exact q,λb ps q=>⟨#[],by rw[qB (hm b _ q λz=>z),q];simp⟩,λb xs u q hu=>k b u (λz=>?_) hu⟩
 .by_cases lh:b=e
  .subst lh;exact tP
  .exact⟨u,k b u lh q⟩
 .subst z
  rcases he with r | r
  .exact hm b _ q (λz=>z) r
  .rw[q] at r;cases r
end
def DW (h:Heap)(H:Hp):List Addr:=(List.range h.objs.size).filter λa=>(H a).isSome
def fG (h:Heap)(H:Hp):Heap:=PySem.W.hideAll h (DW h H)
theorem P9 (h:Heap)(H:Hp):(fG h H).objs.size=h.objs.size:=PySem.W.hideAll_size _ _
theorem P' {h:Heap}{H:Hp}{b:Addr}{o:Obj}(e:h.get? b=some o)(n:H b=none):(fG h H).get? b=some o:=
 PySem.W.hideAll_get _ e λhm=>by
  have q:(H b).isSome=true:=(tO.mp hm).2
  rw[n] at q;simp at q
theorem KI {h:Heap}{H:Hp}{b:Addr}{o:Obj}(e:(fG h H).get? b=some o):h.get? b=some o/\H b=none:=by
 have e':h.get? b=some o:=PySem.W.of_hideAll (DW h H) e
 refine⟨e',?_⟩
 cases q:H b with
 | none=>rfl
 | some x=>
  have hm:b∈DW h H:=tO.mpr ⟨List.mem_range.mpr (aG e'),by simp[q]⟩
  have z:(fG h H).get? b=none:=PySem.W.hideAll_none (DW h H) hm
  rw[z] at e;cases e
end L2
namespace L2
open PySem PySem.Spec PyProof.Rows
structure Mod (K:aq)(mg:Str->Option Value)(base:Heap):Prop where
 tQ:K.In base
 glob:base.Ns Yd mg
 blt:∃mb,base.Ns builtinsNs mb/\∀x:Str,x ≠ "__name__" -> mb x=bootBuiltins x
 nolimit:base.NoLimit
/-- the context: a def's body (or a comprehension's block) running. base: fixed through the whole law; s₀, H₀: the entry; outer: the frames whose slots others may change (a def's callers); stack: all frames that run;
   ex: iterators that were made ahead of the entry and are walked here (a comprehension's); fn: the names whose cells were made at the entry (a def: all; a comprehension's block: its own); calm: not within an except fj; pn: zz that every state bears; xe: what is wanted of an exception that leaves the code -/
structure Cx where
 prog:Program
 w:World
 K:aq
 mg:Str->Option Value
 base:Heap
 A:Around
 N:List Str
 s₀:Shared
 H₀:Hp
 env:Env
 outer:List Env
 stack:List Env
 ex:List Addr
 fn:Str->Bool
 calm:Bool
 pn:List (Addr×Obj)
 xe:Value->Shared->Prop
def bG (l:List Env):List Addr:=l.filterMap (·.frame)
abbrev Cx.fs (X:Cx):List Addr:=bG X.outer
def Fg (sc:Scope)(x:Str):Prop:=sc.names.lookup x=some .local\/sc.names.lookup x=some .cell\/sc.names.lookup x=some .free
def Loc (sc:Scope)(x:Str):Prop:=sc.names.lookup x=some .local\/sc.names.lookup x=some .cell
def Look (env:Env)(h:Heap)(m:Str->Option Value)(x:Str)(u:Value):Prop:=
 (env.kindOf x=some .local/\m x=some u)\/((env.kindOf x=some .cell\/env.kindOf x=some .free)/\∃c,env.cells.lookup x=some c/\h.IsCell c (some u))
structure Cx.Ok (X:Cx):Prop where
 mod:Mod X.K X.mg X.base
 kind:X.env.scope.kind=.function
 glob:X.env.globals=Yd
 blt:X.env.builtins=builtinsNs
 above:X.s₀.heap.objs.size<=X.env.locals
 inj:∀x y c,X.env.cells.lookup x=some c->X.env.cells.lookup y=some c->x=y
 has:∀x,(X.env.kindOf x=some .cell\/X.env.kindOf x=some .free)->∃c,X.env.cells.lookup x=some c
 nX:∀x c,X.fn x=true->X.env.cells.lookup x=some c->X.s₀.heap.objs.size<=c
 hd:X.calm=true->X.A.handled=none
 frames:X.A.frames=some X.stack
 nB:X.stack=X.outer\/(X.stack=X.env::X.outer/\X.env.frame=some X.env.locals)
 A3:∀b∈X.ex,b≠X.env.locals/\∀x c,X.env.cells.lookup x=some c->c≠b
 bs:∀b o,X.base.get? b=some o->X.s₀.heap.get? b=some o/\Ff (X.H₀ b)
 lA:X.base.objs.size<=X.s₀.heap.objs.size
 fH:∀b o,X.base.get? b=some o->b∉X.ex
 gY:∀b∈X.ex,b∉X.fs
 cX:X.s₀.heap.FunFrames X.base X.outer
 nE:∀b∈X.fs,X.H₀ b=none
structure Inv (X:Cx)(zz:List (Addr×Obj))(σ:List (Option V))(H:Hp)(s:Shared):Prop where
 ok:X.Ok
 os:s.os=X.s₀.os
 bare:AllBare s.gens
 base:Un X.fs X.ex X.H₀ H X.s₀.heap s.heap
 loc:∃m,s.heap.Ns X.env.locals m/\∀(i:Nat) (x:Str) (v:V),X.N[i]? = some x->σ[i]? = some (some v)->Fg X.env.scope x->∃u,RelV v u/\Look X.env s.heap m x u
 cell:∀x c,X.env.cells.lookup x=some c->∃v,s.heap.IsCell c v
 free:H X.env.locals=none
 bq:∀x c,X.env.cells.lookup x=some c->H c=none
 pin:∀p∈X.pn++zz,s.heap.get? p.1=some p.2/\H p.1=none/\p.1≠X.env.locals/\p.1∉X.fs/\∀v,p.2.data≠.cell v
 af:ck X.prog X.w H s.heap
 len:σ.length=X.N.length
section
variable {X:Cx}{zz:List (Addr×Obj)}{σ:List (Option V)}{H H':Hp}{s:Shared}{h':Heap}
theorem Cx.Ok.nofr (ok:X.Ok){b:Addr}{o:Obj}(e:X.base.get? b=some o):b∉X.fs:=λhb=>by
 have:=(ok.cX.mem hb).1
 rw[e] at this;cases this
theorem Inv.bs (I:Inv X zz σ H s):∀b o,X.base.get? b=some o->s.heap.get? b=some o/\Ff (H b):=λb o e=>by
 obtain⟨e1,z⟩:=I.ok.bs b o e
 rcases z with z | ⟨xs,z⟩
 .exact⟨I.base.keep b o e1 z (I.ok.nofr e) (I.ok.fH b o e),.inl (I.base.free b o e1 z (I.ok.fH b o e))⟩
 .exact⟨I.base.tupk b xs o z e1,.inr ⟨xs,I.base.tups b xs z⟩⟩
theorem Inv.bk (I:Inv X zz σ H s):∀b o,X.base.get? b=some o->s.heap.get? b=some o:=λb o e=>(I.bs b o e).1
theorem Inv.mod (I:Inv X zz σ H s):Mod X.K X.mg X.base:=I.ok.mod
theorem Inv.dq (I:Inv X zz σ H s):X.K.In s.heap:=I.ok.mod.tQ.keeps I.bk
theorem Inv.lt (I:Inv X zz σ H s):X.env.locals<s.heap.objs.size:=let ⟨_,hn,_⟩:=I.loc;hn.lt
theorem Inv.sz (I:Inv X zz σ H s):X.s₀.heap.objs.size<=s.heap.objs.size:=yZJ I.ok.above (Nat.le_of_lt I.lt)
theorem Inv.nofs (I:Inv X zz σ H s){a:Addr}(h:s.heap.objs.size<=a):a∉X.fs:=λhb=>by
 obtain⟨_,o,ho,_⟩:=I.ok.cX.mem hb
 exact absurd (yZE (aG ho) (yZJ I.sz h)) (Nat.lt_irrefl _)
theorem Inv.pT (I:Inv X zz σ H s):∀x c,X.env.cells.lookup x=some c->c≠X.env.locals:=λx c e z=>by
 obtain⟨v,o,ho,hd⟩:=I.cell x c e
 obtain⟨m,⟨o',es,ep,dQ,dr,_⟩,_⟩:=I.loc
 rw[z,dQ] at ho;cases ho;rw[dr] at hd;cases hd
theorem Inv.cX (I:Inv X zz σ H s):s.heap.FunFrames X.base X.outer:=by
 have all:∀(l:List Env),(∀b∈bG l,b∈X.fs)->X.s₀.heap.FunFrames X.base l->s.heap.FunFrames X.base l:=by
  intro l
  induction l with
  | nil=>intro _ _;trivial
  | cons env r ih=>
   intro hs hl
   obtain⟨hk,⟨L,o,hf,hn,ho,hd⟩,hr⟩:=hl
   have hL:L∈X.fs:=hs L (by unfold bG;rw[Yt,hf];exact aW)
   obtain⟨sl,e⟩:=I.base.slot L o ho (I.ok.nE L hL) hL λz=>I.ok.gY L z hL
   exact⟨hk,⟨L,_,hf,hn,e,hd⟩,ih (λb hb=>hs b (by unfold bG;rw[Yt,hf];exact yYH _ hb)) hr⟩
 exact all X.outer (λ_ hb=>hb) I.ok.cX
theorem Inv.stack (I:Inv X zz σ H s):s.heap.FunFrames X.base X.stack:=by
 rcases I.ok.nB with e | ⟨e,hf⟩
 .rw[e];exact I.cX
 .rw[e]
  obtain⟨m,hn,_⟩:=I.loc
  refine .cons (by rw[I.ok.kind];decide) hf hn ?_ I.cX
  exact Heap.get?_none_of_le (yZJ I.ok.lA I.ok.above)
theorem Inv.stkSub (I:Inv X zz σ H s):∀b∈bG X.stack,b∈X.env.locals::X.fs:=λb hb=>by
 rcases I.ok.nB with e | ⟨e,hf⟩
 .rw[e] at hb;exact yYH _ hb
 .rw[e] at hb
  unfold bG at hb
  rw[Yt,hf] at hb
  exact hb
theorem Inv.bV (I:Inv X zz σ H s):∀b∈bG X.stack,H b=none:=λb hb=>by
 rcases aE.mp (I.stkSub b hb) with e | hb
 .rw[e];exact I.free
 .obtain⟨_,o,ho,_⟩:=I.ok.cX.mem hb
  exact I.base.free b o ho (I.ok.nE b hb) λz=>I.ok.gY b z hb
theorem Inv.step {g':Array GenState}{t':Nat}{d':Drawn}{ch:List Addr}(I:Inv X zz σ H s)
  (nF:∀b∈ch,(b∈X.ex\/X.s₀.heap.objs.size<=b)/\b≠X.env.locals/\(∀x c,X.env.cells.lookup x=some c->c≠b)/\∀p∈X.pn++zz,p.1≠b)
  (keep:∀b o,b≠X.env.locals->b∉X.fs->b∉ch->s.heap.get? b=some o->H b=none->h'.get? b=some o)
  (slot:∀b o,b≠X.env.locals->b∈X.fs->b∉ch->s.heap.get? b=some o->H b=none->∃sl,h'.get? b=some { o with slots:=sl }) (free:∀b o,b∉ch->s.heap.get? b=some o->H b=none->H' b=none)
  (there:∀b o,b∉ch->s.heap.get? b=some o->∃o',h'.get? b=some o')
  (tups:∀b xs,H b=some (.tup xs)->H' b=some (.tup xs)) (frzs:∀b o u,H b=some (.frz o u)->H' b=some (.frz o u)) (cK:∀b ps,H b=some (.tbl ps)->∃more,H' b=some (.tbl (ps++more)))
  (ns:∀m,s.heap.Ns X.env.locals m->h'.Ns X.env.locals m) (af:ck X.prog X.w H' h') (hg:AllBare g')
  (tupk:∀b xs o,H b=some (.tup xs)->s.heap.get? b=some o->h'.get? b=some o:=by first | exact λb _ o q e=>keep b o (lB b _ q) e | exact u.tupk):
  Inv X zz σ H' { s with heap:=h',gens:=g',drawn:=d',toks:=t' }:=by
 have KJ:∀b o,X.s₀.heap.get? b=some o->b≠X.env.locals:=λb o e=>yZF (yZE (aG e) I.ok.above)
 have DX:∀b o,X.s₀.heap.get? b=some o->b∉X.ex->b∉ch:=λb o e hx hb=>by
  rcases(nF b hb).1 with z | z
  .exact hx z
  .exact absurd (yZE (aG e) z) (Nat.lt_irrefl _)
 have cellK:∀x c,X.env.cells.lookup x=some c->∀v,s.heap.IsCell c v->h'.IsCell c v:=λx c e v ⟨o,ho,hd⟩=>by
  have A4:c∉ch:=λz=>(nF c z).2.2.1 x c e rfl
  by_cases hc:c∈X.fs
  .obtain⟨sl,q⟩:=slot c o (I.pT x c e) hc A4 ho (I.bq x c e)
   exact⟨_,q,hd⟩
  .exact⟨o,keep c o (I.pT x c e) hc A4 ho (I.bq x c e),hd⟩
 refine⟨I.ok,I.os,hg,⟨λb o e n hb hx=>?_,λb o e n hb hx=>?_,λb o e n hx=>?_,λb o e hx=>?_,λb xs e=>tups b xs (I.base.tups b xs e),λb o xs e=>frzs b o xs (I.base.frzs b o xs e),λb ps e=>?_,λb xs o q e=>tupk b xs o (I.base.tups b xs q) (I.base.tupk b xs o q e)⟩,?_,λx c e=>?_,?_,λx c e=>?_,λp hp=>?_,af,I.len⟩
 .exact keep b o (KJ b o e) hb (DX b o e hx) (I.base.keep b o e n hb hx) (I.base.free b o e n hx)
 .obtain⟨sl,e1⟩:=I.base.slot b o e n hb hx
  obtain⟨rq,e2⟩:=slot b _ (KJ b o e) hb (DX b o e hx) e1 (I.base.free b o e n hx)
  exact⟨rq,e2⟩
 .obtain⟨o',e1⟩:=I.base.there b o e hx
  exact free b o' (DX b o e hx) e1 (I.base.free b o e n hx)
 .obtain⟨o',e1⟩:=I.base.there b o e hx
  exact there b o' (DX b o e hx) e1
 .obtain⟨m1,e1⟩:=I.base.cK b ps e
  obtain⟨m2,e2⟩:=cK b _ e1
  exact⟨m1++m2,by rw[e2,Array.append_assoc]⟩
 .obtain⟨m,hn,hl⟩:=I.loc
  refine⟨m,ns m hn,λi x v e1 e2 e3=>?_⟩
  obtain⟨u,r,l⟩:=hl i x v e1 e2 e3
  refine⟨u,r,?_⟩
  rcases l with l | ⟨k,c,e,z⟩
  .exact .inl l
  .exact .inr ⟨k,c,e,cellK x c e _ z⟩
 .obtain⟨v,z⟩:=I.cell x c e
  exact⟨v,cellK x c e v z⟩
 .obtain⟨m,⟨o,_,_,ho,_⟩,_⟩:=I.loc
  exact free _ o (λz=>(nF _ z).2.1 rfl) ho I.free
 .obtain⟨v,o,ho,hd⟩:=I.cell x c e
  exact free c o (λz=>(nF c z).2.2.1 x c e rfl) ho (I.bq x c e)
 .obtain⟨e,n,ne,nf,d⟩:=I.pin p hp
  have A4:p.1∉ch:=λz=>(nF p.1 z).2.2.2 p hp rfl
  exact⟨keep p.1 p.2 ne nf A4 e n,free p.1 p.2 A4 e n,ne,nf,d⟩
theorem Inv.un {t':Nat}(I:Inv X zz σ H s)(u:Un X.fs [] H H' s.heap h')(af:ck X.prog X.w H' h'):Inv X zz σ H' { s with heap:=h',toks:=t' }:=by
 obtain⟨m,⟨o,es,ep,ho,r⟩,_⟩:=id I.loc
 obtain⟨sl,hL⟩:=u.any ho I.free (by simp)
 exact I.step (g':=s.gens) (d':=s.drawn) (ch:=[]) (λ_ z=>nomatch z) (λb o _ hb _ e n=>u.keep b o e n hb (by simp)) (λb o _ hb _ e n=>u.slot b o e n hb (by simp)) (λb o _ e n=>u.free b o e n (by simp)) (λb o _ e=>u.there b o e (by simp)) u.tups u.frzs u.cK (λm' hm=>by
  obtain⟨o',bC,dt,dQ,r'⟩:=hm
  rw[ho] at dQ;cases dQ
  exact⟨_,bC,dt,hL,r'⟩) af I.bare
theorem Inv.call {g':Array GenState}{t':Nat}{d':Drawn}{ch:List Addr}(I:Inv X zz σ H s)(u:Un (bG X.stack) ch H H' s.heap h')(af:ck X.prog X.w H' h')(hg:AllBare g')
  (nF:∀b∈ch,(b∈X.ex\/X.s₀.heap.objs.size<=b)/\b≠X.env.locals/\(∀x c,X.env.cells.lookup x=some c->c≠b)/\∀p∈X.pn++zz,p.1≠b):
  Inv X zz σ H' { s with heap:=h',gens:=g',drawn:=d',toks:=t' }:=by
 obtain⟨m,⟨o,es,ep,ho,r⟩,_⟩:=id I.loc
 obtain⟨sl,hL⟩:=u.any ho I.free λz=>(nF _ z).2.1 rfl
 exact I.step (ch:=ch) nF (λb o hL hb hc e n=>u.keep b o e n (λz=>(aE.mp (I.stkSub b z)).elim hL hb) hc) (λb o _ _ hc e n=>u.any e n hc) (λb o hc e n=>u.free b o e n hc) (λb o hc e=>u.there b o e hc) u.tups u.frzs u.cK (λm' hm=>by
  obtain⟨o',bC,dt,dQ,r'⟩:=hm
  rw[ho] at dQ;cases dQ
  exact⟨_,bC,dt,hL,r'⟩) af hg
theorem Inv.turned {t':Nat}{it:Addr}(I:Inv X zz σ H s)(k:∀b o,b≠it->s.heap.get? b=some o->h'.get? b=some o)(hn:H it=none)(hL:it≠X.env.locals)
  (h1:it∈X.ex\/X.s₀.heap.objs.size<=it) (h2:∀x c,X.env.cells.lookup x=some c->c≠it) (h3:∀p∈X.pn++zz,p.1≠it):Inv X zz σ H { s with heap:=h',toks:=t' }:=by
 have Fh:∀b u,H b=some u->b≠it:=λb u e z=>by rw[z,hn] at e;cases e
 refine I.step (g':=s.gens) (d':=s.drawn) (ch:=[it]) (λb hb=>?_) (λb o _ _ hc e _=>k b o (λz=>hc (by simp[z])) e) (λb o _ _ hc e _=>⟨o.slots,k b o (λz=>hc (by simp[z])) e⟩) (λ_ _ _ _ n=>n)
  (λb o hc e=>⟨o,k b o (λz=>hc (by simp[z])) e⟩) (λ_ _ e=>e) (λ_ _ _ e=>e) (λb ps e=>⟨#[],by rw[e];simp⟩) (λm hm=>?_) (λb u e=>?_) I.bare λb _ o q e=>k b o (Fh b _ q) e
 .have e:b=it:=by simpa using hb
  subst e
  exact⟨h1,hL,h2,h3⟩
 .obtain⟨o,es,ep,ho,r⟩:=hm
  exact⟨o,es,ep,k _ o (Ne.symm hL) ho,r⟩
 .refine(I.af b u e).stay (λc v hc q=>k c v ?_ q) (λ_ q=>q) λ_ _ q=>q
  rcases hc with z | z
  .rw[z];exact Fh b u e
  .exact Fh c _ z
theorem Inv.tok (I:Inv X zz σ H s)(t:Nat):Inv X zz σ H { s with toks:=t }:=I.un (h':=s.heap) (t':=t) Un.refl I.af
theorem Inv.kept {t':Nat}(I:Inv X zz σ H s)(k:∀b u,s.heap.get? b=some u->h'.get? b=some u):Inv X zz σ H { s with heap:=h',toks:=t' }:=I.un (Un.kept k) (I.af.kept k)
theorem Inv.laid {a:Addr}{o:HO}{t':Nat}(I:Inv X zz σ H s)(k:∀b u,s.heap.get? b=some u->h'.get? b=some u)(hp:s.heap.objs.size<=a)(new:ao X.prog X.w (upd H a o) h' a o):
  Inv X zz σ (upd H a o) { s with heap:=h',toks:=t' }:=I.un (Un.laid k hp (I.af.fresh hp)) (I.af.laid k hp new)
theorem Inv.write {x e:Addr}{o:HO}{t':Nat}(I:Inv X zz σ H s)(mu:AZ (H x))(he:e=x\/H e=some (.own x))(k:∀b u,b≠e->s.heap.get? b=some u->h'.get? b=some u)(tP:∃u,h'.get? e=some u)
  (new:ao X.prog X.w (upd H x o) h' x o):Inv X zz σ (upd H x o) { s with heap:=h',toks:=t' }:=I.un (Un.write mu he k tP) (I.af.write mu he k tP new)
theorem Inv.weak {σ':List (Option V)}(I:Inv X zz σ H s)(hl:σ'.length=σ.length)(w:∀(i:Nat) v,σ'[i]? = some (some v)->σ[i]? = some (some v)):Inv X zz σ' H s:=
 ⟨I.ok,I.os,I.bare,I.base,let ⟨m,hn,lC⟩:=I.loc;⟨m,hn,λi x v e1 e2 e3=>lC i x v e1 (w i v e2) e3⟩,I.cell,I.free,I.bq,I.pin,I.af,hl.trans I.len⟩
theorem Inv.pins_of {pU:List (Addr×Obj)}(I:Inv X zz σ H s)(h:∀p∈pU,s.heap.get? p.1=some p.2/\H p.1=none/\p.1≠X.env.locals/\p.1∉X.fs/\∀v,p.2.data≠.cell v):Inv X pU σ H s:=
 ⟨I.ok,I.os,I.bare,I.base,I.loc,I.cell,I.free,I.bq,λp hp=>(fh.mp hp).elim (λz=>I.pin p (Ym _ z)) (h p),I.af,I.len⟩
theorem Fi {N:List Str}(hN:N.Nodup){i j:Nat}{x:Str}(a:N[i]? = some x)(b:N[j]? = some x):i=j:=by
 obtain⟨h1,e1⟩:=aN.mp a
 obtain⟨h2,e2⟩:=aN.mp b
 exact(List.getElem_inj hN).mp (e1.trans e2.symm)
theorem KL {M:Model}{A:Around}{E:Value->Shared->Prop}{i:Nat}{x:Str}{v:V}{u:Value}{Q:Unit->Shared->Prop}(I:Inv X zz σ H s)(hN:X.N.Nodup)(hi:X.N[i]? = some x)(hx:Loc X.env.scope x)(r:RelV v u)
  (h:∀s',Inv X zz (σ.set i (some v)) H s'->(∃a,Heap.SameBut a s.heap s'.heap/\(a=X.env.locals\/X.env.cells.lookup x=some a))->Q () s') (hf:X.fn x=true\/X.env.scope.names.lookup x=some .local:=by first | exact .inl rfl | exact .inr rfl | assumption):wpAny M A (storeName X.env x u) Q E s:=by
 obtain⟨m,hn,hl⟩:=id I.loc
 have Fj:(X.env.scope.kind == .class || (X.env.scope.kind == .module && X.env.locals != X.env.globals))=false:=by rw[I.ok.kind];rfl
 have hiσ:i<σ.length:=by rw[I.len];exact(aN.mp hi).1
 have pT:=I.pT
 have tracked:∀{a:Addr} {h':Heap},(∃o,s.heap.get? a=some o/\H a=none)->Heap.SameBut a s.heap h'->ck X.prog X.w H h':=λ{a h'} ha hs b ob e=>by
  obtain⟨_,_,pV⟩:=ha
  refine(I.af b ob e).stay (λc w' hc q=>(hs.2 c ?_).trans q) (λ_ q=>q) λ_ _ q=>q
  rintro rfl
  rcases hc with rfl | hc
  .rw[pV] at e;cases e
  .rw[pV] at hc;cases hc
 rcases hx with hk | hk
 .refine wpAny_storeName_local hk hn (λh' DY hs=>?_) Fj
  obtain⟨oL,_,_,lD,_⟩:=id hn
  refine h _ ⟨I.ok,I.os,I.bare,⟨λb o e n hb hx=>?_,λb o e n hb hx=>?_,I.base.free,λb o e hx=>?_,I.base.tups,I.base.frzs,I.base.cK,λb xs o q e=>(hs.2 b (yZF (yZE (aG e) I.ok.above))).trans (I.base.tupk b xs o q e)⟩,⟨_,DY,λj y v' e1 e2 e3=>?_⟩,λy c e=>?_,I.free,I.bq,λp hp=>?_,tracked ⟨oL,lD,I.free⟩ hs,by simpa using I.len⟩ ⟨_,hs,.inl rfl⟩
  .exact(hs.2 b (yZF (yZE (aG e) I.ok.above))).trans (I.base.keep b o e n hb hx)
  .obtain⟨sl,e1⟩:=I.base.slot b o e n hb hx
   exact⟨sl,(hs.2 b (yZF (yZE (aG e) I.ok.above))).trans e1⟩
  .obtain⟨o',e1⟩:=I.base.there b o e hx
   exact⟨o',(hs.2 b (yZF (yZE (aG e) I.ok.above))).trans e1⟩
  .by_cases hj:j=i
   .subst hj
    rw[hi] at e1;cases e1
    rw[List.getElem?_set_self hiσ] at e2
    cases e2
    exact⟨u,r,.inl ⟨hk,by simp⟩⟩
   .rw[List.getElem?_set_ne (Ne.symm hj)] at e2
    obtain⟨u',r',q⟩:=hl j y v' e1 e2 e3
    refine⟨u',r',?_⟩
    rcases q with⟨k,e⟩ | ⟨k,c,e,z⟩
    .refine .inl ⟨k,?_⟩
     have:y≠x:=λe=>hj (Fi hN e1 (e▸hi))
     simp[this,e]
    .exact .inr ⟨k,c,e,z.sameBut hs (pT y c e)⟩
  .obtain⟨w',z⟩:=I.cell y c e
   exact⟨w',z.sameBut hs (pT y c e)⟩
  .obtain⟨e,n,ne,nf,d⟩:=I.pin p hp
   exact⟨(hs.2 p.1 ne).trans e,n,ne,nf,d⟩
 .have DZ:X.fn x=true:=by
   rcases hf with z | z
   .exact z
   .rw[z] at hk;cases hk
  obtain⟨c,hc⟩:=I.ok.has x (.inl hk)
  obtain⟨w',z⟩:=I.cell x c hc
  refine wpAny_storeName_cell I.ok.kind hk hc z (λh' bH hs=>?_)
  obtain⟨oc,KN,Fl⟩:=id z
  refine h { s with heap:=h' } ⟨I.ok,I.os,I.bare,⟨λb o e n hb hx=>?_,λb o e n hb hx=>?_,I.base.free,λb o e hx=>?_,I.base.tups,I.base.frzs,I.base.cK,λb xs o q e=>(hs.2 b (yZF (yZE (aG e) (I.ok.nX x c DZ hc)))).trans (I.base.tupk b xs o q e)⟩,⟨m,hn.sameBut hs (Ne.symm (pT x c hc)),λj y v' e1 e2 e3=>?_⟩,λy c' e=>?_,I.free,I.bq,λp hp=>?_,tracked ⟨oc,KN,I.bq x c hc⟩ hs,by simpa using I.len⟩ ⟨c,hs,.inr hc⟩
  .exact(hs.2 b (yZF (yZE (aG e) (I.ok.nX x c DZ hc)))).trans (I.base.keep b o e n hb hx)
  .obtain⟨sl,e1⟩:=I.base.slot b o e n hb hx
   exact⟨sl,(hs.2 b (yZF (yZE (aG e) (I.ok.nX x c DZ hc)))).trans e1⟩
  .obtain⟨o',e1⟩:=I.base.there b o e hx
   exact⟨o',(hs.2 b (yZF (yZE (aG e) (I.ok.nX x c DZ hc)))).trans e1⟩
  .by_cases hj:j=i
   .subst hj
    rw[hi] at e1;cases e1
    rw[List.getElem?_set_self hiσ] at e2
    cases e2
    exact⟨u,r,.inr ⟨.inl hk,c,hc,bH⟩⟩
   .rw[List.getElem?_set_ne (Ne.symm hj)] at e2
    obtain⟨u',r',q⟩:=hl j y v' e1 e2 e3
    refine⟨u',r',?_⟩
    rcases q with q | ⟨k,c',e,z'⟩
    .exact .inl q
    .refine .inr ⟨k,c',e,z'.sameBut hs ?_⟩
     rintro rfl
     exact hj (Fi hN e1 (I.ok.inj _ _ _ e hc▸hi))
  .by_cases KO:c'=c
   .subst KO;exact⟨_,bH⟩
   .obtain⟨w2,z2⟩:=I.cell y c' e
    exact⟨w2,z2.sameBut hs KO⟩
  .obtain⟨e,n,ne,nf,d⟩:=I.pin p hp
   refine⟨(hs.2 p.1 ?_).trans e,n,ne,nf,d⟩
   intro q
   rw[q,KN] at e
   have q':oc=p.2:=Option.some.inj e
   exact d w' (by rw[<- q'];exact Fl)
theorem vK {M:Model}{A:Around}{E:Value->Shared->Prop}{i:Nat}{x:Str}{v:V}{u:Value}{Q:Unit->Shared->Prop}(I:Inv X zz σ H s)(hN:X.N.Nodup)(hi:X.N[i]? = some x)(hx:Loc X.env.scope x)(r:RelV v u)
  (h:∀s',Inv X zz (σ.set i (some v)) H s'->Q () s') (hf:X.fn x=true\/X.env.scope.names.lookup x=some .local:=by first | exact .inl rfl | exact .inr rfl | assumption):wpAny M A (storeName X.env x u) Q E s:=
 KL I hN hi hx r (λs' I' _=>h s' I') hf
theorem Inv.call' {s':Shared}{ch:List Addr}(I:Inv X zz σ H s)(ho:s'.os=s.os)(u:Un (bG X.stack) ch H H' s.heap s'.heap)(af:ck X.prog X.w H' s'.heap)(hg:AllBare s'.gens)
  (nF:∀b∈ch,(b∈X.ex\/X.s₀.heap.objs.size<=b)/\b≠X.env.locals/\(∀x c,X.env.cells.lookup x=some c->c≠b)/\∀p∈X.pn++zz,p.1≠b):Inv X zz σ H' s':=by
 obtain⟨h',g',d',t',o'⟩:=s'
 have e:o'=s.os:=ho
 subst e
 exact I.call (g':=g') (t':=t') (d':=d') u af hg nF
end
abbrev XK:=Value->Option Addr->Hp->Prop
abbrev St:=List (Option V)
abbrev VK:=V->Hp->Prop
abbrev TE:=St->Hp->VK->Prop
abbrev TT:=St->Hp->(Bool->Hp->Prop)->Prop
abbrev TA:=St->Hp->(List V->Hp->Prop)->Prop
structure Ends where
 nx:St->Hp->Prop
 rt:VK
 bk:St->Hp->Prop:=λ_ _=>False
 ct:St->Hp->Prop:=λ_ _=>False
abbrev TS:=Ends->St->Hp->Prop
def EP (X:Cx)(zz:List (Addr×Obj))(σ:St)(Q:VK)(u:Value)(s':Shared):Prop:=∃v H',Inv X zz σ H' s'/\RelV v u/\Q v H'
def TP (X:Cx)(zz:List (Addr×Obj))(σ:St)(Q:Bool->Hp->Prop)(b:Bool)(s':Shared):Prop:=∃H',Inv X zz σ H' s'/\Q b H'
def AP (X:Cx)(zz:List (Addr×Obj))(σ:St)(Q:List V->Hp->Prop)(us:List Value)(s':Shared):Prop:=∃vs H',Inv X zz σ H' s'/\Vals vs us/\Q vs H'
def SP (X:Cx)(zz:List (Addr×Obj))(D:Ends)(f:Flow)(s':Shared):Prop:=
 match f with
 | .next=>∃σ' H',Inv X zz σ' H' s'/\D.nx σ' H'
 | .brk=>∃σ' H',Inv X zz σ' H' s'/\D.bk σ' H'
 | .cont=>∃σ' H',Inv X zz σ' H' s'/\D.ct σ' H'
 | .ret u=>∃v σ' H',Inv X zz σ' H' s'/\RelV v u/\D.rt v H'
def PE (X:Cx)(e:Expr)(t:TE):Prop:=
 ∀(zz:List (Addr×Obj)) (s:Shared) (σ:St) (H:Hp) (Q:VK),Inv X zz σ H s->t σ H Q->wpAny (model X.prog X.w) X.A (eval e X.env) (EP X zz σ Q) X.xe s
def PT (X:Cx)(e:Expr)(t:TT):Prop:=
 ∀(zz:List (Addr×Obj)) (s:Shared) (σ:St) (H:Hp) (Q:Bool->Hp->Prop),Inv X zz σ H s->t σ H Q->wpAny (model X.prog X.w) X.A (isTrue e X.env (eval e X.env)) (TP X zz σ Q) X.xe s
def PW (X:Cx)(e:Expr)(t:TT):Prop:=
 ∀(whole:Sem Value) (zz:List (Addr×Obj)) (s:Shared) (σ:St) (H:Hp) (Q:Bool->Hp->Prop),Inv X zz σ H s->t σ H Q->wpAny (model X.prog X.w) X.A (isTrue e X.env whole) (TP X zz σ Q) X.xe s
theorem PW.pt {X:Cx}{e:Expr}{t:TT}(h:PW X e t):PT X e t:=h _
def PA (X:Cx)(es:List Expr)(t:TA):Prop:=
 ∀(pos:Pos) (zz:List (Addr×Obj)) (s:Shared) (σ:St) (H:Hp) (Q:List V->Hp->Prop),Inv X zz σ H s->t σ H Q->wpAny (model X.prog X.w) X.A (spliced (backTo pos (starEach es X.env))) (AP X zz σ Q) X.xe s
def PS (X:Cx)(st:Stmt)(t:TS):Prop:=
 ∀(zz:List (Addr×Obj)) (s:Shared) (σ:St) (H:Hp) (D:Ends),Inv X zz σ H s->t D σ H->wpAny (model X.prog X.w) X.A (exec st X.env) (SP X zz D) X.xe s
def dR (X:Cx)(st:List Stmt)(t:TS):Prop:=
 ∀(zz:List (Addr×Obj)) (s:Shared) (σ:St) (H:Hp) (D:Ends),Inv X zz σ H s->t D σ H->wpAny (model X.prog X.w) X.A (execs st X.env) (SP X zz D) X.xe s
theorem aF {α:Type}{t:Sem α}{Q Q':α->Shared->Prop}{M:Model}{A:Around}{E:Value->Shared->Prop}{s:Shared}(h:wpAny M A t Q E s)(hQ:∀a s,Q a s->Q' a s):wpAny M A t Q' E s:=wpAny_mono h hQ λ_ _ x=>x
end L2
namespace L2
open PySem PySem.Spec PyProof.Rows
section
variable {X:Cx}
def eS (i:Nat):TE:=λσ H Q=>∃v,σ[i]? = some (some v)/\Q v H
def tC (v:V):TE:=λ_ H Q=>Q v H
theorem Qa {i:Nat}{x:Str}{pos:Pos}(hN:X.N[i]? = some x)(hv:Fg X.env.scope x)(hd:(x == ("__debug__" : Str))=false:=by decide)(i5:(x == ("__classdict__" : Str))=false:=by decide):PE X (.Name x pos) (eS i):=by
 intro zz s σ H Q I h
 obtain⟨v,e,h⟩:=h
 obtain⟨m,hn,hl⟩:=I.loc
 obtain⟨u,r,l⟩:=hl i x v hN e hv
 have fin:EP X zz σ Q u s:=⟨v,H,I,r,h⟩
 rcases l with⟨hk,hm⟩ | ⟨hk,c,hc,iI⟩
 .exact wpAny_Name (wpAny_loadName_local I.ok.kind hk hn hm fin) hd
 .rcases hk with hk | hk
  .exact wpAny_Name (wpAny_loadName_cell I.ok.kind hk hc iI fin) hd
  .exact wpAny_Name (wpAny_loadName_free I.ok.kind hk hc iI fin i5) hd
theorem qG {i j pos}:PE X (.Constant (.int i) j pos) (tC (.int i)):=λ_ _ _ H _ I h=>wpAny_Constant_int ⟨.int i,H,I.tok _,⟨_,rfl⟩,h⟩
theorem rA {b j pos}:PE X (.Constant (.bool b) j pos) (tC (.bl b)):=λ_ _ _ H _ I h=>Constant_bool ⟨.bl b,H,I,rfl,h⟩
theorem tR {j pos}:PE X (.Constant .none j pos) (tC .non):=λ_ _ _ H _ I h=>Constant_none ⟨.non,H,I,rfl,h⟩
theorem qH {x j pos}:PE X (.Constant (.str x) j pos) (tC (.str x)):=λ_ _ _ H _ I h=>Calls.Constant_str ⟨.str x,H,I.tok _,⟨_,rfl⟩,h⟩
def Gl (X:Cx)(x:Str):Prop:=X.env.kindOf x=some .globalImplicit
theorem wJ {E:Value->Shared->Prop}{zz:List (Addr×Obj)}{s:Shared}{σ:St}{H:Hp}{x:Str}{u:Value}{pos:Pos}{Q:Value->Shared->Prop}(I:Inv X zz σ H s)(hg:Gl X x)(hm:X.mg x=some u)(h:Q u s)
  (hd:(x == ("__debug__" : Str))=false:=by decide):wpAny (model X.prog X.w) X.A (eval (.Name x pos) X.env) Q E s:=
 Calls.Name_function_global I.ok.kind hg (Calls.loadGlobal_global (by rw[I.ok.glob];exact I.mod.glob.keeps I.bk) hm h) hd
theorem wA {E:Value->Shared->Prop}{zz:List (Addr×Obj)}{s:Shared}{σ:St}{H:Hp}{x:Str}{u:Value}{pos:Pos}{Q:Value->Shared->Prop}(I:Inv X zz σ H s)(hg:Gl X x)(hm:X.mg x=none)(hv:bootBuiltins x=some u)(h:Q u s)
  (hn:x ≠ "__name__" := by decide) (hd:(x == ("__debug__" : Str))=false:=by decide):wpAny (model X.prog X.w) X.A (eval (.Name x pos) X.env) Q E s:=by
 obtain⟨mb,h1,h2⟩:=I.mod.blt
 exact Calls.Name_function_global I.ok.kind hg (Calls.loadGlobal_builtin (by rw[I.ok.glob];exact I.mod.glob.keeps I.bk) hm (by rw[I.ok.blt];exact h1.keeps I.bk) ((h2 x hn).trans hv) h) hd
theorem KP {x:Str}{v:V}{u:Value}{pos:Pos}(hg:Gl X x)(hm:X.mg x=some u)(r:RelV v u)(hd:(x == ("__debug__" : Str))=false:=by decide):PE X (.Name x pos) (tC v):=
 λ_ _ _ H _ I h=>wJ I hg hm ⟨v,H,I,r,h⟩ hd
theorem Qb {x:Str}{v:V}{u:Value}{pos:Pos}(hg:Gl X x)(hm:X.mg x=none)(hv:bootBuiltins x=some u)(r:RelV v u)(hn:x ≠ "__name__" := by decide)(hd:(x == ("__debug__" : Str))=false:=by decide):PE X (.Name x pos) (tC v):=
 λ_ _ _ H _ I h=>wA I hg hm hv ⟨v,H,I,r,h⟩ hn hd
variable {a b:Expr}{ta tb:TE}{pos:Pos}
def PC (X:Cx)(op:CmpOp)(a b:Expr)(t:TE):Prop:=
 ∀(zz:List (Addr×Obj)) (s:Shared) (σ:St) (H:Hp) (Q:VK),Inv X zz σ H s->t σ H Q->
  wpAny (model X.prog X.w) X.A (eval a X.env) (λv s₁=>wpAny (model X.prog X.w) X.A (eval b X.env) (λu s₂=>wpAny (model X.prog X.w) X.A (compareOp op v u) (EP X zz σ Q) X.xe s₂) X.xe s₁) X.xe s
def tB (t:TE):TT:=λσ H Q=>t σ H λx H1=>∃c,x=.bl c/\Q c H1
theorem KQ {op:CmpOp}{t:TE}(h:PC X op a b t)(h1:behindInMarks op b=false:=by first | exact nobehind _ (by decide) (by decide) | rfl):PT X (.Compare a [op] [b] pos) (tB t):=by
 intro zz s σ H Q I hw
 refine wpAny_isTrue_Compare1 (aF (h zz s σ H _ I hw) λv s1 h1=>aF h1 λu s2 h2=>aF h2 λc s3 ⟨x,H1,I1,r1,q1⟩=>?_) h1
 obtain⟨d,rfl,q⟩:=q1
 cases r1
 exact wpAny_truthy_bool ⟨H1,I1,q⟩
theorem yY {e:Expr}{t:TE}(h:PE X e t)(he:∀whole,isTrue e X.env whole=(do let v <- whole;standAt e.pos;holding [v] (truthy v)):=by intro _;rfl):PT X e (tB t):=by
 intro zz s σ H Q I hw
 refine isTrue_plain (aF (h zz s σ H _ I hw) λv s1 ⟨x,H1,I1,r1,q1⟩=>?_) (he _)
 obtain⟨d,rfl,q⟩:=q1
 cases r1
 exact wpAny_truthy_bool ⟨H1,I1,q⟩
variable {tA KR:TT}{rest:List Expr}
def KS (t u:TT):TT:=λσ H Q=>t σ H λc H1=>if c=true then Q true H1 else u σ H1 Q
def A5 (t:TT):TT:=λσ H Q=>t σ H λc H1=>Q (!c) H1
theorem Fm (ha:PT X a tA):PW X (.BoolOp .Or [a] pos) tA:=by
 intro wh zz s σ H Q I h
 refine isTrue_or (aF (ha zz s σ H Q I h) λc s1 e=>?_)
 cases c with
 | false=>exact isTrue_or_nil e
 | true=>exact e
theorem A6 (ha:PT X a tA)(hb:PW X (.BoolOp .Or (b::rest) pos) KR):PW X (.BoolOp .Or (a::b::rest) pos) (KS tA KR):=by
 intro wh zz s σ H Q I h
 refine isTrue_or (aF (ha zz s σ H _ I h) λc s1 ⟨H1,I1,q1⟩=>?_)
 cases c with
 | true=>exact⟨H1,I1,q1⟩
 | false=>exact hb wh zz s1 σ H1 Q I1 q1
theorem D0 (ha:PT X a tA):PT X (.UnaryOp .Not a pos) (A5 tA):=by
 intro zz s σ H Q I h
 exact isTrue_not (ha zz s σ H (λc H1=>Q (!c) H1) I h)
def pW (ta tb:TE):TE:=λσ H Q=>ta σ H λx H1=>∃c,x=.bl c/\if c=true then tb σ H1 Q else Q (.bl false) H1
def A7 (ta tb:TE):TE:=λσ H Q=>ta σ H λx H1=>∃c,x=.bl c/\if c=true then Q (.bl true) H1 else tb σ H1 Q
def pX (ta:TE):TE:=λσ H Q=>ta σ H λx H1=>∃c,x=.bl c/\Q (.bl (!c)) H1
theorem A8 {op}{t:TE}(h:PE X a t):PE X (.BoolOp op [a] pos) t:=λzz s σ H Q I hw=>BoolOp_one (h zz s σ H Q I hw)
theorem A9 (ha:PE X a ta)(hb:PE X (.BoolOp .And (b::rest) pos) tb):PE X (.BoolOp .And (a::b::rest) pos) (pW ta tb):=by
 intro zz s σ H Q I h
 refine BoolOp_and (aF (ha zz s σ H _ I h) λv s1 ⟨x,H1,I1,r1,q1⟩=>?_)
 obtain⟨c,rfl,q1⟩:=q1
 cases r1
 refine wpAny_truthy_bool ?_
 cases c with
 | true=>exact hb zz s1 σ H1 Q I1 q1
 | false=>exact⟨.bl false,H1,I1,rfl,q1⟩
theorem Qc (ha:PE X a ta)(hb:PE X (.BoolOp .Or (b::rest) pos) tb):PE X (.BoolOp .Or (a::b::rest) pos) (A7 ta tb):=by
 intro zz s σ H Q I h
 refine BoolOp_or (aF (ha zz s σ H _ I h) λv s1 ⟨x,H1,I1,r1,q1⟩=>?_)
 obtain⟨c,rfl,q1⟩:=q1
 cases r1
 refine wpAny_truthy_bool ?_
 cases c with
 | false=>exact hb zz s1 σ H1 Q I1 q1
 | true=>exact⟨.bl true,H1,I1,rfl,q1⟩
theorem Fn (ha:PE X a ta):PE X (.UnaryOp .Not a pos) (pX ta):=by
 intro zz s σ H Q I h
 refine UnaryOp_ (aF (ha zz s σ H _ I h) λv s1 ⟨x,H1,I1,r1,q1⟩=>?_)
 obtain⟨c,rfl,q1⟩:=q1
 cases r1
 exact not_of (wpAny_truthy_bool ⟨.bl (!c),H1,I1,rfl,q1⟩)
def KU (t:TT)(ta tb:TE):TE:=λσ H Q=>t σ H λc H1=>if c=true then ta σ H1 Q else tb σ H1 Q
theorem Fo {c:Expr}(hc:PT X c tA)(ha:PE X a ta)(hb:PE X b tb):PE X (.IfExp c a b pos) (KU tA ta tb):=by
 intro zz s σ H Q I h
 refine wpAny_IfExp (aF (hc zz s σ H _ I h) λd s1 ⟨H1,I1,q1⟩=>?_)
 cases d with
 | true=>exact ha zz s1 σ H1 Q I1 q1
 | false=>exact hb zz s1 σ H1 Q I1 q1
end
end L2
namespace L2
open PySem PySem.Spec PyProof.Rows
def aj (K:aq)(H:Hp)(a:Addr)(xs:List V):Prop:=
 Rd H a (.lst xs)\/
  ∃(o:Obj) (its:Array Value) (n:Nat),K.lookup a=some o/\o.cls=.type "list" /\ o.dict=none/\o.data=.seq its n/\its.size<=Yc/\Vals xs its.toList
def aS (K:aq)(H:Hp)(a:Addr)(xs:List V):Prop:=
 Rd H a (.tup xs)\/
  ∃(o:Obj) (its:Array Value) (n:Nat),K.lookup a=some o/\o.cls=.type "tuple" /\ o.data=.seq its n/\its.size<=Yc/\Vals xs its.toList
def Fp:Value->Option V
 | .none=>some .non
 | .bool b=>some (.bl b)
 | .int i _=>some (.int i)
 | .str x _=>some (.str x)
 | .bytes b _=>some (.byt b)
 | .float b _=>some (.flt b)
 | .ref a=>some (.ref a)
 | .type n=>some (.ty n)
 | _=>none
theorem RelV.abs {x:V}{u:Value}(r:RelV x u):Fp u=some x:=by
 cases x with
 | non=>cases r;rfl
 | bl _=>cases r;rfl
 | int _=>obtain⟨t,rfl⟩:=r;rfl
 | str _=>obtain⟨t,rfl⟩:=r;rfl
 | byt _=>obtain⟨t,rfl⟩:=r;rfl
 | flt _=>obtain⟨t,rfl⟩:=r;rfl
 | ref _=>cases r;rfl
 | ty _=>cases r;rfl
theorem RelV.inj {x y:V}{u:Value}(r:RelV x u)(q:RelV y u):x=y:=Option.some.inj (r.abs.symm.trans q.abs)
theorem Vals.inj {xs ys:List V}{us:List Value}(h:Vals xs us)(h':Vals ys us):xs=ys:=by
 induction h generalizing ys with
 | nil=>cases h';rfl
 | cons r _ ih=>
  cases h' with
  | cons r' t'=>rw[r.inj r',ih t']
section
variable {X:Cx}{zz:List (Addr×Obj)}{σ:St}{H:Hp}{s:Shared}{a:Addr}{xs ys:List V}
theorem aj.of {K:aq}(h:H a=some (.lst xs)):aj K H a xs:=.inl (.inl h)
theorem aS.of {K:aq}(h:H a=some (.tup xs)):aS K H a xs:=.inl (.inl h)
theorem Inv.list (I:Inv X zz σ H s)(h:aj X.K H a xs):∃its:List Value,Vals xs its/\PlainL s.heap a its.toArray/\xs.length<=Yc:=by
 rcases h with h | ⟨o,its,n,hk,hc,hd,hs,hz,r⟩
 .obtain⟨z,its,n,r,e⟩:=h.ok I.af
  exact⟨its,r,⟨_,n,e,rfl,rfl,rfl⟩,z⟩
 .refine⟨its.toList,r,⟨o,n,I.dq a o hk,hc,hd,by simpa using hs⟩,?_⟩
  have e:=r.length
  simp only[eP] at e
  omega
theorem Inv.tuple (I:Inv X zz σ H s)(h:aS X.K H a xs):∃its:List Value,Vals xs its/\IsTup s.heap a its.toArray/\xs.length<=Yc:=by
 rcases h with h | ⟨o,its,n,hk,hc,hs,hz,r⟩
 .obtain⟨z,its,r,p⟩:=h.ok I.af
  exact⟨its,r,p.tup,z⟩
 .refine⟨its.toList,r,⟨o,I.dq a o hk,hc,n,by simpa using hs⟩,?_⟩
  have e:=r.length
  simp only[eP] at e
  omega
theorem Inv.list_inj (I:Inv X zz σ H s)(h:aj X.K H a xs)(h':aj X.K H a ys):xs=ys:=by
 obtain⟨its,r,⟨o,n,e,_,_,d⟩,_⟩:=I.list h
 obtain⟨its',r',⟨o',n',e',_,_,d'⟩,_⟩:=I.list h'
 rw[e] at e';cases e'
 rw[d] at d'
 injection d' with d1 _
 have:its=its':=by simpa using congrArg Array.toList d1
 subst this
 exact r.inj r'
theorem Inv.tuple_inj (I:Inv X zz σ H s)(h:aS X.K H a xs)(h':aS X.K H a ys):xs=ys:=by
 obtain⟨its,r,⟨o,e,_,n,d⟩,_⟩:=I.tuple h
 obtain⟨its',r',⟨o',e',_,n',d'⟩,_⟩:=I.tuple h'
 rw[e] at e';cases e'
 rw[d] at d'
 injection d' with d1 _
 have:its=its':=by simpa using congrArg Array.toList d1
 subst this
 exact r.inj r'
end
abbrev Cx.wish (X:Cx)(E:Value->Shared->Prop):Cx:={ X with xe:=E }
abbrev Cx.lE (X:Cx):Cx:=X.wish λ_ _=>False
theorem Cx.Ok.wish {X:Cx}(ok:X.Ok)(E:Value->Shared->Prop):(X.wish E).Ok:=
 ⟨ok.mod,ok.kind,ok.glob,ok.blt,ok.above,ok.inj,ok.has,ok.nX,ok.hd,ok.frames,ok.nB,ok.A3,ok.bs,ok.lA,ok.fH,ok.gY,ok.cX,ok.nE⟩
theorem Cx.Ok.bW {X:Cx}{E:Value->Shared->Prop}(ok:(X.wish E).Ok):X.Ok:=
 ⟨ok.mod,ok.kind,ok.glob,ok.blt,ok.above,ok.inj,ok.has,ok.nX,ok.hd,ok.frames,ok.nB,ok.A3,ok.bs,ok.lA,ok.fH,ok.gY,ok.cX,ok.nE⟩
section
variable {X:Cx}{zz:List (Addr×Obj)}{σ:St}{H:Hp}{s:Shared}{E:Value->Shared->Prop}
theorem Inv.wish (I:Inv X zz σ H s)(E:Value->Shared->Prop):Inv (X.wish E) zz σ H s:=⟨I.ok.wish E,I.os,I.bare,I.base,I.loc,I.cell,I.free,I.bq,I.pin,I.af,I.len⟩
theorem Inv.bW (I:Inv (X.wish E) zz σ H s):Inv X zz σ H s:=⟨I.ok.bW,I.os,I.bare,I.base,I.loc,I.cell,I.free,I.bq,I.pin,I.af,I.len⟩
theorem SP.bW {D:Ends}{f:Flow}{s':Shared}(h:SP (X.wish E) zz D f s'):SP X zz D f s':=by
 cases f with
 | next=>obtain⟨σ',H',I,q⟩:=h;exact⟨σ',H',I.bW,q⟩
 | brk=>obtain⟨σ',H',I,q⟩:=h;exact⟨σ',H',I.bW,q⟩
 | cont=>obtain⟨σ',H',I,q⟩:=h;exact⟨σ',H',I.bW,q⟩
 | ret u=>obtain⟨v,σ',H',I,r,q⟩:=h;exact⟨v,σ',H',I.bW,r,q⟩
theorem dR.lE {st:List Stmt}{t:TS}(h:dR X.lE st t):dR X st t:=λzz s σ H D I hw=>
 wpAny_mono (h zz s σ H D (I.wish _) hw) (λ_ _ q=>q.bW) λ_ _ z=>False.elim z
end
section
variable {X:Cx}{st:Stmt}{rest:List Stmt}{t u:TS}{e:Expr}{te:TE}{pos:Pos}
def pY:TS:=λD σ H=>D.nx σ H
def Ba (t u:TS):TS:=λD σ H=>t { D with nx:=u D } σ H
theorem qY:dR X [] pY:=λ_ _ σ H _ I h=>wpAny_execs_nil ⟨σ,H,I,h⟩
theorem qZ (h1:PS X st t)(h2:dR X rest u):dR X (st::rest) (Ba t u):=by
 intro zz s σ H D I h
 refine wpAny_execs_cons (aF (h1 zz s σ H { D with nx:=u D } I h) λf s1 q=>?_)
 cases f with
 | next=>
  obtain⟨σ',H',I',q⟩:=q
  exact h2 zz s1 σ' H' D I' q
 | ret v=>exact q
 | brk=>exact q
 | cont=>exact q
theorem qJ (h1:PS X st t):dR X [st] t:=by
 intro zz s σ H D I h
 refine wpAny_execs_cons (aF (h1 zz s σ H D I h) λf s1 q=>?_)
 cases f with
 | next=>exact wpAny_execs_nil q
 | ret v=>exact q
 | brk=>exact q
 | cont=>exact q
theorem Inv.quiet {zz:List (Addr×Obj)}{σ:St}{H:Hp}{s:Shared}(I:Inv X zz σ H s):interactive X.env=false:=by simp[interactive,I.ok.kind]
def pZ (te:TE):TS:=λD σ H=>te σ H λ_ H1=>D.nx σ H1
theorem qR (he:PE X e te)(hs:swapsWith e none pos.line X.env=pure false:=by rfl):PS X (.Expr e pos) (pZ te):=by
 intro zz s σ H D I h
 exact wpAny_Expr_any (aF (he zz s σ H _ I h) λv s1 ⟨x,H1,I1,r1,q1⟩=>⟨σ,H1,I1,q1⟩) I.quiet hs
def Bb (te:TE):TS:=λD σ H=>te σ H D.rt
theorem qP (he:PE X e te):PS X (.Return (some e) pos) (Bb te):=by
 intro zz s σ H D I h
 exact wpAny_Return_some (aF (he zz s σ H _ I h) λv s1 ⟨x,H1,I1,r1,q1⟩=>⟨x,σ,H1,I1,r1,q1⟩)
def Bc (c:TT)(t u:TS):TS:=λD σ H=>c σ H λb H1=>if b=true then t D σ H1 else u D σ H1
theorem yV {c:Expr}{a b:List Stmt}{tc:TT}(hc:PT X c tc)(ha:dR X a t)(hb:dR X b u):PS X (.If c a b pos) (Bc tc t u):=by
 intro zz s σ H D I h
 refine wpAny_If (aF (hc zz s σ H _ I h) λd s1 ⟨H1,I1,q1⟩=>?_)
 cases d with
 | true=>exact ha zz s1 σ H1 D I1 q1
 | false=>exact hb zz s1 σ H1 D I1 q1
def lU:TS:=λ_ _ _=>False
theorem kY:PS X st lU:=λ_ _ _ _ _ _ h=>h.elim
theorem Qd {bN:List Stmt}:dR X bN lU:=λ_ _ _ _ _ _ h=>h.elim
end
abbrev TG:=V->St->Hp->(St->Hp->Prop)->Prop
abbrev nG:=List V->St->Hp->(St->Hp->Prop)->Prop
def PG (X:Cx)(target:Expr)(t:TG):Prop:=
 ∀(zz:List (Addr×Obj)) (s:Shared) (σ:St) (H:Hp) (v:V) (u:Value) (Q:St->Hp->Prop),Inv X zz σ H s->RelV v u->t v σ H Q->
  wpAny (model X.prog X.w) X.A (assign target X.env u) (λ_ s'=>∃σ' H',Inv X zz σ' H' s'/\Q σ' H') X.xe s
def Bd (X:Cx)(ts:List Expr)(t:nG):Prop:=
 ∀(zz:List (Addr×Obj)) (s:Shared) (σ:St) (H:Hp) (vs:List V) (us:List Value) (Q:St->Hp->Prop),Inv X zz σ H s->Vals vs us->t vs σ H Q->
  wpAny (model X.prog X.w) X.A (assignInOrder ((assignEach ts X.env).map (·.2)) us) (λ_ s'=>∃σ' H',Inv X zz σ' H' s'/\Q σ' H') X.xe s
section
variable {X:Cx}{pos:Pos}
def br (i:Nat):TG:=λv σ H Q=>Q (σ.set i (some v)) H
theorem qI {i:Nat}{x:Str}(hN:X.N.Nodup)(hi:X.N[i]? = some x)(hx:Loc X.env.scope x)(hf:X.fn x=true\/X.env.scope.names.lookup x=some .local:=by first | exact .inl rfl | exact .inr rfl | assumption):PG X (.Name x pos) (br i):=by
 intro zz s σ H v u Q I r h
 exact wpAny_assign_Name (vK I hN hi hx r (λs' I'=>⟨_,H,I',h⟩) hf)
def lV:nG:=λvs σ H Q=>vs=[]/\Q σ H
def dI (t:TG)(u:nG):nG:=λvs σ H Q=>∃v r,vs=v::r/\t v σ H λσ' H'=>u r σ' H' Q
theorem qN:Bd X [] lV:=by
 intro zz s σ H vs us Q I r h
 obtain⟨e,h⟩:=h
 subst e
 cases r
 exact assignInOrder_nil ⟨σ,H,I,h⟩
theorem qM {e:Expr}{es:List Expr}{t:TG}{u:nG}(h1:PG X e t)(h2:Bd X es u)
  (hs:(assignEach (e::es) X.env).map (·.2)=assign e X.env::(assignEach es X.env).map (·.2):=by rfl):Bd X (e::es) (dI t u):=by
 intro zz s σ H vs us Q I r h
 obtain⟨v,vr,e1,h⟩:=h
 subst e1
 cases r with
 | cons r rr=>
  rw[hs]
  refine assignInOrder_cons (aF (h1 zz s σ H _ _ _ I r h) λ_ s1 ⟨σ1,H1,I1,q1⟩=>?_)
  exact h2 zz s1 σ1 H1 _ _ Q I1 rr q1
def gZ (K:aq)(n:Nat)(t:nG):TG:=λv σ H Q=>∃a xs,v=.ref a/\aS K H a xs/\xs.length=n/\t xs σ H Q
theorem KW {es:List Expr}{k:Nat}{t:nG}{n:Nat}(hc:X.calm=true)(h:Bd X es t)
  (hn:(assignEach es X.env).length=n:=by rfl) (fZ:(assignEach es X.env).findIdx? (·.1)=none:=by rfl):PG X (.Tuple es k pos) (gZ X.K n t):=by
 intro zz s σ H v u Q I r hw
 obtain⟨a,xs,e1,hq,hl,hw⟩:=hw
 subst e1
 cases r
 obtain⟨its,rv,ht,hz⟩:=I.tuple hq
 refine assign_Tuple_tuple (I.ok.hd hc) ht (by simp[hn,<- hl,rv.length]) fZ λh' hx=>?_
 have I1:Inv X zz σ H { s with heap:=h' }:=I.kept (t':=s.toks) λb o e=>hx b o (yZF (aG e)) e
 exact h zz _ σ H xs _ Q I1 (by simpa using rv) hw
def nY (te:TE)(g:TG):TS:=λD σ H=>te σ H λx H1=>g x σ H1 D.nx
theorem qO {i:Nat}{x:Str}{e:Expr}{te:TE}{pos':Pos}(hN:X.N.Nodup)(hi:X.N[i]? = some x)(hx:Loc X.env.scope x)(he:PE X e te)(hs:swapsWith e (some (.Name x pos')) pos.line X.env=pure false:=by rfl)(hf:X.fn x=true\/X.env.scope.names.lookup x=some .local:=by first | exact .inl rfl | exact .inr rfl | assumption):
  PS X (.Assign [.Name x pos'] e pos) (nY te (br i)):=by
 intro zz s σ H D I h
 refine wpAny_Assign_Name (aF (he zz s σ H _ I h) λv s1 ⟨y,H1,I1,r1,q1⟩=>?_) hs
 exact vK I1 hN hi hx r1 (λs2 I2=>⟨_,H1,I2,q1⟩) hf
end
section
variable {X:Cx}{pos:Pos}
def lW (c:TT)(tb:TS):TS:=λD σ H=>∃W:Nat->St->Hp->Prop,(∃m,W m σ H)/\∀m σ H,W m σ H->
 c σ H λb H1=>if b=true then ∃N:St->Hp->Prop,(∀σ' H',N σ' H'->∃m',m'<m/\W m' σ' H')/\tb { D with nx:=N,ct:=N,bk:=D.nx } σ H1 else D.nx σ H1
theorem KY {c:Expr}{body:List Stmt}{tc:TT}{tb:TS}(hp:PassesOwn (model X.prog X.w) X.A X.env X.xe)(hc:PT X c tc)(hb:dR X body tb):PS X (.While c body [] pos) (lW tc tb):=by
 intro zz s σ H D I h
 obtain⟨W,⟨m0,w0⟩,turn⟩:=h
 refine wpAny_While (codeAny_whileLoop (λn s'=>∃σ' H',Inv X zz σ' H' s'/\W n σ' H') ?_ m0 ⟨σ,H,I,w0⟩)
 rintro n s1 ⟨σ1,H1,I1,w1⟩
 refine wpAny_passesOwn hp (aF (hc zz s1 σ1 H1 _ I1 (turn n σ1 H1 w1)) λb s2 ⟨H2,I2,q2⟩=>?_)
 cases b with
 | true=>
  obtain⟨N,hN,q2⟩:=q2
  rw[if_pos rfl]
  refine wpAny_passesOwn hp (aF (hb zz s2 σ1 H2 _ I2 q2) λf s3 q3=>?_)
  cases f with
  | next=>
   obtain⟨σ3,H3,I3,n3⟩:=q3
   obtain⟨m',hm,w3⟩:=hN σ3 H3 n3
   exact⟨m',hm,σ3,H3,I3,w3⟩
  | cont=>
   obtain⟨σ3,H3,I3,n3⟩:=q3
   obtain⟨m',hm,w3⟩:=hN σ3 H3 n3
   exact⟨m',hm,σ3,H3,I3,w3⟩
  | brk=>exact q3
  | ret v=>exact q3
 | false=>
  rw[if_neg cj]
  exact wpAny_execs_nil ⟨σ1,H2,I2,q2⟩
end
structure It where
 go:Nat->Hp->Prop
 lY:Nat->Hp->V->Hp->Prop
 stop:Nat->Hp->Prop
def cL (X:Cx)(zz:List (Addr×Obj))(H:Hp)(b:Addr):Prop:=
 H b=none/\b≠X.env.locals/\b∉X.fs/\(b∈X.ex\/X.s₀.heap.objs.size<=b)/\(∀x c,X.env.cells.lookup x=some c->c≠b)/\∀p∈X.pn++zz,p.1≠b
theorem Inv.fpOk {X:Cx}{zz:List (Addr×Obj)}{σ:St}{H H':Hp}{s:Shared}{b:Addr}(I:Inv X zz σ H s)(hb:s.heap.objs.size<=b)(hn:H' b=none):cL X zz H' b:=by
 refine⟨hn,yZH (yZE I.lt hb),I.nofs hb,.inr (yZJ I.sz hb),λx c e z=>?_,λp hp z=>?_⟩
 .obtain⟨v,q⟩:=I.cell x c e
  exact absurd (yZE q.lt (by rw[z];exact hb)) (Nat.lt_irrefl _)
 .exact absurd (yZE (aG (I.pin p hp).1) (by rw[z];exact hb)) (Nat.lt_irrefl _)
structure Turn (P:Program)(w:World)(K:aq)(tg:Expr)(J:It)(fp:List Addr)(it:Addr)(tn:Nat->Heap->Prop):Prop where
 mem:it∈fp
 obj:∀i h,tn i h->∀b∈fp,∃o,h.get? b=some o/\∀v,o.data≠.cell v
 keep:∀i h h',tn i h->(∀b∈fp,∀o,h.get? b=some o->h'.get? b=some o)->tn i h'
 item:∀(X:Cx),X.prog=P->X.w=w->X.K=K->X.calm=true->∀(i:Nat) (zz:List (Addr×Obj)) (s:Shared) (σ:St) (H:Hp) (E:Value->Shared->Prop),Inv X zz σ H s->(∀b∈fp,cL X zz H b)->tn i s.heap->J.go i H->
  wpAny (model P w) X.A (pyNext (.ref it)) (λr s1=>∃u,r=some u/\
   wpAny (model P w) X.A (letOwnedTupleGo tg (.ref it) u) (λ_ s2=>∃x H',Inv X zz σ H' s2/\RelV x u/\J.lY i H x H'/\tn (i+1) s2.heap/\∀b∈fp,H' b=none) E s1) E s
 done:∀(X:Cx),X.prog=P->X.w=w->X.K=K->X.calm=true->∀(i:Nat) (zz:List (Addr×Obj)) (s:Shared) (σ:St) (H:Hp) (E:Value->Shared->Prop),Inv X zz σ H s->(∀b∈fp,cL X zz H b)->tn i s.heap->J.stop i H->
  wpAny (model P w) X.A (pyNext (.ref it)) (λr s1=>r=none/\Inv X zz σ H s1) E s
 self:∀(A:Around) (i:Nat) (s:Shared) (Q:Value->Shared->Prop) (E:Value->Shared->Prop),tn i s.heap->Q (.ref it) s->wpAny (model P w) A (pyIter (.ref it)) Q E s
abbrev TI:=St->Hp->(It->Hp->Prop)->Prop
def KZ (X:Cx)(zz:List (Addr×Obj))(σ:St)(tg:Expr)(R:It->Hp->Prop)(Be:Value)(s2:Shared):Prop:=
 ∃(it:Addr) (fp:List Addr) (tn:Nat->Heap->Prop) (J:It) (H':Hp),Be=.ref it/\Inv X zz σ H' s2/\Turn X.prog X.w X.K tg J fp it tn/\tn 0 s2.heap/\(∀b∈fp,cL X zz H' b)/\R J H'
def PI (X:Cx)(tg iter:Expr)(wi:TI):Prop:=
 ∀(zz:List (Addr×Obj)) (s:Shared) (σ:St) (H:Hp) (R:It->Hp->Prop),Inv X zz σ H s->wi σ H R->
  wpAny (model X.prog X.w) X.A (eval iter X.env) (λv s1=>wpAny (model X.prog X.w) X.A (pyIter v) (KZ X zz σ tg R) X.xe s1) X.xe s
theorem Bf {M:Model}{A:Around}{E:Value->Shared->Prop}{s:Shared}{tg:Expr}{it:Addr}{u:Value}{o:Obj}{n:String}{vs:Array Value}{Q:Unit->Shared->Prop}(ho:s.heap.get? it=some o)(hc:o.cls=.type n)(hd:o.data=.fields vs)
  (hn:["enumerate","zip","dict_itemiterator","dict_reverseitemiterator","odict_iterator","itertools.zip_longest","itertools.pairwise"].contains n=false) (hQ:Q () s):wpAny M A (letOwnedTupleGo tg (.ref it) u) Q E s:=by
 unfold letOwnedTupleGo
 cases tg <;> first
  | exact yYY hQ
  | (cases u <;> first
    | exact yYY hQ
    | (refine yYX (wpAny_load ho ?_)
       rw[hc,hd]
       show wpAny M A (if (["enumerate","zip","dict_itemiterator","dict_reverseitemiterator","odict_iterator","itertools.zip_longest","itertools.pairwise"].contains n && vs[0]? == some (rawInt _))=true then _ else _) Q E s
       rw[if_neg (by intro h;rw[hn,Bool.false_and] at h;cases h)]
       exact yYY hQ))
def i6 (K:aq)(a:Addr):It:=
 ⟨λi H=>∃xs x,aj K H a xs/\xs[i]? = some x,λi H x H'=>H'=H/\∀xs,aj K H a xs->xs[i]? = some x,λi H=>∃xs,aj K H a xs/\xs.length<=i⟩
def lF (K:aq)(a:Addr):It:=
 ⟨λi H=>∃xs x,aS K H a xs/\xs[i]? = some x,λi H x H'=>H'=H/\∀xs,aS K H a xs->xs[i]? = some x,λi H=>∃xs,aS K H a xs/\xs.length<=i⟩
def lG (lo:Int)(n:Nat):It:=⟨λi _=>i<n,λi H x H'=>H'=H/\x=.int (lo+i),λi _=>n<=i⟩
theorem Qe {P:Program}{w:World}{K:aq}{tg:Expr}(a it:Addr):Turn P w K tg (i6 K a) [it] it (λi h=>h.IsListIter it a i) where
 mem:=by simp
 obj:=λi h st b hb=>by
  have e:b=it:=by simpa using hb
  subst e
  obtain⟨o,e,c,d⟩:=st
  exact⟨o,e,λv z=>by rw[d] at z;cases z⟩
 keep:=λi h h' st k=>st.at λo e=>k it (by simp) o e
 item:=by
  intro X hP hw hK hc i zz s σ H E I hf st hg
  subst hP hw hK
  obtain⟨xs,x,hq,hx⟩:=hg
  obtain⟨its,rv,p,hz⟩:=I.list hq
  obtain⟨u,hu,ru⟩:=rv.get hx
  obtain⟨f0,f1,f2,f3,f4,f5⟩:=hf it (by simp)
  refine wpAny_pyNext_list_item st p.isList (x:=u) (by simpa using hu) λh' c6 sb=>?_
  have I1:Inv X zz σ H { s with heap:=h' }:=I.turned (t':=s.toks) (λb o hb e=>(sb.2 b hb).trans e) f0 f1 f3 f4 f5
  obtain⟨o,e,c,d⟩:=id c6
  exact⟨u,rfl,Bf (s:={ s with heap:=h' }) e c d (by decide) ⟨x,H,I1,ru,⟨rfl,λys hy=>by rw[I.list_inj hy hq];exact hx⟩,c6,λb hb=>(hf b hb).1⟩⟩
 done:=by
  intro X hP hw hK hc i zz s σ H E I hf st hg
  subst hP hw hK
  obtain⟨xs,hq,hx⟩:=hg
  obtain⟨its,rv,p,hz⟩:=I.list hq
  obtain⟨f0,f1,f2,f3,f4,f5⟩:=hf it (by simp)
  have hl:=rv.length
  exact wpAny_pyNext_list_end (I.ok.hd hc) st p.isList (by simp;omega) λh' eb=>⟨rfl,I.turned (t':=s.toks) (λb o hb e=>eb b o hb e) f0 f1 f3 f4 f5⟩
 self:=λ_ _ _ _ _ st h=>wpAny_pyIter_listiter st h
theorem Qf {P:Program}{w:World}{K:aq}{tg:Expr}(a it:Addr):Turn P w K tg (lF K a) [it] it (λi h=>h.IsTupleIter it a i) where
 mem:=by simp
 obj:=λi h st b hb=>by
  have e:b=it:=by simpa using hb
  subst e
  obtain⟨o,e,c,d⟩:=st
  exact⟨o,e,λv z=>by rw[d] at z;cases z⟩
 keep:=λi h h' st k=>st.at λo e=>k it (by simp) o e
 item:=by
  intro X hP hw hK hc i zz s σ H E I hf st hg
  subst hP hw hK
  obtain⟨xs,x,hq,hx⟩:=hg
  obtain⟨its,rv,p,hz⟩:=I.tuple hq
  obtain⟨u,hu,ru⟩:=rv.get hx
  obtain⟨f0,f1,f2,f3,f4,f5⟩:=hf it (by simp)
  refine wpAny_pyNext_tuple_item st (show s.heap.IsTuple a its.toArray from p) (x:=u) (by simpa using hu) λh' c6 sb=>?_
  have I1:Inv X zz σ H { s with heap:=h' }:=I.turned (t':=s.toks) (λb o hb e=>(sb.2 b hb).trans e) f0 f1 f3 f4 f5
  obtain⟨o,e,c,d⟩:=id c6
  exact⟨u,rfl,Bf (s:={ s with heap:=h' }) e c d (by decide) ⟨x,H,I1,ru,⟨rfl,λys hy=>by rw[I.tuple_inj hy hq];exact hx⟩,c6,λb hb=>(hf b hb).1⟩⟩
 done:=by
  intro X hP hw hK hc i zz s σ H E I hf st hg
  subst hP hw hK
  obtain⟨xs,hq,hx⟩:=hg
  obtain⟨its,rv,p,hz⟩:=I.tuple hq
  obtain⟨f0,f1,f2,f3,f4,f5⟩:=hf it (by simp)
  have hl:=rv.length
  exact wpAny_pyNext_tuple_end (I.ok.hd hc) st (show s.heap.IsTuple a its.toArray from p) (by simp;omega) λh' eb=>⟨rfl,I.turned (t':=s.toks) (λb o hb e=>eb b o hb e) f0 f1 f3 f4 f5⟩
 self:=λ_ _ _ _ _ st h=>wpAny_pyIter_tupleiter st h
theorem Qg {P:Program}{w:World}{K:aq}{tg:Expr}(it:Addr)(lo:Int)(n:Nat):Turn P w K tg (lG lo n) [it] it (λi h=>IsRangeIter h it (lo+(i:Nat) * 1) ((n:Int) - (i:Nat)) 1) where
 mem:=by simp
 obj:=λi h st b hb=>by
  have e:b=it:=by simpa using hb
  subst e
  exact⟨_,st,λv z=>by
   have z':Data.fields _=Data.cell v:=z
   cases z'⟩
 keep:=λi h h' st k=>k it (by simp) _ st
 item:=by
  intro X hP hw hK hc i zz s σ H E I hf st hg
  subst hP hw hK
  obtain⟨f0,f1,f2,f3,f4,f5⟩:=hf it (by simp)
  have W:=Walks.range (prog:=X.prog) (w:=X.w) (I.ok.hd hc) it lo 1 n
  refine W.item i s _ _ hg st λv h' tk hv c6 kk=>?_
  obtain⟨t,rfl⟩:=hv
  have I1:Inv X zz σ H { s with heap:=h',toks:=tk }:=I.turned (λb o hb e=>kk b o (by simpa using hb) e) f0 f1 f3 f4 f5
  refine⟨_,rfl,Bf (s:={ s with heap:=h',toks:=tk }) (n := "range_iterator") c6 rfl rfl (by decide) ⟨.int (lo+i),H,I1,⟨t,?_⟩,⟨rfl,rfl⟩,c6,λb hb=>(hf b hb).1⟩⟩
  rw[Int.mul_one]
 done:=by
  intro X hP hw hK hc i zz s σ H E I hf st hg
  subst hP hw hK
  obtain⟨f0,f1,f2,f3,f4,f5⟩:=hf it (by simp)
  exact wpAny_pyNext_range_end (I.ok.hd hc) st (by have:n<=i:=hg;omega) λh' eb=>⟨rfl,I.turned (t':=s.toks) (λb o hb e=>eb b o hb e) f0 f1 f3 f4 f5⟩
 self:=λ_ _ _ _ _ st h=>wpAny_pyIter_rangeiter st h
end L2
namespace L2
open PySem PySem.Spec PyProof.Rows
section
variable {X:Cx}{tg:Expr}
def lZ (K:aq)(tl:TE):TI:=λσ H R=>tl σ H λx H1=>∃a,x=.ref a/\(∃xs,aj K H1 a xs)/\R (i6 K a) H1
def rB (K:aq)(tl:TE):TI:=λσ H R=>tl σ H λx H1=>∃a,x=.ref a/\(∃xs,aS K H1 a xs)/\R (lF K a) H1
theorem K0 {l:Expr}{tl:TE}(hl:PE X l tl):PI X tg l (lZ X.K tl):=by
 intro zz s σ H R I h
 refine aF (hl zz s σ H _ I h) λv s1 ⟨x,H1,I1,r1,q1⟩=>?_
 obtain⟨a,e,⟨xs,hq⟩,q⟩:=q1
 subst e
 cases r1
 obtain⟨its,rv,p,hz⟩:=I1.list hq
 refine wpAny_pyIter_list p.isList ?_
 refine⟨s1.heap.objs.size,[s1.heap.objs.size],_,_,H1,rfl,I1.kept (t':=s1.toks) λb o e=>yYZ _ e,Qe a _,⟨_,bg _ rfl,rfl,rfl⟩,λb hb=>?_,q⟩
 have e:b=s1.heap.objs.size:=by simpa using hb
 subst e
 exact I1.fpOk (yZD _) (I1.af.fresh (yZD _))
theorem Qh {l:Expr}{tl:TE}(hl:PE X l tl):PI X tg l (rB X.K tl):=by
 intro zz s σ H R I h
 refine aF (hl zz s σ H _ I h) λv s1 ⟨x,H1,I1,r1,q1⟩=>?_
 obtain⟨a,e,⟨xs,hq⟩,q⟩:=q1
 subst e
 cases r1
 obtain⟨its,rv,p,hz⟩:=I1.tuple hq
 refine wpAny_pyIter_tuple (show s1.heap.IsTuple a its.toArray from p) ?_
 refine⟨s1.heap.objs.size,[s1.heap.objs.size],_,_,H1,rfl,I1.kept (t':=s1.toks) λb o e=>yYZ _ e,Qf a _,⟨_,bg _ rfl,rfl,rfl⟩,λb hb=>?_,q⟩
 have e:b=s1.heap.objs.size:=by simpa using hb
 subst e
 exact I1.fpOk (yZD _) (I1.af.fresh (yZD _))
theorem Qi {zz:List (Addr×Obj)}{σ:St}{H:Hp}{s:Shared}{R:It->Hp->Prop}{E:Value->Shared->Prop}{lo hi:Int}{t u v:Tok}{tk:Nat}(I:Inv X zz σ H s)(h1 : -(2 ^ 62)<=lo)(h2:lo<2 ^ 62)(h3 : -(2 ^ 62)<=hi)(h4:hi<2 ^ 62)
  (q:R (lG lo (hi - lo).toNat) H):wpAny (model X.prog X.w) X.A (pyIter (.ref s.heap.objs.size)) (KZ X zz σ tg R) E { s with heap:=s.heap.push { cls:=.type "range",data:=.fields #[.int lo t,.int hi u,.int 1 v] },toks:=tk }:=by
 refine wpAny_pyIter_range (IsRange.new ..) (small_one h1 h2 h3 h4) ?_
 have I1:Inv X zz σ H { s with heap:=s.heap.push { cls:=.type "range",data:=.fields #[.int lo t,.int hi u,.int 1 v] },toks:=tk }:=I.kept λb o e=>yYZ _ e
 refine⟨(s.heap.push { cls:=.type "range",data:=.fields #[.int lo t,.int hi u,.int 1 v] }).objs.size,[(s.heap.push { cls:=.type "range",data:=.fields #[.int lo t,.int hi u,.int 1 v] }).objs.size],_,_,H,rfl,
  I1.kept (t':=tk) λb o e=>yYZ _ e,Qg _ lo (hi - lo).toNat,?_,λb hb=>?_,q⟩
 .have e1:lo+((0:Nat):Int) * 1=lo:=by simp
  have e2:(((hi - lo).toNat:Nat):Int) - ((0:Nat):Int)=Builtin.Range.rangeSize lo hi 1:=by rw[rangeSize_one];split <;> omega
  show IsRangeIter _ _ (lo+((0:Nat):Int) * 1) ((((hi - lo).toNat:Nat):Int) - ((0:Nat):Int)) 1
  rw[e1,e2]
  exact bg _ rfl
 .have e:b=(s.heap.push { cls:=.type "range",data:=.fields #[.int lo t,.int hi u,.int 1 v] }).objs.size:=by simpa using hb
  subst e
  exact I1.fpOk (yZD _) (I1.af.fresh (yZD _))
def p6 (ta:TA):TI:=λσ H R=>ta σ H λvs H1=>∃j:Int,vs=[.int j]/\-(2 ^ 62)<=j/\j<2 ^ 62/\R (lG 0 j.toNat) H1
theorem K1 {a:Expr}{ta:TA}{p pos:Pos}(hg:Gl X "range")(hm:X.mg "range" = none)(ha:PA X [a] ta)(hs:starEach [a] X.env=[(false,eval a X.env)]:=by rfl):PI X tg (.Call (.Name "range" p) [a] [] pos) (p6 ta):=by
 intro zz s σ H R I h
 refine Call_ (wA I hg hm boot_range (PyProof.Rows.callWith_type1 (aF (ha pos zz s σ H _ I h) λus s1 ⟨vs,H1,I1,r1,q1⟩=>?_) hs rfl))
 obtain⟨j,e,q1,q2,q⟩:=q1
 subst e
 cases r1 with
 | cons r rr=>
  cases rr
  obtain⟨t,rfl⟩:=r
  exact call_range_1 (Qi I1 (by omega) (by omega) q1 q2 (by simpa using q))
def Bg (wi:TI)(g:TG)(tb:TS):TS:=λD σ H=>wi σ H λJ H1=>∃W:Nat->Nat->St->Hp->Prop,(∃m,W 0 m σ H1)/\∀i m σ H,W i m σ H->
 (J.stop i H/\D.nx σ H)\/(J.go i H/\∃N:St->Hp->Prop,(∀σ' H',N σ' H'->∃m',m'<m/\W (i+1) m' σ' H')/\∀x H',J.lY i H x H'->g x σ H' λσ2 H2=>tb { D with nx:=N,ct:=N,bk:=D.nx } σ2 H2)
def cw (fp:List Addr)(h:Heap):List (Addr×Obj):=fp.filterMap λb=>(h.get? b).map λo=>(b,o)
theorem yJ {fp:List Addr}{h:Heap}{b:Addr}{o:Obj}(hb:b∈fp)(e:h.get? b=some o):(b,o)∈cw fp h:=List.mem_filterMap.mpr ⟨b,hb,by rw[e];rfl⟩
theorem Qj {fp:List Addr}{h:Heap}{p:Addr×Obj}(hp:p∈cw fp h):p.1∈fp/\h.get? p.1=some p.2:=by
 obtain⟨b,hb,e⟩:=List.mem_filterMap.mp hp
 cases q:h.get? b with
 | none=>rw[q] at e;cases e
 | some o=>
  rw[q] at e
  have e':(b,o)=p:=Option.some.inj e
  subst e'
  exact⟨hb,q⟩
theorem Inv.pinned {zz:List (Addr×Obj)}{σ:St}{H:Hp}{s:Shared}{fp:List Addr}(I:Inv X zz σ H s)(hf:∀b∈fp,cL X zz H b)(ho:∀b∈fp,∃o,s.heap.get? b=some o/\∀v,o.data≠.cell v):Inv X (zz++cw fp s.heap) σ H s:=
 I.pins_of λp hp=>(fh.mp hp).elim (λz=>I.pin p (fE _ z)) λz=>by
  obtain⟨hb,e⟩:=Qj z
  obtain⟨f0,f1,f2,_⟩:=hf p.1 hb
  obtain⟨o,e',d⟩:=ho p.1 hb
  rw[e] at e';cases e'
  exact⟨e,f0,f1,f2,d⟩
theorem Inv.cy {zz pl:List (Addr×Obj)}{σ:St}{H:Hp}{s:Shared}(I:Inv X (zz++pl) σ H s):Inv X zz σ H s:=I.pins_of λp hp=>I.pin p (fE _ (Ym _ hp))
theorem jE {iter:Expr}{body:List Stmt}{wi:TI}{g:TG}{tb:TS}{pos:Pos}(hp:PassesOwn (model X.prog X.w) X.A X.env X.xe)(hc:X.calm=true)(hi:PI X tg iter wi)(hg:PG X tg g)(hb:dR X body tb)
  (hs:∀x,foldedSetIterable iter X.env x=pure x:=by intro _;rfl):PS X (.For tg iter body [] pos) (Bg wi g tb):=by
 intro zz s σ H D I h
 refine wpAny_For (aF (hi zz s σ H _ I h) λv s1 h1=>aF h1 λBe s2 h2=>?_) hs
 obtain⟨it,fp,tn,J,H2,e,I2,T,Fq,f2,W,⟨m0,w0⟩,turn⟩:=h2
 subst e
 have rC:∀{H':Hp},(∀b∈fp,H' b=none)->∀b∈fp,cL X zz H' b:=λhn b hb=>⟨hn b hb,(f2 b hb).2⟩
 refine codeAny_forLoop_any (λn s'=>∃i σ' H',Inv X zz σ' H' s'/\tn i s'.heap/\(∀b∈fp,H' b=none)/\W i n σ' H') ?_ m0 ⟨0,σ,H2,I2,Fq,λb hb=>(f2 b hb).1,w0⟩
 rintro n s3 ⟨i,σ3,H3,I3,p7,p8,w3⟩
 rcases turn i n σ3 H3 w3 with⟨stop,qn⟩ | ⟨go,N,hN,step⟩
 .refine wpAny_passesOwn hp (aF (T.done X rfl rfl rfl hc i zz s3 σ3 H3 X.xe I3 (rC p8) p7 stop) λr s4 ⟨hr,I4⟩=>?_)
  subst hr
  exact wpAny_execs_nil ⟨σ3,H3,I4,qn⟩
 .refine wpAny_passesOwn hp (aF (T.item X rfl rfl rfl hc i zz s3 σ3 H3 X.xe I3 (rC p8) p7 go) λr s4 ⟨u,hr,h4⟩=>?_)
  subst hr
  refine wpAny_passesOwn hp (aF h4 λ_ s5 ⟨x,H5,I5,r5,y5,l4,Bh⟩=>?_)
  have Bi:=I5.pinned (rC Bh) (T.obj _ _ l4)
  refine wpAny_passesOwn hp (aF (hg _ s5 σ3 H5 x u _ Bi r5 (step x H5 y5)) λ_ s6 ⟨σ6,H6,I6,q6⟩=>?_)
  refine wpAny_passesOwn hp (aF (hb _ s6 σ6 H6 _ I6 q6) λf s7 q7=>?_)
  have again:∀{σ7:St} {H7:Hp},Inv X (zz++cw fp s5.heap) σ7 H7 s7->N σ7 H7->∃m,m<n/\∃i σ' H',Inv X zz σ' H' s7/\tn i s7.heap/\(∀b∈fp,H' b=none)/\W i m σ' H':=λ{σ7 H7} I7 n7=>by
   obtain⟨m',hm,w7⟩:=hN σ7 H7 n7
   refine⟨m',hm,i+1,σ7,H7,I7.cy,T.keep _ _ _ l4 λb hb o e=>(I7.pin (b,o) (fE _ (fE _ (yJ hb e)))).1,λb hb=>?_,w7⟩
   obtain⟨o,e,d⟩:=T.obj _ _ l4 b hb
   exact(I7.pin (b,o) (fE _ (fE _ (yJ hb e)))).2.1
  cases f with
  | next=>obtain⟨σ7,H7,I7,n7⟩:=q7;exact again I7 n7
  | cont=>obtain⟨σ7,H7,I7,n7⟩:=q7;exact again I7 n7
  | brk=>obtain⟨σ7,H7,I7,q7⟩:=q7;exact⟨σ7,H7,I7.cy,q7⟩
  | ret v=>obtain⟨x7,σ7,H7,I7,r7,q7⟩:=q7;exact⟨x7,σ7,H7,I7.cy,r7,q7⟩
end
theorem Fs {K:aq}{a:Addr}{xs:List V}{g:TG}{tb:TS}{D:Ends}{σ:St}{H:Hp}(Pv:Nat->St->Hp->Prop)(h0:Pv 0 σ H)(hl:∀i σ H,i<=xs.length->Pv i σ H->aj K H a xs)
  (hs:∀i x σ H,xs[i]? = some x->Pv i σ H->g x σ H λσ2 H2=>tb { D with nx:=Pv (i+1),ct:=Pv (i+1),bk:=D.nx } σ2 H2) (hd:∀σ H,Pv xs.length σ H->D.nx σ H):
  ∃W:Nat->Nat->St->Hp->Prop,(∃m,W 0 m σ H)/\∀i m σ H,W i m σ H->
   ((i6 K a).stop i H/\D.nx σ H)\/((i6 K a).go i H/\∃N:St->Hp->Prop,(∀σ' H',N σ' H'->∃m',m'<m/\W (i+1) m' σ' H')/\∀x H',(i6 K a).lY i H x H'->g x σ H' λσ2 H2=>tb { D with nx:=N,ct:=N,bk:=D.nx } σ2 H2):=by
 refine⟨λi m σ H=>m=xs.length - i/\i<=xs.length/\Pv i σ H,⟨xs.length,by simp,yZG _,h0⟩,?_⟩
 rintro i m σ H ⟨rfl,hi,p⟩
 have q:=hl i σ H hi p
 by_cases bc:i<xs.length
 .refine .inr ⟨⟨xs,xs[i],q,by simp[bc]⟩,Pv (i+1),λσ' H' p'=>⟨xs.length - (i+1),by omega,rfl,bc,p'⟩,λx H' y=>?_⟩
  obtain⟨e,y⟩:=y
  subst e
  exact hs i x σ _ (y xs q) p
 .have e:i=xs.length:=by omega
  subst e
  exact .inl ⟨⟨xs,q,yZD _⟩,hd σ H p⟩
theorem Qk {K:aq}{a:Addr}{xs:List V}{g:TG}{tb:TS}{D:Ends}{σ:St}{H:Hp}(Pv:Nat->St->Hp->Prop)(h0:Pv 0 σ H)(hl:∀i σ H,i<=xs.length->Pv i σ H->aS K H a xs)
  (hs:∀i x σ H,xs[i]? = some x->Pv i σ H->g x σ H λσ2 H2=>tb { D with nx:=Pv (i+1),ct:=Pv (i+1),bk:=D.nx } σ2 H2) (hd:∀σ H,Pv xs.length σ H->D.nx σ H):
  ∃W:Nat->Nat->St->Hp->Prop,(∃m,W 0 m σ H)/\∀i m σ H,W i m σ H->
   ((lF K a).stop i H/\D.nx σ H)\/((lF K a).go i H/\∃N:St->Hp->Prop,(∀σ' H',N σ' H'->∃m',m'<m/\W (i+1) m' σ' H')/\∀x H',(lF K a).lY i H x H'->g x σ H' λσ2 H2=>tb { D with nx:=N,ct:=N,bk:=D.nx } σ2 H2):=by
 refine⟨λi m σ H=>m=xs.length - i/\i<=xs.length/\Pv i σ H,⟨xs.length,by simp,yZG _,h0⟩,?_⟩
 rintro i m σ H ⟨rfl,hi,p⟩
 have q:=hl i σ H hi p
 by_cases bc:i<xs.length
 .refine .inr ⟨⟨xs,xs[i],q,by simp[bc]⟩,Pv (i+1),λσ' H' p'=>⟨xs.length - (i+1),by omega,rfl,bc,p'⟩,λx H' y=>?_⟩
  obtain⟨e,y⟩:=y
  subst e
  exact hs i x σ _ (y xs q) p
 .have e:i=xs.length:=by omega
  subst e
  exact .inl ⟨⟨xs,q,yZD _⟩,hd σ H p⟩
theorem Ql {lo:Int}{n:Nat}{g:TG}{tb:TS}{D:Ends}{σ:St}{H:Hp}(Pv:Nat->St->Hp->Prop)(h0:Pv 0 σ H)
  (hs:∀i σ H,i<n->Pv i σ H->g (.int (lo+i)) σ H λσ2 H2=>tb { D with nx:=Pv (i+1),ct:=Pv (i+1),bk:=D.nx } σ2 H2) (hd:∀σ H,Pv n σ H->D.nx σ H):
  ∃W:Nat->Nat->St->Hp->Prop,(∃m,W 0 m σ H)/\∀i m σ H,W i m σ H->
   ((lG lo n).stop i H/\D.nx σ H)\/((lG lo n).go i H/\∃N:St->Hp->Prop,(∀σ' H',N σ' H'->∃m',m'<m/\W (i+1) m' σ' H')/\∀x H',(lG lo n).lY i H x H'->g x σ H' λσ2 H2=>tb { D with nx:=N,ct:=N,bk:=D.nx } σ2 H2):=by
 refine⟨λi m σ H=>m=n - i/\i<=n/\Pv i σ H,⟨n,by simp,yZG _,h0⟩,?_⟩
 rintro i m σ H ⟨rfl,hi,p⟩
 by_cases bc:i<n
 .refine .inr ⟨bc,Pv (i+1),λσ' H' p'=>⟨n - (i+1),by omega,rfl,bc,p'⟩,λx H' y=>?_⟩
  obtain⟨e,y⟩:=y
  subst e y
  exact hs i σ _ bc p
 .have e:i=n:=by omega
  subst e
  exact .inl ⟨yZD _,hd σ H p⟩
end L2
namespace L2
open PySem PySem.Spec PyProof.Rows
abbrev R2:=V->V->Hp->VK->Prop
def eJ (X:Cx)(f:Value->Value->Sem Value)(r:R2):Prop:=
 ∀(zz:List (Addr×Obj)) (s:Shared) (σ:St) (H:Hp) (x y:V) (v u:Value) (Q:VK),Inv X zz σ H s->RelV x v->RelV y u->r x y H Q->
  wpAny (model X.prog X.w) X.A (f v u) (EP X zz σ Q) X.xe s
def aL (X:Cx)(f:Value)(r:List V->Hp->VK->Prop):Prop:=
 ∀(zz:List (Addr×Obj)) (s:Shared) (σ:St) (H:Hp) (xs:List V) (us:List Value) (Q:VK),Inv X zz σ H s->Vals xs us->r xs H Q->
  wpAny (model X.prog X.w) X.A (call f us) (EP X zz σ Q) X.xe s
def rD (r:R2)(ta tb:TE):TE:=λσ H Q=>ta σ H λx H1=>tb σ H1 λy H2=>r x y H2 Q
def rI (C:Int->Int->Prop)(g:Int->Int->V):R2:=λx y H Q=>∃i j,x=.int i/\y=.int j/\C i j/\Q (g i j) H
def rE (g:Int->Int->V):R2:=λx y H Q=>∃i j,x=.int i/\y=.int j/\Q (g i j) H
section
variable {X:Cx}{a b c:Expr}{ta tb tc:TE}{pos:Pos}
theorem rF (ha:PE X a ta)(hb:PE X b tb){zz:List (Addr×Obj)}{s:Shared}{σ:St}{H:Hp}{R:V->V->Hp->Prop}(I:Inv X zz σ H s)
  (h:ta σ H λx H1=>tb σ H1 λy H2=>R x y H2) {Q:Value->Shared->Prop} {f:Value->Value->Sem Value}
  (hf:∀v u s2 x y H2,Inv X zz σ H2 s2->RelV x v->RelV y u->R x y H2->wpAny (model X.prog X.w) X.A (f v u) Q X.xe s2):
  wpAny (model X.prog X.w) X.A (eval a X.env) (λv s₁=>wpAny (model X.prog X.w) X.A (eval b X.env) (λu s₂=>wpAny (model X.prog X.w) X.A (f v u) Q X.xe s₂) X.xe s₁) X.xe s:=by
 refine aF (ha zz s σ H _ I h) λv s1 ⟨x,H1,I1,r1,q1⟩=>?_
 refine aF (hb zz s1 σ H1 _ I1 q1) λu s2 ⟨y,H2,I2,r2,q2⟩=>?_
 exact hf v u s2 x y H2 I2 r1 r2 q2
theorem xX {op:Operator}{r:R2}(ho:eJ X (binaryOp op) r)(ha:PE X a ta)(hb:PE X b tb):PE X (.BinOp a op b pos) (rD r ta tb):=by
 intro zz s σ H Q I h
 exact wpAny_BinOp (rF ha hb I h λv u s2 x y H2 I2 rx ry q=>ho zz s2 σ H2 x y v u Q I2 rx ry q)
theorem D2 {f:Value->Value->Sem Value}{C:Int->Int->Prop}{g:Int->Int->Int}
  (rule:∀(i j:Int) (t u:Tok) (s:Shared) (Q:Value->Shared->Prop) (E:Value->Shared->Prop),C i j->Q (.int (g i j) s.toks) { s with toks:=s.toks+1 }->wpAny (model X.prog X.w) X.A (f (.int i t) (.int j u)) Q E s):
  eJ X f (rI C λi j=>.int (g i j)):=by
 intro zz s σ H x y v u Q I rx ry h
 obtain⟨i,j,rfl,rfl,hc,q⟩:=h
 obtain⟨t,rfl⟩:=rx
 obtain⟨t',rfl⟩:=ry
 exact rule i j t t' s _ _ hc ⟨.int (g i j),H,I.tok _,⟨_,rfl⟩,q⟩
theorem Bj {f:Value->Value->Sem Value}{g:Int->Int->Int}
  (rule:∀(i j:Int) (t u:Tok) (s:Shared) (Q:Value->Shared->Prop) (E:Value->Shared->Prop),Q (.int (g i j) s.toks) { s with toks:=s.toks+1 }->wpAny (model X.prog X.w) X.A (f (.int i t) (.int j u)) Q E s):
  eJ X f (rE λi j=>.int (g i j)):=by
 intro zz s σ H x y v u Q I rx ry h
 obtain⟨i,j,rfl,rfl,q⟩:=h
 obtain⟨t,rfl⟩:=rx
 obtain⟨t',rfl⟩:=ry
 exact rule i j t t' s _ _ ⟨.int (g i j),H,I.tok _,⟨_,rfl⟩,q⟩
theorem Bk {f:Value->Value->Sem Value}{g:Int->Int->Bool}
  (rule:∀(i j:Int) (t u:Tok) (s:Shared) (Q:Value->Shared->Prop) (E:Value->Shared->Prop),Q (.bool (g i j)) s->wpAny (model X.prog X.w) X.A (f (.int i t) (.int j u)) Q E s):
  eJ X f (rE λi j=>.bl (g i j)):=by
 intro zz s σ H x y v u Q I rx ry h
 obtain⟨i,j,rfl,rfl,q⟩:=h
 obtain⟨t,rfl⟩:=rx
 obtain⟨t',rfl⟩:=ry
 exact rule i j t t' s _ _ ⟨.bl (g i j),H,I,rfl,q⟩
def Bm (i j:Int):Prop:=0<=j/\j<=1000000/\i.natAbs<2 ^ 64
theorem vF:eJ X (binaryOp .Add) (rE λi j=>.int (i+j)):=Bj λ_ _ _ _ _ _ _ q=>add_int q
theorem Qm:eJ X (binaryOp .Sub) (rE λi j=>.int (i - j)):=Bj λ_ _ _ _ _ _ _ q=>sub_int q
theorem kG:eJ X (binaryOp .Mod) (rI (λ_ j=>0<j) λi j=>.int (i % j)):=D2 λi j _ _ _ _ _ hc q=>by
 have h1:(0:Int)<j:=hc
 exact mod_int' (by omega) (by rw[Int.fmod_eq_emod_of_nonneg i (by omega)];exact q)
theorem Qn:eJ X (binaryOp .Pow) (rI Bm λi j=>.int (i ^ j.toNat)):=D2 λ_ _ _ _ _ _ _ hc q=>pow_int_small hc.1 hc.2.1 hc.2.2 q
end
def og:V->V->Bool
 | .non,.non=>true | .non,.int _=>true | .int _,.non=>true | .non,.bl _=>true | .bl _,.non=>true | .non,.str _=>true | .str _,.non=>true
 | .int _,.int _=>true | .bl _,.bl _=>true | .str _,.str _=>true | .byt _,.byt _=>true
 | .int _,.str _=>true | .str _,.int _=>true | .bl _,.str _=>true | .str _,.bl _=>true
 | _,_=>false
def Ft:R2:=λx y H Q=>og x y=true/\Q (.bl (decide (x=y))) H
def Fu:R2:=λx y H Q=>og x y=true/\Q (.bl (!decide (x=y))) H
theorem K2 {i j:Int}:decide (V.int i=V.int j)=(i == j):=by
 rw[YI]
 simp
theorem K4 {i j:Bool}:decide (V.bl i=V.bl j)=(i == j):=by
 rw[YI]
 simp
theorem K6 {i j:Str}:decide (V.str i=V.str j)=(i == j):=by
 rw[YI]
 simp
theorem K7 {i j:Array UInt8}:decide (V.byt i=V.byt j)=(i.toList == j.toList):=by
 rw[YI]
 cases i
 cases j
 simp
section
variable {X:Cx}{a b c:Expr}{ta tb tc:TE}{pos:Pos}
theorem zK {zz:List (Addr×Obj)}{σ:St}{H:Hp}{s:Shared}{Q:VK}{k k':Bool}(I:Inv X zz σ H s)(q:Q (.bl k) H)(e:k=k'):EP X zz σ Q (.bool k') s:=by
 subst e
 exact⟨.bl k,H,I,rfl,q⟩
theorem l6:eJ X (compareOp .Eq) Ft:=by
 intro zz s σ H x y v u Q I rx ry h
 obtain⟨hs,q⟩:=h
 cases x with
 | non=>
  cases rx
  cases y with
  | non=>cases ry;exact PySem.EqNone.eq_none_none (zK I q (by simp))
  | bl j=>cases ry;exact PySem.EqNone.eq_none_bool (zK I q (by simp))
  | int j=>obtain⟨t',rfl⟩:=ry;exact PySem.EqNone.eq_none_int (zK I q (by simp))
  | str j=>obtain⟨t',rfl⟩:=ry;exact PySem.EqNone.eq_none_str (zK I q (by simp))
  | _=>exact absurd (show false=true from hs) cj
 | bl i=>
  cases rx
  cases y with
  | non=>cases ry;exact PySem.EqNone.eq_bool_none (zK I q (by simp))
  | bl j=>cases ry;exact eq_bool (zK I q K4)
  | str j=>obtain⟨t',rfl⟩:=ry;exact PySem.EqMixed.eq_bool_str (zK I q (by simp))
  | _=>exact absurd (show false=true from hs) cj
 | int i=>
  obtain⟨t,rfl⟩:=rx
  cases y with
  | non=>cases ry;exact PySem.EqNone.eq_int_none (zK I q (by simp))
  | int j=>obtain⟨t',rfl⟩:=ry;exact eq_int (zK I q K2)
  | str j=>obtain⟨t',rfl⟩:=ry;exact PySem.EqMixed.eq_int_str (zK I q (by simp))
  | _=>exact absurd (show false=true from hs) cj
 | str i=>
  obtain⟨t,rfl⟩:=rx
  cases y with
  | non=>cases ry;exact PySem.EqNone.eq_str_none (zK I q (by simp))
  | bl j=>cases ry;exact PySem.EqMixed.eq_str_bool (zK I q (by simp))
  | int j=>obtain⟨t',rfl⟩:=ry;exact PySem.EqMixed.eq_str_int (zK I q (by simp))
  | str j=>obtain⟨t',rfl⟩:=ry;exact eq_str (zK I q K6)
  | _=>exact absurd (show false=true from hs) cj
 | byt i=>
  obtain⟨t,rfl⟩:=rx
  cases y with
  | byt j=>obtain⟨t',rfl⟩:=ry;exact PySem.W.eq_bytes (zK I q K7)
  | _=>exact absurd (show false=true from hs) cj
 | _=>cases y <;> exact absurd (show false=true from hs) cj
theorem K8:eJ X (compareOp .NotEq) Fu:=by
 intro zz s σ H x y v u Q I rx ry h
 obtain⟨hs,q⟩:=h
 cases x with
 | non=>
  cases rx
  cases y with
  | non=>cases ry;exact PySem.EqNone.ne_none_none (zK I q (by simp))
  | bl j=>cases ry;exact PySem.EqNone.ne_none_bool (zK I q (by simp))
  | int j=>obtain⟨t',rfl⟩:=ry;exact PySem.EqNone.ne_none_int (zK I q (by simp))
  | str j=>obtain⟨t',rfl⟩:=ry;exact PySem.EqNone.ne_none_str (zK I q (by simp))
  | _=>exact absurd (show false=true from hs) cj
 | bl i=>
  cases rx
  cases y with
  | non=>cases ry;exact PySem.EqNone.ne_bool_none (zK I q (by simp))
  | bl j=>cases ry;exact ne_bool (zK I q (congrArg not K4))
  | str j=>obtain⟨t',rfl⟩:=ry;exact PySem.EqMixed.ne_bool_str (zK I q (by simp))
  | _=>exact absurd (show false=true from hs) cj
 | int i=>
  obtain⟨t,rfl⟩:=rx
  cases y with
  | non=>cases ry;exact PySem.EqNone.ne_int_none (zK I q (by simp))
  | int j=>obtain⟨t',rfl⟩:=ry;exact ne_int (zK I q (congrArg not K2))
  | str j=>obtain⟨t',rfl⟩:=ry;exact PySem.EqMixed.ne_int_str (zK I q (by simp))
  | _=>exact absurd (show false=true from hs) cj
 | str i=>
  obtain⟨t,rfl⟩:=rx
  cases y with
  | non=>cases ry;exact PySem.EqNone.ne_str_none (zK I q (by simp))
  | bl j=>cases ry;exact PySem.EqMixed.ne_str_bool (zK I q (by simp))
  | int j=>obtain⟨t',rfl⟩:=ry;exact PySem.EqMixed.ne_str_int (zK I q (by simp))
  | str j=>obtain⟨t',rfl⟩:=ry;exact ne_str (zK I q (congrArg not K6))
  | _=>exact absurd (show false=true from hs) cj
 | byt i=>
  obtain⟨t,rfl⟩:=rx
  cases y with
  | byt j=>obtain⟨t',rfl⟩:=ry;exact PySem.W.ne_bytes (zK I q (congrArg not K7))
  | _=>exact absurd (show false=true from hs) cj
 | _=>cases y <;> exact absurd (show false=true from hs) cj
theorem D4:eJ X (compareOp .Lt) (rE λi j=>.bl (decide (i<j))):=Bk λ_ _ _ _ _ _ _ q=>lt_int q
theorem D5:eJ X (compareOp .Gt) (rE λi j=>.bl (decide (j<i))):=Bk λ_ _ _ _ _ _ _ q=>gt_int q
theorem Qo:eJ X (compareOp .Is) (λx y H Q=>y=.non/\Q (.bl (decide (x=.non))) H):=by
 intro zz s σ H x y v u Q I rx ry h
 obtain⟨rfl,q⟩:=h
 cases ry
 refine is_none_gen (zK I q ?_)
 cases x <;> first
  | (cases rx;rfl)
  | (obtain⟨t,rfl⟩:=rx;rfl)
theorem xE (b:Expr){op:CmpOp}(h:op≠.In:=by decide)(h2:op≠.NotIn:=by decide):behindInMarks op b=false:=by
 have e1:(op == CmpOp.In)=false:=by cases op <;> first | rfl | exact absurd rfl h
 have e2:(op == CmpOp.NotIn)=false:=by cases op <;> first | rfl | exact absurd rfl h2
 cases b <;> simp[behindInMarks,e1,e2]
theorem Bn {op:CmpOp}{r:R2}(ho:eJ X (compareOp op) r)(ha:PE X a ta)(hb:PE X b tb)(hm:behindInMarks op b=false):PE X (.Compare a [op] [b] pos) (rD r ta tb):=by
 intro zz s σ H Q I h
 exact wpAny_Compare1 (rF ha hb I h λv u s2 x y H2 I2 rx ry q=>ho zz s2 σ H2 x y v u Q I2 rx ry q) hm
def p9 (t:TE):TT:=λσ H Q=>t σ H λx H'=>∃k,x=.bl k/\Q k H'
theorem qS {op:CmpOp}{r:R2}(ho:eJ X (compareOp op) r)(ha:PE X a ta)(hb:PE X b tb)(hm:behindInMarks op b=false):PT X (.Compare a [op] [b] pos) (p9 (rD r ta tb)):=by
 intro zz s σ H Q I h
 refine wpAny_isTrue_Compare1 (aF (ha zz s σ H _ I h) λv s1 ⟨x,H1,I1,r1,q1⟩=>aF (hb zz s1 σ H1 _ I1 q1) λu s2 ⟨y,H2,I2,r2,q2⟩=>
  aF (ho zz s2 σ H2 x y v u _ I2 r1 r2 q2) λc s3 ⟨z,H3,I3,r3,k,e,q3⟩=>?_) hm
 subst e
 cases r3
 exact wpAny_truthy_bool ⟨H3,I3,q3⟩
theorem g7:(Yc:Nat)<2 ^ 63:=by rw[sizeLine_eq];decide
theorem vals1 {x:V}{us:List Value}(r:Vals [x] us):∃u,us=[u]/\RelV x u:=by
 cases r with
 | cons r1 r2=>cases r2;exact⟨_,rfl,r1⟩
theorem vals2 {x y:V}{us:List Value}(r:Vals [x,y] us):∃u w',us=[u,w']/\RelV x u/\RelV y w':=by
 cases r with
 | cons r1 r2=>
  cases r2 with
  | cons r3 r4=>cases r4;exact⟨_,_,rfl,r1,r3⟩
end
end L2
namespace L2
open PySem PySem.Spec PyProof.Rows
structure g8 (h:Heap)(x dx C:Addr)(mA:Str->Option Value):Prop where
 obj:h.get? x=some (PySem.W.instObj C dx)
 ns:h.Ns1 dx mA
 ne:dx≠x
theorem Qp {h:Heap}{dx:Addr}{mA:Str->Option Value}(n:h.Ns1 dx mA):∃od,h.get? dx=some od/\∀name,PySem.W.lookIn name od=some (mA name):=by
 obtain⟨o,es,ep,ho,hd,hk,_,hm⟩:=n
 refine⟨o,ho,λname=>?_⟩
 have e:=hm name
 unfold nsFind findBy at e
 rw[<- Array.find?_toList] at e
 unfold PySem.W.lookIn
 rw[hd]
 dsimp only
 split
 .rename_i y q
  rw[q] at e
  exact congrArg some e
 .rename_i q
  rw[q] at e
  have a:es.toList.any (·.refKey)=false:=by
   rw[List.any_eq_false]
   intro y hy
   obtain⟨z,t,g9⟩:=hk y (Array.mem_toList_iff.mp hy)
   simp[DictEntry.refKey,g9]
  have a':¬es.toList.any (·.refKey)=true:=by rw[a];exact cj
  rw[if_neg a']
  exact congrArg some e
theorem g8.look {h:Heap}{x dx C:Addr}{mA:Str->Option Value}(I:g8 h x dx C mA):∃od,PySem.W.InstAt h x (PySem.W.instObj C dx) C (some od)/\∀name,PySem.W.lookIn name od=some (mA name):=
 let ⟨od,ho,hl⟩:=Qp I.ns
 ⟨od,⟨I.obj,rfl,rfl,ho⟩,hl⟩
section
variable {prog:Program}{w:World}{A:Around}{E:Value->Shared->Prop}{s:Shared}{K:aq}{x dx C f:Addr}{mA:Str->Option Value}{name:Str}{v:Value}
theorem Qq {expr:Bool}{Q:Value->Shared->Prop}(X:K.In s.heap)(I:g8 s.heap x dx C mA)(hg:PySem.W.plainGet K C name=true)(hh:PySem.W.hasDictIn K C=true)
  (ha:PySem.W.findIn K (.ref C) name=some none) (hv:mA name=some v) (tS:PySem.W.handedIn v=true) (h:Q v { s with toks:=s.toks+1 }):
  wpAny (model prog w) A (getAttr (.ref x) name expr) Q E s:=by
 obtain⟨od,J,hl⟩:=I.look
 exact PySem.W.get_value X J (PySem.W.plainGet_of hg).1 (PySem.W.findObj_own hh ha rfl (by rw[hl,hv])) tS h
theorem Qr {pl:Sem Bool}{Q:Value×List Value->Shared->Prop}(X:K.In s.heap)(I:g8 s.heap x dx C mA)(hg:PySem.W.plainGet K C name=true)
  (hf:PySem.W.findIn K (.ref C) name=some (some (.ref f))) (ht:PySem.W.isFn K (.ref f)=true) (hv:mA name=none) (h:Q (.ref f,[.ref x]) s):
  wpAny (model prog w) A (getMethod (.ref x) name pl) Q E s:=by
 obtain⟨od,J,hl⟩:=I.look
 exact PySem.W.method_fn X J (PySem.W.plainGet_of hg).1 (PySem.W.plainGet_of hg).2 hf (beq_iff_eq.mp ht) (by show(PySem.W.lookIn name od).map (·.isSome)=some false;rw[hl,hv];rfl) h
theorem Qs {ns:List Str}{Q:Unit->Shared->Prop}(X:K.In s.heap)(I:g8 s.heap x dx C mA)
  (hs:PySem.W.findIn K (.ref C) "__setattr__" = some (some (.builtin "object.__setattr__"))) (hp:PySem.W.plainOver K C=true) (ht:PySem.W.takerIn K C name=some none) (hh:PySem.W.hasDictIn K C=true)
  (hw:PySem.Within mA ns) (hsz:ns.length<=Yc)
  (h:∀h',g8 h' x dx C (λy=>if y=name then some v else mA y)->Heap.SameBut dx s.heap h'->Q () { s with heap:=h',toks:=s.toks+2 }):
  wpAny (model prog w) A (setAttr (.ref x) name v) Q E s:=by
 obtain⟨od,J,hl⟩:=I.look
 refine PySem.W.set_plain X J hs (PySem.W.osa_open (s:={ s with toks:=s.toks+1 }) (r:=none) X J hp ht λb=>?_)
 obtain⟨cd,hc,dr⟩:=PySem.W.any_some hh
 have hx:s.heap.get? x=some ⟨.ref C,some dx,.plain,#[]⟩:=I.obj
 refine yYX (yYY (yYX (yYX (wpAny_loadPart hx (yYX (PySem.W.Looks.here (s:={ s with toks:=s.toks+1 }) (PySem.W.looks_clsIn X hc) ?_))))))
 rw[dr]
 refine yYY (a:=some dx) (yYX (yYY (yYX ?_)))
 refine wpAny_nsSet1 (s:={ s with toks:=s.toks+1 }) I.ns λh' qa D6=>?_
 obtain⟨oD,esD,epD,Qt,Qu,Qv⟩:=qa.count (PySem.Within.cons name v hw)
 refine yYX (wpAny_lookBehind Qt (by rw[Qu];exact pastItsLine_dict (yZJ Qv (by rw[cP];omega))) ?_)
 exact yYY (h _ ⟨(D6.2 _ (Ne.symm I.ne)).trans I.obj,qa,I.ne⟩ D6)
theorem Qw {R:Result->Shared->Prop}{vs:List Value}{kw:List (Str×Value)}(X:K.In s.heap)(hm:PySem.W.makesIn K C=true)
  (hi:PySem.W.findIn K (.ref C) "__init__" = some (some (.ref f))) (hf:PySem.W.typeIn K (.ref f)=some (.type "function"))
  (h:codeAny (model prog w) (A.under (.builtin "type.__call__" ⟨.ref C::vs,kw⟩)) (.call (.ref f) ⟨.ref (s.heap.objs.size+1)::vs,kw⟩) (PySem.W.InitBack (s.heap.objs.size+1) R)
   { s with heap:=(s.heap.push PySem.W.emptyDict).push (PySem.W.instObj C s.heap.objs.size) }):
  codeAny (model prog w) A (.call (.ref C) ⟨vs,kw⟩) R s:=by
 obtain⟨hh,g,d,t,os⟩:=s
 exact PySem.W.make_core (PySem.W.makes_of X hm) (PySem.W.looks_findIn X hi) (λself=>PySem.W.bind_fn X self hf) (.inl rfl) h
end
def cz (f:Str)(v:V):List (Str×V)->List (Str×V)
 | []=>[(f,v)]
 | (g,x)::r=>if g=f then (g,v)::r else (g,x)::cz f v r
theorem K9 (f g:Str)(v:V):∀fs:List (Str×V),(cz f v fs).lookup g=if g=f then some v else fs.lookup g
 | []=>by
  show List.lookup g [(f,v)]=_
  by_cases h:g=f
  .have hb:(g == f)=true:=beq_iff_eq.mpr h
   simp only[List.lookup,hb,if_pos h]
  .have hb:(g == f)=false:=beq_eq_false_iff_ne.mpr h
   simp only[List.lookup,hb,if_neg h]
 | (k,x)::r=>by
  have ih:=K9 f g v r
  rw[show cz f v ((k,x)::r)=(if k=f then (k,v)::r else (k,x)::cz f v r) from rfl]
  by_cases hk:k=f
  .rw[if_pos hk]
   by_cases h:g=k
   .have hb:(g == k)=true:=beq_iff_eq.mpr h
    simp only[List.lookup,hb,if_pos (h.trans hk)]
   .have hb:(g == k)=false:=beq_eq_false_iff_ne.mpr h
    simp only[List.lookup,hb,if_neg (λe:g=f=>h (e.trans hk.symm))]
  .rw[if_neg hk]
   by_cases h:g=k
   .have hb:(g == k)=true:=beq_iff_eq.mpr h
    simp only[List.lookup,hb,if_neg (λe:g=f=>hk (h.symm.trans e))]
   .have hb:(g == k)=false:=beq_eq_false_iff_ne.mpr h
    simp only[List.lookup,hb]
    exact ih
theorem Fv (f:Str)(v:V):∀fs:List (Str×V),f∈(cz f v fs).map (·.1)/\∀g,g∈fs.map (·.1)->g∈(cz f v fs).map (·.1)
 | []=>⟨by simp[cz],λg h=>by simp at h⟩
 | (k,x)::r=>by
  obtain⟨i1,i2⟩:=Fv f v r
  rw[show cz f v ((k,x)::r)=(if k=f then (k,v)::r else (k,x)::cz f v r) from rfl]
  by_cases hk:k=f
  .rw[if_pos hk]
   subst hk
   exact⟨by simp,λg h=>by simpa using h⟩
  .rw[if_neg hk]
   refine⟨?_,λg h=>?_⟩
   .rw[Yl]
    exact yYH _ i1
   .rw[Yl] at h ⊢
    rcases aE.mp h with e | e
    .exact aE.mpr (.inl e)
    .exact yYH _ (i2 g e)
theorem K' (f:Str)(v:V):∀fs:List (Str×V),(cz f v fs).length<=fs.length+1
 | []=>by simp[cz]
 | (k,x)::r=>by
  have ih:=K' f v r
  rw[show cz f v ((k,x)::r)=(if k=f then (k,v)::r else (k,x)::cz f v r) from rfl]
  by_cases hk:k=f
  .rw[if_pos hk,cP,cP];omega
  .rw[if_neg hk,cP,cP];omega
theorem bU.some_of {v:V}{o:Option Value}(r:bU (some v) o):∃u,o=some u/\RelV v u:=by
 cases o with
 | none=>exact(show False from r).elim
 | some u=>exact⟨u,rfl,r⟩
theorem bU.none_of {o:Option Value}(r:bU none o):o=none:=by
 cases o with
 | none=>rfl
 | some u=>exact(show False from r).elim
theorem Qx {v:V}{u:Value}(r:RelV v u):PySem.W.handedIn u=true:=by
 cases v with
 | non=>cases(show u=Value.none from r);rfl
 | bl b=>cases(show u=Value.bool b from r);rfl
 | int i=>obtain⟨t,e⟩:=(show∃t,u=Value.int i t from r);cases e;rfl
 | str x=>obtain⟨t,e⟩:=(show∃t,u=Value.str x t from r);cases e;rfl
 | byt b=>obtain⟨t,e⟩:=(show∃t,u=Value.bytes b t from r);cases e;rfl
 | flt b=>obtain⟨t,e⟩:=(show∃t,u=Value.float b t from r);cases e;rfl
 | ref a=>cases(show u=Value.ref a from r);rfl
 | ty n=>cases(show u=Value.type n from r);rfl
section
variable {P:Program}{w:World}{H H':Hp}{h h':Heap}{a C dx:Addr}{fs P8:List (Str×V)}
theorem bX (af:ck P w H h)(e:H a=some (.ins C dx fs)):∃mA,g8 h a dx C mA/\(∀f,bU (fs.lookup f) (mA f))/\PySem.Within mA (fs.map (·.1))/\fs.length<=1000/\H dx=some (.own a):=by
 obtain⟨d,z,ne,ob,mA,n,r,q⟩:=(show ao P w H h a (.ins C dx fs) from af a _ e)
 exact⟨mA,⟨ob,n,ne⟩,r,q,z,d⟩
end
structure fI (K:aq)(C:Addr):Prop where
 pg:PySem.W.plainGet K C Str.empty=true
 hd:PySem.W.hasDictIn K C=true
 po:PySem.W.plainOver K C=true
 sa:PySem.W.findIn K (.ref C) "__setattr__" = some (some (.builtin "object.__setattr__"))
theorem fI.get {K:aq}{C:Addr}(c:fI K C)(f:Str):PySem.W.plainGet K C f=true:=c.pg
def cA (K:aq)(C:Addr)(f:Str):Prop:=PySem.W.findIn K (.ref C) f=some none
theorem cA.taker {K:aq}{C:Addr}{f:Str}(n:cA K C f):PySem.W.takerIn K C f=some none:=by
 unfold PySem.W.takerIn
 rw[show PySem.W.findIn K (.ref C) f=some none from n]
 rfl
structure Meth (K:aq)(C:Addr)(m:Str)(f:Addr):Prop where
 at_:PySem.W.findIn K (.ref C) m=some (some (.ref f))
 fn:PySem.W.isFn K (.ref f)=true
 kp:PySem.W.keepIn K (.ref f)=true
section
variable {X:Cx}{zz:List (Addr×Obj)}{σ:St}{H:Hp}{s:Shared}{a C dx:Addr}{fs:List (Str×V)}{f:Str}{v:V}{A:Around}{E:Value->Shared->Prop}
theorem Qy {b:Bool}{Q:Value->Shared->Prop}(I:Inv X zz σ H s)(e:H a=some (.ins C dx fs))(c:fI X.K C)(n:cA X.K C f)(l:fs.lookup f=some v)
  (h:∀u s',Inv X zz σ H s'->RelV v u->Q u s'):wpAny (model X.prog X.w) A (getAttr (.ref a) f b) Q E s:=by
 obtain⟨mA,O,r,_,_,_⟩:=bX I.af e
 obtain⟨u,hu,ru⟩:=bU.some_of (v:=v) (o:=mA f) (by rw[<- l];exact r f)
 exact Qq I.dq O (c.get f) c.hd n hu (Qx ru) (h u _ (I.tok _) ru)
theorem Qz {m:Str}{g:Addr}{pl:Sem Bool}{Q:Value×List Value->Shared->Prop}(I:Inv X zz σ H s)(e:H a=some (.ins C dx fs))(c:fI X.K C)(k:Meth X.K C m g)(l:fs.lookup m=none)
  (h:Q (.ref g,[.ref a]) s):wpAny (model X.prog X.w) A (getMethod (.ref a) m pl) Q E s:=by
 obtain⟨mA,O,r,_,_,_⟩:=bX I.af e
 have hn:mA m=none:=bU.none_of (by rw[<- l];exact r m)
 exact Qr I.dq O (c.get m) k.at_ k.fn hn h
theorem QA {y:V}{u:Value}{Q:Unit->Shared->Prop}(I:Inv X zz σ H s)(e:H a=some (.ins C dx fs))(c:fI X.K C)(n:cA X.K C f)(hl:fs.length<1000)(ry:RelV y u)
  (h:∀s',Inv X zz σ (upd H a (.ins C dx (cz f y fs))) s'->Q () s'):wpAny (model X.prog X.w) A (setAttr (.ref a) f u) Q E s:=by
 obtain⟨mA,O,r,wi,_,ho⟩:=bX I.af e
 have hz:(fs.map (·.1)).length<=Yc:=by rw[av,sizeLine_eq];omega
 refine Qs I.dq O c.sa c.po n.taker c.hd wi hz λh' O' sb=>h _ ?_
 have hd:∃o,h'.get? dx=some o:=let ⟨o,_,_,e',_⟩:=O'.ns;⟨o,e'⟩
 refine I.write (x:=a) (e:=dx) (by rw[e];exact True.intro) (.inr ho) (λb q hb z=>(sb.2 b hb).trans z) hd ?_
 refine⟨by rw[qB O.ne];exact ho,?_,O.ne,O'.obj,_,O'.ns,λg=>?_,λg hg=>?_⟩
 .have:=K' f y fs;omega
 .show bU ((cz f y fs).lookup g) (if g=f then some u else mA g)
  rw[K9]
  by_cases q:g=f
  .rw[if_pos q,if_pos q];exact ry
  .rw[if_neg q,if_neg q];exact r g
 .by_cases q:g=f
  .rw[q];exact(Fv f y fs).1
  .refine(Fv f y fs).2 g (wi g λz=>hg ?_)
   show(if g=f then some u else mA g)=none
   rw[if_neg q];exact z
theorem Inv.made (I:Inv X zz σ H s):Inv X zz σ (upd (upd H s.heap.objs.size (.own (s.heap.objs.size+1))) (s.heap.objs.size+1) (.ins C s.heap.objs.size []))
  { s with heap:=(s.heap.push PySem.W.emptyDict).push (PySem.W.instObj C s.heap.objs.size) }:=by
 have e1:(s.heap.push PySem.W.emptyDict).get? s.heap.objs.size=some PySem.W.emptyDict:=bg s.heap rfl
 have e2:((s.heap.push PySem.W.emptyDict).push (PySem.W.instObj C s.heap.objs.size)).get? (s.heap.objs.size+1)=some (PySem.W.instObj C s.heap.objs.size):=by
  have:=bg (s.heap.push PySem.W.emptyDict) (o:=PySem.W.instObj C s.heap.objs.size) rfl
  rwa [gj] at this
 have e3:(s.heap.push PySem.W.emptyDict).Ns s.heap.objs.size (λ_=>none):=⟨PySem.W.emptyDict,#[],_,e1,rfl,(λe he=>absurd he (by simp)),λ_=>rfl⟩
 have I1:=I.laid (a:=s.heap.objs.size) (o:=.own (s.heap.objs.size+1)) (h':=s.heap.push PySem.W.emptyDict) (t':=s.toks) (λb u q=>yYZ _ q) (yZD _) ⟨_,e1⟩
 refine I1.laid (a:=s.heap.objs.size+1) (o:=.ins C s.heap.objs.size []) (t':=s.toks) (λb u q=>yYZ _ q) (Nat.le_of_eq (gj _ _)) ?_
 have ne:s.heap.objs.size≠s.heap.objs.size+1:=yZF (Nat.lt_succ_self _)
 refine⟨by rw[qB ne,qW],yZG _,ne,e2,λ_=>none,(Heap.Ns1.of_empty e3).at λo q=>yYZ _ q,λ_=>True.intro,λy hy=>absurd rfl hy⟩
theorem QB {prog:Program}{w:World}{env:Env}{e:Expr}{f:Str}{pos:Pos}{s:Shared}{Q:Value->Shared->Prop}(hb:attributeBase e f env (eval e env)=eval e env)
  (h:wpAny (model prog w) A (eval e env) (λo s₁=>wpAny (model prog w) A (getAttr o f true) Q E s₁) E s):wpAny (model prog w) A (eval (.Attribute e f pos) env) Q E s:=
 Attribute_any_ h (by rw[arm_eval_Attribute,hb])
end
def oh (K:aq)(ta:TE)(f:Str):TE:=λσ H Q=>ta σ H λx H1=>∃a C dx fs v,x=.ref a/\H1 a=some (.ins C dx fs)/\fI K C/\cA K C f/\fs.lookup f=some v/\Q v H1
def rG (K:aq)(ta tv:TE)(f:Str):TS:=λD σ H=>tv σ H λy H1=>ta σ H1 λx H2=>∃a C dx fs,x=.ref a/\H2 a=some (.ins C dx fs)/\fI K C/\cA K C f/\fs.length<1000/\
 D.nx σ (upd H2 a (.ins C dx (cz f y fs)))
section
variable {X:Cx}{o e value:Expr}{f:Str}{pos pos' Bo:Pos}{ta tv:TE}
theorem QC (he:PE X e ta)(hb:attributeBase e f X.env (eval e X.env)=eval e X.env):PE X (.Attribute e f pos) (oh X.K ta f):=by
 intro zz s σ H Q I h
 refine QB hb (aF (he zz s σ H _ I h) λu s1 ⟨x,H1,I1,rx,a,C,dx,fs,v,ex,ea,c,n,l,q⟩=>?_)
 subst ex
 obtain rfl:u=Value.ref a:=rx
 exact Qy I1 ea c n l λu' s2 I2 ru=>⟨v,H1,I2,ru,q⟩
theorem QD (ha:PE X o ta)(hv:PE X value tv)(hs:swapsWith value (some (.Attribute o f pos')) pos.line X.env=pure false):PS X (.Assign [.Attribute o f pos'] value pos) (rG X.K ta tv f):=by
 intro zz s σ H D I h
 refine plainObj_wpAny_Assign_Attribute (aF (hv zz s σ H _ I h) λu s1 ⟨y,H1,I1,ry,q⟩=>aF (ha zz s1 σ H1 _ I1 q) λov s2 ⟨x,H2,I2,rx,a,C,dx,fs,ex,ea,c,n,l,q2⟩=>?_) hs
 subst ex
 obtain rfl:ov=Value.ref a:=rx
 exact QA I2 ea c n l ry λs3 I3=>⟨σ,_,I3,q2⟩
end
section
variable {X:Cx}{zz:List (Addr×Obj)}{σ:St}{H:Hp}{s:Shared}{A:Around}{E:Value->Shared->Prop}{Q:Value->Shared->Prop}{c:Value}{b:Bool}
inductive c7 (K:aq)(H:Hp):V->Value->Prop where
 | non:c7 K H .non (.type "NoneType")
 | bl (x:Bool):c7 K H (.bl x) (.type "bool")
 | int (i:Int):c7 K H (.int i) (.type "int")
 | str (x:Str):c7 K H (.str x) (.type "str")
 | flt (x:UInt64):c7 K H (.flt x) (.type "float")
 | lst {a:Addr} {xs:List V} (e:H a=some (.lst xs)):c7 K H (.ref a) (.type "list")
 | frz {a:Addr} {o:Obj} {xs:List V} (e:H a=some (.frz o (.lst xs))):c7 K H (.ref a) (.type "list")
 | tup {a:Addr} {xs:List V} (e:H a=some (.tup xs)):c7 K H (.ref a) (.type "tuple")
 | dK {a:Addr} {kvs:List (Key×V)} (e:H a=some (.dK kvs)):c7 K H (.ref a) (.type "dict")
 | dT {a:Addr} {kvs:List (List Key×V)} (e:H a=some (.dT kvs)):c7 K H (.ref a) (.type "dict")
 | ins {a C dx:Addr} {fs:List (Str×V)} (e:H a=some (.ins C dx fs)) (cl:fI K C) (ha:PySem.W.findIn K (.ref C) "__class__" = some (some (.builtin "object.__class__")))
   (hn:PySem.W.specialIn K (.builtin "object.__class__") "__get__" = some (some (.builtin "getset_descriptor.__get__"))) (Bp:PySem.W.takesIn K (.builtin "object.__class__")=some true)
   (hm:PySem.W.mroIn K C (.type "object")=some true):c7 K H (.ref a) (.ref C)
theorem QE {x:V}{u t:Value}(I:Inv X zz σ H s)(rx:RelV x u)(ty:c7 X.K H x t)(e:PySem.W.kitOne X.K t c=some b)(h:∀tk,Q (.bool b) { s with toks:=tk }):
  wpAny (model X.prog X.w) A (call (.builtin "isinstance") [u,c]) Q E s:=by
 cases ty with
 | non=>cases(show u=Value.none from rx);exact YD PySem.W.kitx_none I.dq True.intro e (λz=>nomatch z) h
 | bl y=>cases(show u=Value.bool y from rx);exact YD PySem.W.kitx_bool I.dq True.intro e (λz=>nomatch z) h
 | int i=>obtain⟨t,q⟩:=(show∃t,u=Value.int i t from rx);cases q;exact YD PySem.W.kitx_int I.dq True.intro e (λz=>nomatch z) h
 | str y=>obtain⟨t,q⟩:=(show∃t,u=Value.str y t from rx);cases q;exact YD PySem.W.kitx_str I.dq True.intro e (λz=>nomatch z) h
 | flt y=>obtain⟨t,q⟩:=(show∃t,u=Value.float y t from rx);cases q;exact YD PySem.W.kitx_float I.dq True.intro e (λz=>nomatch z) h
 | @lst a xs ea=>
  cases(show u=Value.ref a from rx)
  obtain⟨_,_,n,_,h1⟩:=(show ao X.prog X.w H s.heap a (.lst xs) from I.af a _ ea)
  exact YD PySem.W.kitx_list I.dq ⟨_,h1,rfl⟩ e (λz=>nomatch z) h
 | @frz a ob xs ea=>
  cases(show u=Value.ref a from rx)
  obtain⟨_,_,_,n,_,h1⟩:=(show ao X.prog X.w H s.heap a (.frz ob (.lst xs)) from I.af a _ ea)
  exact YD PySem.W.kitx_list I.dq ⟨_,h1,rfl⟩ e (λz=>nomatch z) h
 | @tup a xs ea=>
  cases(show u=Value.ref a from rx)
  obtain⟨_,_,_,p⟩:=(show ao X.prog X.w H s.heap a (.tup xs) from I.af a _ ea)
  obtain⟨o,h1,h2,_⟩:=p
  exact YD PySem.W.kitx_tuple I.dq ⟨o,h1,h2⟩ e (λz=>nomatch z) h
 | @dK a kvs ea=>
  cases(show u=Value.ref a from rx)
  obtain⟨_,_,vs,_,p⟩:=(show ao X.prog X.w H s.heap a (.dK kvs) from I.af a _ ea)
  obtain⟨o,es,ep,h1,h2,_⟩:=p
  exact YD PySem.W.kitx_dict I.dq ⟨o,h1,h2.1⟩ e (λz=>nomatch z) h
 | @dT a kvs ea=>
  cases(show u=Value.ref a from rx)
  obtain⟨_,_,xs,_,o,es,ep,h1,h2,_⟩:=(show ao X.prog X.w H s.heap a (.dT kvs) from I.af a _ ea)
  exact YD PySem.W.kitx_dict I.dq ⟨o,h1,h2.1⟩ e (λz=>nomatch z) h
 | @ins a C dx fs ea cl ha hn Bp hm=>
  cases(show u=Value.ref a from rx)
  obtain⟨mA,O,_⟩:=bX I.af ea
  obtain⟨od,J,_⟩:=O.look
  exact YD (PySem.W.kitx_own (cl.get _) cl.hd ha hn Bp hm) I.dq J e (λz=>nomatch z) h
end
end L2
namespace L2
open PySem PySem.Spec PyProof.Rows
structure aJ (k:Nat)(A:Around):Prop where
 hd:A.handled=none
 dp:A.depth+3 * k+5<recursionLimit
 un:A.units+16 * k+200<cLine
theorem aJ.mono {j k:Nat}{A:Around}(r:aJ k A)(h:j<=k):aJ j A:=⟨r.hd,by have:=r.dp;omega,by have:=r.un;omega⟩
theorem aJ.deeper {k:Nat}{A:Around}(r:aJ (k+1) A)(env:Env):aJ k (A.deeper env):=
 ⟨r.hd,by have:=r.dp;show A.depth+1+3 * k+5<_;omega,by have:=r.un;show A.units+3+16 * k+200<_;omega⟩
theorem QF {A:Around}{C:Addr}{us:List Value}{kw:List (Str×Value)}:(A.under (.builtin "type.__call__" ⟨.ref C::us,kw⟩)).depth=A.depth+1:=by
 first | rfl | simp[Around.under,Code.weight,Code.isCreation,Code.isGuard,Code.isCaller,Code.frames,Code.isFrame,guardIds]
theorem QG {A:Around}{C:Addr}{us:List Value}{kw:List (Str×Value)}:(A.under (.builtin "type.__call__" ⟨.ref C::us,kw⟩)).units=A.units+1:=by
 first | rfl | simp[Around.under,Code.cUnits,Code.frames,Code.isFrame]
theorem aJ.make {k:Nat}{A:Around}(r:aJ (k+1) A)(C:Addr)(us:List Value)(kw:List (Str×Value)):aJ k (A.under (.builtin "type.__call__" ⟨.ref C::us,kw⟩)):=
 ⟨r.hd,by have:=r.dp;rw[QF];omega,by have:=r.un;rw[QG];omega⟩
theorem aJ.depth {k:Nat}{A:Around}(r:aJ k A):A.depth<recursionLimit:=by have:=r.dp;omega
theorem aJ.units {k:Nat}{A:Around}(r:aJ k A):A.units+64<cLine:=by have:=r.un;omega
def rH:TA:=λ_ H Q=>Q [] H
def l7 (ta:TE)(tr:TA):TA:=λσ H Q=>ta σ H λx H1=>tr σ H1 λxs H2=>Q (x::xs) H2
section
variable {X:Cx}{e:Expr}{es:List Expr}{te:TE}{t:TA}{pos:Pos}
theorem qX:PA X [] rH:=λ_ _ _ _ H Q I h=>Calls.spliced_nil ⟨[],H,I,.nil,h⟩
theorem qQ (ha:PE X e te)(hr:PA X es t)(hs:starEach (e::es) X.env=(false,eval e X.env)::starEach es X.env:=by rfl):PA X (e::es) (l7 te t):=by
 intro pos zz s σ H Q I h
 rw[hs]
 show wpAny _ _ (spliced ((false,eval e X.env)::backTo pos (starEach es X.env))) _ _ s
 refine Calls.spliced_cons (aF (ha zz s σ H _ I h) λu s1 ⟨x,H1,I1,r1,q1⟩=>?_)
 exact aF (hr pos zz s1 σ H1 _ I1 q1) λus s2 ⟨xs,H2,I2,r2,q2⟩=>⟨x::xs,H2,I2,.cons r1 r2,q2⟩
def rJ (t:TA):TE:=λσ H Q=>t σ H λxs H1=>xs.length<=Yc/\∀p,H1 p=none->Q (.ref p) (upd H1 p (.tup xs))
def Bq (t:TA):TE:=λσ H Q=>t σ H λxs H1=>xs.length<=Yc/\∀p,H1 p=none->Q (.ref p) (upd H1 p (.lst xs))
theorem xR {x1}(h:PA X es t):PE X (.Tuple es x1 pos) (rJ t):=by
 intro zz s σ H Q I hq
 refine wpAny_Tuple_spliced (aF (h pos zz s σ H _ I hq) λus s1 ⟨xs,H1,I1,r,z,q⟩=>⟨by rw[<- r.length];exact z,?_⟩)
 have hf:H1 s1.heap.objs.size=none:=I1.af.fresh (yZD _)
 refine⟨.ref s1.heap.objs.size,upd H1 s1.heap.objs.size (.tup xs),I1.laid (t':=s1.toks) (λb u e=>yYZ _ e) (yZD _) ?_,rfl,q _ hf⟩
 exact⟨z,us,r,⟨_,bg _ rfl,rfl,_,rfl,rfl⟩⟩
theorem zE (h:PA X es t):PE X (.List es pos) (Bq t):=by
 intro zz s σ H Q I hq
 refine wpAny_List_spliced (aF (h pos zz s σ H _ I hq) λus s1 ⟨xs,H1,I1,r,z,q⟩=>⟨by rw[<- r.length];exact z,?_⟩)
 have hf:H1 s1.heap.objs.size=none:=I1.af.fresh (yZD _)
 refine⟨.ref s1.heap.objs.size,upd H1 s1.heap.objs.size (.lst xs),I1.laid (t':=s1.toks) (λb u e=>yYZ _ e) (yZD _) ?_,rfl,q _ hf⟩
 exact⟨z,us,0,r,bg _ rfl⟩
end
abbrev Sp:=List V->Hp->VK->XK->Prop
abbrev lH:=List Env->Hp->Shared->XK->Value->Shared->Prop
structure hJ (P:Program)(w:World)(K:aq)(mg:Str->Option Value)(base:Heap)(A:Around)(outer:List Env)(s:Shared)(H:Hp):Prop where
 frames:A.frames=some outer
 mod:Mod K mg base
 bs:∀b o,base.get? b=some o->s.heap.get? b=some o/\Ff (H b)
 lA:base.objs.size<=s.heap.objs.size
 cX:s.heap.FunFrames base outer
 nE:∀b∈bG outer,H b=none
 af:ck P w H s.heap
 bare:AllBare s.gens
def CE (outer:List Env)(P:Program)(w:World)(H:Hp)(s:Shared)(Q:VK)(u:Value)(s':Shared):Prop:=
 ∃v H',s'.os=s.os/\AllBare s'.gens/\Un (bG outer) [] H H' s.heap s'.heap/\ck P w H' s'.heap/\RelV v u/\Q v H'
def CR (CX:lH)(outer:List Env)(P:Program)(w:World)(H:Hp)(s:Shared)(Q:VK)(E:XK)(r:Result)(s':Shared):Prop:=
 match r with
 | .ok (.ret u)=>CE outer P w H s Q u s'
 | .ok _=>False
 | .error e=>CX outer H s E e s'
structure aT (P:Program)(w:World)(K:aq)(mg:Str->Option Value)(base:Heap)(CX:lH)(k:Nat)(f:Addr)(fd:FuncData)(ps:List Str)(sp:Sp):Prop where
 len:∀vs H Q E,sp vs H Q E->vs.length=ps.length
 run:∀(A:Around) (outer:List Env) (s:Shared) (H:Hp) (args:Args) (us:List Value) (vs:List V) (Q:VK) (E:XK),aJ k A->hJ P w K mg base A outer s H->BindsTo s fd args (ps.zip us)->Vals vs us->sp vs H Q E->
  codeAny (model P w) A (.call (.ref f) args) (CR CX outer P w H s Q E) s
theorem aT.mono {P:Program}{w:World}{K:aq}{mg:Str->Option Value}{base:Heap}{CX:lH}{j k:Nat}{f:Addr}{fd:FuncData}{ps:List Str}{sp:Sp}(F:aT P w K mg base CX j f fd ps sp)(h:j<=k):
  aT P w K mg base CX k f fd ps sp:=⟨F.len,λA outer s H args us vs Q E hr=>F.run A outer s H args us vs Q E (hr.mono h)⟩
theorem hJ.make {P:Program}{w:World}{K:aq}{mg:Str->Option Value}{base:Heap}{A:Around}{outer:List Env}{s:Shared}{H:Hp}(e:hJ P w K mg base A outer s H)(C:Addr)(us:List Value)(kw:List (Str×Value)):
  hJ P w K mg base (A.under (.builtin "type.__call__" ⟨.ref C::us,kw⟩)) outer s H:=⟨by first | exact e.frames | (simpa [Around.under,Code.envs,Code.isFrame,pushEnvs] using e.frames),e.mod,e.bs,e.lA,e.cX,e.nE,e.af,e.bare⟩
section
variable {X:Cx}{zz:List (Addr×Obj)}{σ:St}{H:Hp}{s s':Shared}
theorem Inv.rK (I:Inv X zz σ H s):hJ X.prog X.w X.K X.mg X.base X.A X.stack s H:=
 ⟨I.ok.frames,I.ok.mod,I.bs,yZJ I.ok.lA I.sz,I.stack,I.bV,I.af,I.bare⟩
theorem Inv.after {Q:VK}{u:Value}(I:Inv X zz σ H s)(h:CE X.stack X.prog X.w H s Q u s'):EP X zz σ Q u s':=by
 obtain⟨v,H',os,bare,un,af,r,q⟩:=h
 obtain⟨hh,g,d,t,rL⟩:=s'
 obtain rfl:rL=s.os:=os
 exact⟨v,H',I.call (h':=hh) (g':=g) (d':=d) (t':=t) (ch:=[]) un af bare (λb z=>absurd z (by simp)),r,q⟩
end
def iJ (sp:Sp)(cQ:List V)(E:XK)(t:TA):TE:=λσ H Q=>t σ H λvs H1=>sp (vs++cQ) H1 Q E
def qb (C:Addr)(m:Str)(sp:Sp)(cQ:List V)(E:XK)(ta:TE)(t:TA):TE:=λσ H Q=>ta σ H λx H1=>∃a dx fs,x=.ref a/\H1 a=some (.ins C dx fs)/\fs.lookup m=none/\
 t σ H1 λvs H2=>sp (x::(vs++cQ)) H2 Q E
def l8 (C:Addr)(sp:Sp)(cQ:List V)(E:XK)(t:TA):TE:=λσ H Q=>t σ H λvs H1=>∀x dx,H1 x=none->H1 dx=none->dx≠x->
 sp (.ref x::(vs++cQ)) (upd (upd H1 dx (.own x)) x (.ins C dx [])) (λv H2=>v=.non/\Q (.ref x) H2) E
def Binds (K:aq)(fd:FuncData)(ps:List Str)(ds:List Value):Prop:=
 ∀(s:Shared) (us:List Value),K.In s.heap->(us++ds).length=ps.length->BindsTo s fd ⟨us,[]⟩ (ps.zip (us++ds))
theorem Binds.all {K:aq}{fd:FuncData}{ps:List Str}(h:∀us:List Value,us.length=ps.length->bindArgs fd ⟨us,[]⟩=pure (ps.zip us)):Binds K fd ps []:=λs us _ hl=>by
 rw[Yq] at hl ⊢
 exact .of_eq (h us hl)
def Passes (CX:lH)(X:Cx)(E:XK):Prop:=∀(zz:List (Addr×Obj)) (σ:St) (H:Hp) (s:Shared) (e:Value) (s':Shared),Inv X zz σ H s->CX X.stack H s E e s'->X.xe e s'
section
variable {X:Cx}{CX:lH}{k:Nat}{f C:Addr}{fd:FuncData}{ps:List Str}{sp:Sp}{cQ:List V}{ds:List Value}{E:XK}{x m:Str}{p pos apos:Pos}{e o:Expr}{es:List Expr}{ta:TE}{t:TA}
theorem La {zz:List (Addr×Obj)}{σ:St}{H:Hp}{s:Shared}{Q:VK}{us:List Value}{vs:List V}(F:aT X.prog X.w X.K X.mg X.base CX k f fd ps sp)(hr:aJ k X.A)(hb:Binds X.K fd ps ds)(hd:Vals cQ ds)(hx:Passes CX X E)
  (I:Inv X zz σ H s) (r:Vals vs us) (h:sp (vs++cQ) H Q E):wpAny (model X.prog X.w) X.A (call (.ref f) us) (EP X zz σ Q) X.xe s:=by
 have r2:Vals (vs++cQ) (us++ds):=r.append hd
 have hl:(us++ds).length=ps.length:=by rw[<- r2.length];exact F.len _ _ _ _ h
 refine wpAny_call (codeAny_mono (F.run X.A X.stack s H ⟨us,[]⟩ (us++ds) (vs++cQ) Q E hr I.rK (hb s us I.dq hl) r2 h) λr s' hq=>?_)
 cases r with
 | error e=>exact hx zz σ H s e s' I hq
 | ok fl=>
  cases fl with
  | ret u=>exact I.after hq
  | next=>exact False.elim hq
  | brk=>exact False.elim hq
  | cont=>exact False.elim hq
theorem wX (F:aT X.prog X.w X.K X.mg X.base CX k f fd ps sp)(hr:aJ k X.A)(hg:Gl X x)(hm:X.mg x=some (.ref f))(hk:PySem.W.keepIn X.K (.ref f)=true)(hb:Binds X.K fd ps ds)(hd:Vals cQ ds)(hx:Passes CX X E)
  (ha:PA X (e::es) t) (dy:(x == ("__debug__" : Str))=false:=by decide) (he:starEach (e::es) X.env=(false,eval e X.env)::starEach es X.env:=by rfl) (dv:(backTo pos (starEach es X.env)).any (·.1)=false:=by rfl):
  PE X (.Call (.Name x p) (e::es) [] pos) (iJ sp cQ E t):=by
 intro zz s σ H Q I h
 refine wpAny_Call_Name_kw (wJ I hg hm ?_ dy)
 refine PySem.W.callWith_K (h₀:=X.base) I.ok.mod.tQ hk (aF (ha pos zz s σ H _ I h) λus s1 ⟨vs,H1,I1,r,q⟩=>⟨I1.dq,?_⟩) he dv
 exact La F hr hb hd hx I1 r q
theorem QH {pl:Sem Bool}(he:PE X o ta)(c:fI X.K C)(hm:Meth X.K C m f)(F:aT X.prog X.w X.K X.mg X.base CX k f fd ps sp)(hr:aJ k X.A)(hb:Binds X.K fd ps ds)(hd:Vals cQ ds)(hx:Passes CX X E)(ha:PA X (e::es) t)
  (fZ:starEach (e::es) X.env=(false,eval e X.env)::starEach es X.env:=by rfl) (dv:(backTo pos (starEach es X.env)).any (·.1)=false:=by rfl)
  (ht:eval (.Call (.Attribute o m apos) (e::es) [] pos) X.env=(do
   let ov <- eval o X.env
   standAt apos.atName
   let (f,first) <- holding [ov] (getMethod ov m pl)
   callWith pos f first (backTo pos (starEach (e::es) X.env)) (backToKw pos (keywordEach [] X.env))):=by rfl):
  PE X (.Call (.Attribute o m apos) (e::es) [] pos) (qb C m sp cQ E ta t):=by
 intro zz s σ H Q I h
 refine PySem.W.methodCall_KW (pl:=pl) (aF (he zz s σ H _ I h) λu s1 ⟨x,H1,I1,rx,a,dx,fs,ex,ea,l,q⟩=>?_) ht
 subst ex
 obtain rfl:u=Value.ref a:=rx
 refine Qz I1 ea c hm l ?_
 refine PySem.W.callWith_K (first:=[.ref a]) (h₀:=X.base) I.ok.mod.tQ hm.kp (aF (ha pos zz s1 σ H1 _ I1 q) λus s2 ⟨vs,H2,I2,r,q2⟩=>⟨I2.dq,?_⟩) fZ dv
 exact La (us:=.ref a::us) (vs:=.ref a::vs) F hr hb hd hx I2 (.cons rfl r) q2
structure Mk (K:aq)(C f:Addr):Prop where
 makes:PySem.W.makesIn K C=true
 init:PySem.W.findIn K (.ref C) "__init__" = some (some (.ref f))
 fn:PySem.W.isFn K (.ref f)=true
 kp:PySem.W.keepIn K (.ref C)=true
theorem QI {zz:List (Addr×Obj)}{σ:St}{H:Hp}{s:Shared}{Q:VK}{us:List Value}{vs:List V}(M:Mk X.K C f)(F:aT X.prog X.w X.K X.mg X.base CX k f fd ps sp)(hr:aJ (k+1) X.A)(hb:Binds X.K fd ps ds)(hd:Vals cQ ds)
  (hx:Passes CX X E) (I:Inv X zz σ H s) (r:Vals vs us)
  (h:∀x dx,H x=none->H dx=none->dx≠x->sp (.ref x::(vs++cQ)) (upd (upd H dx (.own x)) x (.ins C dx [])) (λv H2=>v=.non/\Q (.ref x) H2) E):
  wpAny (model X.prog X.w) X.A (call (.ref C) us) (EP X zz σ Q) X.xe s:=by
 have hq:=h (s.heap.objs.size+1) s.heap.objs.size (I.af.fresh (Nat.le_succ _)) (I.af.fresh (yZD _)) (yZF (Nat.lt_succ_self _))
 have I2:=Inv.made (C:=C) I
 have r2:Vals (V.ref (s.heap.objs.size+1)::(vs++cQ)) (Value.ref (s.heap.objs.size+1)::(us++ds)):=.cons rfl (r.append hd)
 have hl:(Value.ref (s.heap.objs.size+1)::us++ds).length=ps.length:=by
  have e:=r2.length
  rw[F.len _ _ _ _ hq] at e
  exact e.symm
 refine wpAny_call (Qw (f:=f) I.dq M.makes M.init (beq_iff_eq.mp M.fn) (codeAny_mono (F.run _ X.stack _ _ ⟨Value.ref (s.heap.objs.size+1)::us,[]⟩ (Value.ref (s.heap.objs.size+1)::(us++ds)) _ _ E (hr.make C us [])
  (I2.rK.make C us []) (hb _ (Value.ref (s.heap.objs.size+1)::us) I2.dq hl) r2 hq) λr s' lJ=>?_))
 cases r with
 | error e=>exact hx zz σ _ _ e s' I2 lJ
 | ok fl=>
  cases fl with
  | ret u=>
   obtain⟨v,H',I3,rv,ev,q3⟩:=I2.after lJ
   subst ev
   exact⟨rv,⟨V.ref (s.heap.objs.size+1),H',I3,rfl,q3⟩⟩
  | next=>exact False.elim lJ
  | brk=>exact False.elim lJ
  | cont=>exact False.elim lJ
theorem QJ (M:Mk X.K C f)(F:aT X.prog X.w X.K X.mg X.base CX k f fd ps sp)(hr:aJ (k+1) X.A)(hg:Gl X x)(hm:X.mg x=some (.ref C))(hb:Binds X.K fd ps ds)(hd:Vals cQ ds)(hx:Passes CX X E)
  (ha:PA X (e::es) t) (dy:(x == ("__debug__" : Str))=false:=by decide) (he:starEach (e::es) X.env=(false,eval e X.env)::starEach es X.env:=by rfl) (dv:(backTo pos (starEach es X.env)).any (·.1)=false:=by rfl):
  PE X (.Call (.Name x p) (e::es) [] pos) (l8 C sp cQ E t):=by
 intro zz s σ H Q I h
 refine wpAny_Call_Name_kw (wJ I hg hm ?_ dy)
 refine PySem.W.callWith_K (h₀:=X.base) I.ok.mod.tQ M.kp (aF (ha pos zz s σ H _ I h) λus s1 ⟨vs,H1,I1,r,q⟩=>⟨I1.dq,?_⟩) he dv
 exact QI M F hr hb hd hx I1 r q
end
structure xI (N P:List Str)(sc:Scope):Prop where
 kind:sc.kind=.function
 co:sc.isCoroutine=false
 gen:sc.isGenerator=false
 nd:N.Nodup
 pre:N.take P.length=P
 par:∀x∈P,sc.names.lookup x=some .local\/sc.names.lookup x=some .cell
 rM:∀y∈sc.names,y.2≠.free
theorem Lb {kindOf:Str->Option NameKind}{x:Str}:∀{binds:List (Str×Value)} {m:Str->Option Value},(∀v,(x,v)∉binds)->bindL kindOf binds m x=m x
 | [],_,_=>rfl
 | (n,v)::r,m,h=>by
  unfold bindL
  rw[Lb λw hw=>h w (yYH _ hw)]
  split
  .have:x≠n:=by rintro rfl;exact h v aW
   simp[this]
  .rfl
theorem Lc {kindOf:Str->Option NameKind}{x:Str}:∀{binds:List (Str×Value)} {m:Str->Option Value},(∀v,(x,v)∉binds)->bindC kindOf binds m x=m x
 | [],_,_=>rfl
 | (n,v)::r,m,h=>by
  unfold bindC
  rw[Lc λw hw=>h w (yYH _ hw)]
  split
  .rfl
  .have:x≠n:=by rintro rfl;exact h v aW
   simp[this]
theorem Ld {kindOf:Str->Option NameKind}{x:Str}{v:Value}:∀{P:List Str} {vs:List Value} {i:Nat} {m:Str->Option Value},P.Nodup->P[i]? = some x->vs[i]? = some v->kindOf x=some .local->
  bindL kindOf (P.zip vs) m x=some v
 | [],_,_,_,_,h,_,_=>by simp at h
 | _::_,[],_,_,_,_,h,_=>by simp at h
 | p::P,w::vs,0,m,nd,h1,h2,hk=>by
  simp at h1 h2;subst h1;subst h2
  show bindL kindOf ((p,w)::P.zip vs) m p=_
  unfold bindL
  rw[Lb λv hv=>(List.nodup_cons.mp nd).1 (List.of_mem_zip hv).1,if_pos hk]
  simp
 | p::P,w::vs,i+1,m,nd,h1,h2,hk=>by
  show bindL kindOf ((p,w)::P.zip vs) m x=_
  unfold bindL
  exact Ld (i:=i) (List.nodup_cons.mp nd).2 (by simpa using h1) (by simpa using h2) hk
theorem Le {kindOf:Str->Option NameKind}{x:Str}{v:Value}:∀{P:List Str} {vs:List Value} {i:Nat} {m:Str->Option Value},P.Nodup->P[i]? = some x->vs[i]? = some v->kindOf x≠some .local->
  bindC kindOf (P.zip vs) m x=some v
 | [],_,_,_,_,h,_,_=>by simp at h
 | _::_,[],_,_,_,_,h,_=>by simp at h
 | p::P,w::vs,0,m,nd,h1,h2,hk=>by
  simp at h1 h2;subst h1;subst h2
  show bindC kindOf ((p,w)::P.zip vs) m p=_
  unfold bindC
  rw[Lc λv hv=>(List.nodup_cons.mp nd).1 (List.of_mem_zip hv).1,if_neg hk]
  simp
 | p::P,w::vs,i+1,m,nd,h1,h2,hk=>by
  show bindC kindOf ((p,w)::P.zip vs) m x=_
  unfold bindC
  exact Le (i:=i) (List.nodup_cons.mp nd).2 (by simpa using h1) (by simpa using h2) hk
def start (N:List Str)(vs:List V):St:=vs.map some++Yg (N.length - vs.length) none
def aU (CX:lH)(P:Program)(w:World)(K:aq)(mg:Str->Option Value)(base:Heap)(N:List Str)(qual:Str)(scope:Scope)(f:Addr)(cd:Value)(A:Around)(outer:List Env)(s:Shared)(H:Hp)(E:XK):Cx where
 prog:=P
 w:=w
 K:=K
 mg:=mg
 base:=base
 A:=A.deeper (envOfC qual scope s.heap.objs.size f cd)
 N:=N
 s₀:=s
 H₀:=H
 env:=envOfC qual scope s.heap.objs.size f cd
 outer:=outer
 stack:=envOfC qual scope s.heap.objs.size f cd::outer
 ex:=[]
 calm:=true
 fn:=λ_=>true
 pn:=[]
 xe:=λe s'=>wpAny (model P w) (A.deeper (envOfC qual scope s.heap.objs.size f cd)) (leaving (envOfC qual scope s.heap.objs.size f cd) e) (λ_ rN=>CX outer H s E e rN) (λe' rN=>CX outer H s E e' rN) s'
theorem Lf {sc:Scope}{n:Nat}{x:Str}(h:sc.names.lookup x=some .cell):∃c,(cellsFrom n sc.names []).lookup x=some c:=by
 have q:=PySem.W.cellsFrom_some sc.names n [] (.inl h)
 exact Option.isSome_iff_exists.mp q
theorem QK {CX:lH}{P:Program}{w:World}{K:aq}{mg:Str->Option Value}{base:Heap}{N ps:List Str}{qual:Str}{scope:Scope}{f:Addr}{cd:Value}{A:Around}{outer:List Env}{s s1:Shared}{H:Hp}{E:XK}{us:List Value}{vs:List V}
  (S:xI N ps scope) (hd:A.handled=none) (e0:hJ P w K mg base A outer s H) (hl:vs.length=ps.length) (r:Vals vs us)
  (x:InCallC s s.heap.objs.size (bindL (envOfC qual scope s.heap.objs.size f cd).kindOf (ps.zip us) λ_=>none) (cellsFrom (s.heap.objs.size+1) scope.names []) (bindC (envOfC qual scope s.heap.objs.size f cd).kindOf (ps.zip us) λ_=>none) s1):
  Inv (aU CX P w K mg base N qual scope f cd A outer s H E) [] (start N vs) H s1:=by
 have dv:ps.length<=N.length:=by have:=congrArg List.length S.pre;rw[cJ] at this;omega
 obtain⟨h1,tk,rfl,hk⟩:=x.done
 have noA:∀b:Addr,b∉(aU CX P w K mg base N qual scope f cd A outer s H E).ex:=λb z=>absurd (show b∈([]:List Addr) from z) (by simp)
 refine⟨⟨e0.mod,S.kind,rfl,rfl,yZD _,λy z c h1 h2=>?_,λy hy=>?_,λy c _ h=>?_,λ_=>hd,Around.frames_deeper e0.frames,.inr ⟨rfl,rfl⟩,λb z=>absurd z (noA b),e0.bs,e0.lA,λb _ _=>noA b,λb z=>absurd z (noA b),e0.cX,e0.nE⟩,
  rfl,e0.bare,Un.kept hk,⟨_,x.toInCall.ns,λi y v h1 h2 h3=>?_⟩,λy c h=>⟨_,x.cell y c h⟩,e0.af.fresh (yZD _),λy c h=>?_,λp hp=>absurd (show p∈([]:List (Addr×Obj)) from hp) (by simp),e0.af.kept hk,?_⟩
 .exact name_of_addr x.apart (PySem.mem_of_lookup h1) (PySem.mem_of_lookup h2)
 .have hy:scope.names.lookup y=some .cell\/scope.names.lookup y=some .free:=hy
  rcases hy with hy | hy
  .exact Lf hy
  .exact absurd rfl (S.rM _ (PySem.mem_of_lookup hy))
 .exact Nat.le_of_lt (x.above y c (PySem.mem_of_lookup h))
 .have hi:i<vs.length:=by
   unfold start at h2
   by_cases hi:i<vs.length
   .exact hi
   .rw[Yi (by simpa using hi)] at h2
    rw[List.getElem?_replicate] at h2
    split at h2 <;> cases h2
  have ha:vs[i]? = some v:=by
   unfold start at h2
   rw[Yr (by simpa using hi),bb] at h2
   cases e:vs[i]? with
   | none=>rw[e] at h2;cases h2
   | some a=>rw[e] at h2;cases h2;rfl
  obtain⟨u,hu,rv⟩:=r.get ha
  have hp:ps[i]? = some y:=by
   rw[<- S.pre,List.getElem?_take_of_lt (by omega)];exact h1
  have Lg:ps.Nodup:=by rw[<- S.pre];exact S.nd.sublist (Yv _ _)
  refine⟨u,rv,?_⟩
  rcases S.par y (bw hp) with k | k
  .exact .inl ⟨k,Ld Lg hp hu k⟩
  .obtain⟨c,e⟩:=Lf (n:=s.heap.objs.size+1) k
   refine .inr ⟨.inl k,c,e,?_⟩
   have q:=x.cell y c e
   rw[Le Lg hp hu (by show scope.names.lookup y≠_;rw[k];decide)] at q
   exact q
 .exact e0.af.fresh (Nat.le_of_lt (x.above y c (PySem.mem_of_lookup h)))
 .unfold start
  show _=N.length
  rw[bK,av,Yj]
  omega
theorem Lh {CX:lH}{P:Program}{w:World}{K:aq}{mg:Str->Option Value}{base:Heap}{k:Nat}{f:Addr}{name qual:Str}{params:Arguments}{body:List Stmt}{scope:Scope}{dV kV doc pm zy ct oc:Value}{an od:Option Addr}
  {l9:Array (Option Value)} {N ps:List Str} {sp:Sp} (lk:K.lookup f=some ⟨oc,od,.func (YE name qual params body scope dV kV doc pm an zy ct),l9⟩) (i5:PySem.W.codeIn K zy qual=true) (S:xI N ps scope)
  (len:∀vs H Q E,sp vs H Q E->vs.length=ps.length)
  (cC:∀(A:Around) (outer:List Env) (s:Shared) (H:Hp) (vs:List V) (Q:VK) (E:XK),aJ k (A.deeper (envOfC qual scope s.heap.objs.size f zy))->sp vs H Q E->
   ∃t,dR (aU CX P w K mg base N qual scope f zy A outer s H E) body t/\t { nx:=λ_ H'=>Q .non H',rt:=Q } (start N vs) H):
  aT P w K mg base CX (k+1) f (YE name qual params body scope dV kV doc pm an zy ct) ps sp:=by
 refine⟨len,λA outer s H args us vs Q E hr e0 hb r hsp=>?_⟩
 have hl:=len _ _ _ _ hsp
 have KX:K.In s.heap:=e0.mod.tQ.keeps λb o e=>(e0.bs b o e).1
 have lim:s.heap.NoLimit:=e0.mod.nolimit.keeps λb o e=>(e0.bs b o e).1
 have Br:∀y∈ps.zip us,scope.names.lookup y.1=some .local\/(scope.names.lookup y.1=some .cell/\((cellsFrom (s.heap.objs.size+1) scope.names []).lookup y.1).isSome=true):=λ⟨n,v⟩ hy=>by
  rcases S.par n (List.of_mem_zip hy).1 with q | q
  .exact .inl q
  .exact .inr ⟨q,PySem.W.cellsFrom_some _ _ _ (.inl q)⟩
 refine codeAny_call_function hr.depth (KX _ _ lk) rfl S.co S.gen rfl (PySem.W.codeRec_of KX i5) (hb _ _ _ _ ?_)
 refine wpAny_newFunctionEnv_cells S.kind Br λenv he s1 x=>?_
 subst he
 refine⟨lim.keeps x.toInCall.keep,codeAny_func ?_⟩
 obtain⟨t,ht,hq⟩:=cC A outer s H vs Q E (hr.deeper _) hsp
 have I:Inv (aU CX P w K mg base N qual scope f zy A outer s H E) [] (start N vs) H s1:=QK S hr.hd e0 hl r x
 refine wpAny_mono (ht [] s1 (start N vs) H _ I hq) (λfl s' hs=>?_) λe s' hs=>hs
 have fin:∀{σ':St} {H':Hp} {v:V} {u:Value},Inv (aU CX P w K mg base N qual scope f zy A outer s H E) [] σ' H' s'->RelV v u->Q v H'->CE outer P w H s Q u s':=
  λ{σ' H' v u} J rv q=>⟨v,H',J.os,J.bare,J.base,J.af,rv,q⟩
 cases fl with
 | ret u=>
  obtain⟨v,σ',H',J,rv,q⟩:=hs
  exact fin J rv q
 | next=>
  obtain⟨σ',H',J,q⟩:=hs
  exact fin (v:=V.non) (u:=Value.none) J rfl q
 | brk=>
  obtain⟨_,_,_,q⟩:=hs
  exact False.elim q
 | cont=>
  obtain⟨_,_,_,q⟩:=hs
  exact False.elim q
end L2
namespace L2
open PySem PySem.Spec PyProof.Rows
section
variable {X:Cx}{x:Str}{p pos:Pos}{e:Expr}{es:List Expr}{t:TA}{id T:String}{r:List V->Hp->VK->Prop}
def Fw (r:List V->Hp->VK->Prop)(t:TA):TE:=λσ H Q=>t σ H λvs H1=>r vs H1 Q
theorem xJ (hc:aL X (.builtin id) r)(hg:Gl X x)(hm:X.mg x=none)(hv:bootBuiltins x=some (.builtin id))(ha:PA X (e::es) t)(hn:x ≠ "__name__" := by decide)(dy:(x == ("__debug__" : Str))=false:=by decide)
  (he:starEach (e::es) X.env=(false,eval e X.env)::starEach es X.env:=by rfl) (dv:(backTo pos (starEach es X.env)).any (·.1)=false:=by rfl):PE X (.Call (.Name x p) (e::es) [] pos) (Fw r t):=by
 intro zz s σ H Q I h
 refine wpAny_Call_Name_kw (wA I hg hm hv ?_ hn dy)
 exact PyProof.Rows.callWith_builtin1 (aF (ha pos zz s σ H _ I h) λus s1 ⟨vs,H1,I1,r1,q1⟩=>hc zz s1 σ H1 vs us Q I1 r1 q1) he dv
theorem xZ (hc:aL X (.type T) r)(hg:Gl X x)(hm:X.mg x=none)(hv:bootBuiltins x=some (.type T))(ha:PA X (e::es) t)(hn:x ≠ "__name__" := by decide)(dy:(x == ("__debug__" : Str))=false:=by decide)
  (he:starEach (e::es) X.env=(false,eval e X.env)::starEach es X.env:=by rfl) (dv:(backTo pos (starEach es X.env)).any (·.1)=false:=by rfl):PE X (.Call (.Name x p) (e::es) [] pos) (Fw r t):=by
 intro zz s σ H Q I h
 refine wpAny_Call_Name_kw (wA I hg hm hv ?_ hn dy)
 exact PyProof.Rows.callWith_type1 (aF (ha pos zz s σ H _ I h) λus s1 ⟨vs,H1,I1,r1,q1⟩=>hc zz s1 σ H1 vs us Q I1 r1 q1) he dv
end
end L2
namespace HT
open PySem PyProof.Rows
def lexLt:List Int->List Int->Bool
 | [],[]=>false
 | [],_::_=>true
 | _::_,[]=>false
 | x::xs,y::ys=>if x=y then lexLt xs ys else decide (x<y)
theorem aX (x y:Int)(xs ys:List Int):lexLt (x::xs) (y::ys)=if x=y then lexLt xs ys else decide (x<y):=rfl
section
open PySem.SeqAt
open PySem.AutoSeq1 (wpAny_loadPart')
open PySem.MeetsSeq PySem.MeetsSeq2 PySem.MeetsSeq3
end
section
variable {prog:Program}{w:World}{A:Around}{E:Value->Shared->Prop}{s:Shared}
theorem oj {t b:Addr}{vs ws:List Value}{Q:Value->Shared->Prop}(ht:IsTup s.heap t vs.toArray)(hb:IsTup s.heap b ws.toArray)(hv:vs≠[])
  (h1:ws=[]->Q (.ref t) s) (h2:ws≠[]->Q (.ref s.heap.objs.size) { s with heap:=s.heap.push { cls:=.type "tuple",data:=.seq (vs++ws).toArray } })
  (hsz:vs.length+ws.length<=Yc):wpAny (model prog w) A (binaryOp .Add (.ref t) (.ref b)) Q E s:=by
 obtain⟨⟨cls,dd,data,sl⟩,ho,hc,n,hd⟩:=id ht
 obtain⟨⟨QL,Li,data2,D7⟩,D8,D9,n2,hd2⟩:=id hb
 simp only at hc hd D9 hd2
 subst hc hd D9 hd2
 have e:vs.toArray++ws.toArray=(vs++ws).toArray:=by simp
 by_cases hw:ws=[]
 .exact concat_meets ⟨_,ho,rfl⟩ ⟨_,D8,rfl⟩ noFill_tuple_add seq_tuple_add PySem.F.slot_tuple_add PySem.F.entry_tuple_add (PySem.F.args_tuple_add_2 _ _)
   (tuple_addW1 t b vs.toArray ws.toArray n n2 dd Li sl D7 (by simpa using hv) (by simp[hw])) ⟨ho,D8,h1 hw⟩
 .refine concat_meets ⟨_,ho,rfl⟩ ⟨_,D8,rfl⟩ noFill_tuple_add seq_tuple_add PySem.F.slot_tuple_add PySem.F.entry_tuple_add (PySem.F.args_tuple_add_2 _ _)
   (tuple_addW2 t b vs.toArray ws.toArray n n2 dd Li sl D7 (by simpa using hv) (by simpa using hw) (by rw[dO,dO];exact hsz)) ⟨ho,D8,?_⟩
  rw[e]
  exact h2 hw
def gp (n d:Nat):Option Int->Nat
 | none=>d
 | some v=>if v<0 then (v+(n:Int)).toNat else min v.toNat n
theorem gq (n d:Nat):gp n d none=d:=rfl
theorem iK (n d k:Nat):gp n d (some (k:Int))=min k n:=by
 show(if (k:Int)<0 then ((k:Int)+(n:Int)).toNat else min (k:Int).toNat n)=min k n
 rw[if_neg (by omega),Int.toNat_natCast]
end
end HT
namespace L2
open PySem PySem.Spec PyProof.Rows
abbrev TO:=St->Hp->(Option Int->Hp->Prop)->Prop
def PO (X:Cx)(e:Option Expr)(t:TO):Prop:=
 ∀(zz:List (Addr×Obj)) (s:Shared) (σ:St) (H:Hp) (Q:Option Int->Hp->Prop),Inv X zz σ H s->t σ H Q->
  wpAny (model X.prog X.w) X.A (evalPart e X.env) (λu s'=>∃o H',Inv X zz σ H' s'/\IsPart u o/\Q o H') X.xe s
def Lj:TO:=λ_ H Q=>Q none H
def qc (t:TE):TO:=λσ H Q=>t σ H λx H1=>∃i,x=.int i/\Q (some i) H1
section
variable {X:Cx}{e:Expr}{te:TE}{lo hi:Option Expr}{tl th:TO}{pos p2:Pos}
theorem Lk:PO X none Lj:=by
 intro zz s σ H Q I h
 rw[evalPart_none]
 exact yYY ⟨none,H,I,.none,h⟩
theorem Ll (h:PE X e te):PO X (some e) (qc te):=by
 intro zz s σ H Q I hw
 rw[evalPart_some]
 refine aF (h zz s σ H _ I hw) λu s1 ⟨x,H1,I1,r1,q1⟩=>?_
 obtain⟨i,rfl,q⟩:=q1
 obtain⟨t,rfl⟩:=r1
 exact⟨some i,H1,I1,.int i t,q⟩
def Fx (X:Cx)(r:V->Option Int->Option Int->Hp->VK->Prop):Prop:=
 ∀(zz:List (Addr×Obj)) (s:Shared) (σ:St) (H:Hp) (x:V) (v vl vu:Value) (lo hi:Option Int) (sl:Addr) (Q:VK),Inv X zz σ H s->RelV x v->s.heap.IsSliceOf sl vl vu .none->IsPart vl lo->IsPart vu hi->r x lo hi H Q->
  ∃T id,typeLookup (.type T) "__getitem__" = pure (some (.builtin id))/\s.TypeIs v T/\wpAny (model X.prog X.w) X.A (getItem v (.ref sl)) (EP X zz σ Q) X.xe s
def Lm (r:V->Option Int->Option Int->Hp->VK->Prop)(te:TE)(tl th:TO):TE:=λσ H Q=>te σ H λx H1=>tl σ H1 λl H2=>th σ H2 λu H3=>r x l u H3 Q
theorem Ln {r:V->Option Int->Option Int->Hp->VK->Prop}(hr:Fx X r)(he:PE X e te)(hl:PO X lo tl)(hu:PO X hi th):PE X (.Subscript e (.Slice lo hi none p2) pos) (Lm r te tl th):=by
 intro zz s σ H Q I h
 refine Subscript_ (aF (he zz s σ H _ I h) λv s1 ⟨x,H1,I1,r1,q1⟩=>?_)
 refine wpAny_Slice (aF (hl zz s1 σ H1 _ I1 q1) λvl s2 ⟨l,H2,I2,pl,q2⟩=>aF (hu zz s2 σ H2 _ I2 q2) λvu s3 ⟨u,H3,I3,pu,q3⟩=>?_)
 rw[evalPart_none]
 refine yYY ?_
 have I4:Inv X zz σ H3 { s3 with heap:=s3.heap.push { cls:=.type "slice",data:=.fields #[vl,vu,.none] } }:=I3.kept (t':=s3.toks) λb ob q=>yYZ _ q
 obtain⟨T,id,hT,ht,hg⟩:=hr zz { s3 with heap:=s3.heap.push { cls:=.type "slice",data:=.fields #[vl,vu,.none] } } σ H3 x v vl vu l u s3.heap.objs.size Q I4 r1 (Heap.IsSliceOf.new ..) pl pu q3
 show wpAny (model X.prog X.w) X.A (subscriptTail e (.Slice lo hi none p2) v (.ref s3.heap.objs.size)) (EP X zz σ Q) X.xe { s3 with heap:=s3.heap.push { cls:=.type "slice",data:=.fields #[vl,vu,.none] } }
 exact tail_any (ops:=[.ref s3.heap.objs.size,v]) ht hT hg (by with_unfolding_all rfl)
def gy (xs:List V)(lo hi:Option Int):List V:=(xs.drop (HT.gp xs.length 0 lo)).take (HT.gp xs.length xs.length hi - HT.gp xs.length 0 lo)
theorem QM (xs:List V)(lo hi:Option Int):(gy xs lo hi).length<=xs.length:=by
 unfold gy
 rw[cJ,Yo]
 omega
def Bs (K:aq):R2:=λx y H Q=>∃a b xs ys,x=.ref a/\y=.ref b/\aS K H a xs/\aS K H b ys/\xs≠[]/\xs.length+ys.length<=Yc/\
 (ys=[]->Q (.ref a) H)/\(ys≠[]->∀p,H p=none->Q (.ref p) (upd H p (.tup (xs++ys))))
theorem Vals.fJ {xs:List V}{us:List Value}(r:Vals xs us):us=[]↔xs=[]:=by
 cases r with
 | nil=>simp
 | cons _ _=>simp
theorem QN:eJ X (binaryOp .Add) (Bs X.K):=by
 intro zz s σ H x y v u Q I rx ry h
 obtain⟨a,b,xs,ys,rfl,rfl,ha,hb,hx,hz,q1,q2⟩:=h
 cases rx
 cases ry
 obtain⟨its,r1,p1,_⟩:=I.tuple ha
 obtain⟨cM,r2,p2,_⟩:=I.tuple hb
 refine HT.oj p1 p2 (λz=>hx (r1.fJ.mp z)) (λz=>⟨.ref a,H,I,rfl,q1 (r2.fJ.mp z)⟩) (λz=>?_) (by rw[<- r1.length,<- r2.length];exact hz)
 refine⟨.ref s.heap.objs.size,_,I.laid (t':=s.toks) (o:=.tup (xs++ys)) (λb ob q=>yYZ _ q) (yZD _) ?_,rfl,q2 (λw=>z (r2.fJ.mpr w)) _ (I.af.fresh (yZD _))⟩
 exact⟨by rw[bK];exact hz,_,r1.append r2,fF.new _ _⟩
end
end L2
namespace L2
open PySem PySem.Spec PyProof.Rows
def tT (n:Nat)(i:Int):Option Nat:=if 0<=i then (if i<n then some i.toNat else none) else if -(n:Int)<=i then some (i+n).toNat else none
def gA {α:Type}(xs:List α)(i:Int):Option α:=(tT xs.length i).bind λj=>xs[j]?
theorem QO {n:Nat}{i:Int}{j:Nat}(h:tT n i=some j):seqIndex? i n=some j/\j<n/\-(n:Int)<=i/\i<n:=by
 unfold tT at h
 by_cases h0:0<=i
 .rw[if_pos h0] at h
  by_cases h1:i<n
  .rw[if_pos h1] at h
   have e:i.toNat=j:=Option.some.inj h
   exact⟨by rw[seqIndex_of h0 h1,e],by omega,by omega,h1⟩
  .rw[if_neg h1] at h;cases h
 .rw[if_neg h0] at h
  by_cases h1 : -(n:Int)<=i
  .rw[if_pos h1] at h
   have e:(i+n).toNat=j:=Option.some.inj h
   exact⟨by rw[seqIndex_neg (by omega) h1,e],by omega,h1,by omega⟩
  .rw[if_neg h1] at h;cases h
theorem Lo {α:Type}{xs:List α}{i:Int}{v:α}(h:gA xs i=some v):∃j,seqIndex? i xs.length=some j/\xs[j]? = some v/\j<xs.length/\-(xs.length:Int)<=i/\i<xs.length:=by
 unfold gA at h
 cases e:tT xs.length i with
 | none=>rw[e] at h;cases h
 | some j=>
  rw[e] at h
  obtain⟨h1,h2,h3,h4⟩:=QO e
  exact⟨j,h1,h,h2,h3,h4⟩
theorem kC {α:Type}{xs:List α}{j:Nat}{v:α}(h:xs[j]? = some v):gA xs (j:Int)=some v:=by
 have hj:j<xs.length:=(aN.mp h).1
 have e:tT xs.length (j:Int)=some j:=by
  unfold tT
  rw[if_pos (by omega),if_pos (by omega)];simp
 unfold gA;rw[e];exact h
def Lq (b:Expr):Prop:=∀o i,subscripted b false o i=operate [o,i] (getItem o i)
def tU (X:Cx)(r:R2):Prop:=
 ∀(value slice:Expr) (zz:List (Addr×Obj)) (s:Shared) (σ:St) (H:Hp) (x y:V) (v u:Value) (Q:VK),Inv X zz σ H s->RelV x v->RelV y u->r x y H Q->
  subscripted slice false v u=operate [v,u] (getItem v u)->wpAny (model X.prog X.w) X.A (subscriptTail value slice v u) (EP X zz σ Q) X.xe s
def D' (X:Cx)(id:String)(r:V->List V->Hp->VK->Prop):Prop:=
 ∀(zz:List (Addr×Obj)) (s:Shared) (σ:St) (H:Hp) (x:V) (xs:List V) (v:Value) (us:List Value) (Q:VK),Inv X zz σ H s->RelV x v->Vals xs us->r x xs H Q->
  wpAny (model X.prog X.w) X.A (call (.builtin id) (v::us)) (EP X zz σ Q) X.xe s
section
variable {X:Cx}{a b:Expr}{ta tb:TE}{pos:Pos}
theorem QP {r:R2}(hr:tU X r)(ha:PE X a ta)(hb:PE X b tb)(hs:Lq b):PE X (.Subscript a b pos) (rD r ta tb):=by
 intro zz s σ H Q I h
 exact Subscript_ (rF ha hb I h λv u s2 x y H2 I2 rx ry q=>hr a b zz s2 σ H2 x y v u Q I2 rx ry q (hs _ _))
def om (K:aq):R2:=λx y H Q=>∃p xs i v,x=.ref p/\y=.int i/\aj K H p xs/\gA xs i=some v/\Q v H
def oo (K:aq):R2:=λx y H Q=>∃p xs i v,x=.ref p/\y=.int i/\aS K H p xs/\gA xs i=some v/\Q v H
theorem QR:tU X (om X.K):=by
 intro value slice zz s σ H x y v u Q I rx ry h hs
 obtain⟨p,xs,i,z,rfl,rfl,hq,he,q⟩:=h
 cases rx
 obtain⟨t,rfl⟩:=ry
 obtain⟨its,r,pl,hz⟩:=I.list hq
 obtain⟨j,h1,h2,h3,h4,h5⟩:=Lo he
 obtain⟨w,ew,ma⟩:=r.get h2
 have hl:=r.length
 have hn:=g7
 have fin:EP X zz σ Q w s:=⟨z,H,I,ma,q⟩
 by_cases h0:0<=i
 .have hj:i.toNat=j:=by
   rw[seqIndex_of h0 h5] at h1
   exact Option.some.inj h1
  exact item_listR pl.isList h0 (by omega) (by rw[hj];simpa using ew) fin hs
 .have hj:(i+(its.toArray.size:Int)).toNat=j:=by
   rw[seqIndex_neg (by omega) h4] at h1
   rw[dO,<- hl]
   exact Option.some.inj h1
  exact subscriptTail_builtinR (x:=w) pl.isList.typeIs slot_list_getitem.lookup
   (wpAny_getItem_list_neg (Q:=λr s'=>r=w/\EP X zz σ Q r s') pl.isList (by omega) (by rw[dO] <;> omega) (by omega) (by rw[hj];simpa using ew) ⟨rfl,fin⟩) hs
theorem QS:tU X (oo X.K):=by
 intro value slice zz s σ H x y v u Q I rx ry h hs
 obtain⟨p,xs,i,z,rfl,rfl,hq,he,q⟩:=h
 cases rx
 obtain⟨t,rfl⟩:=ry
 obtain⟨its,r,pl,hz⟩:=I.tuple hq
 obtain⟨j,h1,h2,h3,h4,h5⟩:=Lo he
 obtain⟨w,ew,ma⟩:=r.get h2
 have hl:=r.length
 have hn:=g7
 have fin:EP X zz σ Q w s:=⟨z,H,I,ma,q⟩
 exact subscriptTail_builtinR (x:=w) pl.typeIs slot_tuple_getitem.lookup
  (getItem_tuple (j:=j) (Q:=λr s'=>r=w/\EP X zz σ Q r s') pl (by omega) (by omega) (by rw[dO,<- hl];exact h1) (by simpa using ew) ⟨rfl,fin⟩) hs
theorem QT (lo hi:Option Int)(n:Nat):(sliceBounds lo hi none n).1=((HT.gp n 0 lo:Nat):Int)/\(sliceBounds lo hi none n).2.1=((HT.gp n n hi:Nat):Int)/\(sliceBounds lo hi none n).2.2=1:=by
 refine⟨?_,?_,rfl⟩
 .cases lo with
  | none=>simp[sliceBounds,HT.gp]
  | some i=>
   simp only[sliceBounds,HT.gp,Option.getD_none,show(1:Int)>0 by decide,if_true]
   by_cases h:i<0
   .simp only[h,if_true] <;> omega
   .simp only[h,if_false] <;> omega
 .cases hi with
  | none=>simp[sliceBounds,HT.gp]
  | some i=>
   simp only[sliceBounds,HT.gp,Option.getD_none,show(1:Int)>0 by decide,if_true]
   by_cases h:i<0
   .simp only[h,if_true] <;> omega
   .simp only[h,if_false] <;> omega
theorem QU (its:List Value)(lo hi:Option Int):slicePick its.toArray lo hi none=((its.drop (HT.gp its.length 0 lo)).take (HT.gp its.length its.length hi - HT.gp its.length 0 lo)).toArray:=by
 obtain⟨h1,h2,h3⟩:=QT lo hi its.toArray.size
 unfold slicePick
 rw[h1,h2,h3]
 simp only[sliceRange_one,pick_run,dO] <;> rfl
def Bt (K:aq):V->Option Int->Option Int->Hp->VK->Prop:=λx lo hi H Q=>∃a xs,x=.ref a/\aj K H a xs/\∀p,H p=none->Q (.ref p) (upd H p (.lst (gy xs lo hi)))
theorem QV:Fx X (Bt X.K):=by
 intro zz s σ H x v vl vu lo hi sl Q I rx hs pl pu h
 obtain⟨a,xs,rfl,hx,q⟩:=h
 cases rx
 obtain⟨its,r,ht,hz⟩:=I.list hx
 have hlen:=r.length
 refine⟨"list",_,slot_list_getitem.lookup,ht.isList.typeIs,?_⟩
 refine wpAny_getItem_list_slice ht.isList hs pl pu .none (by simp) ?_ (by rw[dO] <;> omega)
 rw[QU,<- hlen]
 refine⟨.ref s.heap.objs.size,_,I.laid (t':=s.toks) (o:=.lst (gy xs lo hi)) (λb ob q=>yYZ _ q) (yZD _) ?_,rfl,q _ (I.af.fresh (yZD _))⟩
 exact⟨yZJ (QM xs lo hi) hz,_,0,(r.drop (HT.gp xs.length 0 lo)).take (HT.gp xs.length xs.length hi - HT.gp xs.length 0 lo),bg _ rfl⟩
theorem QW:aL X (.builtin "len") (λxs H Q=>∃p ys,xs=[.ref p]/\(aj X.K H p ys\/aS X.K H p ys)/\Q (.int ys.length) H):=by
 intro zz s σ H xs us Q I r h
 obtain⟨p,ys,rfl,hq,q⟩:=h
 obtain⟨u,rfl,rx⟩:=vals1 r
 cases rx
 have hn:=g7
 rcases hq with hq | hq
 .obtain⟨its,r',pl,hz⟩:=I.list hq
  have hlen:=r'.length
  exact Calls.call_len_list pl.isList (by simp only[dO] <;> omega) ⟨.int ys.length,H,I.tok _,⟨s.toks+1,by rw[dO,hlen]⟩,q⟩
 .obtain⟨its,r',pl,hz⟩:=I.tuple hq
  have hlen:=r'.length
  exact len_tuple pl (by simp only[dO] <;> omega) ⟨.int ys.length,H,I.tok _,⟨s.toks+1,by rw[dO,hlen]⟩,q⟩
theorem QX:aL X (.type "tuple") (λxs H Q=>∃p ys,xs=[.ref p]/\((aj X.K H p ys/\∀l,H l=none->Q (.ref l) (upd H l (.tup ys)))\/(aS X.K H p ys/\Q (.ref p) H))):=by
 intro zz s σ H xs us Q I r h
 obtain⟨p,ys,rfl,h⟩:=h
 obtain⟨u,rfl,rx⟩:=vals1 r
 cases rx
 rcases h with⟨hq,q⟩ | ⟨hq,q⟩
 .obtain⟨its,r',pl,hz⟩:=I.list hq
  have hlen:=r'.length
  refine call_tuple_list pl.isList (λh' kp=>?_) (by simp only[dO] <;> omega)
  have I1:Inv X zz σ H { s with heap:=h' }:=I.kept (t':=s.toks) kp
  have I2:Inv X zz σ (upd H h'.objs.size (.tup ys)) { s with heap:=h'.push { cls:=.type "tuple",data:=.seq its.toArray } }:=
   I1.laid (t':=s.toks) (λb o e=>yYZ _ e) (yZD _) (show ao X.prog X.w _ _ _ (.tup ys) from⟨hz,its,r',fF.new _ _⟩)
  exact⟨.ref h'.objs.size,_,I2,rfl,q _ (I1.af.fresh (yZD _))⟩
 .obtain⟨its,r',pl,hz⟩:=I.tuple hq
  exact call_tuple_same pl ⟨.ref p,H,I,rfl,q⟩
def tV (K:aq)(T:String)(x:V)(H:Hp):Prop:=match x with
 | .str _=>T = "str"
 | .int _=>T = "int"
 | .ref p=>(T = "list" /\ ∃xs,aj K H p xs)\/(T = "tuple" /\ ∃o,K.lookup p=some o/\o.cls=.type "tuple" /\ o.dict=none)\/
   (T = "dict" /\ ((∃kvs,H p=some (.dK kvs))\/∃kvs,H p=some (.dT kvs)))\/(T = "set" /\ ∃S n,H p=some (.set S n))
 | _=>False
theorem Lr {zz:List (Addr×Obj)}{σ:St}{H:Hp}{s:Shared}{T:String}{x:V}{v:Value}(I:Inv X zz σ H s)(r:RelV x v)(ty:tV X.K T x H):
  s.TypeIs v T/\∀a,v=.ref a->∃ob,s.heap.get? a=some ob/\ob.dict=none:=by
 cases x with
 | str z=>
  obtain⟨t,rfl⟩:=r
  cases(show T = "str" from ty)
  exact⟨typeIs_str s z t,λ_ e=>nomatch e⟩
 | int i=>
  obtain⟨t,rfl⟩:=r
  cases(show T = "int" from ty)
  exact⟨typeIs_int s i t,λ_ e=>nomatch e⟩
 | ref p=>
  cases r
  rcases ty with⟨rfl,xs,hq⟩ | ⟨rfl,o,hk,hc,hd⟩ | ⟨rfl,hk⟩ | ⟨rfl,S,n,hk⟩
  .obtain⟨its,_,pl,_⟩:=I.list hq
   refine⟨pl.isList.typeIs,λa e=>?_⟩
   cases e
   obtain⟨o,n,e,c,hd,_⟩:=pl
   exact⟨o,e,hd⟩
  .refine⟨⟨o,I.dq p o hk,hc⟩,λa e=>?_⟩
   cases e
   exact⟨o,I.dq _ o hk,hd⟩
  .have z:∃o,s.heap.get? p=some o/\o.ExactDict:=by
    rcases hk with⟨kvs,hk⟩ | ⟨kvs,hk⟩
    .obtain⟨_,_,_,_,o,_,_,e,ex,_⟩:=I.af p _ hk
     exact⟨o,e,ex⟩
    .obtain⟨_,_,_,_,o,_,_,e,ex,_⟩:=I.af p _ hk
     exact⟨o,e,ex⟩
   obtain⟨o,e,ex⟩:=z
   refine⟨⟨o,e,ex.1⟩,λa e2=>?_⟩
   cases e2
   exact⟨o,e,ex.2.1⟩
  .obtain⟨o,_,_,_,e,ex,_⟩:=I.af p _ hk
   refine⟨⟨o,e,ex.1⟩,λa e2=>?_⟩
   cases e2
   exact⟨o,e,ex.2.1⟩
 | _=>exact False.elim ty
def rO (K:aq)(T:String)(r:V->List V->Hp->VK->Prop)(to:TE):TE:=λσ H Q=>to σ H λx H1=>tV K T x H1/\r x [] H1 Q
def Fy (K:aq)(T:String)(r:V->List V->Hp->VK->Prop)(to:TE)(t:TA):TE:=λσ H Q=>to σ H λx H1=>tV K T x H1/\t σ H1 λxs H2=>r x xs H2 Q
variable {o e:Expr}{es:List Expr}{to:TE}{t:TA}{name:Str}{apos ay:Pos}{T id:String}{r:V->List V->Hp->VK->Prop}
theorem QY (pa:PlainAttrs T)(slot:Slot T name id)(rP:typeOf (.builtin id)=pure (.type "method_descriptor"))(hm:D' X id r)(ho:PE X o to)
  (c8:attributeBase o name X.env (eval o X.env)=eval o X.env:=by rfl) (c9:(apos.endLine == ay.line)=true:=by rfl):PE X (.Call (.Attribute o name apos) [] [] ay) (rO X.K T r to):=by
 intro zz s σ H Q I h
 refine wpAny_Call_method0_late c8 c9 (aF (ho zz s σ H _ I h) λv s1 ⟨x,H1,I1,r1,ty,q1⟩=>?_)
 obtain⟨h1,h2⟩:=Lr I1 r1 ty
 exact⟨T,id,pa,slot,rP,h1,h2,Calls.callWith_builtin rfl (PySem.evalArgs_none (hm zz s1 σ H1 x [] v [] Q I1 r1 .nil q1))⟩
theorem QZ (pa:PlainAttrs T)(slot:Slot T name id)(rP:typeOf (.builtin id)=pure (.type "method_descriptor"))(hm:D' X id r)(ho:PE X o to)(ha:PA X (e::es) t)
  (c8:attributeBase o name X.env (eval o X.env)=eval o X.env:=by rfl)
  (rQ:((backTo ay (starEach (e::es) X.env)).all (λx=>!x.1) && (backToKw ay (keywordEach [] X.env)).all (λx=>x.1.isSome)
   && decide ((e::es).length+([]:List Keyword).length+(if ([]:List Keyword).isEmpty then 0 else 1)<30))=true:=by rfl)
  (c9:(apos.endLine == ay.line)=true:=by rfl) (hs:starEach (e::es) X.env=(false,eval e X.env)::starEach es X.env:=by rfl) (hU:(backTo ay (starEach es X.env)).any (·.1)=false:=by rfl):
  PE X (.Call (.Attribute o name apos) (e::es) [] ay) (Fy X.K T r to t):=by
 intro zz s σ H Q I h
 refine wpAny_Call_method_late c8 rQ c9 rfl (aF (ho zz s σ H _ I h) λv s1 ⟨x,H1,I1,r1,ty,q1⟩=>?_)
 obtain⟨h1,h2⟩:=Lr I1 r1 ty
 refine⟨T,id,pa,slot,rP,h1,h2,?_⟩
 have hA:=ha ay zz s1 σ H1 _ I1 q1
 rw[hs] at hA ⊢
 refine Calls.callWith_builtin (by show(false || (backTo ay (starEach es X.env)).any (·.1))=false;rw[hU] <;> rfl) (Calls.evalArgs_plain ?_)
 exact aF hA λus s2 ⟨vs,H2,I2,r2,q2⟩=>hm zz s2 σ H2 x vs v us Q I2 r1 r2 q2
end
end L2
namespace L2
open PySem PySem.Spec PyProof.Rows
def tW (X:Cx)(id:String)(r:V->List V->Hp->VK->Prop):Prop:=
 ∀(zz:List (Addr×Obj)) (s:Shared) (σ:St) (H:Hp) (x:V) (xs:List V) (v:Value) (us:List Value) (Q:VK),Inv X zz σ H s->RelV x v->Vals xs us->r x xs H Q->
  wpAny (model X.prog X.w) X.A (call (.builtin id) (v::us)) (EP X zz σ Q) X.xe s
theorem Vals.one {x:V}{us:List Value}(h:Vals [x] us):∃u,us=[u]/\RelV x u:=by
 cases h with
 | cons r t=>
  cases t
  exact⟨_,rfl,r⟩
theorem Vals.zero:∀{us:List Value},Vals [] us->us=[]
 | _,.nil=>rfl
theorem Vals.rep {xs:List V}{us:List Value}(h:Vals xs us):∀k:Nat,Vals (Yg k xs).flatten (Yg k us).flatten
 | 0=>.nil
 | k+1=>by
  rw[Yu,Yu,List.flatten_cons,List.flatten_cons]
  exact Vals.append h (Vals.rep h k)
theorem Ls (its:List Value):∀(k:Nat) (acc:List Value),
  List.foldl (λx1 x2=>x1++x2) acc.toArray (Yg k its.toArray)=(acc++(Yg k its).flatten).toArray
 | 0,acc=>by simp
 | k+1,acc=>by
  have e:acc.toArray++its.toArray=(acc++its).toArray:=by simp
  have e2:(acc++its)++(Yg k its).flatten=acc++(Yg (k+1) its).flatten:=by
   rw[Yu,List.flatten_cons,lS]
  rw[<- e2,<- Ls its k (acc++its),<- e,Yu,List.foldl_cons]
section
variable {X:Cx}{zz:List (Addr×Obj)}{σ:St}{H:Hp}{s:Shared}{l b:Addr}{xs ys zs:List V}
theorem Inv.lset {its its':List Value}{n:Nat}{f:Array Value->Array Value}{t':Nat}(I:Inv X zz σ H s)(hH:H l=some (.lst xs))
  (e:s.heap.get? l=some { cls:=.type "list",data:=.seq its.toArray n }) (hf:f its.toArray=its'.toArray) (hv:Vals ys its') (hz:ys.length<=Yc):
  Inv X zz σ (upd H l (.lst ys)) { s with heap:=s.heap.update l (Obj.mapSeq f),toks:=t' }:=by
 have q:=PySem.IsL.update e f
 rw[hf] at q
 refine I.write (x:=l) (e:=l) (by rw[hH];exact trivial) (.inl rfl) (λb' u hb hu=>(Heap.get?_update_other s.heap (Obj.mapSeq f) (Ne.symm hb)).trans hu) ⟨_,q⟩ ?_
 exact⟨hz,its',_,hv,q⟩
theorem Inv.lnew {its:List Value}{t':Nat}(I:Inv X zz σ H s)(hv:Vals ys its)(hz:ys.length<=Yc):
  Inv X zz σ (upd H s.heap.objs.size (.lst ys)) { s with heap:=s.heap.push { cls:=.type "list",data:=.seq its.toArray },toks:=t' }:=
 I.laid (λ_ _ q=>yYZ _ q) (yZD _) ⟨hz,its,0,hv,bg _ rfl⟩
theorem Inv.fresh (I:Inv X zz σ H s):H s.heap.objs.size=none:=I.af.fresh (yZD _)
theorem Inv.lstM (I:Inv X zz σ H s)(hH:H l=some (.lst xs)):xs.length<=Yc/\∃(its:List Value) (n:Nat),Vals xs its/\xs.length=its.length/\s.heap.get? l=some { cls:=.type "list",data:=.seq its.toArray n }:=by
 obtain⟨z,its,n,r,e⟩:=I.af l _ hH
 exact⟨z,its,n,r,r.length,e⟩
theorem Lu {n:Nat}(h:n<=Yc):Builtin.List.listTooLong n=false:=by
 unfold Builtin.List.listTooLong
 exact decide_eq_false (by omega)
end
section
variable {X:Cx}
def Lv:V->List V->Hp->VK->Prop:=λx vs H Q=>∃l xs y,x=.ref l/\vs=[y]/\H l=some (.lst xs)/\xs.length<Yc/\Q .non (upd H l (.lst (xs++[y])))
theorem zR:tW X "list.append" Lv:=by
 intro zz s σ H x vs v us Q I rx rv h
 obtain⟨l,xs,y,rfl,rfl,hH,hz,q⟩:=h
 cases rx
 obtain⟨u,rfl,ru⟩:=rv.one
 obtain⟨z,its,n,r,hl,e⟩:=I.lstM hH
 refine call_meets F.slot_list_append ⟨_,e,rfl⟩ F.entry_list_append (F.args_list_append_2 _ _) (PySem.list_append l its.toArray n u (by rw[dO];omega)) ⟨e,?_⟩
 refine⟨.non,_,I.lset (its':=its++[u]) hH e (by simp) (r.append (.cons ru .nil)) ?_,rfl,q⟩
 rw[bK,List.length_singleton]
 omega
def Q0:V->List V->Hp->VK->Prop:=λx vs H Q=>∃l b xs zs,x=.ref l/\vs=[.ref b]/\H l=some (.lst xs)/\H b=some (.lst zs)/\xs.length+zs.length<=Yc/\Q .non (upd H l (.lst (xs++zs)))
theorem Lw:tW X "list.extend" Q0:=by
 intro zz s σ H x vs v us Q I rx rv h
 obtain⟨l,b,xs,zs,rfl,rfl,hH,hB,hz,q⟩:=h
 cases rx
 obtain⟨u,rfl,ru⟩:=rv.one
 cases ru
 obtain⟨z,its,n,r,hl,e⟩:=I.lstM hH
 obtain⟨z2,cM,n2,r2,Ea,e2⟩:=I.lstM hB
 have hsz:its.toArray.size+cM.toArray.size<=Yc:=by rw[dO,dO];omega
 have me:¬(!its.toArray.isEmpty && Builtin.List.listTooLong (its.toArray.size+cM.toArray.size))=true:=by
  rw[Lu hsz,Bool.and_false]
  exact cj
 refine call_meets F.slot_list_extend ⟨_,e,rfl⟩ F.entry_list_extend (F.args_list_extend_2 _ _)
  (AutoSeq1.list_extend_list_list_0 l its.toArray n b cM.toArray n2 me (by rw[dO];omega) (by omega)) ⟨e,e2,?_⟩
 refine⟨.non,_,I.lset (its':=its++cM) hH e (by simp) (r.append r2) ?_,rfl,q⟩
 rw[bK]
 omega
def Fz:R2:=λx y H Q=>∃l b xs zs,x=.ref l/\y=.ref b/\H l=some (.lst xs)/\H b=some (.lst zs)/\xs.length+zs.length<=Yc/\∀p,H p=none->Q (.ref p) (upd H p (.lst (xs++zs)))
theorem Q1:eJ X (binaryOp .Add) Fz:=by
 intro zz s σ H x y v u Q I rx ry h
 obtain⟨l,b,xs,zs,rfl,rfl,hH,hB,hz,q⟩:=h
 cases rx
 cases ry
 obtain⟨z,its,n,r,hl,e⟩:=I.lstM hH
 obtain⟨z2,cM,n2,r2,Ea,e2⟩:=I.lstM hB
 refine PySem.P.add_list e e2 ?_ (by rw[dO,dO];omega)
 have ea:its.toArray++cM.toArray=(its++cM).toArray:=by simp
 rw[ea]
 exact⟨.ref _,_,I.lnew (t':=s.toks) (r.append r2) (by rw[bK];omega),rfl,q _ I.fresh⟩
def FA:R2:=λx y H Q=>∃l k xs,x=.ref l/\y=.int k/\H l=some (.lst xs)/\-(2 ^ 63)<=k/\k<2 ^ 63/\xs.length * k.toNat<=Yc/\
 ∀p,H p=none->Q (.ref p) (upd H p (.lst (Yg k.toNat xs).flatten))
theorem Q2 {α:Type}(xs:List α)(k:Nat):(Yg k xs).flatten.length=k * xs.length:=by
 induction k with
 | zero=>simp
 | succ k ih=>rw[Yu,List.flatten_cons,bK,ih,Nat.succ_mul,Nat.add_comm]
theorem Q3:eJ X (binaryOp .Mult) FA:=by
 intro zz s σ H x y v u Q I rx ry h
 obtain⟨l,k,xs,rfl,rfl,hH,h1,h2,hz,q⟩:=h
 cases rx
 obtain⟨t,rfl⟩:=ry
 obtain⟨z,its,n,r,hl,e⟩:=I.lstM hH
 have hlen:its.toArray.size * k.toNat<=Yc:=by rw[dO,<- hl];exact hz
 have FC:¬its.toArray.size * k.toNat>(2 ^ 63 - 1) / 8:=by
  have:(Yc:Nat)<=(2 ^ 63 - 1) / 8:=by decide
  omega
 have FE:¬(!Builtin.List.listFitsIndex k)=true:=by
  rw[fitsIndex_both h1 h2]
  exact cj
 have me:¬Builtin.List.listTooLong (its.toArray.size * k.toNat)=true:=by
  rw[Lu hlen]
  exact cj
 have i7:List.foldl (λx1 x2=>x1++x2) #[] (Yg (if its.toArray.isEmpty=true then 0 else k.toNat) its.toArray)=(Yg k.toNat its).flatten.toArray:=by
  have f0:∀m:Nat,List.foldl (λx1 x2=>x1++x2) #[] (Yg m its.toArray)=(Yg m its).flatten.toArray:=λm=>by
   have:=Ls its m []
   rw[List.nil_append] at this
   exact this
  rw[f0]
  cases its with
  | nil=>simp
  | cons a r'=>rw[if_neg (by simp)]
 refine wpAny_binaryOp_repeat_ref (T := "list") (U := "int") (by decide) ⟨_,e,rfl⟩ (λs'=>typeIs_int s' k t) noFill_list_mul F.fills_int_mul F.slot_int_rmul repeat_list F.slot_int_index.lookup
  (call_meets F.slot_int_rmul (typeIs_int s k t) F.entry_int_rmul (F.args_int_rmul_2 _ _) (int___rmul___int_list k t l its.toArray n)
   ⟨e,rfl,⟨_,e,rfl⟩,call_meets F.slot_list_mul ⟨_,e,rfl⟩ F.entry_list_mul (F.args_list_mul_2 _ _) (AutoListH.list___mul___list_int_3 l its.toArray n k t FE FC me) ⟨e,?_⟩⟩)
 rw[i7]
 exact⟨.ref _,_,I.lnew (t':=s.toks) (r.rep k.toNat) (by rw[Q2,Nat.mul_comm];exact hz),rfl,q _ I.fresh⟩
end
end L2
namespace L2
open PySem PySem.Spec PyProof.Rows
section
variable {κ:Type}[DecidableEq κ]
def ai (kvs:List (κ×V))(k:κ):Option V:=(kvs.find? λkv=>decide (kv.1=k)).map (·.2)
def putK (kvs:List (κ×V))(k:κ)(v:V):List (κ×V):=
 if (kvs.any λkv=>decide (kv.1=k))=true then kvs.map (λkv=>if kv.1=k then (kv.1,v) else kv) else kvs++[(k,v)]
theorem zN {p:κ×V}{r:List (κ×V)}{k:κ}(e:p.1=k):ai (p::r) k=some p.2:=by simp[ai,List.find?_cons,e]
theorem zO {p:κ×V}{r:List (κ×V)}{k:κ}(e:¬p.1=k):ai (p::r) k=ai r k:=by simp[ai,List.find?_cons,e]
theorem wG (k:κ):∀kvs:List (κ×V),(kvs.any λkv=>decide (kv.1=k))=(ai kvs k).isSome
 | []=>rfl
 | p::r=>by
  rw[List.any_cons]
  by_cases e:p.1=k
  .simp only[zN e,decide_eq_true e,Bool.true_or,Option.isSome_some]
  .rw[zO e,decide_eq_false e,Bool.false_or];exact wG k r
theorem Lx (k j:κ)(y:V):∀kvs:List (κ×V),ai (kvs.map λkv=>if kv.1=k then (kv.1,y) else kv) j=(ai kvs j).map λx=>if j=k then y else x
 | []=>rfl
 | p::r=>by
  have ih:=Lx k j y r
  rw[Yl]
  by_cases h:p.1=k
  .rw[if_pos h]
   by_cases e:p.1=j
   .rw[zN (p:=(p.1,y)) e,zN e,nV,if_pos (e.symm.trans h)]
   .rw[zO (p:=(p.1,y)) e,zO e,ih]
  .rw[if_neg h]
   by_cases e:p.1=j
   .rw[zN (p:=p) e,zN e,nV,if_neg (λz=>h (e.trans z))]
   .rw[zO (p:=p) e,zO e,ih]
theorem Ly (k j:κ)(y:V):∀kvs:List (κ×V),ai kvs k=none->ai (kvs++[(k,y)]) j=if j=k then some y else ai kvs j
 | [],_=>by
  by_cases e:k=j
  .rw[if_pos e.symm];exact zN (p:=(k,y)) e
  .rw[if_neg (λz=>e z.symm)];exact zO (p:=(k,y)) e
 | p::r,hn=>by
  rw[List.cons_append]
  have hk:¬p.1=k:=λz=>by rw[zN z] at hn;cases hn
  rw[zO hk] at hn
  have ih:=Ly k j y r hn
  by_cases e:p.1=j
  .rw[zN e,zN e,if_neg (λz=>hk (e.trans z))]
  .rw[zO e,zO e,ih]
theorem kM (kvs:List (κ×V))(k j:κ)(y:V):ai (putK kvs k y) j=if j=k then some y else ai kvs j:=by
 unfold putK
 by_cases a:(kvs.any λkv=>decide (kv.1=k))=true
 .rw[if_pos a,Lx]
  rw[wG] at a
  by_cases e:j=k
  .obtain⟨x,hx⟩:=Option.isSome_iff_exists.mp a
   rw[if_pos e,e,hx,nV,if_pos rfl]
  .rw[if_neg e]
   cases ai kvs j with
   | none=>rfl
   | some x=>rw[nV,if_neg e]
 .rw[if_neg a]
  refine Ly k j y kvs ?_
  rw[wG] at a
  cases q:ai kvs k with
  | none=>rfl
  | some x=>rw[q] at a;exact(a rfl).elim
theorem yW (kvs:List (κ×V))(k:κ)(v:V):(putK kvs k v).length<=kvs.length+1:=by
 unfold putK
 split
 .rw[av];omega
 .rw[bK,cP,gW];omega
theorem bU.dA {o:Option V}{u:Option Value}(r:bU o u):o.isSome=u.isSome:=by
 cases o with
 | none=>cases u with
  | none=>rfl
  | some _=>exact(show False from r).elim
 | some _=>cases u with
  | none=>exact(show False from r).elim
  | some _=>rfl
theorem bU.getD {o:Option V}{u:Option Value}{d:V}{d':Value}(r:bU o u)(rd:RelV d d'):RelV (o.getD d) (u.getD d'):=by
 cases o with
 | none=>cases u with
  | none=>exact rd
  | some _=>exact(show False from r).elim
 | some _=>cases u with
  | none=>exact(show False from r).elim
  | some _=>exact r
theorem KV.val {kvs:List (κ×V)}{vs:List (κ×Value)}(r:KV kvs vs)(k:κ):bU (ai kvs k) (valueAt vs k):=by
 unfold KV at r
 induction r with
 | nil=>exact True.intro
 | @cons p q ps qs h t ih=>
  obtain⟨h1,h2⟩:=h
  by_cases e:p.1=k
  .have e':q.1=k:=h1.symm.trans e
   have b:valueAt (q::qs) k=some q.2:=by simp[valueAt,List.find?_cons,e']
   rw[zN e,b];exact h2
  .have e':¬q.1=k:=λz=>e (h1.trans z)
   have b:valueAt (q::qs) k=valueAt qs k:=by simp[valueAt,List.find?_cons,e']
   rw[zO e,b];exact ih
theorem KV.any {kvs:List (κ×V)}{vs:List (κ×Value)}(r:KV kvs vs)(k:κ):(kvs.any λkv=>decide (kv.1=k))=vs.any λkv=>decide (kv.1=k):=by
 unfold KV at r
 induction r with
 | nil=>rfl
 | cons h t ih=>rw[List.any_cons,List.any_cons,ih,h.1]
theorem KV.repl {kvs:List (κ×V)}{vs:List (κ×Value)}(r:KV kvs vs)(k:κ){y:V}{u:Value}(ry:RelV y u):
  KV (kvs.map λkv=>if kv.1=k then (kv.1,y) else kv) (vs.map λkv=>if kv.1=k then (kv.1,u) else kv):=by
 unfold KV at r ⊢
 induction r with
 | nil=>exact .nil
 | @cons p q ps qs h t ih=>
  rw[Yl,Yl]
  refine .cons ?_ ih
  obtain⟨h1,h2⟩:=h
  by_cases e:p.1=k
  .rw[if_pos e,if_pos (h1.symm.trans e)];exact⟨h1,ry⟩
  .rw[if_neg e,if_neg (λz=>e (h1.trans z))];exact⟨h1,h2⟩
theorem KV.put {kvs:List (κ×V)}{vs:List (κ×Value)}(r:KV kvs vs)(k:κ){y:V}{u:Value}(ry:RelV y u):KV (putK kvs k y) (stored vs k u):=by
 unfold putK stored
 rw[r.any k]
 by_cases e:(vs.any λkv=>decide (kv.1=k))=true
 .rw[if_pos e,if_pos e];exact r.repl k ry
 .rw[if_neg e,if_neg e];exact Paired.snoc r ⟨rfl,ry⟩
theorem KV.length {kvs:List (κ×V)}{vs:List (κ×Value)}(r:KV kvs vs):kvs.length=vs.length:=Paired.length r
end
theorem rR {P:Program}{w:World}{k:Key}{u:Value}(r:RelV (kV k) u):(xH P w).is k u=true:=by
 cases k with
 | inl i=>obtain⟨t,e⟩:=(show∃t,u=Value.int i t from r);subst e;exact KH P w i t
 | inr x=>obtain⟨t,e⟩:=(show∃t,u=Value.str x t from r);subst e;exact vZ P w x t
theorem Lz {P:Program}{w:World}:∀{ks:List Key} {us:List Value},Vals (ks.map kV) us->ItemsAre (xH P w) ks us
 | [],_,r=>by rw[List.map_nil] at r;cases r;exact .nil
 | k::ks,_,r=>by
  rw[Yl] at r
  cases r with
  | cons h t=>exact .cons (rR h) (Lz t)
abbrev KT (H:Hp):List (List Key×V)->List (List Key×Addr×Value)->Prop:=Paired λp q=>p.1=q.1/\H q.2.1=some (.tup (p.1.map kV))/\RelV p.2 q.2.2
theorem KT.val {H:Hp}{kvs:List (List Key×V)}{xs:List (List Key×Addr×Value)}(r:KT H kvs xs)(k:List Key):bU (ai kvs k) ((atKey xs k).map (·.2)):=by
 induction r with
 | nil=>exact True.intro
 | @cons p q ps qs h t ih=>
  obtain⟨h1,_,h2⟩:=h
  by_cases e:p.1=k
  .have e':q.1=k:=h1.symm.trans e
   have b:atKey (q::qs) k=some q.2:=by simp[atKey,List.find?_cons,e']
   rw[zN e,b];exact h2
  .have e':¬q.1=k:=λz=>e (h1.trans z)
   have b:atKey (q::qs) k=atKey qs k:=by simp[atKey,List.find?_cons,e']
   rw[zO e,b];exact ih
theorem KT.repl {H:Hp}{kvs:List (List Key×V)}{xs:List (List Key×Addr×Value)}(r:KT H kvs xs)(k:List Key){y:V}{u:Value}(ry:RelV y u):
  KT H (kvs.map λkv=>if kv.1=k then (kv.1,y) else kv) (xs.map (putAt k u)):=by
 induction r with
 | nil=>exact .nil
 | @cons p q ps qs h t ih=>
  rw[Yl,Yl]
  refine .cons ?_ ih
  obtain⟨h1,h2,h3⟩:=h
  unfold putAt
  by_cases e:p.1=k
  .rw[if_pos e,if_pos (h1.symm.trans e)];exact⟨h1,h2,ry⟩
  .rw[if_neg e,if_neg (λz=>e (h1.trans z))];exact⟨h1,h2,h3⟩
theorem KT.put {H:Hp}{kvs:List (List Key×V)}{xs:List (List Key×Addr×Value)}(r:KT H kvs xs)(k:List Key){b:Addr}{y:V}{u:Value}(hb:H b=some (.tup (k.map kV)))(ry:RelV y u):
  KT H (putK kvs k y) (storedH xs k b u):=by
 have e:(kvs.any λkv=>decide (kv.1=k))=(atKey xs k).isSome:=by
  rw[wG,(r.val k).dA,Option.isSome_map]
 unfold putK storedH
 rw[e]
 by_cases q:(atKey xs k).isSome=true
 .rw[if_pos q,if_pos q];exact r.repl k ry
 .rw[if_neg q,if_neg q];exact Paired.snoc r ⟨rfl,hb,ry⟩
theorem KT.keeps {H H':Hp}{kvs:List (List Key×V)}{xs:List (List Key×Addr×Value)}(r:KT H kvs xs)(ht:∀b ys,H b=some (.tup ys)->H' b=some (.tup ys)):KT H' kvs xs:=
 Paired.mapP r λ_ _ z=>⟨z.1,ht _ _ z.2.1,z.2.2⟩
section
variable {P:Program}{w:World}{H:Hp}{h:Heap}{a:Addr}
theorem LA {u:HO}(ok:ck P w H h)(e:Rd H a u):ao P w H h a u:=e.ok ok
theorem nH {kvs:List (Key×V)}(ok:ck P w H h)(e:Rd H a (.dK kvs)):kvs.length<=Yc/\(a == sysModules)=false/\∃vs,KV kvs vs/\h.DictOf (xH P w) a vs:=
 show ao P w H h a (.dK kvs) from LA ok e
theorem Bu {kvs:List (Key×V)}(ok:ck P w H h)(e:H a=some (.dK kvs)):kvs.length<=Yc/\(a == sysModules)=false/\∃vs,KV kvs vs/\h.DictOf (xH P w) a vs:=nH ok (.inl e)
theorem wB {ks:List Key}(ok:ck P w H h)(e:H a=some (.tup (ks.map kV))):(tupleKind (xH P w)).is h ks a:=by
 obtain⟨_,its,r,o,h1,h2,n,h3,_⟩:=(show ao P w H h a (.tup (ks.map kV)) from ok a _ e)
 exact⟨o,its.toArray,n,h1,h2,h3,by simpa using Lz r⟩
theorem tX {kvs:List (List Key×V)}(ok:ck P w H h)(e:Rd H a (.dT kvs)):kvs.length<=Yc/\(a == sysModules)=false/\
  ∃xs,KT H kvs xs/\h.DictOfH (tupleKind (xH P w)) a xs:=by
 obtain⟨z,y,xs,r,o,es,ep,h1,h2,h3,h4,h5⟩:=(show ao P w H h a (.dT kvs) from LA ok e)
 refine⟨z,y,xs,r,o,es,ep,h1,h2,h3,h4,λx hx=>?_,h5⟩
 have all:∀{l:List (List Key×V)} {m:List (List Key×Addr×Value)},KT H l m->∀x∈m,(tupleKind (xH P w)).is h x.1 x.2.1:=by
  intro l m q
  induction q with
  | nil=>intro x hx;exact nomatch hx
  | @cons p q ps qs hq t ih=>
   intro x hx
   rcases aE.mp hx with e | hx
   .subst e
    exact wB ok (by rw[<- hq.1];exact hq.2.1)
   .exact ih x hx
 exact all r x hx
theorem Q4 {kvs:List (List Key×V)}(ok:ck P w H h)(e:H a=some (.dT kvs)):kvs.length<=Yc/\(a == sysModules)=false/\
  ∃xs,KT H kvs xs/\h.DictOfH (tupleKind (xH P w)) a xs:=tX ok (.inl e)
end
def cm (H:Hp)(a:Addr)(y:V)(r:Option V):Prop:=
 (∃kvs k,Rd H a (.dK kvs)/\y=kV k/\r=ai kvs k)\/∃kvs k b,Rd H a (.dT kvs)/\y=.ref b/\H b=some (.tup (k.map kV))/\r=ai kvs k
def fK (H:Hp)(a:Addr)(y v:V)(H':Hp):Prop:=
 (∃kvs k,H a=some (.dK kvs)/\y=kV k/\kvs.length<Yc/\H'=upd H a (.dK (putK kvs k v)))\/
 ∃kvs k b,H a=some (.dT kvs)/\y=.ref b/\H b=some (.tup (k.map kV))/\kvs.length<Yc/\H'=upd H a (.dT (putK kvs k v))
theorem cm.k {H:Hp}{a:Addr}{kvs:List (Key×V)}{k:Key}(e:H a=some (.dK kvs)):cm H a (kV k) (ai kvs k):=.inl ⟨kvs,k,.inl e,rfl,rfl⟩
theorem fK.k {H:Hp}{a:Addr}{kvs:List (Key×V)}{k:Key}{v:V}(e:H a=some (.dK kvs))(hl:kvs.length<Yc):fK H a (kV k) v (upd H a (.dK (putK kvs k v))):=.inl ⟨kvs,k,e,rfl,hl,rfl⟩
section
variable {X:Cx}{zz:List (Addr×Obj)}{σ:St}{H:Hp}{s:Shared}{a:Addr}{y v:V}{u r:Value}{o:Option V}{A:Around}{E:Value->Shared->Prop}
theorem Inv.big (I:Inv X zz σ H s):sysModules<s.heap.objs.size:=by
 have h:Yd<s.heap.objs.size:=(I.mod.glob.keeps I.bk).lt
 exact Nat.lt_trans (by decide) h
theorem Q5 {Q:Value->Shared->Prop}(hu:A.units+1<cLine)(I:Inv X zz σ H s)(g:cm H a y (some v))(ry:RelV y u)(h:∀w' s',Inv X zz σ H s'->RelV v w'->Q w' s'):
  wpAny (model X.prog X.w) A (getItem (.ref a) u) Q E s:=by
 rcases g with⟨kvs,k,e,ey,l⟩ | ⟨kvs,k,b,e,ey,eb,l⟩
 .subst ey
  obtain⟨z,hd,vs,rel,dd⟩:=nH I.af e
  obtain⟨w',hw,ma⟩:=bU.some_of (v:=v) (o:=valueAt vs k) (by rw[l];exact rel.val k)
  exact wpAny_getItem_of (rR ry) dd.mapOf hw (h w' _ (I.tok _) ma)
 .subst ey
  cases(show u=Value.ref b from ry)
  obtain⟨z,hd,xs,rel,dd⟩:=tX I.af e
  obtain⟨w',hw,ma⟩:=bU.some_of (v:=v) (o:=(atKey xs k).map (·.2)) (by rw[l];exact rel.val k)
  obtain⟨p,hp,Q6⟩:=YJ.mp hw
  refine wpAny_getItem_heap (tupleKind_room_in1 hu) (wB I.af eb) dd hp ?_
  rw[Q6]
  exact h w' _ (I.tok _) ma
theorem Q7 {Q:Value->Shared->Prop}(hu:A.units+1<cLine)(I:Inv X zz σ H s)(g:cm H a y o)(ry:RelV y u)(h:∀s',Inv X zz σ H s'->Q (.bool (!o.isSome)) s'):
  wpAny (model X.prog X.w) A (compareOp .NotIn u (.ref a)) Q E s:=by
 rcases g with⟨kvs,k,e,ey,l⟩ | ⟨kvs,k,b,e,ey,eb,l⟩
 .subst ey
  obtain⟨z,hd,vs,rel,dd⟩:=nH I.af e
  refine wpAny_notIn_of (rR ry) hd dd.mapOf ?_
  rw[<- (rel.val k).dA,<- l]
  exact h _ (I.tok _)
 .subst ey
  cases(show u=Value.ref b from ry)
  obtain⟨z,hd,xs,rel,dd⟩:=tX I.af e
  refine wpAny_notIn_heap (tupleKind_room_in1 hu) (wB I.af eb) hd dd ?_
  have q:=(rel.val k).dA
  rw[Option.isSome_map] at q
  rw[<- q,<- l]
  exact h _ (I.tok _)
theorem Bv {h':Heap}{t':Nat}{ob:HO}(I:Inv X zz σ H s)(mu:AZ (H a))(hs:Heap.SameBut a s.heap h')(he:∃q,h'.get? a=some q)(new:ao X.prog X.w (upd H a ob) h' a ob):
  Inv X zz σ (upd H a ob) { s with heap:=h',toks:=t' }:=
 I.write (x:=a) (e:=a) mu (.inl rfl) (λb q hb z=>(hs.2 b hb).trans z) he new
theorem Eb {P:Program}{w:World}{H':Hp}{h':Heap}{kvs:List (Key×V)}{vs:List (Key×Value)}(z:kvs.length<=Yc)(hd:(a == sysModules)=false)(rel:KV kvs vs)(dd:h'.DictOf (xH P w) a vs):
  ao P w H' h' a (.dK kvs):=⟨z,hd,vs,rel,dd⟩
theorem Q8 {H':Hp}{Q:Unit->Shared->Prop}(hu:A.units+1<cLine)(I:Inv X zz σ H s)(g:fK H a y v H')(ry:RelV y u)(rv:RelV v r)(h:∀s',Inv X zz σ H' s'->Q () s'):
  wpAny (model X.prog X.w) A (setItem (.ref a) u r) Q E s:=by
 rcases g with⟨kvs,k,e,ey,l,eH⟩ | ⟨kvs,k,b,e,ey,eb,l,eH⟩
 .subst ey eH
  obtain⟨z,hd,vs,rel,dd⟩:=Bu I.af e
  have hz:vs.length<=Yc:=by rw[<- rel.length];exact z
  have hl:(putK kvs k v).length<=Yc:=by have:=yW kvs k v;omega
  refine wpAny_setItem_pairs (hsz:=hz) (rR ry) dd λh' hW hs=>h _ ?_
  have he:∃q,h'.get? a=some q:=let ⟨q,_,_,hq,_⟩:=hW;⟨q,hq⟩
  exact Bv I (by rw[e];exact True.intro) hs he (Eb hl hd (rel.put k rv) hW)
 .subst ey eH
  cases(show u=Value.ref b from ry)
  obtain⟨z,hd,xs,rel,dd⟩:=Q4 I.af e
  have hz:xs.length<=Yc:=by rw[<- Paired.length rel];exact z
  have hl:(putK kvs k v).length<=Yc:=by have:=yW kvs k v;omega
  refine wpAny_setItem_heap (hsz:=hz) (tupleKind_room_in1 hu) (wB I.af eb) dd λh' hW hs=>h _ ?_
  obtain⟨q,es,ep,hq,h2,h3,h4,_,h5⟩:=hW
  refine Bv I (by rw[e];exact True.intro) hs ⟨q,hq⟩ ⟨hl,hd,_,(rel.put k eb rv).keeps λc ys ec=>?_,q,es,ep,hq,h2,h3,h4,h5⟩
  rw[qB (jC ec e (λz=>nomatch z))]
  exact ec
end
section
variable {X:Cx}{zz:List (Addr×Obj)}{σ:St}{H:Hp}{s:Shared}{a:Addr}{kvs:List (Key×V)}{k:Key}{u:Value}{A:Around}{E:Value->Shared->Prop}
theorem Q9 {Q:Value->Shared->Prop}(I:Inv X zz σ H s)(e:Rd H a (.dK kvs))(h:∀t s',Inv X zz σ H s'->Q (.int kvs.length t) s'):wpAny (model X.prog X.w) A (call (.builtin "len") [.ref a]) Q E s:=by
 obtain⟨z,hd,vs,rel,dd⟩:=nH I.af e
 refine call_len_dict hd dd (by rw[<- rel.length];rw[sizeLine_eq] at z;omega) ?_
 rw[<- rel.length]
 exact h _ _ (I.tok _)
end
def Bw (i:Expr):Prop:=∀ov iv,subscripted i false ov iv=operate [ov,iv] (getItem ov iv)
theorem Ra {prog:Program}{w:World}{A:Around}{E:Value->Shared->Prop}{s:Shared}{env:Env}{value slice:Expr}{pos:Pos}{T id:String}{Q:Value->Shared->Prop}
  (hl:typeLookup (.type T) "__getitem__" = pure (some (.builtin id))) (hs:Bw slice)
  (h:wpAny (model prog w) A (eval value env) (λo s₁=>wpAny (model prog w) A (eval slice env) (λi s₂=>s₂.TypeIs o T/\wpAny (model prog w) A (getItem o i) Q E s₂) E s₁) E s):
  wpAny (model prog w) A (eval (.Subscript value slice pos) env) Q E s:=by
 refine Subscript_ (wpAny_mono h (λo s₁ h₁=>wpAny_mono h₁ (λi s₂ h₂=>?_) λ_ _ x=>x) λ_ _ x=>x)
 obtain⟨hT,h₂⟩:=h₂
 unfold subscriptTail
 refine yYX ?_
 rw[getitemInPython_of_ne hT.not_modules]
 refine yYX (wpAny_specialOf hT hl ?_)
 have fin:wpAny (model prog w) A (subscripted slice false o i) (λr s₃=>wpAny (model prog w) A (letTemporaryGo value o r >>= λ_=>pure r) Q E s₃) E s₂:=by
  rw[hs o i]
  exact wpAny_operating (wpAny_mono h₂ (λr s₃ h₃=>yYX (wpAny_letTemporaryGo (yYY h₃))) λ_ _ x=>x)
 first
  | exact yYY (yYX fin)
  | exact yYX (yYY (yYX fin))
  | exact yYX fin
theorem Rb {X:Cx}{zz:List (Addr×Obj)}{σ:St}{H:Hp}{s:Shared}{a:Addr}{y:V}{o:Option V}(I:Inv X zz σ H s)(g:cm H a y o):s.TypeIs (.ref a) "dict" := by
 rcases g with⟨kvs,k,e,_,_⟩ | ⟨kvs,k,b,e,_,_,_⟩
 .obtain⟨_,_,vs,_,dd⟩:=nH I.af e
  exact dd.typeIs
 .obtain⟨_,_,xs,_,dd⟩:=tX I.af e
  exact dd.typeIs
def qd (td ty:TE):TE:=λσ H Q=>td σ H λx H1=>ty σ H1 λy H2=>∃a v,x=.ref a/\cm H2 a y (some v)/\Q v H2
def Rc (ty td:TE):TE:=λσ H Q=>ty σ H λy H1=>td σ H1 λx H2=>∃a o,x=.ref a/\cm H2 a y o/\Q (.bl (!o.isSome)) H2
def qe (td ty tv:TE):TS:=λD σ H=>tv σ H λv H1=>td σ H1 λx H2=>ty σ H2 λy H3=>∃a H4,x=.ref a/\fK H3 a y v H4/\D.nx σ H4
section
variable {X:Cx}{o i e value:Expr}{pos pos' Bo:Pos}{td ty tv:TE}
theorem vX (hu:X.A.units+1<cLine)(ho:PE X o td)(hi:PE X i ty)(hs:Bw i):PE X (.Subscript o i pos) (qd td ty):=by
 intro zz s σ H Q I h
 refine Ra PySem.F.slot_dict_getitem.lookup hs (aF (ho zz s σ H _ I h) λu s1 ⟨x,H1,I1,rx,q1⟩=>aF (hi zz s1 σ H1 _ I1 q1) λiv s2 ⟨y,H2,I2,ry,a,v,ex,g,q2⟩=>?_)
 subst ex
 obtain rfl:u=Value.ref a:=rx
 exact⟨Rb I2 g,Q5 hu I2 g ry λw' s3 I3 ma=>⟨v,H2,I3,ma,q2⟩⟩
theorem LB (hu:X.A.units+1<cLine)(hi:PE X i ty)(ho:PE X o td):PC X .NotIn i o (Rc ty td):=by
 intro zz s σ H Q I h
 refine aF (hi zz s σ H _ I h) λiv s1 ⟨y,H1,I1,ry,q1⟩=>aF (ho zz s1 σ H1 _ I1 q1) λu s2 ⟨x,H2,I2,rx,a,ov,ex,g,q2⟩=>?_
 subst ex
 obtain rfl:u=Value.ref a:=rx
 exact Q7 hu I2 g ry λs3 I3=>⟨.bl (!ov.isSome),H2,I3,rfl,q2⟩
theorem Ec (hu:X.A.units+1<cLine)(ho:PE X o td)(hi:PE X i ty)(hv:PE X value tv)(hs:swapsWith value (some (.Subscript o i pos')) pos.line X.env=pure false):
  PS X (.Assign [.Subscript o i pos'] value pos) (qe td ty tv):=by
 intro zz s σ H D I h
 refine wpAny_Assign_Subscript (aF (hv zz s σ H _ I h) λr s1 ⟨v,H1,I1,rv,q1⟩=>aF (ho zz s1 σ H1 _ I1 q1) λu s2 ⟨x,H2,I2,rx,q2⟩=>aF (hi zz s2 σ H2 _ I2 q2) λiv s3 ⟨y,H3,I3,ry,a,H4,ex,g,q3⟩=>?_) hs
 subst ex
 obtain rfl:u=Value.ref a:=rx
 exact Q8 hu I3 g ry rv λs4 I4=>⟨σ,H4,I4,q3⟩
end
theorem LC {P:Program}{w:World}{H:Hp}(h:Heap)(hb:sysModules<h.objs.size):ao P w H (h.push { cls:=.type "dict",data:=.dict #[] }) h.objs.size (.dK []):=
 ⟨yZG _,beq_eq_false_iff_ne.mpr (Ne.symm (yZF hb)),[],.nil,Heap.DictOf.new h⟩
def rS:TE:=λ_ H Q=>∀p,H p=none->Q (.ref p) (upd H p (.dK []))
section
variable {X:Cx}{pos:Pos}
theorem vD:PE X (.Dict [] [] pos) rS:=λzz s σ H Q I h=>
 wpAny_Dict_empty ⟨.ref s.heap.objs.size,_,I.laid (a:=s.heap.objs.size) (o:=.dK []) (t':=s.toks) (λ_ _ q=>yYZ _ q) (yZD _) (LC s.heap I.big),rfl,h _ (I.af.fresh (yZD _))⟩
end
def hZ:List (TE×TE)->St->Hp->(List (V×V)->Hp->Prop)->Prop
 | [],_,H,Q=>Q [] H
 | (tk,tv)::r,σ,H,Q=>tk σ H λx H1=>tv σ H1 λy H2=>hZ r σ H2 λps H3=>Q ((x,y)::ps) H3
abbrev VV:List (V×V)->List (Value×Value)->Prop:=Paired λp q=>RelV p.1 q.1/\RelV p.2 q.2
def Ed (X:Cx)(pos:Pos)(keys:List (Option Expr))(values:List Expr)(oq:List (TE×TE)):Prop:=
 ∀(zz:List (Addr×Obj)) (s:Shared) (σ:St) (H:Hp) (Q:List (V×V)->Hp->Prop),Inv X zz σ H s->hZ oq σ H Q->
  wpAny (model X.prog X.w) X.A (evalPairs (pairTrees keys values X.env pos)) (λvs s'=>∃ps H',Inv X zz σ H' s'/\VV ps vs/\Q ps H') X.xe s
theorem Rf {X:Cx}{pos:Pos}:Ed X pos [] [] []:=λzz s σ H Q I h=>pairTrees_nil_walk ⟨[],H,I,.nil,h⟩
theorem Rg {X:Cx}{pos:Pos}{k v:Expr}{ks:List (Option Expr)}{vs:List Expr}{tk tv:TE}{oq:List (TE×TE)}(hk:PE X k tk)(hv:PE X v tv)(hr:Ed X pos ks vs oq):
  Ed X pos (some k::ks) (v::vs) ((tk,tv)::oq):=λzz s σ H Q I h=>
 pairTrees_cons_walk (aF (hk zz s σ H _ I h) λu s1 ⟨x,H1,I1,rx,q1⟩=>aF (hv zz s1 σ H1 _ I1 q1) λw2 s2 ⟨y,H2,I2,ry,q2⟩=>
  aF (hr zz s2 σ H2 _ I2 q2) λws s3 ⟨ps,H3,I3,rel,q3⟩=>⟨(x,y)::ps,H3,I3,.cons ⟨rx,ry⟩ rel,q3⟩)
def az (kvs more:List (Key×V)):List (Key×V):=more.foldl (λacc kv=>putK acc kv.1 kv.2) kvs
theorem KV.merge:∀{more:List (Key×V)} {rs:List (Key×Value)} {kvs:List (Key×V)} {vs:List (Key×Value)},KV more rs->KV kvs vs->KV (az kvs more) (merged vs rs):=by
 intro more rs kvs vs r
 unfold KV at r
 induction r generalizing kvs vs with
 | nil=>intro q;exact q
 | @cons p q ps qs h t ih=>
  intro r0
  have e:KV (putK kvs p.1 p.2) (stored vs q.1 q.2):=by
   have:=r0.put p.1 h.2
   rw[<- h.1];exact this
  exact ih e
theorem yZ:∀(more kvs:List (Key×V)),(az kvs more).length<=kvs.length+more.length
 | [],kvs=>by show kvs.length<=kvs.length+0;omega
 | p::r,kvs=>by
  have h1:=yZ r (putK kvs p.1 p.2)
  have h2:=yW kvs p.1 p.2
  show(az (putK kvs p.1 p.2) r).length<=_
  rw[cP];omega
theorem LD {P:Program}{w:World}:∀{kvs:List (Key×V)} {ws:List (Value×Value)},VV (kvs.map λkv=>(kV kv.1,kv.2)) ws->∃rs,Carries (xH P w) ws rs/\KV kvs rs
 | [],_,r=>by rw[List.map_nil] at r;cases r;exact⟨[],True.intro,.nil⟩
 | p::kvs,_,r=>by
  rw[Yl] at r
  cases r with
  | @cons a b as bs h t=>
   obtain⟨rs,c,q⟩:=LD (P:=P) (w:=w) t
   obtain⟨b1,b2⟩:=b
   exact⟨(p.1,b2)::rs,⟨rR h.1,rfl,c⟩,.cons ⟨rfl,h.2⟩ q⟩
def Bx (oq:List (TE×TE)):TE:=λσ H Q=>∀p,H p=none->hZ oq σ (upd H p (.dK [])) λps H2=>H2 p=some (.dK [])/\∃kvs:List (Key×V),ps=kvs.map (λkv=>(kV kv.1,kv.2))/\kvs.length<=15/\Q (.ref p) (upd H2 p (.dK (az [] kvs)))
theorem Rh {X:Cx}{pos:Pos}{keys:List (Option Expr)}{values:List Expr}{oq:List (TE×TE)}(h:Ed X pos keys values oq)(hall:keys.all (·.isSome)=true)(hl:keys.length=values.length)(h0:keys≠[])
  (Ri:keys.length<=15):PE X (.Dict keys values pos) (Bx oq):=by
 intro zz s σ H Q I q
 have hn:=I.af.fresh (yZD s.heap.objs.size)
 have I1:=I.laid (a:=s.heap.objs.size) (o:=.dK []) (h':=s.heap.push { cls:=.type "dict",data:=.dict #[] }) (t':=s.toks) (λ_ _ q=>yYZ _ q) (yZD _) (LC s.heap I.big)
 refine wpAny_Dict_walk (knd:=xH X.prog X.w) hall hl h0 Ri (aF (h zz _ σ _ _ I1 (q _ hn)) λws s2 ⟨ps,H2,I2,rel,e,kvs,ep,lk,q2⟩=>?_)
 subst ep
 obtain⟨rs,c,rk⟩:=LD (P:=X.prog) (w:=X.w) rel
 obtain⟨z,hd,vs0,r0,dd⟩:=Bu I2.af e
 cases r0
 refine⟨rs,c,dd,λh' hW hs=>⟨.ref s.heap.objs.size,_,?_,rfl,q2⟩⟩
 have hz:(az [] kvs).length<=Yc:=by
  have h1:=yZ kvs []
  rw[gW] at h1
  rw[sizeLine_eq];omega
 have he:∃q,h'.get? s.heap.objs.size=some q:=let ⟨q,_,_,hq,_⟩:=hW;⟨q,hq⟩
 exact Bv I2 (by rw[e];exact True.intro) hs he (Eb hz hd (rk.merge .nil) hW)
structure M2 (X:Cx)(o:Expr)(m:Str)(apos:Pos)(e f:Expr)(ay:Pos):Prop where
 base:attributeBase o m X.env (eval o X.env)=eval o X.env
 gR:((backTo ay (starEach [e,f] X.env)).all (λx=>!x.1) && (backToKw ay (keywordEach [] X.env)).all (λx=>x.1.isSome)
  && decide (([e,f]:List Expr).length+([]:List Keyword).length+(if ([]:List Keyword).isEmpty then 0 else 1)<30))=true
 line:(apos.endLine == ay.line)=true
 trees:backTo ay (starEach [e,f] X.env)=[(false,eval e X.env),(false,eval f X.env)]
def LF (H:Hp)(a:Addr):Prop:=(∃kvs,Rd H a (.dK kvs))\/∃kvs,Rd H a (.dT kvs)
theorem Rj {X:Cx}{zz:List (Addr×Obj)}{σ:St}{H:Hp}{s:Shared}{a:Addr}(I:Inv X zz σ H s)(d:LF H a):
  s.TypeIs (.ref a) "dict" /\ (∀b,Value.ref a=.ref b->∃ob,s.heap.get? b=some ob/\ob.dict=none)/\(a == sysModules)=false:=by
 rcases d with⟨kvs,e⟩ | ⟨kvs,e⟩
 .obtain⟨_,hd,vs,_,dd⟩:=nH I.af e
  refine⟨dd.typeIs,λb q=>?_,hd⟩
  cases q
  obtain⟨ob,_,_,h1,h2,_⟩:=dd
  exact⟨ob,h1,h2.2.1⟩
 .obtain⟨_,hd,xs,_,dd⟩:=tX I.af e
  refine⟨dd.typeIs,λb q=>?_,hd⟩
  cases q
  obtain⟨ob,_,_,h1,h2,_⟩:=dd
  exact⟨ob,h1,h2.2.1⟩
section
variable {X:Cx}{zz:List (Addr×Obj)}{σ:St}{H:Hp}{s:Shared}{a:Addr}{y d:V}{u r:Value}{o:Option V}{A:Around}{E:Value->Shared->Prop}
theorem Rk {Q:Value->Shared->Prop}(hu:A.units+1<cLine)(I:Inv X zz σ H s)(g:cm H a y o)(ry:RelV y u)(rd:RelV d r)(h:∀w' s',Inv X zz σ H s'->RelV (o.getD d) w'->Q w' s'):
  wpAny (model X.prog X.w) A (call (.builtin "dict.get") [.ref a,u,r]) Q E s:=by
 rcases g with⟨kvs,k,e,ey,l⟩ | ⟨kvs,k,b,e,ey,eb,l⟩
 .subst ey
  obtain⟨z,hd,vs,rel,dd⟩:=nH I.af e
  refine call_meetsIn PySem.F.slot_dict_get dd.typeIs PySem.F.entry_dict_get (PySem.F.args_dict_get_3 _ _ _) (meets_dict_get_default (xH X.prog X.w) a (rR ry) hd r) ⟨_,dd.mapOf,h _ _ (I.tok _) ?_⟩
  rw[l]
  exact(rel.val k).getD rd
 .subst ey
  cases(show u=Value.ref b from ry)
  obtain⟨z,hd,xs,rel,dd⟩:=tX I.af e
  refine call_meetsIn PySem.F.slot_dict_get dd.typeIs PySem.F.entry_dict_get (PySem.F.args_dict_get_3 _ _ _) (meetsH_dict_get_default (tupleKind (xH X.prog X.w)) a b hd r) ⟨tupleKind_room_in1 hu,k,xs,wB I.af eb,dd,h _ _ (I.tok _) ?_⟩
  rw[l]
  exact(rel.val k).getD rd
end
def rT (td ty tx:TE):TE:=λσ H Q=>td σ H λx H1=>∃a,x=.ref a/\LF H1 a/\ty σ H1 λy H2=>tx σ H2 λz H3=>∃o,cm H3 a y o/\Q (o.getD z) H3
section
variable {X:Cx}{o e f:Expr}{apos ay:Pos}{td ty tx:TE}
theorem Rl (hu:X.A.units+1<cLine)(ho:PE X o td)(he:PE X e ty)(hf:PE X f tx)(m:M2 X o "get" apos e f ay):PE X (.Call (.Attribute o "get" apos) [e,f] [] ay) (rT td ty tx):=by
 intro zz s σ H Q I h
 refine wpAny_Call_method m.base m.gR m.line PySem.F.plainAttrs_dict PySem.F.slot_dict_get PySem.F.type_dict_get (aF (ho zz s σ H _ I h) λu s1 ⟨x,H1,I1,rx,a,ex,d,q1⟩=>?_)
 subst ex
 obtain rfl:u=Value.ref a:=rx
 obtain⟨t1,t2,_⟩:=Rj I1 d
 refine⟨t1,t2,?_⟩
 rw[m.trees]
 refine Calls.callWith_builtin rfl (Calls.evalArgs_plain (Calls.spliced_cons (aF (he zz s1 σ H1 _ I1 q1) λiv s2 ⟨y,H2,I2,ry,q2⟩=>
  Calls.spliced_cons (aF (hf zz s2 σ H2 _ I2 q2) λfv s3 ⟨z,H3,I3,rz,ov,g,q3⟩=>Calls.spliced_nil ?_))))
 exact Rk hu I3 g ry rz λw' s4 I4 ma=>⟨_,H3,I4,ma,q3⟩
end
section
variable {X:Cx}{zz:List (Addr×Obj)}{σ:St}{H:Hp}{s:Shared}{a:Addr}{kvs:List (Key×V)}{A:Around}{E:Value->Shared->Prop}
theorem Rm {Q:Value->Shared->Prop}(I:Inv X zz σ H s)(e:Rd H a (.dK kvs))(h:∀p s',H p=none->Inv X zz σ (upd H p (.dK kvs)) s'->Q (.ref p) s'):wpAny (model X.prog X.w) A (call (.type "dict") [.ref a]) Q E s:=by
 obtain⟨z,hd,vs,rel,dd⟩:=nH I.af e
 refine kt_call_dict hd dd (by rw[<- rel.length];exact z) λh' hW hs=>?_
 refine h _ _ (I.af.fresh (yZD _)) (I.laid (a:=s.heap.objs.size) (o:=.dK kvs) (t':=s.toks) (λb q hq=>?_) (yZD _) (Eb z (beq_eq_false_iff_ne.mpr (Ne.symm (yZF I.big))) rel hW))
 exact(hs.2 b (yZF (aG hq))).trans (yYZ _ hq)
end
end L2
namespace LG
open PySem PySem.W PySem.Calls PyProof.Rows
theorem Rn {P:Params}{h:Heap}:∀(ns:List Int) (vs:List Value),WellAll P h vs (ns.map WData.int)->IntsAre vs ns:=by
 intro ns
 induction ns with
 | nil=>
  intro vs w
  rw[List.map_nil] at w
  cases w
  exact .nil
 | cons n ns ih=>
  intro vs w
  rw[Yl] at w
  cases w with
  | cons a b=>
   cases a
   exact .cons _ _ (ih _ b)
theorem Ro {l:OpenLaw}{n:Nat}(hn:l.most=some n){P:Params}{h:Heap}{args:List WData}{vals:List Value}
  (ou:l.row.toRowW.claim.pre args=true) (FF:WellAll P h vals args):
  ∃a vs ns,vals=[Value.ref a]/\args=[WData.list (ns.map WData.int)]/\h.get? a=some { cls:=.type "list",data:=.seq vs.toArray }/\IntsAre vs ns/\ns.length<=n:=by
 have Rp:WShape.hasAll [] args [.list .int]=true:=(pre_splitW ou).1
 have hc:l.pre.holds [] { args:=args }=true:=(pre_splitW ou).2
 obtain⟨d,r,rfl,h1,h2⟩:=hasAllW_cons Rp
 obtain rfl:=hasAllW_nil h2
 obtain⟨xs,rfl,h3⟩:=hasW_list h1
 obtain⟨ns,rfl⟩:=items_int h3
 have hlen:ns.length<=n:=by
  unfold OpenLaw.pre at hc
  have h4:(WTm.not (.lt (.lit (.int (n:Int))) (.len (.arg 0)))).holds [] { args:=[.list (ns.map .int)] }=true:=by
   have h4:=(holds_andW hc).1
   rw[hn] at h4
   exact h4
  have h5:=condW_of h4 (w_not (w_lt w_lit (w_len_list (w_arg rfl))))
  rw[av] at h5
  refine Nat.le_of_not_lt λq=>?_
  have q':(n:Int)<((ns.length:Nat):Int):=by omega
  first
   | (rw[decide_eq_true q'] at h5;exact absurd h5 (by decide))
   | (simp at h5;omega)
 cases FF with
 | cons w1 w2=>
  cases w2
  cases w1 with
  | list ho hall=>exact⟨_,_,ns,rfl,rfl,ho,Rn ns _ hall,hlen⟩
theorem Rq (l:OpenLaw)(args:List WData):l.row.toRowW.claim.post args (.bool true) args=true:=
 postW_of (r:=l.row.toRowW) (X:=(true == true))
  (show WShape.has [] (.bool true) .bool=true by first | rfl | decide | simp[WShape.has,WShape.arms,WShape.armsAll])
  (show(WTm.eq .res (.lit (.bool true))).value [] { args:=args,res:=some (.bool true),after:=args }=some (.bool (true == true)) from w_eq_bool (w_res rfl) w_lit) rfl
theorem gB {l:OpenLaw}{n:Nat}{q:Program}{loose:List Str}{XP:(Str->Option Value)->Heap->Prop}{YP:World->Heap->Prop}{d:DefRec}
  (hn:l.most=some n) (By:d.params.defaults=[])
  (call:∀(w:World) (s₀ s₁:Shared) (mg mb:Str->Option Value) (fa:Addr) (o:Obj) (pm cd doc:Value) (a:Addr) (vs:List Value) (ns:List Int),
   Ground q loose [] XP w s₀ mg mb s₁.heap->YP w s₁.heap->
   s₁.heap.get? fa=some o->o.data=.func (docDef d.name d.params d.body d.scope pm cd doc)->s₁.heap.CodeRec cd d.name->mg d.name=some (.ref fa)->
   s₁.heap.get? a=some { cls:=.type "list",data:=.seq vs.toArray }->IntsAre vs ns->ns.length<=n->s₁.gens=#[]->
   codeAny (model l.prog w) callerA (.call (.ref fa) ⟨[.ref a],[]⟩) (λr s'=>r=.ok (.ret (.bool true))/\OldK s₁.heap s'.heap/\s'.os=s₁.os/\AllBare s'.gens) s₁):
  WalkO q loose XP YP l.row.toRowW d [] (λf vs=>PySem.call f vs):=by
 intro w s₀ s₁ mg mb G Y fa o pm cd doc dV kV ho hd i5 hD hmg hg args vals as ou hlay hrd FF qf
 obtain rfl:dV=.none:=Dflts.none hD By
 obtain rfl:kV=.none:=Dflts.noKw hD
 obtain⟨a,vs,ns,rfl,rfl,rU,hints,hlen⟩:=Ro hn ou FF
 refine enter_call (codeAny_mono (call w s₀ s₁ mg mb fa o pm cd doc a vs ns G Y ho (fd_plain hd) i5 hmg rU hints hlen hg) λr s' hq=>?_)
 obtain⟨rfl,h2,h3,h4⟩:=hq
 exact⟨.inl ⟨.bool true,.bool true,[],rfl,λ_=>rfl,.bool true,Rq l _,λ_=>⟨List.Pairwise.nil,λ_ hm=>(nomatch hm)⟩⟩,h2,h3,h4⟩
section
variable {prog:Program}{w:World}{A:Around}{E:Value->Shared->Prop}{s:Shared}{K:Frag}
end
end LG
namespace L2
open PySem PySem.Spec PyProof.Rows
theorem LH:∀{vs:List Value} {ns:List Int},IntsAre vs ns->Vals (ns.map V.int) vs
 | _,_,.nil=>.nil
 | _,_,.cons n t h=>.cons ⟨t,rfl⟩ (LH h)
def rV (H:Hp):Prop:=∀b,H b=none\/∃o xs,H b=some (.frz o (.lst xs))
theorem Rr {P:Program}{w:World}{K:aq}{mg mb:Str->Option Value}{CX:lH}{k:Nat}{fa a:Addr}{fd:FuncData}{x:Str}{sp:Sp}{s₁:Shared}{vs:List Value}{ns:List Int}
  (KX:K.In s₁.heap) (tY:s₁.heap.Ns Yd mg) (hb:s₁.heap.Ns builtinsNs mb) (Rt:∀x:Str,x ≠ "__name__" -> mb x=bootBuiltins x) (FG:s₁.heap.NoLimit) (hg:s₁.gens=#[])
  (ha:s₁.heap.get? a=some { cls:=.type "list",data:=.seq vs.toArray }) (hi:IntsAre vs ns) (hl:ns.length<=Yc) (hr:aJ k callerA)
  (F:∀base:Heap,K.In base->base.Ns Yd mg->aT P w K mg base CX k fa fd [x] sp) (Bz:∀(s:Shared) (u:Value),BindsTo s fd ⟨[u],[]⟩ [(x,u)])
  (hsp:∀H:Hp,rV H->aj K H a (ns.map V.int)->sp [.ref a] H (λv _=>v=.bl true) λ_ _ _=>False)
  (hCX:∀H e s',CX [] H s₁ (λ_ _ _=>False) e s'->False):
  codeAny (model P w) callerA (.call (.ref fa) ⟨[.ref a],[]⟩) (λr s'=>r=.ok (.ret (.bool true))/\OldK s₁.heap s'.heap/\s'.os=s₁.os/\AllBare s'.gens) s₁:=by
 have rv:=LH hi
 have FH:=hi.length
 have core:∀H:Hp,rV H->aj K H a (ns.map V.int)->ck P w H s₁.heap->(∀b,H b≠none->b=a)->(H a≠none->K.lookup a=none)->
   codeAny (model P w) callerA (.call (.ref fa) ⟨[.ref a],[]⟩) (λr s'=>r=.ok (.ret (.bool true))/\OldK s₁.heap s'.heap/\s'.os=s₁.os/\AllBare s'.gens) s₁:=by
  intro H hO hS af hA hK
  have base_of:∀{b:Addr} {o:Obj},s₁.heap.get? b=some o->H b=none->(fG s₁.heap H).get? b=some o:=λe n=>P' e n
  have noA:∀{b:Addr} {o:Obj} {es:Array DictEntry} {ep:Nat},s₁.heap.get? b=some o->o.data=.dict es ep->H b=none:=λ{b o es ep} e d=>by
   cases q:H b with
   | none=>rfl
   | some u=>
    have e':b=a:=hA b (by rw[q];simp)
    subst e'
    rw[ha] at e;cases e
    have d':Data.seq vs.toArray _=Data.dict es ep:=d
    cases d'
  have Ee:∀{b:Addr} {m:Str->Option Value},s₁.heap.Ns b m->(fG s₁.heap H).Ns b m:=λ{b m} ⟨o,es,ep,e,d,r⟩=>⟨o,es,ep,base_of e (noA e d),d,r⟩
  have LI:K.In (fG s₁.heap H):=λb o e=>base_of (KX b o e) (by
   cases q:H b with
   | none=>rfl
   | some u=>
    have e':b=a:=hA b (by rw[q];simp)
    subst e'
    rw[hK (by rw[q];simp)] at e;cases e)
  have hM:Mod K mg (fG s₁.heap H):=⟨LI,Ee tY,⟨mb,Ee hb,Rt⟩,let ⟨mc,h1,h2⟩:=FG;⟨mc,Ee h1,h2⟩⟩
  have e0:hJ P w K mg (fG s₁.heap H) callerA [] s₁ H:=⟨rfl,hM,λb o e=>⟨(KI e).1,.inl (KI e).2⟩,Nat.le_of_eq (P9 _ _),trivial,λb hb=>absurd (show b∈([]:List Addr) from hb) (by simp),af,.of_eq hg⟩
  refine codeAny_mono ((F _ LI (Ee tY)).run callerA [] s₁ H ⟨[.ref a],[]⟩ [.ref a] [.ref a] _ _ hr e0 (Bz s₁ (.ref a)) (.cons rfl .nil) (hsp H hO hS)) λr s' h=>?_
  cases r with
  | error e=>exact(hCX H e s' h).elim
  | ok fl=>
   cases fl with
   | next=>exact False.elim h
   | brk=>exact False.elim h
   | cont=>exact False.elim h
   | ret u=>
    obtain⟨v,H',os,bare,un,FI,r',q⟩:=h
    have q':v=.bl true:=q
    subst q'
    obtain rfl:u=Value.bool true:=r'
    refine⟨rfl,OldK.of_keep λb o e=>?_,os,bare⟩
    cases q:H b with
    | none=>exact un.keep b o e q (by intro z;exact absurd (show b∈([]:List Addr) from z) (by simp)) (by simp)
    | some u=>
     rcases hO b with z | ⟨ob,xs,z⟩
     .rw[q] at z;cases z
     .have z2:=un.frzs b ob _ z
      obtain⟨e1,_⟩:=af b _ z
      obtain⟨e2,_⟩:=FI b _ z2
      rw[e] at e1;cases e1
      exact e2
 cases hk:K.lookup a with
 | some o=>
  have e:=KX a o hk
  rw[ha] at e
  cases e
  refine core (λ_=>none) (λ_=>.inl rfl) (.inr ⟨_,vs.toArray,_,hk,rfl,rfl,rfl,by rw[dO,FH];exact hl,by simpa using rv⟩) (λb u z=>by have z':(none:Option HO)=some u:=z;cases z') (λb z=>absurd rfl z) λz=>absurd rfl z
 | none=>
  refine core (λb=>if b=a then some (.frz { cls:=.type "list",data:=.seq vs.toArray } (.lst (ns.map V.int))) else none) (λb=>?_) (.inl (.inr ⟨{ cls:=.type "list",data:=.seq vs.toArray },if_pos rfl⟩)) (λb u z=>?_) (λb z=>?_) λ_=>hk
  .by_cases hb:b=a
   .exact .inr ⟨_,_,if_pos hb⟩
   .exact .inl (if_neg hb)
  .by_cases hb:b=a
   .have z':=(if_pos hb).symm.trans z
    cases z'
    subst hb
    exact⟨ha,by rw[av];exact hl,vs,_,rv,ha⟩
   .have z':=(if_neg hb).symm.trans z
    cases z'
  .by_cases hb:b=a
   .exact hb
   .exact absurd (if_neg hb) z
end L2
namespace L2
open PySem PySem.Spec PyProof.Rows
theorem Ru {l:PySem.W.OpenLaw}{n k:Nat}{q:Program}{loose:List Str}{XP:(Str->Option Value)->Heap->Prop}{YP:World->Heap->Prop}{d:DefRec}{K:Params->aq}{CX:World->lH}{sp:World->Sp}{x:Str}
  (hn:l.most=some n) (qa:n<=Yc) (By:d.params.defaults=[]) (hr:aJ k callerA)
  (hY:∀(w:World) (h:Heap),YP w h->(K w.params).In h)
  (F:∀(w:World) (mg:Str->Option Value) (fa:Addr) (h:Heap),(K w.params).In h->h.Ns Yd mg->mg d.name=some (.ref fa)->
   ∃fd:FuncData,(∀(s:Shared) (u:Value),BindsTo s fd ⟨[u],[]⟩ [(x,u)])/\
    ∀base:Heap,(K w.params).In base->base.Ns Yd mg->aT l.prog w (K w.params) mg base (CX w) k fa fd [x] (sp w))
  (hsp:∀(w:World) (H:Hp) (a:Addr) (ns:List Int),ns.length<=n->rV H->aj (K w.params) H a (ns.map V.int)->sp w [.ref a] H (λv _=>v=.bl true) λ_ _ _=>False)
  (hCX:∀(w:World) (H:Hp) (s:Shared) (e:Value) (s':Shared),CX w [] H s (λ_ _ _=>False) e s'->False):
  PySem.W.WalkO q loose XP YP l.row.toRowW d [] (λf vs=>PySem.call f vs):=by
 refine LG.gB hn By λw s₀ s₁ mg mb fa o pm cd doc a vs ns G Y ho hd i5 hmg rU hints hlen hg=>?_
 have KX:=hY w _ Y
 obtain⟨fd,hb,hF⟩:=F w mg fa _ KX G.T.g hmg
 exact Rr KX G.T.g G.T.b G.T.builtins G.T.nolimit hg rU hints (yZJ hlen qa) hr hF hb (λH hO hS=>hsp w H a ns hlen hO hS) λH e s'=>hCX w H s₁ e s'
end L2
namespace L2
open PySem PySem.Spec PyProof.Rows
abbrev eU:lH:=λ_ _ _ _ _ _=>False
abbrev E0:XK:=λ_ _ _=>False
theorem dW {X:Cx}:Passes eU X E0:=λ_ _ _ _ _ _ _ h=>h.elim
structure gC (K:aq)(x qual:Str)(st:Stmt)(f:Addr)(fd:FuncData):Prop where
 ex:∃(oc:Value) (od:Option Addr) (kV doc pm:Value) (an:Option Addr) (zy ct:Value) (l9:Array (Option Value)),
  fd=YE x qual (xD st) (xC st) (xB st) .none kV doc pm an zy ct/\K.lookup f=some ⟨oc,od,.func fd,l9⟩/\PySem.W.codeIn K zy qual=true
 kp:PySem.W.keepIn K (.ref f)=true
section
variable {P:Program}{w:World}{K:aq}{mg:Str->Option Value}{base:Heap}
theorem gC.ok {x qual:Str}{st:Stmt}{f:Addr}{fd:FuncData}{N ps:List Str}{k:Nat}{sp:Sp}(F:gC K x qual st f fd)(S:xI N ps (xB st))(len:∀vs H Q E,sp vs H Q E->vs.length=ps.length)
  (cC:∀(zy:Value) (A:Around) (outer:List Env) (s:Shared) (H:Hp) (vs:List V) (Q:VK) (E:XK),aJ k (A.deeper (envOfC qual (xB st) s.heap.objs.size f zy))->sp vs H Q E->
   ∃t,dR (aU eU P w K mg base N qual (xB st) f zy A outer s H E).lE (xC st) t/\t { nx:=λ_ H'=>Q .non H',rt:=Q } (start N vs) H):aT P w K mg base eU (k+1) f fd ps sp:=by
 obtain⟨oc,od,kV,doc,pm,an,zy,ct,l9,rfl,lk,i5⟩:=F.ex
 refine Lh lk i5 S len λA outer s H vs Q E hr hsp=>?_
 obtain⟨t,h,q⟩:=cC zy A outer s H vs Q E hr hsp
 exact⟨t,h.lE,q⟩
theorem gC.binds {x qual:Str}{st:Stmt}{f:Addr}{fd:FuncData}{ps:List Str}(F:gC K x qual st f fd)
  (h:∀(kV doc pm:Value) (an:Option Addr) (zy ct:Value) (us:List Value),us.length=ps.length->bindArgs (YE x qual (xD st) (xC st) (xB st) .none kV doc pm an zy ct) ⟨us,[]⟩=pure (ps.zip us)):Binds K fd ps []:=by
 obtain⟨oc,od,kV,doc,pm,an,zy,ct,l9,rfl,lk,i5⟩:=F.ex
 exact .all (h kV doc pm an zy ct)
theorem FJ {x qual:Str}{st:Stmt}{f:Addr}{oc:Value}{od an:Option Addr}{l9:Array (Option Value)}{kV doc pm zy ct:Value}(l:K.lookup f=some ⟨oc,od,.func (YE x qual (xD st) (xC st) (xB st) .none kV doc pm an zy ct),l9⟩)
  (c:PySem.W.codeIn K zy qual=true) (k:PySem.W.keepIn K (.ref f)=true):gC K x qual st f (YE x qual (xD st) (xC st) (xB st) .none kV doc pm an zy ct):=⟨⟨oc,od,kV,doc,pm,an,zy,ct,l9,rfl,l,c⟩,k⟩
end
theorem nJ {A:Around}{k:Nat}(hr:aJ k A):A.units+1<cLine:=pS (Nat.add_le_add_left (by decide:1<=64) _) hr.units
section
variable {X:Cx}
theorem pv (i:Nat){x:Str}{pos:Pos}(hN:X.N[i]? = some x:=by rfl)(hv:Fg X.env.scope x:=by first | exact Or.inl rfl | exact Or.inr (Or.inl rfl) | exact Or.inr (Or.inr rfl))(hd:(x == ("__debug__" : Str))=false:=by decide)
  (i5:(x == ("__classdict__" : Str))=false:=by decide):PE X (.Name x pos) (eS i):=Qa hN hv hd i5
end
theorem bO {A B:Prop}(h:B):if false=true then A else B:=by
 rw[if_neg cj]
 exact h
theorem bz {A B:Prop}(h:A):if true=true then A else B:=by
 rw[if_pos rfl]
 exact h
theorem i8 {c A B:Prop}[Decidable c](h1:c->A)(h2:¬c->B):if c then A else B:=by
 by_cases h:c
 .rw[if_pos h]
  exact h1 h
 .rw[if_neg h]
  exact h2 h
def aa (H H':Hp):Prop:=∀b o,H b=some o->H' b=some o
theorem aa.refl (H:Hp):aa H H:=λ_ _ h=>h
theorem aa.trans {H H1 H2:Hp}(a:aa H H1)(b:aa H1 H2):aa H H2:=λc o h=>b c o (a c o h)
theorem aa.free {H H':Hp}(e:aa H H'){l:Addr}(h:H' l=Option.none):H l=Option.none:=by
 cases q:H l with
 | none=>rfl
 | some o=>
  rw[e l o q] at h
  cases h
theorem aa.seq {K:aq}{H H':Hp}{a:Addr}{xs:List V}(e:aa H H')(h:aj K H a xs):aj K H' a xs:=by
 rcases h with(h | ⟨o,h⟩) | h
 .exact .inl (.inl (e _ _ h))
 .exact .inl (.inr ⟨o,e _ _ h⟩)
 .exact .inr h
end L2
namespace L2
open PySem PySem.Spec PyProof.Rows
section
variable {X:Cx}
theorem LJ:aL X (.builtin "len") (λxs H Q=>∃a kvs,xs=[V.ref a]/\H a=some (.dK kvs)/\Q (.int kvs.length) H):=by
 intro zz s σ H xs us Q I r h
 obtain⟨a,kvs,rfl,ha,q⟩:=h
 obtain⟨u,rfl,ru⟩:=vals1 r
 cases ru
 exact Q9 I (.inl ha) λt s' I'=>⟨.int kvs.length,H,I',⟨t,rfl⟩,q⟩
end
end L2
namespace L2
open PySem PySem.Spec PyProof.Rows
theorem wK {scope:Scope}{env:Env}(h:∀p∈scope.names,p.2=.free->∃c,env.cells.lookup p.1=some c):
  ∃cl,closureFor scope env=pure cl/\(∀x c,cl.lookup x=some c->env.cells.lookup x=some c)/\(∀p∈scope.names,p.2=.free->∃c,cl.lookup p.1=some c):=by
 have key:∀(names:List (Str×NameKind)) (acc:List (Str×Addr)),(∀p∈names,p.2=.free->∃c,env.cells.lookup p.1=some c)->(∀x c,acc.lookup x=some c->env.cells.lookup x=some c)->
   ∃cl,(forIn names acc (λ(x:Str×NameKind) (r:List (Str×Addr))=>(if (x.2 == NameKind.free)=true then (do let a <- cellOf env x.1;pure (ForInStep.yield ((x.1,a)::r))) else pure (ForInStep.yield r):Sem (ForInStep (List (Str×Addr))))):Sem (List (Str×Addr)))=pure cl/\
    (∀x c,cl.lookup x=some c->env.cells.lookup x=some c)/\(∀x c,acc.lookup x=some c->∃c,cl.lookup x=some c)/\(∀p∈names,p.2=.free->∃c,cl.lookup p.1=some c):=by
  intro names
  induction names with
  | nil=>intro acc _ ha;exact⟨acc,rfl,ha,λx c e=>⟨c,e⟩,λp hp=>by cases hp⟩
  | cons p r ih=>
   intro acc hn ha
   obtain⟨n,k⟩:=p
   by_cases hk:k=.free
   .subst hk
    obtain⟨c,hc⟩:=hn (n,.free) aW rfl
    have Rv:∀x d,((n,c)::acc).lookup x=some d->env.cells.lookup x=some d:=λx d e=>by
     rw[List.lookup_cons] at e
     cases hx:x == n with
     | true=>rw[hx] at e;cases e;rw[eq_of_beq hx];exact hc
     | false=>rw[hx] at e;exact ha x d e
    obtain⟨cl,e,h1,h2,h3⟩:=ih ((n,c)::acc) (λp hp=>hn p (yYH _ hp)) Rv
    have iI:cellOf env n=pure c:=by unfold cellOf;rw[hc]
    refine⟨cl,?_,h1,λx d ex=>?_,λp hp hf=>?_⟩
    .rw[List.forIn_cons]
     show(if (NameKind.free == NameKind.free)=true then (do let a <- cellOf env n;pure (ForInStep.yield ((n,a)::acc))) else _) >>= _=_
     rw[if_pos (show(NameKind.free == NameKind.free)=true from rfl),iI]
     exact e
    .cases hx:x == n with
     | true=>exact h2 x c (by rw[List.lookup_cons,hx])
     | false=>exact h2 x d (by rw[List.lookup_cons,hx];exact ex)
    .rcases aE.mp hp with rfl | hp
     .exact h2 n c (by rw[List.lookup_cons,beq_self_eq_true])
     .exact h3 p hp hf
   .obtain⟨cl,e,h1,h2,h3⟩:=ih acc (λp hp=>hn p (yYH _ hp)) ha
    refine⟨cl,?_,h1,h2,λp hp hf=>?_⟩
    .rw[List.forIn_cons]
     show(if (k == NameKind.free)=true then _ else _) >>= _=_
     rw[if_neg (by simpa using hk)]
     exact e
    .rcases aE.mp hp with rfl | hp
     .exact absurd hf hk
     .exact h3 p hp hf
 obtain⟨cl,e,h1,_,h3⟩:=key scope.names [] h (λx c e=>by cases e)
 refine⟨cl,?_,h1,h3⟩
 show(forIn scope.names [] _ >>= λr=>pure r)=pure cl
 rw[bind_pure]
 exact e
theorem jS {α:Type}(x:Str)(k:α)(l:List (Str×α)):List.lookup x ((x,k)::l)=some k:=by rw[List.lookup_cons,beq_self_eq_true]
theorem jY {α:Type}{x n:Str}(k:α)(l:List (Str×α))(h:(x == n)=false):List.lookup x ((n,k)::l)=List.lookup x l:=by rw[List.lookup_cons,h]
theorem yF {env:Env}{x:Str}:∀(names:List (Str×NameKind)),
  (names.map λ(n,k)=>if (k == NameKind.free && env.scope.kind == .function && env.kindOf n == some .cell) then (n,NameKind.cell) else (n,k)).lookup x=
   (names.lookup x).map λk=>if (k == NameKind.free && env.scope.kind == .function && env.kindOf x == some .cell) then NameKind.cell else k
 | []=>rfl
 | (n,k)::r=>by
  have ih:=@yF env x r
  show List.lookup x ((if (k == NameKind.free && env.scope.kind == .function && env.kindOf n == some .cell)=true then (n,NameKind.cell) else (n,k))::_)=_
  cases hx:x == n with
  | true=>
   have e:x=n:=eq_of_beq hx
   subst e
   rw[jS]
   by_cases hc:(k == NameKind.free && env.scope.kind == .function && env.kindOf x == some .cell)=true
   .rw[if_pos hc,jS]
    show _=some (if (k == NameKind.free && env.scope.kind == .function && env.kindOf x == some .cell)=true then NameKind.cell else k)
    rw[if_pos hc]
   .rw[if_neg hc,jS]
    show _=some (if (k == NameKind.free && env.scope.kind == .function && env.kindOf x == some .cell)=true then NameKind.cell else k)
    rw[if_neg hc]
  | false=>
   rw[jY _ _ hx]
   by_cases hc:(k == NameKind.free && env.scope.kind == .function && env.kindOf n == some .cell)=true
   .rw[if_pos hc,jY _ _ hx];exact ih
   .rw[if_neg hc,jY _ _ hx];exact ih
def gS (X:Cx)(scope:Scope)(cl:List (Str×Addr))(N:List Str)(fp:List Addr)(s:Shared)(H:Hp):Cx where
 prog:=X.prog
 w:=X.w
 K:=X.K
 mg:=X.mg
 base:=X.base
 A:=X.A
 N:=N
 s₀:=s
 H₀:=H
 env:=compEnvC scope cl s.heap.objs.size X.env
 outer:=X.stack
 stack:=X.stack
 ex:=fp
 fn:=λ_=>false
 calm:=X.calm
 pn:=[]
 xe:=λ_ _=>False
def rW (X:Cx)(ifs:List Expr)(t:TT):Prop:=
 ∀(zz:List (Addr×Obj)) (s:Shared) (σ:St) (H:Hp) (Q:Bool->Hp->Prop),Inv X zz σ H s->t σ H Q->
  wpAny (model X.prog X.w) X.A (forIn ifs true λc r=>if r=true then do let ok <- isTrue c X.env (eval c X.env);pure (ForInStep.yield ok) else pure (ForInStep.yield r)) (TP X zz σ Q) X.xe s
def gD:TT:=λ_ H Q=>Q true H
theorem zH {X:Cx}:rW X [] gD:=λ_ _ _ H _ I h=>wpAny_tests_nil ⟨H,I,h⟩
theorem LK {X:Cx}{c:Expr}{t:TT}(h:PT X c t):rW X [c] t:=λzz s σ H Q I q=>wpAny_tests_one (h zz s σ H Q I q)
def frees (js:List Nat)(σ:St):St:=js.map λj=>σ.getD j none
abbrev stC (k:Nat)(js:List Nat)(σ:St):St:=Yg k none++frees js σ
def fM (k:Nat)(js:List Nat)(g:TG)(tt:TT)(te:TE)(J:It)(σ:St)(H1:Hp)(Q:VK):Prop:=∀D,H1 D=none->
 ∃W:Nat->Nat->List V->Hp->Prop,(∃m,W 0 m [] (upd H1 D (.lst [])))/\∀i m ys H2,W i m ys H2->H2 D=some (.lst ys)/\
  ((J.stop i H2/\Q (.ref D) H2)\/(J.go i H2/\∀x H3,J.lY i H2 x H3->g x (stC k js σ) H3 λσ4 H4=>(∃ow:St,ow.length=k/\σ4=ow++frees js σ)/\
   tt σ4 H4 λb H5=>if b=true then te σ4 H5 λy H6=>H6 D=some (.lst ys)/\ys.length<Yc/\∃m',m'<m/\W (i+1) m' (ys++[y]) (upd H6 D (.lst (ys++[y])))
    else ∃m',m'<m/\W (i+1) m' ys H5))
def iL (k:Nat)(js:List Nat)(wi:TI)(g:TG)(tt:TT)(te:TE):TE:=λσ H Q=>wi σ H λJ H1=>fM k js g tt te J σ H1 Q
structure aA (sc:Scope)(N0:List Str)(scope:Scope)(N:List Str)(k:Nat)(js:List Nat):Prop where
 kind:scope.kind=.function
 cell:∀y∈scope.names,y.2≠.cell
 names:∀y∈scope.names,y.2=.local->scope.names.lookup y.1=some .local
 free:∀p∈scope.names,p.2=.free->sc.names.lookup p.1=some .cell\/sc.names.lookup p.1=some .free
 fn:∀x∈N.drop k,scope.names.lookup x=some .free
 at':js.map (λj=>N0[j]?)=(N.drop k).map some
 le:k<=N.length
 nd:N.Nodup
theorem zS {names:List (Str×NameKind)}{x:Str}{k:NameKind}(h:names.lookup x=some k):(x,k)∈names:=PySem.mem_of_lookup h
section
variable {X:Cx}{elt tg iter:Expr}{ifs:List Expr}{scope:Scope}{ay:Pos}{N:List Str}{k:Nat}{js:List Nat}{cl:List (Str×Addr)}{g:TG}{tt:TT}{te:TE}
theorem Rx {zz:List (Addr×Obj)}{σ:St}{H:Hp}{s:Shared}{fp:List Addr}{h₁:Heap}{t':Nat}{m:Str->Option Value}(C:aA X.env.scope X.N scope N k js)
  (bM:∀x c,cl.lookup x=some c->X.env.cells.lookup x=some c) (hcl2:∀p∈scope.names,p.2=.free->∃c,cl.lookup p.1=some c)
  (I:Inv X zz σ H s) (f2:∀b∈fp,cL X zz H b) (flt:∀b∈fp,b<s.heap.objs.size) (tY:h₁.Ns s.heap.objs.size m) (keep:∀b o,s.heap.get? b=some o->h₁.get? b=some o):
  Inv (gS X scope cl N fp s H) [] (stC k js σ) H { s with heap:=h₁,toks:=t' }:=by
 have mh:∀x,(gS X scope cl N fp s H).env.kindOf x=(scope.names.lookup x).map λk=>if (k == NameKind.free && X.env.scope.kind == .function && X.env.kindOf x == some .cell) then NameKind.cell else k:=λx=>yF scope.names
 have fN:∀x,((gS X scope cl N fp s H).env.kindOf x=some .cell\/(gS X scope cl N fp s H).env.kindOf x=some .free)->scope.names.lookup x=some .free:=λx hx=>by
  rw[mh x] at hx
  cases e:scope.names.lookup x with
  | none=>rw[e] at hx;rcases hx with hx | hx <;> cases hx
  | some kd=>
   rw[e] at hx
   by_cases hk:kd=.free
   .rw[hk]
   .have FK:(kd == NameKind.free)=false:=by simpa using hk
    rw[nV,FK,Bool.false_and,Bool.false_and,if_neg cj] at hx
    rcases hx with hx | hx
    .exact absurd (Option.some.inj hx) (C.cell _ (zS e))
    .exact absurd (Option.some.inj hx) hk
 have FL:∀x c,cl.lookup x=some c->c<s.heap.objs.size:=λx c e=>by
  obtain⟨v,z⟩:=I.cell x c (bM x c e)
  exact z.lt
 have ok:(gS X scope cl N fp s H).Ok:=
  {mod:=I.ok.mod
   kind:=by show(relabel scope X.env).kind=_;exact C.kind
   glob:=I.ok.glob
   blt:=I.ok.blt
   above:=yZD _
   inj:=λx y c e1 e2=>I.ok.inj x y c (bM x c e1) (bM y c e2)
   has:=λx hx=>hcl2 (x,.free) (zS (fN x hx)) rfl
   nX:=λx c z=>by cases z
   hd:=I.ok.hd
   frames:=I.ok.frames
   nB:=.inl rfl
   A3:=λb hb=>⟨yZF (flt b hb),λx c e=>(f2 b hb).2.2.2.2.1 x c (bM x c e)⟩
   bs:=λb o e=>I.bs b o e
   lA:=yZJ I.ok.lA I.sz
   fH:=λb o e hb=>by
    rcases(f2 b hb).2.2.2.1 with z | z
    .exact I.ok.fH b o e z
    .exact absurd (yZE (aG (I.ok.bs b o e).1) z) (Nat.lt_irrefl _)
   gY:=λb hb z=>by
    rcases aE.mp (I.stkSub b z) with q | q
    .exact(f2 b hb).2.1 q
    .exact(f2 b hb).2.2.1 q
   cX:=I.stack
   nE:=I.bV }
 have hlen:(stC k js σ).length=N.length:=by
  have q:=congrArg List.length C.at'
  rw[av,av,Yo] at q
  have:=C.le
  show(Yg k none++frees js σ).length=N.length
  rw[bK,Yj,frees,av]
  omega
 refine⟨ok,rfl,I.bare,Un.kept keep,⟨m,tY,λi x v e1 e2 e3=>?_⟩,λx c e=>?_,I.af.fresh (yZD _),λx c e=>I.bq x c (bM x c e),λp hp=>absurd (show p∈([]:List (Addr×Obj)) from hp) (by simp),I.af.kept keep,hlen⟩
 .have e1:N[i]? = some x:=e1
  have BA:k<=i:=by
   by_cases BA:k<=i
   .exact BA
   .have de:(Yg k (none:Option V)++frees js σ)[i]? = some (some v):=e2
    rw[Yr (by rw[Yj];omega),List.getElem?_replicate] at de
    split at de <;> cases de
  obtain⟨d,rfl⟩:∃d,i=k+d:=⟨i - k,by omega⟩
  have de:(Yg k (none:Option V)++frees js σ)[k+d]? = some (some v):=e2
  rw[Yi (by rw[Yj];omega),Yj,Nat.add_sub_cancel_left,frees,bb] at de
  have ed:(N.drop k)[d]? = some x:=by rw[List.getElem?_drop];exact e1
  cases ej:js[d]? with
  | none=>rw[ej] at de;cases de
  | some j=>
   rw[ej] at de
   have ev:σ.getD j none=some v:=Option.some.inj de
   have FN:X.N[j]? = some x:=by
    have q:=congrArg (λl=>l[d]?) C.at'
    simp only[bb,ej,ed,nV] at q
    exact Option.some.inj q
   have eσ:σ[j]? = some (some v):=by
    rw[Yh] at ev
    cases z:σ[j]? with
    | none=>rw[z] at ev;cases ev
    | some w=>rw[z] at ev;exact congrArg some ev
   have ox:scope.names.lookup x=some .free:=C.fn x (bw ed)
   have hX:X.env.scope.names.lookup x=some .cell\/X.env.scope.names.lookup x=some .free:=C.free (x,.free) (zS ox) rfl
   obtain⟨mX,_,lX⟩:=I.loc
   obtain⟨u,ru,lu⟩:=lX j x v FN eσ (hX.elim (λz=>.inr (.inl z)) λz=>.inr (.inr z))
   refine⟨u,ru,.inr ⟨?_,?_⟩⟩
   .rw[mh x,ox]
    show some (if _ then _ else _)=_\/some (if _ then _ else _)=_
    split
    .exact .inl rfl
    .exact .inr rfl
   .rcases lu with⟨z,_⟩ | ⟨_,c,ec,ic⟩
    .have z:X.env.scope.names.lookup x=some .local:=z
     rcases hX with q | q <;> rw[q] at z <;> cases z
    .obtain⟨c',BB⟩:=hcl2 (x,.free) (zS ox) rfl
     have:c'=c:=Option.some.inj ((bM x c' BB).symm.trans ec)
     subst this
     obtain⟨o,ho,hd⟩:=ic
     exact⟨c',BB,o,keep _ _ ho,hd⟩
 .obtain⟨v,o,ho,hd⟩:=I.cell x c (bM x c e)
  exact⟨v,o,keep _ _ ho,hd⟩
theorem LL {zz:List (Addr×Obj)}{σ:St}{H2:Hp}{s2:Shared}{E:Value->Shared->Prop}{it:Addr}{fp:List Addr}{tn:Nat->Heap->Prop}{J:It}{Q:VK}{RR:Value->Addr->Result->Shared->Prop}
  (hc:X.calm=true) (C:aA X.env.scope X.N scope N k js) (bM:∀x c,cl.lookup x=some c->X.env.cells.lookup x=some c) (hcl2:∀p∈scope.names,p.2=.free->∃c,cl.lookup p.1=some c)
  (hg:∀fp s H,PG (gS X scope cl N fp s H) tg g) (ht:∀fp s H,rW (gS X scope cl N fp s H) ifs tt) (he:∀fp s H,PE (gS X scope cl N fp s H) elt te)
  (I:Inv X zz σ H2 s2) (T:Turn X.prog X.w X.K tg J fp it tn) (st:tn 0 s2.heap) (f2:∀b∈fp,cL X zz H2 b) (rd:fM k js g tt te J σ H2 Q)
  (fin:∀D L H' s',Inv X zz σ H' s'->cL X zz H' L->(∃m,s'.heap.Ns L m)->Q (.ref D) H'->RR (.ref D) L (.ok .next) s'):
  wpAny (model X.prog X.w) X.A (newList []) (λacc s₃=>wpAny (model X.prog X.w) X.A (newFunctionEnv scope X.env.globals cl [] X.env.qual none .none (some X.env)) (λmj s₄=>
   codeAny (model X.prog X.w) X.A (.compStart (.ListComp elt [⟨tg,iter,ifs,0⟩] scope ay) 0 (.ref it) acc { mj with scope:=relabel scope X.env }) (RR acc mj.locals) s₄) E s₃) E s2:=by
 refine wpAny_newObj_type (wpAny_newFunctionEnv C.cell (by intro y hy;simp at hy) (λh₁ hns₁ hsb₁=>?_) C.kind)
 dsimp only at hns₁ hsb₁ ⊢
 have hD:H2 s2.heap.objs.size=none:=I.af.fresh (yZD _)
 have Id:Inv X zz σ (upd H2 s2.heap.objs.size (.lst [])) { s2 with heap:=s2.heap.push { cls:=.type "list",dict:=none,data:=.seq ([]:List Value).toArray } }:=
  I.laid (t':=s2.toks) (λb u e=>yYZ _ e) (yZD _) ⟨yZG _,[],0,.nil,bg _ rfl⟩
 have kD:∀b o,s2.heap.get? b=some o->(s2.heap.push { cls:=.type "list",dict:=none,data:=.seq ([]:List Value).toArray }).get? b=some o:=λb o e=>yYZ _ e
 generalize FO:s2.heap.push { cls:=.type "list",dict:=none,data:=.seq ([]:List Value).toArray }=Hd at hns₁ hsb₁ Id kD ⊢
 have Ry:Hd.objs.size=s2.heap.objs.size+1:=by rw[<- FO,gj]
 have keep:∀b o,Hd.get? b=some o->h₁.get? b=some o:=λb o e=>hsb₁.extBut b o (yZF (aG e)) (yYZ _ e)
 have gE:∀b∈fp,b<s2.heap.objs.size:=λb hb=>by
  obtain⟨o,e,_⟩:=T.obj _ _ st b hb
  exact aG e
 have fd:∀b∈fp,cL X zz (upd H2 s2.heap.objs.size (.lst [])) b:=λb hb=>
  ⟨by rw[qB (yZF (gE b hb))];exact(f2 b hb).1,(f2 b hb).2⟩
 obtain⟨W,⟨m0,w0⟩,turn⟩:=rd _ hD
 generalize hY:gS X scope cl N fp { s2 with heap:=Hd } (upd H2 s2.heap.objs.size (.lst []))=Y
 have hg:=hg fp { s2 with heap:=Hd } (upd H2 s2.heap.objs.size (.lst []))
 have ht:=ht fp { s2 with heap:=Hd } (upd H2 s2.heap.objs.size (.lst []))
 have he:=he fp { s2 with heap:=Hd } (upd H2 s2.heap.objs.size (.lst []))
 have loop:∀s₃:Shared,s₃={ s2 with heap:=h₁,toks:=s2.toks+([]:List (Str×Value)).length }->
   codeAny (model X.prog X.w) X.A (.compLoop (.ListComp elt [⟨tg,iter,ifs,0⟩] scope ay) 0 (.ref it) (.ref s2.heap.objs.size) (compEnvC scope cl Hd.objs.size X.env))
    (RR (.ref s2.heap.objs.size) Hd.objs.size) s₃:=by
  rintro s₃ rfl
  have IY:Inv Y [] (stC k js σ) (upd H2 s2.heap.objs.size (.lst [])) { s2 with heap:=h₁,toks:=s2.toks+([]:List (Str×Value)).length }:=by
   rw[<- hY]
   exact Rx (t':=s2.toks+([]:List (Str×Value)).length) C bM hcl2 Id fd (λb hb=>yZE (gE b hb) (by show s2.heap.objs.size<=Hd.objs.size;omega)) hns₁ keep
  rw[hY] at hg ht he
  have df:Y.prog=X.prog:=by rw[<- hY];rfl
  have yw:Y.w=X.w:=by rw[<- hY];rfl
  have yK:Y.K=X.K:=by rw[<- hY];rfl
  have yA:Y.A=X.A:=by rw[<- hY];rfl
  have yc:Y.calm=true:=by rw[<- hY];exact hc
  have dX:Y.env=compEnvC scope cl Hd.objs.size X.env:=by rw[<- hY];rfl
  have FQ:Y.xe=λ_ _=>False:=by rw[<- hY];rfl
  have mm:∀{pn σ' H' s'},Inv Y pn σ' H' s'->Un (bG X.stack) fp (upd H2 s2.heap.objs.size (.lst [])) H' Hd s'.heap/\s'.os=s2.os:=λ{pn σ' H' s'} J=>by
   have u:=J.base
   have o:=J.os
   rw[<- hY] at u o
   exact⟨u,o⟩
  have dY:∀{H':Hp},(∀b∈fp,H' b=none)->∀b∈fp,cL Y [] H' b:=λ{H'} hn b hb=>by
   rw[<- hY]
   refine⟨hn b hb,yZF (yZE (gE b hb) (by show s2.heap.objs.size<=Hd.objs.size;omega)),?_,.inl hb,λx c e=>(f2 b hb).2.2.2.2.1 x c (bM x c e),λp hp=>absurd (show p∈([]:List (Addr×Obj)) from hp) (by simp)⟩
   intro z
   rcases aE.mp (I.stkSub b z) with q | q
   .exact(f2 b hb).2.1 q
   .exact(f2 b hb).2.2.1 q
  have st₁:tn 0 h₁:=T.keep _ _ _ st λb hb o e=>keep b o (kD b o e)
  refine codeAny_loop rfl (λn s'=>∃i ys H',Inv Y [] (stC k js σ) H' s'/\tn i s'.heap/\(∀b∈fp,H' b=none)/\W i n ys H') ?_ m0 ⟨0,[],_,IY,st₁,λb hb=>(fd b hb).1,w0⟩
  rintro n s3 ⟨i,ys,H3,I3,p7,p8,w3⟩
  show wpAny _ X.A ((compTurn (.ListComp elt [⟨tg,iter,ifs,0⟩] scope ay) 0 (.ref it) (.ref s2.heap.objs.size) (compEnvC scope cl Hd.objs.size X.env)).onRaise (λx=>do noteFrame x (compEnvC scope cl Hd.objs.size X.env);theTreesLotGoes x)) _ _ s3
  refine wpAny_noted ?_
  rw[compTurn_list]
  obtain⟨Rz,tr⟩:=turn i n ys H3 w3
  have oy:∀{α:Type} {t:Sem α} {R R':α->Shared->Prop} {E':Value->Shared->Prop} {s:Shared},wpAny (model Y.prog Y.w) Y.A t R Y.xe s->(∀a s,R a s->R' a s)->wpAny (model X.prog X.w) X.A t R' E' s:=λ{α t R R' E' s} h hQ=>by
   rw[df,yw,yA,FQ] at h
   exact wpAny_mono h hQ λ_ _ z=>z.elim
  rcases tr with⟨stop,qn⟩ | ⟨go,step⟩
  .refine yYX (wpAny_standAt (yYX ?_))
   have dn:=T.done Y df yw yK yc i [] s3 (stC k js σ) H3 (λ_ _=>False) I3 (dY p8) p7 stop
   rw[yA] at dn
   refine wpAny_mono dn (λr s4 ⟨hr,I4⟩=>?_) λ_ _ z=>z.elim
   subst hr
   obtain⟨u4,o4⟩:=mm I4
   refine yYY (fin _ _ H3 s4 ?_ ?_ ?_ qn)
   .refine I.call' (ch:=fp) o4 ((Un.laid (λb o e=>kD b o e) (yZD _) hD).trans u4) (by have:=I4.af;rw[df,yw] at this;exact this) I4.bare λb hb=>?_
    obtain⟨_,q1,q2,q3,q4,q5⟩:=f2 b hb
    exact⟨q3,q1,q4,q5⟩
   .refine I.fpOk (by show s2.heap.objs.size<=Hd.objs.size;omega) ?_
    have:=I4.free
    rw[dX] at this
    exact this
   .obtain⟨m,hn,_⟩:=I4.loc
    rw[dX] at hn
    exact⟨m,hn⟩
  .refine yYX (wpAny_standAt (yYX ?_))
   have BC:=T.item Y df yw yK yc i [] s3 (stC k js σ) H3 (λ_ _=>False) I3 (dY p8) p7 go
   rw[yA] at BC
   refine wpAny_mono BC (λr s4 ⟨u,hr,h4⟩=>?_) λ_ _ z=>z.elim
   subst hr
   refine yYX (wpAny_mono h4 (λ_ s5 ⟨x,H5,I5,r5,y5,l4,Bh⟩=>?_) λ_ _ z=>z.elim)
   have Bi:=I5.pinned (dY Bh) (T.obj _ _ l4)
   have as:=hg _ s5 (stC k js σ) H5 x u _ Bi r5 (step x H5 y5)
   rw[dX] at as
   refine yYX (oy as λ_ s6 ⟨σ6,H6,I6,⟨ow,BD,e6⟩,q6⟩=>?_)
   have again:∀{H7:Hp} {s7:Shared} {zs:List V},Inv Y ([]++cw fp s5.heap) σ6 H7 s7->(∃m',m'<n/\W (i+1) m' zs H7)->
     ∃m,m<n/\∃i ys H',Inv Y [] (stC k js σ) H' s7/\tn i s7.heap/\(∀b∈fp,H' b=none)/\W i m ys H':=λ{H7 s7 zs} I7 ⟨m',hm,w7⟩=>by
    have J7:Inv Y ([]++cw fp s5.heap) (stC k js σ) H7 s7:=by
     refine I7.weak ?_ λj v e=>?_
     .rw[e6]
      show(Yg k none++frees js σ).length=_
      rw[bK,bK,Yj,BD]
     .have e:(Yg k (none:Option V)++frees js σ)[j]? = some (some v):=e
      rw[e6]
      by_cases hj:j<k
      .rw[Yr (by rw[Yj];exact hj),List.getElem?_replicate] at e
       split at e <;> cases e
      .rw[Yi (by rw[Yj];omega),Yj] at e
       rw[Yi (by omega),BD]
       exact e
    refine⟨m',hm,i+1,zs,H7,J7.cy,T.keep _ _ _ l4 λb hb o e=>(I7.pin (b,o) (fE _ (fE _ (yJ hb e)))).1,λb hb=>?_,w7⟩
    obtain⟨o,e,d⟩:=T.obj _ _ l4 b hb
    exact(I7.pin (b,o) (fE _ (fE _ (yJ hb e)))).2.1
   have BE:=ht _ s6 σ6 H6 _ I6 q6
   rw[dX] at BE
   refine yYX (oy BE λb s7 ⟨H7,I7,q7⟩=>?_)
   cases b with
   | false=>exact yYY ⟨rfl,again I7 q7⟩
   | true=>
    have ev:=he _ s7 σ6 H7 _ I7 q7
    rw[dX] at ev
    refine yYX (yYX (oy ev λv s8 ⟨y,H8,I8,r8,q8,z8,w8⟩=>?_))
    refine yYX (oy (zR (X:=Y) _ s8 σ6 H8 (.ref s2.heap.objs.size) [y] (.ref s2.heap.objs.size) [v] (λ_ H9=>H9=upd H8 s2.heap.objs.size (.lst (ys++[y]))) I8 rfl (.cons r8 .nil) ⟨_,ys,y,rfl,rfl,q8,z8,rfl⟩) λ_ s9 ⟨_,H9,I9,_,e9⟩=>?_)
    subst e9
    exact yYY (yYY ⟨rfl,again I9 w8⟩)
 exact codeAny_compStart_list (loop _ rfl) (T.self _ 0 _ _ _ (T.keep _ _ _ st λb hb o e=>keep b o (kD b o e)) (loop _ rfl))
theorem LM {zz:List (Addr×Obj)}{σ:St}{H:Hp}{s:Shared}(I:Inv X zz σ H s)(C:aA X.env.scope X.N scope N k js):∀p∈scope.names,p.2=.free->∃c,X.env.cells.lookup p.1=some c:=
 λp hp hf=>I.ok.has p.1 (C.free p hp hf)
theorem jZ {wi:TI}{sc:Scope}{N0:List Str}(hc:X.calm=true)(C:aA sc N0 scope N k js)(hi:PI X tg iter wi)
  (hg:∀cl fp s H,PG (gS X scope cl N fp s H) tg g) (ht:∀cl fp s H,rW (gS X scope cl N fp s H) ifs tt) (he:∀cl fp s H,PE (gS X scope cl N fp s H) elt te)
  (hs:∀x,foldedSetIterable iter X.env x=pure x:=by intro _;rfl) (BF:X.env.scope=sc:=by rfl) (BG:X.N=N0:=by rfl):PE X (.ListComp elt [⟨tg,iter,ifs,0⟩] scope ay) (iL k js wi g tt te):=by
 subst BF BG
 intro zz s σ H Q I h
 obtain⟨cl,e,h1,h2⟩:=wK (LM I C)
 rw[eval_ListComp]
 refine wpAny_comprehension_free (use:=none) rfl hs e C.kind C.names (aF (hi zz s σ H _ I h) λv s1 q=>aF q λBe s2 q2=>?_)
 obtain⟨it,fp,tn,J,H2,rfl,I2,T,st,f2,rd⟩:=q2
 refine LL (RR:=λacc L=>compPost (model X.prog X.w) X.A X.xe none (EP X zz σ Q) acc L) hc C h1 h2 (hg cl) (ht cl) (he cl) I2 T st f2 rd ?_
 intro D L H' s' I' ⟨f0,f1,_,f3,f4,f5⟩ ⟨m,hn⟩ q
 refine⟨m,hn,λh' sb=>⟨.ref D,H',?_,rfl,q⟩⟩
 exact I'.turned (t':=s'.toks) (λb o hb e=>(sb.2 b hb).trans e) f0 f1 f3 f4 f5
theorem vU {wi:TI}{i:Nat}{x:Str}{pos pos':Pos}{sc:Scope}{N0:List Str}(hN:X.N.Nodup)(tZ:X.N[i]? = some x)(hx:Loc X.env.scope x)(hc:X.calm=true)(C:aA sc N0 scope N k js)(hi:PI X tg iter wi)
  (hg:∀cl fp s H,PG (gS X scope cl N fp s H) tg g) (ht:∀cl fp s H,rW (gS X scope cl N fp s H) ifs tt) (he:∀cl fp s H,PE (gS X scope cl N fp s H) elt te)
  (RA:swapsWith (.ListComp elt [⟨tg,iter,ifs,0⟩] scope ay) (some (.Name x pos')) pos.line X.env=pure true:=by rfl)
  (hs:∀x,foldedSetIterable iter X.env x=pure x:=by intro _;rfl) (BF:X.env.scope=sc:=by rfl) (BG:X.N=N0:=by rfl) (hf:X.fn x=true\/X.env.scope.names.lookup x=some .local:=by first | exact .inl rfl | exact .inr rfl | assumption):
  PS X (.Assign [.Name x pos'] (.ListComp elt [⟨tg,iter,ifs,0⟩] scope ay) pos) (nY (iL k js wi g tt te) (br i)):=by
 subst BF BG
 intro zz s σ H D I h
 obtain⟨cl,e,h1,h2⟩:=wK (LM I C)
 rw[exec_Assign_Name_used _ _ _ _ RA]
 refine yYX (wpAny_standAt (yYX ?_))
 show wpAny _ X.A (do let _ <- comprehension (.ListComp elt [⟨tg,iter,ifs,0⟩] scope ay) scope X.env _ (newList []) false (eval iter X.env) (some (assign (.Name x pos') X.env))) _ _ s
 refine yYX (wpAny_mono (wpAny_comprehension_free (use:=some (assign (.Name x pos') X.env)) (Q:=λ_ s'=>SP X zz D .next s') rfl hs e C.kind C.names
  (aF (hi zz s σ H _ I h) λv s1 q=>aF q λBe s2 q2=>?_)) (λ_ s' hq=>yYY (yYY hq)) λ_ _ z=>z)
 obtain⟨it,fp,tn,J,H2,rfl,I2,T,st,f2,rd⟩:=q2
 refine LL (RR:=λacc L=>compPost (model X.prog X.w) X.A X.xe (some (assign (.Name x pos') X.env)) (λ_ s'=>SP X zz D .next s') acc L) hc C h1 h2 (hg cl) (ht cl) (he cl) I2 T st f2 rd ?_
 intro A' L H' s' I' ⟨f0,f1,f2',f3,f4,f5⟩ ⟨m,hn⟩ q
 show wpAny _ X.A (assign (.Name x pos') X.env (.ref A')) _ _ s'
 refine wpAny_assign_Name (KL (v:=V.ref A') I' hN tZ hx rfl (λrN RB ⟨a,sb,ha⟩=>?_) hf)
 have RC:L≠a:=by
  rcases ha with rfl | ha
  .exact f1
  .exact λz=>f4 x a ha z.symm
 refine⟨m,hn.sameBut sb RC,λh' RD=>⟨σ.set i (some (.ref A')),H',?_,q⟩⟩
 exact RB.turned (t':=rN.toks) (λb o hb e=>(RD.2 b hb).trans e) f0 f1 f3 f4 f5
end
abbrev dJ (k:Nat)(js:List Nat)(g:TG)(tt:TT)(te:TE)(σ:St)(D:Addr)(x:V)(ys:List V)(H:Hp)(N:List V->Hp->Prop):Prop:=
 g x (stC k js σ) H λσ4 H4=>(∃ow:St,ow.length=k/\σ4=ow++frees js σ)/\
  tt σ4 H4 λb H5=>if b=true then te σ4 H5 λy H6=>H6 D=some (.lst ys)/\ys.length<Yc/\N (ys++[y]) (upd H6 D (.lst (ys++[y]))) else N ys H5
section
variable {K:aq}{a:Addr}{xs:List V}{k:Nat}{js:List Nat}{g:TG}{tt:TT}{te:TE}{σ:St}{H1:Hp}{Q:VK}
theorem jU (Pv:Addr->Nat->List V->Hp->Prop)(h0:∀D,H1 D=none->Pv D 0 [] (upd H1 D (.lst [])))
  (hl:∀D i ys H,i<=xs.length->Pv D i ys H->aj K H a xs)
  (hs:∀D i x ys H (N:List V->Hp->Prop),H1 D=none->H D=some (.lst ys)->xs[i]? = some x->Pv D i ys H->(∀zs H',H' D=some (.lst zs)->Pv D (i+1) zs H'->N zs H')->dJ k js g tt te σ D x ys H N)
  (hd:∀D ys H,H1 D=none->H D=some (.lst ys)->Pv D xs.length ys H->Q (.ref D) H):fM k js g tt te (i6 K a) σ H1 Q:=by
 intro D hD
 refine⟨λi m ys H=>m=xs.length - i/\i<=xs.length/\H D=some (.lst ys)/\Pv D i ys H,⟨xs.length,by simp,yZG _,qW,h0 D hD⟩,?_⟩
 rintro i m ys H ⟨rfl,hi,aD,p⟩
 refine⟨aD,?_⟩
 have q:=hl D i ys H hi p
 by_cases bc:i<xs.length
 .refine .inr ⟨⟨xs,xs[i],q,by simp[bc]⟩,λx H' y=>?_⟩
  obtain⟨e,y⟩:=y
  subst e
  exact hs D i x ys _ (λzs H'=>∃m',m'<xs.length - i/\m'=xs.length - (i+1)/\i+1<=xs.length/\H' D=some (.lst zs)/\Pv D (i+1) zs H') hD aD (y xs q) p λzs H' e p'=>⟨xs.length - (i+1),by omega,rfl,bc,e,p'⟩
 .have e:i=xs.length:=by omega
  subst e
  exact .inl ⟨⟨xs,q,yZD _⟩,hd D ys H hD aD p⟩
theorem LN (Pv:Addr->Nat->List V->Hp->Prop)(h0:∀D,H1 D=none->Pv D 0 [] (upd H1 D (.lst [])))
  (hl:∀D i ys H,i<=xs.length->Pv D i ys H->aS K H a xs)
  (hs:∀D i x ys H (N:List V->Hp->Prop),H1 D=none->H D=some (.lst ys)->xs[i]? = some x->Pv D i ys H->(∀zs H',H' D=some (.lst zs)->Pv D (i+1) zs H'->N zs H')->dJ k js g tt te σ D x ys H N)
  (hd:∀D ys H,H1 D=none->H D=some (.lst ys)->Pv D xs.length ys H->Q (.ref D) H):fM k js g tt te (lF K a) σ H1 Q:=by
 intro D hD
 refine⟨λi m ys H=>m=xs.length - i/\i<=xs.length/\H D=some (.lst ys)/\Pv D i ys H,⟨xs.length,by simp,yZG _,qW,h0 D hD⟩,?_⟩
 rintro i m ys H ⟨rfl,hi,aD,p⟩
 refine⟨aD,?_⟩
 have q:=hl D i ys H hi p
 by_cases bc:i<xs.length
 .refine .inr ⟨⟨xs,xs[i],q,by simp[bc]⟩,λx H' y=>?_⟩
  obtain⟨e,y⟩:=y
  subst e
  exact hs D i x ys _ (λzs H'=>∃m',m'<xs.length - i/\m'=xs.length - (i+1)/\i+1<=xs.length/\H' D=some (.lst zs)/\Pv D (i+1) zs H') hD aD (y xs q) p λzs H' e p'=>⟨xs.length - (i+1),by omega,rfl,bc,e,p'⟩
 .have e:i=xs.length:=by omega
  subst e
  exact .inl ⟨⟨xs,q,yZD _⟩,hd D ys H hD aD p⟩
theorem RE {lo:Int}{n:Nat}(Pv:Addr->Nat->List V->Hp->Prop)(h0:∀D,H1 D=none->Pv D 0 [] (upd H1 D (.lst [])))
  (hs:∀D i ys H (N:List V->Hp->Prop),H1 D=none->H D=some (.lst ys)->i<n->Pv D i ys H->(∀zs H',H' D=some (.lst zs)->Pv D (i+1) zs H'->N zs H')->dJ k js g tt te σ D (.int (lo+i)) ys H N)
  (hd:∀D ys H,H1 D=none->H D=some (.lst ys)->Pv D n ys H->Q (.ref D) H):fM k js g tt te (lG lo n) σ H1 Q:=by
 intro D hD
 refine⟨λi m ys H=>m=n - i/\i<=n/\H D=some (.lst ys)/\Pv D i ys H,⟨n,by simp,yZG _,qW,h0 D hD⟩,?_⟩
 rintro i m ys H ⟨rfl,hi,aD,p⟩
 refine⟨aD,?_⟩
 by_cases bc:i<n
 .refine .inr ⟨bc,λx H' y=>?_⟩
  obtain⟨e,y⟩:=y
  subst e y
  exact hs D i ys _ (λzs H'=>∃m',m'<n - i/\m'=n - (i+1)/\i+1<=n/\H' D=some (.lst zs)/\Pv D (i+1) zs H') hD aD bc p λzs H' e p'=>⟨n - (i+1),by omega,rfl,bc,e,p'⟩
 .have e:i=n:=by omega
  subst e
  exact .inl ⟨yZD _,hd D ys H hD aD p⟩
end
def LO (e:Expr):Scope:=match e with
 | .ListComp _ _ s _=>s
 | _=>{ kind:=.function,names:=[],isGenerator:=false,isCoroutine:=false }
def qg (e:Expr)(i:Nat):Expr:=match e with
 | .Call _ as _ _=>as.getD i (.Constant .none 0 ⟨0,0,0,0⟩)
 | _=>.Constant .none 0 ⟨0,0,0,0⟩
def FR (l:List Stmt)(i:Nat):Stmt:=l.getD i (.Pass ⟨0,0,0,0⟩)
def rX (s:Stmt):Expr:=match s with
 | .Assign _ v _=>v
 | .Return (some v) _=>v
 | _=>.Constant .none 0 ⟨0,0,0,0⟩
end L2
namespace L2
open PySem PySem.Spec PyProof.Rows
theorem log2_lt {n k:Nat}(h:n<2 ^ (k+1)):n.log2<=k:=by
 by_cases h0:n=0
 .subst h0;simp
 .exact Nat.lt_succ_iff.mp ((Nat.log2_lt h0).mpr h)
theorem LP {a:Int}(h:a.natAbs<2 ^ 1000):Builtin.Int.intBits a<=2 ^ 20:=by
 unfold Builtin.Int.intBits
 split
 .exact yZG _
 .have:=log2_lt (n:=a.natAbs) (k:=999) h
  have e:(2:Nat) ^ 20=1048576:=by decide
  omega
theorem BH {a b:Int}(ha:a.natAbs<2 ^ 1000)(hb:b.natAbs<2 ^ 1000):IntMulOk a b:=IntMulOk.of_bits (LP ha) (LP hb)
section
variable {X:Cx}{a b:Expr}{ta tb:TE}{pos:Pos}
theorem FT:eJ X (binaryOp .Mult) (rI (λi j=>i.natAbs<2 ^ 1000/\j.natAbs<2 ^ 1000) λi j=>.int (i * j)):=D2 λ_ _ _ _ _ _ _ hc q=>mul_int q (BH hc.1 hc.2)
theorem LQ:eJ X (binaryOp .FloorDiv) (rI (λ_ j=>0<j/\j.natAbs<2 ^ 1000) λi j=>.int (i / j)):=D2 λi j _ _ _ _ _ hc q=>by
 have h0:j≠0:=by have:=hc.1;omega
 have e:i.fdiv j=i / j:=Int.fdiv_eq_ediv_of_nonneg _ (by have:=hc.1;omega)
 refine floordiv_int h0 (by rw[e];exact q) (.inl (PyProof.noPylong_of_log2 ?_))
 have:=log2_lt (n:=j.natAbs) (k:=999) hc.2
 omega
theorem RF:aL X (.builtin "isinstance") (λxs H Q=>∃x T t b,xs=[x,.ty T]/\c7 X.K H x t/\PySem.W.kitOne X.K t (.type T)=some b/\Q (.bl b) H):=by
 intro zz s σ H xs us Q I r h
 obtain⟨x,T,t,b,rfl,ty,e,q⟩:=h
 obtain⟨u,v,rfl,ru,rv⟩:=vals2 r
 cases rv
 exact QE I ru ty e λtk=>⟨.bl b,H,I.tok _,rfl,q⟩
theorem FU {x:Str}{T:String}{pos:Pos}(hg:Gl X x)(hm:X.mg x=none)(hv:bootBuiltins x=some (.type T))(hn:x ≠ "__name__" := by decide)(hd:(x == ("__debug__" : Str))=false:=by decide):PE X (.Name x pos) (tC (.ty T)):=
 Qb hg hm hv rfl hn hd
end
def mn (d:Addr)(H H':Hp):Prop:=∀b o,b≠d->H b=some o->H' b=some o
theorem mn.refl {d:Addr}(H:Hp):mn d H H:=λ_ _ _ h=>h
theorem mn.trans {d:Addr}{H H1 H2:Hp}(a:mn d H H1)(b:mn d H1 H2):mn d H H2:=λc o n h=>b c o n (a c o n h)
theorem mn.upd {d:Addr}{H:Hp}{o:HO}:mn d H (upd H d o):=λb u n h=>by rw[qB n];exact h
theorem qV {H:Hp}{p:Addr}(h:H p=none)(o:HO):aa H (upd H p o):=λb u q=>by rw[qB (qC q h)];exact q
theorem RG {α:Type}(x:α)(xs:List α):gA (x::xs) 0=some x:=kC (xs:=x::xs) (j:=0) rfl
theorem kQ:bootBuiltins "len" = some (.builtin "len"):=by wtm_at"d"
theorem xP:bootBuiltins "isinstance" = some (.builtin "isinstance"):=by wtm_at"d"
theorem wN:bootBuiltins "tuple" = some (.type "tuple"):=by wtm_at"d"
theorem RH:bootBuiltins "int" = some (.type "int"):=by wtm_at"d"
theorem RI:bootBuiltins "bool" = some (.type "bool"):=by wtm_at"d"
theorem BI:bootBuiltins "dict" = some (.type "dict"):=by wtm_at"d"
end L2
namespace L2
open PySem PySem.Spec PyProof.Rows
theorem kN {α β:Type}{F:α->β->Prop}:∀{a c:List α} {b d:List β},Paired F a b->Paired F c d->Paired F (a++c) (b++d)
 | _,_,_,_,.nil,q=>q
 | _,_,_,_,.cons f p,q=>.cons f (kN p q)
theorem xV {α β:Type}{F:α->β->Prop}:∀{a:List α} {b:List β} {i:Nat} {x:α} {y:β},Paired F a b->a[i]? = some x->b[i]? = some y->F x y
 | _,_,_,_,_,.nil,e,_=>by simp at e
 | _,_,0,_,_,.cons f _,e1,e2=>by simp at e1 e2;subst e1 e2;exact f
 | _,_,i+1,_,_,.cons _ p,e1,e2=>xV (i:=i) p (by simpa using e1) (by simpa using e2)
end L2
namespace PySem
namespace FD
theorem fO:typeLookup (.type "list") "keys" = pure none:=by rw[typeLookup_type,builtinLookup_eq_fast];kernel_rfl
theorem gF:typeLookup (.type "zip") "keys" = pure none:=by rw[typeLookup_type,builtinLookup_eq_fast];kernel_rfl
theorem dZ:typeLookup (.type "zip") "__getattr__" = pure none:=by rw[typeLookup_type,builtinLookup_eq_fast];kernel_rfl
theorem fP:entryFor table "zip.__getattribute__" = some Builtin.«object.__getattribute__»:=
 entryFor_alias (id' := "object.__getattribute__") (by kernel_rfl) (by wtm_at"d") (by wtm_at"d") (by kernel_rfl)
theorem gG:("keys" : Str).length+100<=Yc:=by wtm_at"d"
theorem fk:(["__module__","__name__","__qualname__","__doc__","__annotations__"]:List Str).contains "keys" = false:=by wtm_at"d"
end FD
theorem RJ (z:Addr)(vs:Array Value)(u:Tok):
  Meets (Builtin.«object.__getattribute__» ⟨[.ref z,.str "keys" u],[]⟩) (λA R s=>s.heap.get? z=some { cls:=.type "zip",dict:=none,data:=.fields vs,slots:=#[] }/\raisesAttr (.ref z) "keys" A R s):=
 Meets.of_wp λprog w A R s hs=>by
  obtain⟨hp,g,d,tk,os⟩:=s
  obtain⟨hx,hs⟩:=hs
  have hT:(⟨hp,g,d,tk,os⟩:Shared).TypeIs (.ref z) "zip" := ⟨_,hx,rfl⟩
  have f1:=FD.gF
  unfold Builtin.«object.__getattribute__»
  repeat (any_goals (first | assumption | wp_step))
  try (simp only[FD.fk,bL,if_false];repeat (any_goals (first | assumption | wp_step)))
  exact wpAny_raiseAttrError hs.1 hs.2 (attrMsg_fits (by wtm_at"d") FD.gG)
section
variable {prog:Program}{w:World}{A:Around}{E:Value->Shared->Prop}{s:Shared}
theorem RK {z:Addr}{vs:Array Value}{Q:Option Value->Shared->Prop}(hx:s.heap.get? z=some { cls:=.type "zip",dict:=none,data:=.fields vs,slots:=#[] })(hA:A.handled=none)
  (h:∀h' tk,(∀b o,s.heap.get? b=some o->h'.get? b=some o)->Q none { s with heap:=h',toks:=tk }):wpAny (model prog w) A (getAttr? (.ref z) "keys") Q E s:=by
 obtain⟨hp,g,d,tk,os⟩:=s
 have hT:∀fQ,(⟨hp,g,d,fQ,os⟩:Shared).TypeIs (.ref z) "zip" := λ_=>⟨_,hx,rfl⟩
 have f1:=sub_AttributeError
 have f3:=F.slot_zip_getattribute.lookup
 have f4:=F.slot_zip_getattribute.bind (.ref z)
 have f5:=FD.dZ
 unfold getAttr? getAttrBy? getAttrBy
 repeat (any_goals (first | assumption | exact hT _ | ((with_reducible show wpAny _ _ (call (Value.builtin "zip.__getattribute__") _ _) _ _ _);refine call_meets F.slot_zip_getattribute (hT _) FD.fP (F.args_zip_getattribute_2 _ _) (RJ z vs _) ⟨hx,hA,λh' fQ e mq=>?_⟩) | wp_step))
 obtain⟨t',u',he⟩:=mq.there
 show wpAny _ _ (getattributeRaised _ _ _ _ _ _ _) _ _ _
 unfold getattributeRaised
 repeat (any_goals (first | assumption | wp_step))
 exact h _ _ mq.keeps
theorem kP {a:Addr}{xs:Array Value}{k:Nat}{Q:Option Value->Shared->Prop}(hx:s.heap.get? a=some { cls:=.type "list",data:=.seq xs k })(hA:A.handled=none)
  (h:∀h' tk,(∀b o,s.heap.get? b=some o->h'.get? b=some o)->Q none { s with heap:=h',toks:=tk }):wpAny (model prog w) A (getAttr? (.ref a) "keys") Q E s:=by
 obtain⟨hp,g,d,tk,os⟩:=s
 have hT:∀fQ,(⟨hp,g,d,fQ,os⟩:Shared).TypeIs (.ref a) "list" := λ_=>⟨_,hx,rfl⟩
 have f1:=sub_AttributeError
 have f3:=F.slot_list_getattribute.lookup
 have f4:=F.slot_list_getattribute.bind (.ref a)
 have f5:=am_list_getattr_none
 unfold getAttr? getAttrBy? getAttrBy
 repeat (any_goals (first | assumption | exact hT _ | ((with_reducible show wpAny _ _ (call (Value.builtin "list.__getattribute__") _ _) _ _ _);refine call_meets F.slot_list_getattribute (hT _) am_entry_list_getattribute (F.args_list_getattribute_2 _ _) (meets_getattribute_miss_list a xs k #[] _ _ FD.fO FD.fk FD.gG) ⟨hx,hA,λh' fQ e mq=>?_⟩) | wp_step))
 obtain⟨t',u',he⟩:=mq.there
 show wpAny _ _ (getattributeRaised _ _ _ _ _ _ _) _ _ _
 unfold getattributeRaised
 repeat (any_goals (first | assumption | wp_step))
 exact h _ _ mq.keeps
theorem wW {it t:Addr}{i:Nat}{items:Array Value}{x:Value}{Q:Value->Shared->Prop}(hit:s.heap.IsTupleIter it t i)(ht:s.heap.IsTuple t items)(hx:items[i]? = some x)
  (hQ:∀h',h'.IsTupleIter it t (i+1)->Heap.SameBut it s.heap h'->Q x { s with heap:=h' }):wpAny (model prog w) A (Builtin.SmallTypes.nextOf (.ref it)) Q E s:=by
 obtain⟨o,ho,hc,hd⟩:=id hit
 obtain⟨ol,RL,_,nl,BJ⟩:=ht
 unfold Builtin.SmallTypes.nextOf
 refine yYX (wpAny_callSpecial?_slot (name:=Yb "__next__") hit.typeIs F.slot_tuple_iterator_next (wpAny_call_entry F.slot_tuple_iterator_next hit.typeIs F.entry_tuple_iterator_next ?_ (F.args_tuple_iterator_next_1 _)))
 refine yYX (m:=field (.ref it) 0) (wpAny_field ho hd (x:=.ref t) rfl ?_)
 show wpAny _ _ (if (Value.ref t == Value.none)=true then _ else _) _ _ s;rw[if_neg (show¬((Value.ref t == Value.none)=true) from cj)]
 refine yYX (m:=field (.ref it) 1) (wpAny_field ho hd (x:=.int i 0) rfl ?_)
 refine yYX (m:=seqItems? (.ref t)) (wpAny_seqItems RL BJ ?_)
 simp only[Int.toNat_natCast,hx]
 refine yYX (wpAny_setField ho hd (by simp) (yYY ⟨x,rfl,yYY (hQ _ ?_ (Heap.SameBut.update ..))⟩))
 exact⟨_,Heap.get?_update_self _ ho (Obj.isFreed_of_fields (Obj.data_mapFields hd _)),(Obj.cls_mapFields ..).trans hc,by rw[Obj.data_mapFields hd];simp[rawInt]⟩
abbrev cc (h:Heap)(z TI TO:Addr)(f0 f1:Value):Prop:=h.get? z=some { cls:=.type "zip",dict:=none,data:=.fields #[f0,f1,.bool false,.ref TI,.ref TO],slots:=#[] }
abbrev BK (h:Heap)(l:Addr):Heap:=h.push { cls:=.type "list_iterator",data:=.fields #[.ref l,.int 0 0] }
abbrev BL (h:Heap)(l t:Addr):Heap:=(BK h l).push { cls:=.type "tuple_iterator",data:=.fields #[.ref t,.int 0 0] }
abbrev BM (h:Heap)(l t:Addr):Heap:=(BL h l t).push { cls:=.type "tuple",data:=.seq #[.ref h.objs.size,.ref (BK h l).objs.size] }
abbrev Ef (h:Heap)(l t:Addr):Heap:=(BM h l t).push { cls:=.type "tuple",data:=.seq #[.none,.none] }
abbrev t4 (h:Heap)(l t:Addr):Heap:=(Ef h l t).push { cls:=.type "zip",data:=.fields #[.none,.bool false,.bool false,.ref (BL h l t).objs.size,.ref (BM h l t).objs.size] }
theorem RM (l t:Addr)(xs ys:Array Value):
  Meets (Builtin.«zip.__new__» ⟨[.type "zip",.ref l,.ref t],[]⟩) (λ_ R s=>s.heap.IsList l xs/\s.heap.IsTuple t ys/\R (.ok (.ret (.ref (Ef s.heap l t).objs.size))) { s with heap:=t4 s.heap l t }):=
 .of_wp λprog w A R s h=>by
  obtain⟨hp,g,d,tk,os⟩:=s;obtain⟨hl,ht,h⟩:=h
  have FV:=sub_zip
  have RN:Heap.IsList (Shared.heap ⟨hp,g,d,tk,os⟩) l xs:=hl
  have RO:Heap.IsTuple (Shared.heap ⟨hp.push { cls:=.type "list_iterator",data:=.fields #[.ref l,.int 0 0] },g,d,tk,os⟩) t ys:=by
   obtain⟨o,ho,r⟩:=ht
   exact⟨o,yYZ _ ho,r⟩
  wp_walk using wpAny_pyIter_list RN,wpAny_pyIter_tuple RO
  exact⟨_,rfl,h⟩
structure cD (h:Heap)(z TI TO i1 i2 l t:Addr)(k:Nat):Prop where
 zip:cc h z TI TO .none (.bool false)\/∃(T:Addr) (f:Bool),cc h z TI TO (rawInt T) (.bool f)/\(∃o,h.get? T=some o)/\T≠z/\T≠TO/\T≠i1/\T≠i2
 its:IsPair h TI (.ref i1) (.ref i2)
 own:∃a b,IsPair h TO a b
 one:h.IsListIter i1 l k
 two:h.IsTupleIter i2 t k
structure eh (z TI TO i1 i2:Addr):Prop where
 TIz:TI≠z
 TOz:TO≠z
 i1z:i1≠z
 i2z:i2≠z
 TITO:TI≠TO
 TIi1:TI≠i1
 TIi2:TI≠i2
 TOi1:TO≠i1
 TOi2:TO≠i2
 i12:i1≠i2
theorem RP {l t:Addr}{xs ys:Array Value}{Q:Value->Shared->Prop}(hl:s.heap.IsList l xs)(ht:s.heap.IsTuple t ys)
  (h:∀h' z TI TO i1 i2,eh z TI TO i1 i2->cD h' z TI TO i1 i2 l t 0->s.heap.objs.size<=z->s.heap.objs.size<=TI->s.heap.objs.size<=TO->s.heap.objs.size<=i1->s.heap.objs.size<=i2->
   (∀c o,s.heap.get? c=some o->h'.get? c=some o)->Q (.ref z) { s with heap:=h' }):
  wpAny (model prog w) A (call (.type "zip") [.ref l,.ref t]) Q E s:=by
 refine callType_new F.called_zip (by decide) (F.typeCall_zip_2 _ _) (F.newCall_zip_2 _ _) (λobj=>F.args_object_init_3 obj _ _) F.entry_zip_new (RM l t xs ys) ⟨hl,ht,?_⟩
 have z1:(BK s.heap l).objs.size=s.heap.objs.size+1:=gj ..
 have z2:(BL s.heap l t).objs.size=s.heap.objs.size+2:=by rw[gj,z1]
 have z3:(BM s.heap l t).objs.size=s.heap.objs.size+3:=by rw[gj,z2]
 have z4:(Ef s.heap l t).objs.size=s.heap.objs.size+4:=by rw[gj,z3]
 have g5:(t4 s.heap l t).get? (Ef s.heap l t).objs.size=some _:=bg _ rfl
 have g4:(t4 s.heap l t).get? (BM s.heap l t).objs.size=some _:=yYZ _ (bg _ rfl)
 have g3:(t4 s.heap l t).get? (BL s.heap l t).objs.size=some _:=yYZ _ (yYZ _ (bg _ rfl))
 have g2:(t4 s.heap l t).get? (BK s.heap l).objs.size=some _:=yYZ _ (yYZ _ (yYZ _ (bg _ rfl)))
 have g1:(t4 s.heap l t).get? s.heap.objs.size=some _:=yYZ _ (yYZ _ (yYZ _ (yYZ _ (bg _ rfl))))
 refine⟨⟨_,g5,rfl⟩,h _ _ (BL s.heap l t).objs.size (BM s.heap l t).objs.size s.heap.objs.size (BK s.heap l).objs.size ?_ ⟨.inl g5,g3,⟨_,_,g4⟩,⟨_,g1,rfl,rfl⟩,⟨_,g2,rfl,rfl⟩⟩ (by omega) (by omega) (by omega) (yZD _) (by omega) ?_⟩
 .constructor <;> (intro e;have e':@Eq Nat _ _:=e;omega)
 .exact λc o e=>yYZ _ (yYZ _ (yYZ _ (yYZ _ (yYZ _ e))))
end
end PySem
namespace PySem
section
variable {prog:Program}{w:World}{A:Around}{E:Value->Shared->Prop}{s:Shared}
theorem RQ {z TI TO i1 i2 l t:Addr}{k:Nat}{xs ys:Array Value}{x y:Value}{Q:Value->Shared->Prop}(D:eh z TI TO i1 i2)(S:cD s.heap z TI TO i1 i2 l t k)
  (hl:s.heap.IsList l xs) (ht:s.heap.IsTuple t ys) (nl:l≠z/\l≠TO/\l≠i1/\l≠i2) (nt:t≠z/\t≠TO/\t≠i1/\t≠i2) (hx:xs[k]? = some x) (hy:ys[k]? = some y)
  (hQ:∀h' T,cD h' z TI TO i1 i2 l t (k+1)->IsPair h' T x y->(∀c o,c≠z->c≠TO->c≠i1->c≠i2->s.heap.get? c=some o->h'.get? c=some o)->Q (.ref T) { s with heap:=h' }):
  wpAny (model prog w) A (Builtin.«zip.__next__» ⟨[.ref z],[]⟩) (λfin s'=>∃v,fin=.done (.ret v)/\Q v s') E s:=by
 obtain⟨hz,rY,⟨a,b,FW⟩,h1,h2⟩:=S
 rcases hz with hz | ⟨T,f,hz,⟨oT,hT⟩,n1,n2,n3,n4⟩
 .refine yYX (m:=field (.ref z) 2) (wpAny_field hz rfl (x:=.bool false) rfl ?_)
  refine yYX (m:=field (.ref z) 3) (wpAny_field hz rfl (x:=.ref TI) rfl ?_)
  refine yYX (wpAny_seqItems rY rfl ?_)
  refine yYX (m:=Builtin.SmallTypes.ownedTupleIsFree (.ref z)) ?_
  unfold Builtin.SmallTypes.ownedTupleIsFree
  refine yYX (wpAny_field hz rfl (x:=.none) rfl (yYY ?_))
  simp only[if_true]
  refine yYX (wpAny_rule (yYX (wpAny_field hz rfl (x:=.ref TO) rfl (yYX (wpAny_setField_rec hz (by simp) λh₁ hz₁ hs₁=>?_)))))
  replace hz₁:cc h₁ z TI TO .ellipsis (.bool false):=hz₁
  refine yYX ?_
  simp only[List.zipIdx_cons,List.zipIdx_nil,List.forIn_cons,List.forIn_nil]
  refine yYX (yYX (wpAny_onRaise ?_))
  refine yYX (m:=Builtin.SmallTypes.nextOf (.ref i1)) (wpAny_nextOf_list_item (h1.extBut hs₁.extBut D.i1z) (hl.extBut hs₁.extBut nl.1) hx λh₂ h1₂ hs₂=>yYY ?_)
  have hTO₂:IsPair h₂ TO a b:=hs₂.extBut _ _ D.TOi1 (hs₁.extBut _ _ D.TOz FW)
  refine yYX (wpAny_seqItems hTO₂ rfl (yYX (wpAny_updateSeq_pair hTO₂ λh₃ hTO₃ hs₃=>?_)))
  replace hTO₃:IsPair h₃ TO x b:=hTO₃
  refine yYX (wpAny_letGo (yYY ?_))
  refine yYX (yYX (wpAny_onRaise ?_))
  have ht₃:h₃.IsTuple t ys:=by
   obtain⟨o,ho,r⟩:=ht
   exact⟨o,hs₃.extBut _ _ nt.2.1 (hs₂.extBut _ _ nt.2.2.1 (hs₁.extBut _ _ nt.1 ho)),r⟩
  have h2₃:h₃.IsTupleIter i2 t k:=h2.at λo e=>hs₃.extBut _ _ (Ne.symm D.TOi2) (hs₂.extBut _ _ (Ne.symm D.i12) (hs₁.extBut _ _ D.i2z e))
  refine yYX (m:=Builtin.SmallTypes.nextOf (.ref i2)) (wW h2₃ ht₃ hy λh₄ h2₄ hs₄=>yYY ?_)
  have hTO₄:IsPair h₄ TO x b:=hs₄.extBut _ _ D.TOi2 hTO₃
  refine yYX (wpAny_seqItems hTO₄ rfl (yYX (wpAny_updateSeq_pair hTO₄ λh₅ hTO₅ hs₅=>?_)))
  replace hTO₅:IsPair h₅ TO x y:=hTO₅
  refine yYX (wpAny_letGo (yYY (yYY (yYX (wpAny_seqItems hTO₅ rfl (yYX (wpAny_newTuple ?_)))))))
  have hz₅:cc h₅ z TI TO .ellipsis (.bool false):=hs₅.extBut _ _ D.TOz.symm (hs₄.extBut _ _ D.i2z.symm (hs₃.extBut _ _ D.TOz.symm (hs₂.extBut _ _ D.i1z.symm hz₁)))
  have hk₅:∀c o,c≠z->c≠TO->c≠i1->c≠i2->s.heap.get? c=some o->h₅.get? c=some o:=λc o c1 c2 c3 c4 e=>hs₅.extBut _ _ c2 (hs₄.extBut _ _ c4 (hs₃.extBut _ _ c2 (hs₂.extBut _ _ c3 (hs₁.extBut _ _ c1 e))))
  have h1₅:h₅.IsListIter i1 l (k+1):=h1₂.at λo e=>hs₅.extBut _ _ (Ne.symm D.TOi1) (hs₄.extBut _ _ D.i12 (hs₃.extBut _ _ (Ne.symm D.TOi1) e))
  have h2₅:h₅.IsTupleIter i2 t (k+1):=h2₄.at λo e=>hs₅.extBut _ _ (Ne.symm D.TOi2) e
  refine yYX (m:=Builtin.SmallTypes.ownedTupleHandOut (.ref z) (.ref h₅.objs.size)) ?_
  unfold Builtin.SmallTypes.ownedTupleHandOut
  have hz₆:cc (h₅.push { cls:=.type "tuple",data:=.seq #[x,y] }) z TI TO .ellipsis (.bool false):=yYZ _ hz₅
  refine yYX (wpAny_setField_rec hz₆ (by simp) λh₇ hz₇ hs₇=>?_)
  replace hz₇:cc h₇ z TI TO (rawInt h₅.objs.size) (.bool false):=hz₇
  refine wpAny_setField_rec hz₇ (by simp) λh₈ hz₈ hs₈=>?_
  replace hz₈:cc h₈ z TI TO (rawInt h₅.objs.size) (.bool false):=hz₈
  have up:∀c o,c≠z->h₅.get? c=some o->h₈.get? c=some o:=λc o c1 e=>hs₈.extBut _ _ c1 (hs₇.extBut _ _ c1 (yYZ _ e))
  have rZ:z<h₅.objs.size:=aG hz₅
  have hT₈:IsPair h₈ h₅.objs.size x y:=hs₈.extBut _ _ (yZH rZ) (hs₇.extBut _ _ (yZH rZ) (bg _ rfl))
  have FX:i1<h₅.objs.size:=by obtain⟨_,e,_⟩:=h1₅;exact aG e
  have FY:i2<h₅.objs.size:=by obtain⟨_,e,_⟩:=h2₅;exact aG e
  refine yYY ⟨_,rfl,hQ h₈ _ ⟨.inr ⟨_,_,hz₈,⟨_,hT₈⟩,yZH rZ,yZH (aG hTO₅),yZH FX,yZH FY⟩,up _ _ D.TIz (hk₅ _ _ D.TIz D.TITO D.TIi1 D.TIi2 rY),⟨_,_,up _ _ D.TOz hTO₅⟩,h1₅.at λo e=>up _ o D.i1z e,h2₅.at λo e=>up _ o D.i2z e⟩ hT₈ λc o c1 c2 c3 c4 e=>up c o c1 (hk₅ c o c1 c2 c3 c4 e)⟩
 .refine yYX (m:=field (.ref z) 2) (wpAny_field hz rfl (x:=.bool false) rfl ?_)
  refine yYX (m:=field (.ref z) 3) (wpAny_field hz rfl (x:=.ref TI) rfl ?_)
  refine yYX (wpAny_seqItems rY rfl ?_)
  refine yYX (m:=Builtin.SmallTypes.ownedTupleIsFree (.ref z)) ?_
  have step:∀{α:Type} (N:Bool->Sem α) (QQ:α->Shared->Prop),(∀h₁,cc h₁ z TI TO (rawInt T) (.bool true)->Heap.SameBut z s.heap h₁->wpAny (model prog w) A (N false) QQ E { s with heap:=h₁ })->
    wpAny (model prog w) A (Builtin.SmallTypes.ownedTupleIsFree (.ref z)) (λb s'=>wpAny (model prog w) A (N b) QQ E s') E s:=λN QQ hN=>by
   unfold Builtin.SmallTypes.ownedTupleIsFree
   refine yYX (wpAny_field hz rfl (x:=rawInt T) rfl ?_)
   show wpAny _ _ (loadIfAlive ((T:Int).toNat) >>= _) _ _ _
   rw[Int.toNat_natCast]
   refine yYX (W.kdx_alive hT ?_)
   simp only[Option.isNone_some,bL,if_false]
   refine yYX (wpAny_field hz rfl (x:=.bool f) rfl ?_)
   cases f with
   | true=>rw[if_neg (show¬((Value.bool true != Value.bool true)=true) from cj)];exact yYY (hN _ hz (.refl ..))
   | false=>rw[if_pos (show(Value.bool false != Value.bool true)=true from rfl)];exact yYX (wpAny_setField_rec hz (by simp) λh₁ hz₁ hs₁=>yYY (hN h₁ hz₁ hs₁))
  refine step _ _ λh₁ hz₁ hs₁=>?_
  simp only[bL,if_false]
  refine yYX ?_
  rw[<- Array.forIn_toList]
  simp only[List.forIn_cons,List.forIn_nil]
  refine yYX (yYX (wpAny_holding ?_))
  refine yYX (m:=Builtin.SmallTypes.nextOf (.ref i1)) (wpAny_nextOf_list_item (h1.extBut hs₁.extBut D.i1z) (hl.extBut hs₁.extBut nl.1) hx λh₂ h1₂ hs₂=>yYY (yYY ?_))
  refine yYX (yYX (wpAny_holding ?_))
  have ht₂:h₂.IsTuple t ys:=by
   obtain⟨o,ho,r⟩:=ht
   exact⟨o,hs₂.extBut _ _ nt.2.2.1 (hs₁.extBut _ _ nt.1 ho),r⟩
  have h2₂:h₂.IsTupleIter i2 t k:=h2.at λo e=>hs₂.extBut _ _ (Ne.symm D.i12) (hs₁.extBut _ _ D.i2z e)
  refine yYX (m:=Builtin.SmallTypes.nextOf (.ref i2)) (wW h2₂ ht₂ hy λh₃ h2₃ hs₃=>yYY (yYY (yYY ?_)))
  refine yYX (wpAny_newTuple ?_ (show 2<=Yc by decide))
  have k₃:∀c o,c≠z->c≠i1->c≠i2->s.heap.get? c=some o->h₃.get? c=some o:=λc o c1 c2 c3 e=>hs₃.extBut _ _ c3 (hs₂.extBut _ _ c2 (hs₁.extBut _ _ c1 e))
  have hz₃:cc h₃ z TI TO (rawInt T) (.bool true):=hs₃.extBut _ _ (Ne.symm D.i2z) (hs₂.extBut _ _ (Ne.symm D.i1z) hz₁)
  refine yYY ⟨_,rfl,hQ _ _ ⟨.inr ⟨T,true,yYZ _ hz₃,⟨_,yYZ _ (k₃ _ _ n1 n3 n4 hT)⟩,n1,n2,n3,n4⟩,yYZ _ (k₃ _ _ D.TIz D.TIi1 D.TIi2 rY),⟨_,_,yYZ _ (k₃ _ _ D.TOz D.TOi1 D.TOi2 FW)⟩,h1₂.at λo e=>yYZ _ (hs₃.extBut _ _ D.i12 e),h2₃.at λo e=>yYZ _ e⟩ (bg _ rfl) λc o c1 _ c3 c4 e=>yYZ _ (k₃ c o c1 c3 c4 e)⟩
theorem RS {z TI TO i1 i2 l t:Addr}{k:Nat}{xs:Array Value}{Q:Fin->Shared->Prop}(hh:A.handled=none)(D:eh z TI TO i1 i2)(S:cD s.heap z TI TO i1 i2 l t k)
  (hl:s.heap.IsList l xs) (nl:l≠z/\l≠TO/\l≠i1/\l≠i2) (hx:xs[k]? = none)
  (hE:∀h' e,(∀c o,c≠z->c≠TO->c≠i1->c≠i2->s.heap.get? c=some o->h'.get? c=some o)->(∃o,h'.get? e=some o/\o.cls=.type "StopIteration")->E (.ref e) { s with heap:=h' }):
  wpAny (model prog w) A (Builtin.«zip.__next__» ⟨[.ref z],[]⟩) Q E s:=by
 obtain⟨hz,rY,⟨a,b,FW⟩,h1,h2⟩:=S
 rcases hz with hz | ⟨T,f,hz,⟨oT,hT⟩,n1,n2,n3,n4⟩
 .refine yYX (m:=field (.ref z) 2) (wpAny_field hz rfl (x:=.bool false) rfl ?_)
  refine yYX (m:=field (.ref z) 3) (wpAny_field hz rfl (x:=.ref TI) rfl ?_)
  refine yYX (wpAny_seqItems rY rfl ?_)
  refine yYX (m:=Builtin.SmallTypes.ownedTupleIsFree (.ref z)) ?_
  unfold Builtin.SmallTypes.ownedTupleIsFree
  refine yYX (wpAny_field hz rfl (x:=.none) rfl (yYY ?_))
  simp only[if_true]
  refine yYX (wpAny_rule (yYX (wpAny_field hz rfl (x:=.ref TO) rfl (yYX (wpAny_setField_rec hz (by simp) λh₁ hz₁ hs₁=>?_)))))
  replace hz₁:cc h₁ z TI TO .ellipsis (.bool false):=hz₁
  refine yYX ?_
  simp only[List.zipIdx_cons,List.zipIdx_nil,List.forIn_cons,List.forIn_nil]
  refine yYX (yYX (wpAny_onRaise ?_))
  refine yYX (m:=Builtin.SmallTypes.nextOf (.ref i1)) (wpAny_nextOf_list_end hh (h1.extBut hs₁.extBut D.i1z) (hl.extBut hs₁.extBut nl.1) hx λh₂ e hs₂ he=>?_)
  obtain⟨oe,FZ,LR⟩:=he
  have hz₂:cc h₂ z TI TO .ellipsis (.bool false):=hs₂ _ _ D.i1z.symm hz₁
  have RT:e≠z:=λx=>by subst x;rw[hz₂] at FZ;cases FZ;simp at LR
  exact wpAny_setField_rec hz₂ (by simp) λh₃ _ hs₃=>hE h₃ e (λc o c1 _ c3 _ x=>hs₃.extBut _ _ c1 (hs₂ _ _ c3 (hs₁.extBut _ _ c1 x))) ⟨oe,hs₃.extBut _ _ RT FZ,LR⟩
 .refine yYX (m:=field (.ref z) 2) (wpAny_field hz rfl (x:=.bool false) rfl ?_)
  refine yYX (m:=field (.ref z) 3) (wpAny_field hz rfl (x:=.ref TI) rfl ?_)
  refine yYX (wpAny_seqItems rY rfl ?_)
  refine yYX (m:=Builtin.SmallTypes.ownedTupleIsFree (.ref z)) ?_
  have step:∀{α:Type} (N:Bool->Sem α) (QQ:α->Shared->Prop),(∀h₁,cc h₁ z TI TO (rawInt T) (.bool true)->Heap.SameBut z s.heap h₁->wpAny (model prog w) A (N false) QQ E { s with heap:=h₁ })->
    wpAny (model prog w) A (Builtin.SmallTypes.ownedTupleIsFree (.ref z)) (λb s'=>wpAny (model prog w) A (N b) QQ E s') E s:=λN QQ hN=>by
   unfold Builtin.SmallTypes.ownedTupleIsFree
   refine yYX (wpAny_field hz rfl (x:=rawInt T) rfl ?_)
   show wpAny _ _ (loadIfAlive ((T:Int).toNat) >>= _) _ _ _
   rw[Int.toNat_natCast]
   refine yYX (W.kdx_alive hT ?_)
   simp only[Option.isNone_some,bL,if_false]
   refine yYX (wpAny_field hz rfl (x:=.bool f) rfl ?_)
   cases f with
   | true=>rw[if_neg (show¬((Value.bool true != Value.bool true)=true) from cj)];exact yYY (hN _ hz (.refl ..))
   | false=>rw[if_pos (show(Value.bool false != Value.bool true)=true from rfl)];exact yYX (wpAny_setField_rec hz (by simp) λh₁ hz₁ hs₁=>yYY (hN h₁ hz₁ hs₁))
  refine step _ _ λh₁ hz₁ hs₁=>?_
  simp only[bL,if_false]
  refine yYX ?_
  rw[<- Array.forIn_toList]
  simp only[List.forIn_cons,List.forIn_nil]
  refine yYX (yYX (wpAny_holding ?_))
  refine yYX (m:=Builtin.SmallTypes.nextOf (.ref i1)) (wpAny_nextOf_list_end hh (h1.extBut hs₁.extBut D.i1z) (hl.extBut hs₁.extBut nl.1) hx λh₂ e hs₂ he=>hE h₂ e (λc o c1 _ c3 _ x=>hs₂ _ _ c3 (hs₁.extBut _ _ c1 x)) he)
theorem RU {z TI TO i1 i2 l t:Addr}{k:Nat}{xs ys:Array Value}{x y:Value}{Q:Option Value->Shared->Prop}(D:eh z TI TO i1 i2)(S:cD s.heap z TI TO i1 i2 l t k)
  (hl:s.heap.IsList l xs) (ht:s.heap.IsTuple t ys) (nl:l≠z/\l≠TO/\l≠i1/\l≠i2) (nt:t≠z/\t≠TO/\t≠i1/\t≠i2) (hx:xs[k]? = some x) (hy:ys[k]? = some y)
  (hQ:∀h' T,cD h' z TI TO i1 i2 l t (k+1)->IsPair h' T x y->(∀c o,c≠z->c≠TO->c≠i1->c≠i2->s.heap.get? c=some o->h'.get? c=some o)->Q (some (.ref T)) { s with heap:=h' }):
  wpAny (model prog w) A (pyNext (.ref z)) Q E s:=by
 have hT:s.TypeIs (.ref z) "zip" := by
  rcases S.zip with h | ⟨_,_,h,_⟩ <;> exact⟨_,h,rfl⟩
 unfold pyNext
 exact yYX (wpAny_attempt (wpAny_callSpecial?_slot (name:=Yb "__next__") hT F.slot_zip_next (wpAny_call_entry F.slot_zip_next hT F.entry_zip_next
   (RQ D S hl ht nl nt hx hy λh' T a1 a2 a3=>yYY (hQ h' T a1 a2 a3)) (F.args_zip_next_1 _))))
theorem RV {z TI TO i1 i2 l t:Addr}{k:Nat}{xs:Array Value}{Q:Option Value->Shared->Prop}(hh:A.handled=none)(D:eh z TI TO i1 i2)(S:cD s.heap z TI TO i1 i2 l t k)
  (hl:s.heap.IsList l xs) (nl:l≠z/\l≠TO/\l≠i1/\l≠i2) (hx:xs[k]? = none)
  (hQ:∀h',(∀c o,c≠z->c≠TO->c≠i1->c≠i2->s.heap.get? c=some o->h'.get? c=some o)->Q none { s with heap:=h' }):wpAny (model prog w) A (pyNext (.ref z)) Q E s:=by
 have hT:s.TypeIs (.ref z) "zip" := by
  rcases S.zip with h | ⟨_,_,h,_⟩ <;> exact⟨_,h,rfl⟩
 unfold pyNext
 refine yYX (wpAny_attempt (wpAny_callSpecial?_slot (name:=Yb "__next__") hT F.slot_zip_next (wpAny_call_entry F.slot_zip_next hT F.entry_zip_next (RS hh D S hl nl hx λh' e hk he=>?_) (F.args_zip_next_1 _))))
 obtain⟨o,ho,hc⟩:=he
 exact yYX (wpAny_isInstance (T := "StopIteration") (b:=true) ⟨o,ho,hc⟩ isSubtype_stop (yYY (hQ _ hk)))
theorem RW {z TI TO i1 i2 l t:Addr}{k:Nat}{Q:Value->Shared->Prop}(S:cD s.heap z TI TO i1 i2 l t k)(h:Q (.ref z) s):wpAny (model prog w) A (pyIter (.ref z)) Q E s:=by
 have hT:s.TypeIs (.ref z) "zip" := by
  rcases S.zip with h | ⟨_,_,h,_⟩ <;> exact⟨_,h,rfl⟩
 exact wpAny_pyIter_slot hT F.slot_zip_iter (wpAny_call_entry F.slot_zip_iter hT F.entry_zip_iter (yYY ⟨_,rfl,"zip",_,hT,F.slot_zip_next.lookup,h⟩) (F.args_zip_iter_1 _))
end
end PySem
namespace PySem
namespace FD
theorem aV:entryFor table "dict.update.loop" = some Builtin.«dict.update.loop»:=entryFor_of_tree (by kernel_rfl)
theorem aC:plainId "dict.update.loop" = true:=by wtm_at"d"
end FD
structure eo (prog:Program)(w:World)(A:Around)(d it:Addr)(fp:List Addr)(kvs:List (Value×Value))(St:Nat->Heap->Prop):Prop where
 frame:∀i h h',St i h->Heap.SameBut d h h'->(∃o,h'.get? d=some o)->St i h'
 item:∀(i:Nat) (s:Shared) (Q:Option Value->Shared->Prop) (E:Value->Shared->Prop) (k v:Value),kvs[i]? = some (k,v)->St i s.heap->
  (∀T h' tk n,St (i+1) h'->(∃o,h'.get? T=some o/\o.cls=.type "tuple" /\ o.data=.seq #[k,v] n)->(∀b o,b∉fp->s.heap.get? b=some o->h'.get? b=some o)->Q (some (.ref T)) { s with heap:=h',toks:=tk })->wpAny (model prog w) A (pyNext (.ref it)) Q E s
 done:∀(s:Shared) (Q:Option Value->Shared->Prop) (E:Value->Shared->Prop),St kvs.length s.heap->
  (∀h' tk,(∀b o,b∉fp->s.heap.get? b=some o->h'.get? b=some o)->Q none { s with heap:=h',toks:=tk })->wpAny (model prog w) A (pyNext (.ref it)) Q E s
section
variable {prog:Program}{w:World}{K:Type}[DecidableEq K]{knd:KeyKind prog w K}{A:Around}
abbrev Keyed (knd:KeyKind prog w K):List (K×Value)->List (Value×Value)->Prop:=Paired λp q=>knd.is p.1 q.1=true/\p.2=q.2
theorem RX {ks:List (K×Value)}{kvs:List (Value×Value)}(h:Keyed knd ks kvs):∀{i:Nat} {p:K×Value},ks[i]? = some p->∃q,kvs[i]? = some q/\knd.is p.1 q.1=true/\p.2=q.2:=by
 induction h with
 | nil=>intro i p e;simp at e
 | cons f _ ih=>
  intro i p e
  cases i with
  | zero=>simp at e;subst e;exact⟨_,rfl,f⟩
  | succ i=>exact ih (i:=i) (by simpa using e)
theorem LS {d it:Addr}{fp:List Addr}{kvs:List (Value×Value)}{ks:List (K×Value)}{St:Nat->Heap->Prop}(P:eo prog w A.in1 d it fp kvs St)(hk:Keyed knd ks kvs)(hd:d∉fp)(hz:ks.length<=1000){R:Result->Shared->Prop}{s₀:Shared}
  (hR:∀h' tk,(∀b o,b∉fp->b≠d->s₀.heap.get? b=some o->h'.get? b=some o)->h'.DictOf knd d (merged [] ks)->R (.ok (.ret .none)) { s₀ with heap:=h',toks:=tk }):
  ∀(m i:Nat) (h:Heap) (tk:Nat),ks.length - i=m->i<=ks.length->St i h->h.DictOf knd d (merged [] (ks.take i))->(∀b o,b∉fp->b≠d->s₀.heap.get? b=some o->h.get? b=some o)->
   codeAny (model prog w) A (.builtin "dict.update.loop" ⟨[.ref d,.ref it,rawInt i,.none],[]⟩) R { s₀ with heap:=h,toks:=tk }:=by
 intro m
 induction m with
 | zero=>
  intro i h tk hm hi st hD keep
  have e:i=ks.length:=by omega
  subst e
  refine codeAny_builtin FD.aV ?_
  rw[Around.under_plainId FD.aC _]
  rw[hk.length] at st
  refine yYX (m:=pyNext (.ref it)) (P.done { s₀ with heap:=h,toks:=tk } _ _ st λh' fQ kp=>?_)
  rw[dm] at hD
  refine yYX (m:=Builtin.Dict.addKeywords d []) (yYY (yYY ?_))
  refine hR h' fQ (λb o b1 b2 e=>kp b o b1 (keep b o b1 b2 e)) ?_
  obtain⟨o,es,ep,ho,r⟩:=hD
  exact⟨o,es,ep,kp _ _ hd ho,r⟩
 | succ m ih=>
  intro i h tk hm hi st hD keep
  have bc:i<ks.length:=by omega
  obtain⟨p,ep⟩:∃p,ks[i]? = some p:=⟨_,aH bc⟩
  obtain⟨⟨kv,vv⟩,eq,g9,mr⟩:=RX hk ep
  have mr:p.2=vv:=mr
  refine codeAny_builtin FD.aV ?_
  rw[Around.under_plainId FD.aC _]
  refine yYX (m:=pyNext (.ref it)) (P.item i { s₀ with heap:=h,toks:=tk } _ _ kv vv eq st λT h' fQ n c6 hT kp=>?_)
  obtain⟨oT,hT,F1,t6⟩:=hT
  have fm:Shared.TypeIs { s₀ with heap:=h',toks:=fQ } (.ref T) "tuple" := ⟨_,hT,F1⟩
  have F4:h'.DictOf knd d (merged [] (ks.take i)):=by
   obtain⟨o,es,ep,ho,r⟩:=hD
   exact⟨o,es,ep,kp _ _ hd ho,r⟩
  refine yYX (wpAny_holding ?_)
  refine yYX (wpAny_tryCatch ?_)
  unfold Builtin.Dict.pairItems
  refine yYX (wpAny_typeOf fm ?_)
  rw[if_pos (by decide)]
  refine yYX (wpAny_seqItems hT t6 (yYY ?_))
  refine wpAny_holding (wpAny_dictSet_pairs g9 F4 (λiM hD'' sb=>?_) ?_)
  .refine yYY ⟨plainId_quiet FD.aC _,?_⟩
   have e1:merged [] (ks.take (i+1))=stored (merged [] (ks.take i)) p.1 p.2:=merged_take_succ [] ks i p ep
   rw[<- mr] at hD''
   have:=ih (i+1) iM (fQ+1) (by omega) bc (P.frame _ _ _ c6 sb (by obtain⟨o,_,_,ho,_⟩:=hD'';exact⟨o,ho⟩)) (by rw[e1];exact hD'') λb o b1 b2 e=>(sb.2 b b2).trans (kp b o b1 (keep b o b1 b2 e))
   exact this
  .have:=merged_length_le ([]:List (K×Value)) (ks.take i)
   rw[cJ,gW] at this
   have e:Yc=16777216:=by decide
   omega
theorem kB {E:Value->Shared->Prop}{s:Shared}{a:Addr}{T:String}{Q:Value->Shared->Prop}(hT:s.TypeIs (.ref a) T)(oz:(Value.type T != Value.type "dict")=true)
  (h:∀E':Value->Shared->Prop,wpAny (model prog w) A.in1.in1 (getAttr? (.ref a) "keys") (λr s2=>r=none/\wpAny (model prog w) A.in1.in1 (pyIter (.ref a)) (λit s3=>codeAny (model prog w) A.in1 (.builtin "dict.update.loop" ⟨[.ref s.heap.objs.size,it,rawInt 0,.none],[]⟩)
   (wants (λr s₂=>r=.none/\Q (.ref s.heap.objs.size) s₂) E) s3) E' s2) E' { s with heap:=s.heap.push { cls:=.type "dict",data:=.dict #[] } }):
  wpAny (model prog w) A (call (.type "dict") [.ref a]) Q E s:=by
 refine callType_codes (Q₁:=λobj s₁=>obj=.ref s.heap.objs.size/\s₁={ s with heap:=s.heap.push { cls:=.type "dict",data:=.dict #[] } }) F.kt_called_dict (F.kt_typeCall_dict_1 _) F.entry_dict_init (kt_code_dict_new _ ⟨rfl,rfl⟩) ?_
 rintro obj s₁ ⟨rfl,rfl⟩
 have gd:(s.heap.push { cls:=.type "dict",data:=.dict #[] }).get? s.heap.objs.size=some { cls:=.type "dict",data:=.dict #[] }:=bg _ rfl
 have i7:Shared.TypeIs { s with heap:=s.heap.push { cls:=.type "dict",data:=.dict #[] } } (.ref s.heap.objs.size) "dict" := ⟨_,gd,rfl⟩
 have RY:Shared.TypeIs { s with heap:=s.heap.push { cls:=.type "dict",data:=.dict #[] } } (.ref a) T:=by
  obtain⟨o,ho,hc⟩:=hT
  exact⟨o,yYZ _ ho,hc⟩
 refine⟨i7,F.args_dict_init_2 _ _,?_⟩
 unfold Builtin.«dict.__init__»
 refine yYX ?_
 unfold Builtin.Dict.selfAndRest
 refine yYX (wpAny_notOrdered_dict i7 ?_)
 show wpAny _ _ (pure (s.heap.objs.size,[Value.ref a])) _ _ _
 refine yYY ?_
 show wpAny _ _ (Builtin.Dict.updateFrom "dict.__init__" s.heap.objs.size (.ref a) [] .none) _ _ _
 unfold Builtin.Dict.updateFrom
 refine yYX (wpAny_typeOf RY ?_)
 rw[if_pos oz]
 refine yYX (wpAny_mono (h _) (λr s2 hr=>?_) λ_ _ x=>x)
 obtain⟨rfl,hr⟩:=hr
 simp only[Option.isNone_none,if_true]
 refine yYX (wpAny_rule (yYX (wpAny_mono hr (λit s3 hc=>?_) λ_ _ x=>x)))
 exact yYY ⟨plainId_quiet FD.aC _,hc⟩
end
section
variable {prog:Program}{w:World}{K:Type}[DecidableEq K]{knd:KeyKind prog w K}{A:Around}{E:Value->Shared->Prop}{s:Shared}
theorem LU (h:Heap):(h.push { cls:=.type "dict",data:=.dict #[] }).DictOf knd h.objs.size []:=Heap.DictOf.new h
theorem RZ {l t:Addr}{xs ys:Array Value}{ks:List (K×Value)}{Q:Value->Shared->Prop}(hh:A.handled=none)(hl:s.heap.IsList l xs)(ht:s.heap.IsTuple t ys)(hsz:xs.size=ys.size)(hk:Keyed knd ks (xs.toList.zip ys.toList))(hz:ks.length<=1000)
  (hQ:∀p h' tk,s.heap.objs.size<=p->(∀b o,s.heap.get? b=some o->h'.get? b=some o)->h'.DictOf knd p (merged [] ks)->Q (.ref p) { s with heap:=h',toks:=tk }):
  wpAny (model prog w) A (call (.type "zip") [.ref l,.ref t]) (λz s1=>wpAny (model prog w) A (call (.type "dict") [z]) Q E s1) E s:=by
 refine RP hl ht λh1 z TI TO i1 i2 D S z1 z2 z3 z4 z5 keep1=>?_
 have hT:Shared.TypeIs { s with heap:=h1 } (.ref z) "zip" := by
  rcases S.zip with h | ⟨_,_,h,_⟩ <;> exact⟨_,h,rfl⟩
 have BN:l<s.heap.objs.size:=by obtain⟨o,e,_⟩:=hl;exact aG e
 have BO:t<s.heap.objs.size:=by obtain⟨o,e,_⟩:=ht;exact aG e
 have LV:∀x,x=z\/x=TI\/x=TO\/x=i1\/x=i2->x<h1.objs.size:=λx hx=>by
  rcases hx with rfl | rfl | rfl | rfl | rfl
  .rcases S.zip with h | ⟨_,_,h,_⟩ <;> exact aG h
  .exact aG S.its
  .obtain⟨_,_,h⟩:=S.own;exact aG h
  .obtain⟨_,h,_⟩:=S.one;exact aG h
  .obtain⟨_,h,_⟩:=S.two;exact aG h
 refine kB hT (by decide) λE'=>?_
 have S2:cD (h1.push { cls:=.type "dict",data:=.dict #[] }) z TI TO i1 i2 l t 0:=by
  refine⟨?_,yYZ _ S.its,?_,S.one.at λo e=>yYZ _ e,S.two.at λo e=>yYZ _ e⟩
  .rcases S.zip with h | ⟨T,f,h,⟨o,e⟩,r⟩
   .exact .inl (yYZ _ h)
   .exact .inr ⟨T,f,yYZ _ h,⟨o,yYZ _ e⟩,r⟩
  .obtain⟨a,b,e⟩:=S.own
   exact⟨a,b,yYZ _ e⟩
 have dz:∀x,x=z\/x=TI\/x=TO\/x=i1\/x=i2->h1.objs.size≠x:=λx hx=>yZH (LV x hx)
 have old:s.heap.objs.size<=h1.objs.size:=Nat.le_of_lt (pS z1 (LV z (.inl rfl)))
 obtain⟨vs,F5⟩:∃vs,(h1.push { cls:=.type "dict",data:=.dict #[] }).get? z=some { cls:=.type "zip",dict:=none,data:=.fields vs,slots:=#[] }:=by
  rcases S2.zip with h | ⟨_,_,h,_⟩ <;> exact⟨_,h⟩
 refine RK F5 hh λh2 tk2 kp2=>⟨rfl,?_⟩
 have S3:cD h2 z TI TO i1 i2 l t 0:=by
  refine⟨?_,kp2 _ _ S2.its,?_,S2.one.at λo e=>kp2 _ _ e,S2.two.at λo e=>kp2 _ _ e⟩
  .rcases S2.zip with h | ⟨T,f,h,⟨o,e⟩,r⟩
   .exact .inl (kp2 _ _ h)
   .exact .inr ⟨T,f,kp2 _ _ h,⟨o,kp2 _ _ e⟩,r⟩
  .obtain⟨a,b,e⟩:=S2.own
   exact⟨a,b,kp2 _ _ e⟩
 refine RW S3 ?_
 have hlen:(xs.toList.zip ys.toList).length=xs.size:=by rw[List.length_zip];simp[hsz]
 have t7:l≠z/\l≠TO/\l≠i1/\l≠i2:=⟨yZF (yZE BN z1),yZF (yZE BN z3),yZF (yZE BN z4),yZF (yZE BN z5)⟩
 have BP:t≠z/\t≠TO/\t≠i1/\t≠i2:=⟨yZF (yZE BO z1),yZF (yZE BO z3),yZF (yZE BO z4),yZF (yZE BO z5)⟩
 have R0:l≠h1.objs.size:=yZF (yZE BN old)
 have R1:t≠h1.objs.size:=yZF (yZE BO old)
 have P:eo prog w A.in1.in1 h1.objs.size z [z,TO,i1,i2] (xs.toList.zip ys.toList) (λi h=>cD h z TI TO i1 i2 l t i/\h.IsList l xs/\h.IsTuple t ys):=
  {frame:=λi h h' ⟨S,hl,ht⟩ sb ⟨od,R3⟩=>by
    have k:∀b o,b≠h1.objs.size->h.get? b=some o->h'.get? b=some o:=λb o hb e=>(sb.2 b hb).trans e
    refine⟨⟨?_,k _ _ (dz TI (.inr (.inl rfl))).symm S.its,?_,S.one.at λo e=>k _ _ (dz i1 (by simp)).symm e,S.two.at λo e=>k _ _ (dz i2 (by simp)).symm e⟩,?_,?_⟩
    .rcases S.zip with h | ⟨T,f,h,⟨o,e⟩,r⟩
     .exact .inl (k _ _ (dz z (.inl rfl)).symm h)
     .refine .inr ⟨T,f,k _ _ (dz z (.inl rfl)).symm h,?_,r⟩
      by_cases t6:T=h1.objs.size
      .exact⟨od,by rw[t6];exact R3⟩
      .exact⟨o,k _ _ t6 e⟩
    .obtain⟨a,b,e⟩:=S.own
     exact⟨a,b,k _ _ (dz TO (by simp)).symm e⟩
    .obtain⟨o,ho,r⟩:=hl;exact⟨o,k _ _ R0 ho,r⟩
    .obtain⟨o,ho,r⟩:=ht;exact⟨o,k _ _ R1 ho,r⟩
   item:=λi s Q E k v e ⟨S,hl,ht⟩ hQ=>by
    obtain⟨e1,e2⟩:=List.getElem?_zip_eq_some.mp e
    refine RU D S hl ht t7 BP (x:=k) (y:=v) (by simpa using e1) (by simpa using e2) λh' T S' hT kp=>?_
    refine hQ T h' s.toks 0 ⟨S',?_,?_⟩ ⟨_,hT,rfl,rfl⟩ λb o hb e=>kp b o (λz=>hb (by simp[z])) (λz=>hb (by simp[z])) (λz=>hb (by simp[z])) (λz=>hb (by simp[z])) e
    .obtain⟨o,ho,r⟩:=hl;exact⟨o,kp _ _ t7.1 t7.2.1 t7.2.2.1 t7.2.2.2 ho,r⟩
    .obtain⟨o,ho,r⟩:=ht;exact⟨o,kp _ _ BP.1 BP.2.1 BP.2.2.1 BP.2.2.2 ho,r⟩
   done:=λs Q E ⟨S,hl,ht⟩ hQ=>by
    refine RV (A:=A.in1.in1) hh D S hl t7 (by rw[hlen];simp) λh' kp=>?_
    exact hQ h' s.toks λb o hb e=>kp b o (λz=>hb (by simp[z])) (λz=>hb (by simp[z])) (λz=>hb (by simp[z])) (λz=>hb (by simp[z])) e }
 have kl:∀b o,s.heap.get? b=some o->h2.get? b=some o:=λb o e=>kp2 _ _ (yYZ _ (keep1 _ _ e))
 have BQ:h2.DictOf knd h1.objs.size (merged [] (ks.take 0)):=by
  obtain⟨o,es,ep,ho,r⟩:=LU (knd:=knd) h1
  exact⟨o,es,ep,kp2 _ _ ho,r⟩
 refine LS (A:=A.in1) (s₀:={ s with heap:=h2,toks:=tk2 }) P hk (by simp[dz z,dz TO,dz i1,dz i2]) hz (λh' tk kp hD=>⟨rfl,?fin⟩) ks.length 0 h2 tk2 (by simp) (yZG _) ⟨S3,?sl,?st⟩ BQ (λ_ _ _ _ e=>e)
 case fin=>
  refine hQ _ h' tk old (λb o e=>kp b o ?_ ?_ (kl b o e)) hD
  .have bl:=aG e
   intro hb
   simp only[aE,Yp,or_false] at hb
   rcases hb with rfl | rfl | rfl | rfl
   .exact absurd (yZE bl z1) (Nat.lt_irrefl _)
   .exact absurd (yZE bl z3) (Nat.lt_irrefl _)
   .exact absurd (yZE bl z4) (Nat.lt_irrefl _)
   .exact absurd (yZE bl z5) (Nat.lt_irrefl _)
  .exact yZF (yZE (aG e) old)
 case sl=>obtain⟨o,ho,r⟩:=hl;exact⟨o,kl _ _ ho,r⟩
 case st=>obtain⟨o,ho,r⟩:=ht;exact⟨o,kl _ _ ho,r⟩
theorem kS {l:Addr}{xs:Array Value}{n:Nat}{kvs:List (Value×Value)}{ks:List (K×Value)}{Q:Value->Shared->Prop}(hh:A.handled=none)(hl:s.heap.get? l=some { cls:=.type "list",data:=.seq xs n })
  (hp:∀(i:Nat) p,kvs[i]? = some p->∃T o m,xs[i]? = some (.ref T)/\s.heap.get? T=some o/\o.cls=.type "tuple" /\ o.data=.seq #[p.1,p.2] m) (hlen:kvs.length=xs.size) (hk:Keyed knd ks kvs) (hz:ks.length<=1000)
  (hQ:∀p h' tk,s.heap.objs.size<=p->(∀b o,s.heap.get? b=some o->h'.get? b=some o)->h'.DictOf knd p (merged [] ks)->Q (.ref p) { s with heap:=h',toks:=tk }):
  wpAny (model prog w) A (call (.type "dict") [.ref l]) Q E s:=by
 refine kB (T := "list") ⟨_,hl,rfl⟩ (by decide) λE'=>?_
 have kd:∀b o,s.heap.get? b=some o->(s.heap.push { cls:=.type "dict",data:=.dict #[] }).get? b=some o:=λb o e=>yYZ _ e
 refine kP (kd _ _ hl) hh λh2 tk2 kp2=>⟨rfl,?_⟩
 have kl:∀b o,s.heap.get? b=some o->h2.get? b=some o:=λb o e=>kp2 _ _ (kd _ _ e)
 have L2:h2.IsList l xs:=⟨_,kl _ _ hl,rfl,n,rfl⟩
 refine wpAny_pyIter_list (s:={ s with heap:=h2,toks:=tk2 }) L2 ?_
 have k3:∀b o,h2.get? b=some o->(h2.push { cls:=.type "list_iterator",data:=.fields #[.ref l,.int 0 0] }).get? b=some o:=λb o e=>yYZ _ e
 have nK:s.heap.objs.size<h2.objs.size:=aG (kp2 _ _ (bg _ rfl))
 have P:eo prog w A.in1.in1 s.heap.objs.size h2.objs.size [h2.objs.size] kvs (λi h=>h.IsListIter h2.objs.size l i/\∀b o,s.heap.get? b=some o->h.get? b=some o):=
  {frame:=λi h h' ⟨S,kp⟩ sb _=>⟨S.at λo e=>(sb.2 _ (yZH nK)).trans e,λb o e=>(sb.2 b (yZF (aG e))).trans (kp b o e)⟩
   item:=λi s' Q E k v e ⟨S,kp⟩ hQ=>by
    obtain⟨T,o,m,ex,ho,hc,hd⟩:=hp i (k,v) e
    refine wpAny_pyNext_list_item S ⟨_,kp _ _ hl,rfl,n,rfl⟩ ex λh' S' sb=>?_
    have nb:∀b o,s.heap.get? b=some o->b≠h2.objs.size:=λb o e=>yZF (Nat.lt_trans (aG e) nK)
    exact hQ T h' s'.toks m ⟨S',λb o e=>(sb.2 b (nb b o e)).trans (kp b o e)⟩ ⟨o,(sb.2 T (nb T o ho)).trans (kp _ _ ho),hc,hd⟩ λb o hb e=>(sb.2 b (λz=>hb (by simp[z]))).trans e
   done:=λs' Q E ⟨S,kp⟩ hQ=>by
    refine wpAny_pyNext_list_end (A:=A.in1.in1) hh S ⟨_,kp _ _ hl,rfl,n,rfl⟩ (by rw[hlen];simp) λh' eb=>?_
    exact hQ h' s'.toks λb o hb e=>eb b o (λz=>hb (by simp[z])) e }
 have BQ:(h2.push { cls:=.type "list_iterator",data:=.fields #[.ref l,.int 0 0] }).DictOf knd s.heap.objs.size (merged [] (ks.take 0)):=by
  obtain⟨o,es,ep,ho,r⟩:=LU (knd:=knd) s.heap
  exact⟨o,es,ep,k3 _ _ (kp2 _ _ ho),r⟩
 refine LS (A:=A.in1) (s₀:={ s with heap:=h2.push { cls:=.type "list_iterator",data:=.fields #[.ref l,.int 0 0] },toks:=tk2 }) P hk (by simp;exact yZF nK) hz (λh' tk kp hD=>⟨rfl,?_⟩) ks.length 0 _ tk2 (by simp) (yZG _) ⟨⟨_,bg _ rfl,rfl,rfl⟩,λb o e=>k3 _ _ (kl _ _ e)⟩ BQ (λ_ _ _ _ e=>e)
 refine hQ _ h' tk (yZD _) (λb o e=>kp b o ?_ (yZF (aG e)) (k3 _ _ (kl b o e))) hD
 simp only[bB]
 exact yZF (Nat.lt_trans (aG e) nK)
end
end PySem
namespace L2
open PySem PySem.Spec PyProof.Rows
theorem LW:bootBuiltins "zip" = some (.type "zip"):=by wtm_at"d"
def i9 (ns:List Str)(xs:List V):List (Key×V):=(ns.zip xs).map λp=>(Sum.inr p.1,p.2)
def cR (kvs:List (Str×V)):List (Key×V):=kvs.map λp=>(Sum.inr p.1,p.2)
theorem LX {P:Program}{w:World}:∀{ns:List Str} {xs:List V} {us vs:List Value},Vals (ns.map V.str) us->Vals xs vs->ns.length=xs.length->∃ks:List (Key×Value),Keyed (xH P w) ks (us.zip vs)/\KV (i9 ns xs) ks/\ks.length=ns.length
 | [],[],_,_,.nil,.nil,_=>⟨[],.nil,.nil,rfl⟩
 | n::ns,x::xs,_,_,.cons r1 t1,.cons (b:=v) r2 t2,hl=>by
  obtain⟨ks,h1,h2,h3⟩:=LX (P:=P) (w:=w) t1 t2 (by simpa using hl)
  obtain⟨t,rfl⟩:=r1
  exact⟨(Sum.inr n,v)::ks,.cons ⟨vZ P w n t,rfl⟩ h1,.cons ⟨rfl,r2⟩ h2,by simp[h3]⟩
 | [],_::_,_,_,_,_,hl=>by simp at hl
 | _::_,[],_,_,_,_,hl=>by simp at hl
section
variable {X:Cx}{zz:List (Addr×Obj)}{σ:St}{H:Hp}{s:Shared}
theorem Inv.newDict {Q:VK}{p:Addr}{h':Heap}{tk:Nat}{kvs:List (Key×V)}{ks:List (Key×Value)}(I:Inv X zz σ H s)(hp:s.heap.objs.size<=p)(keep:∀b o,s.heap.get? b=some o->h'.get? b=some o)
  (rel:KV kvs ks) (hk:ks.length<=1000) (hD:h'.DictOf (xH X.prog X.w) p (merged [] ks)) (q:Q (.ref p) (upd H p (.dK (az [] kvs)))):EP X zz σ Q (.ref p) { s with heap:=h',toks:=tk }:=by
 refine⟨.ref p,upd H p (.dK (az [] kvs)),I.laid (o:=.dK (az [] kvs)) keep hp ⟨?_,?_,merged [] ks,KV.merge rel .nil,hD⟩,rfl,q⟩
 .have l1:=yZ kvs []
  have l2:=rel.length
  have e:Yc=16777216:=by decide
  rw[gW] at l1
  omega
 .have:=I.big
  have ne:p≠sysModules:=yZH (yZE this hp)
  exact beq_eq_false_iff_ne.mpr ne
def R4 (K:aq)(ta:TA):TE:=λσ H Q=>ta σ H λvs H1=>∃l t ns xs,vs=[.ref l,.ref t]/\aj K H1 l (ns.map V.str)/\aS K H1 t xs/\ns.length=xs.length/\ns.length<=1000/\
 ∀p,H1 p=none->Q (.ref p) (upd H1 p (.dK (az [] (i9 ns xs))))
theorem R5 {a b:Expr}{ta:TA}{p p2 pos oA:Pos}(hc:X.calm=true)(hg:Gl X "dict")(hm:X.mg "dict" = none)(R6:Gl X "zip")(t8:X.mg "zip" = none)(ha:PA X [a,b] ta)
  (he:starEach [.Call (.Name "zip" p2) [a,b] [] oA] X.env=[(false,eval (.Call (.Name "zip" p2) [a,b] [] oA) X.env)]:=by rfl)
  (F6:starEach [a,b] X.env=[(false,eval a X.env),(false,eval b X.env)]:=by rfl) (BR:starEach [b] X.env=[(false,eval b X.env)]:=by rfl):
  PE X (.Call (.Name "dict" p) [.Call (.Name "zip" p2) [a,b] [] oA] [] pos) (R4 X.K ta):=by
 intro zz s σ H Q I h
 refine Call_ (wA I hg hm BI (PyProof.Rows.callWith_type1 ?_ he rfl))
 rw[he]
 refine Calls.spliced_cons (Call_ (wA I R6 t8 LW (PyProof.Rows.callWith_type1 (aF (ha oA zz s σ H _ I h) λus s1 ⟨vs,H1,I1,r1,q1⟩=>?_) (by rw[F6,BR]) (by rw[BR];rfl))))
 obtain⟨l,t,ns,xs,rfl,hl,ht,hlen,mw,q⟩:=q1
 obtain⟨u,v,rfl,ru,rv⟩:=vals2 r1
 cases ru;cases rv
 obtain⟨its,r2,R7,_⟩:=I1.list hl
 obtain⟨cM,r3,p3,_⟩:=I1.tuple ht
 obtain⟨ks,k1,k2,k3⟩:=LX (P:=X.prog) (w:=X.w) r2 r3 hlen
 have e1:=r2.length
 have e2:=r3.length
 rw[av] at e1
 refine aF (RZ (knd:=xH X.prog X.w) (ks:=ks) (I1.ok.hd hc) R7.isList (show s1.heap.IsTuple t cM.toArray from p3) (by simp only[dO];omega) (by simpa using k1) (by omega) λp' h' tk hp keep hD=>?_) λz s2 hz=>Calls.spliced_nil hz
 exact I1.newDict hp keep k2 (by omega) hD (q p' (I1.af.fresh hp))
def ib (H:Hp)(kv:Str×V)(u:V):Prop:=∃a,u=.ref a/\H a=some (.tup [.str kv.1,kv.2])
theorem R8 (I:Inv X zz σ H s):∀{kvs:List (Str×V)} {us:List V} {its:List Value},Paired (ib H) kvs us->Vals us its->∃(vv:List (Value×Value)) (ks:List (Key×Value)),
  (∀(i:Nat) p,vv[i]? = some p->∃T o m,its[i]? = some (.ref T)/\s.heap.get? T=some o/\o.cls=.type "tuple" /\ o.data=.seq #[p.1,p.2] m)/\vv.length=its.length/\Keyed (xH X.prog X.w) ks vv/\KV (cR kvs) ks/\ks.length=kvs.length:=by
 intro kvs us its hp
 induction hp generalizing its with
 | nil=>
  intro hv
  cases hv
  exact⟨[],[],λi p e=>by simp at e,rfl,.nil,.nil,rfl⟩
 | @cons kv _ _ _ f t ih=>
  intro hv
  cases hv with
  | cons r t2=>
  obtain⟨n,x⟩:=kv
  obtain⟨vv,ks,h1,h2,h3,h4,h5⟩:=ih t2
  obtain⟨a,rfl,ha⟩:=f
  cases r
  obtain⟨z,its,rv,o,ho,hc,m,hd,_⟩:=I.af a _ ha
  obtain⟨u,v,rfl,ru,r6⟩:=vals2 rv
  obtain⟨tk,rfl⟩:=ru
  refine⟨(.str n tk,v)::vv,(Sum.inr n,v)::ks,λi p e=>?_,by simp[h2],.cons ⟨vZ _ _ n tk,rfl⟩ h3,.cons ⟨rfl,r6⟩ h4,by simp[h5]⟩
  cases i with
  | zero=>
   simp at e
   subst e
   exact⟨a,o,m,rfl,ho,hc,hd⟩
  | succ i=>exact h1 i p (by simpa using e)
theorem R9 (hc:X.calm=true):aL X (.type "dict") (λvs H Q=>∃l us kvs,vs=[.ref l]/\H l=some (.lst us)/\Paired (ib H) kvs us/\kvs.length<=1000/\∀p,H p=none->Q (.ref p) (upd H p (.dK (az [] (cR kvs))))):=by
 intro zz s σ H vs us Q I r h
 obtain⟨l,xs,kvs,rfl,hl,hp,mw,q⟩:=h
 obtain⟨u,rfl,ru⟩:=vals1 r
 cases ru
 obtain⟨z,its,n,rv,hlen,e⟩:=I.lstM hl
 obtain⟨vv,ks,k1,k2,k3,k4,k5⟩:=R8 I hp rv
 refine kS (knd:=xH X.prog X.w) (ks:=ks) (kvs:=vv) (I.ok.hd hc) e (λi p ep=>?_) (by simp[k2]) k3 (by omega) λp h' tk j3 keep hD=>I.newDict j3 keep k4 (by omega) hD (q p (I.af.fresh j3))
 obtain⟨T,o,m,a1,a2⟩:=k1 i p ep
 exact⟨T,o,m,by simpa using a1,a2⟩
end
end L2
namespace FP
open PySem L2
theorem xN {X:Cx}{a b:Expr}{ta tb:TE}{pos:Pos}{r:R2}(hr:tU X r)(ha:PE X a ta)(hb:PE X b tb)(hs:Lq b:=by exact λ_ _=>rfl):PE X (.Subscript a b pos) (rD r ta tb):=QP hr ha hb hs
theorem xG {X:Cx}{pos:Pos}{i:Nat}{x:Str}{e:Expr}{te:TE}{pos':Pos}(hN:X.N.Nodup)(hi:X.N[i]? = some x)(he:PE X e te)(hx:Loc X.env.scope x:=by first | exact Or.inl rfl | exact Or.inr rfl)(hs:swapsWith e (some (.Name x pos')) pos.line X.env=pure false:=by rfl)(hf:X.fn x=true\/X.env.scope.names.lookup x=some .local:=by first | exact .inl rfl | exact .inr rfl | assumption):PS X (.Assign [.Name x pos'] e pos) (nY te (br i)):=qO hN hi hx he hs hf
inductive Th where
 | num (n:Int) | box (x:Str) | nul (k:Str) | un (k:Str) (a:Th) | bin (k:Str) (a b:Th)
namespace Th
def Op (k:Str):Prop:=k ≠ "box" /\ k ≠ "number"
def dep:Th->Nat
 | num _=>1
 | box _=>1
 | nul _=>1
 | un _ a=>a.dep+1
 | bin _ a b=>max a.dep b.dep+1
theorem iN:∀t:Th,1<=t.dep
 | num _=>yZD _
 | box _=>yZD _
 | nul _=>yZD _
 | un _ a=>by show 1<=a.dep+1;omega
 | bin _ a b=>by show 1<=max a.dep b.dep+1;omega
def At (H:Hp):Th->V->Prop
 | num n,v=>∃a,v=.ref a/\H a=some (.tup [.str "number",.int n])
 | box x,v=>∃a,v=.ref a/\H a=some (.tup [.str "box",.str x])
 | nul k,v=>∃a,v=.ref a/\H a=some (.tup [.str k])
 | un k t,v=>∃a u,v=.ref a/\H a=some (.tup [.str k,u])/\t.At H u
 | bin k t r,v=>∃a u w,v=.ref a/\H a=some (.tup [.str k,u,w])/\t.At H u/\r.At H w
def _root_.FP.bD (H H':Hp):Prop:=∀b xs,H b=some (.tup xs)->H' b=some (.tup xs)
theorem At.mono {H H':Hp}(h:bD H H'):∀{t:Th} {v:V},t.At H v->t.At H' v
 | num _,_,⟨a,e,q⟩=>⟨a,e,h _ _ q⟩
 | box _,_,⟨a,e,q⟩=>⟨a,e,h _ _ q⟩
 | nul _,_,⟨a,e,q⟩=>⟨a,e,h _ _ q⟩
 | un _ t,_,⟨a,u,e,q,r⟩=>⟨a,u,e,h _ _ q,At.mono h r⟩
 | bin _ t r,_,⟨a,u,w,e,q,r1,r2⟩=>⟨a,u,w,e,h _ _ q,At.mono h r1,At.mono h r2⟩
end Th
theorem qD {H H':Hp}(s:aa H H'):bD H H':=λb xs h=>s b _ h
theorem bD.trans {H H1 H2:Hp}(a:bD H H1)(b:bD H1 H2):bD H H2:=λc xs h=>b c xs (a c xs h)
theorem small {n:Nat}(h:n<=10000):n<Yc:=pS h (by decide)
theorem r9 {n:Nat}(h:n<=10000):n<=Yc:=Nat.le_of_lt (small h)
theorem Se:("number" : Str) ≠ "box" := by wtm_at"d"
theorem xW {a b:Str}(h:a≠b):decide (V.str a=V.str b)=false:=decide_eq_false (by intro z;cases z;exact h rfl)
theorem yU (a:Str):decide (V.str a=V.str a)=true:=decide_eq_true rfl
abbrev gH (ws:List Str):List V:=ws.map V.str
theorem xA (ws:List Str):(gH ws).length=ws.length:=av _
theorem Sg (a b:List Str):gH (a++b)=gH a++gH b:=cu
abbrev ae (ns:List Int):List V:=ns.map V.int
theorem LY (a:List Int)(x:Int):ae (a++[x])=ae a++[.int x]:=cu
theorem yB (ws:List Int):(ae ws).length=ws.length:=av _
end FP
namespace L2
open PySem PySem.Spec PyProof.Rows
section
variable {X:Cx}{K:aq}
theorem qU (hK:X.K=K:=by rfl):tU X (om K):=by subst hK;exact QR
theorem qT (hK:X.K=K:=by rfl):tU X (oo K):=by subst hK;exact QS
theorem LZ (hK:X.K=K:=by rfl):Fx X (Bt K):=by subst hK;exact QV
def sf (K:aq):List V->Hp->VK->Prop:=λxs H Q=>∃p ys,xs=[.ref p]/\(aj K H p ys\/aS K H p ys)/\Q (.int ys.length) H
theorem zT (hK:X.K=K:=by rfl):aL X (.builtin "len") (sf K):=by subst hK;exact QW
def sg (K:aq):List V->Hp->VK->Prop:=λxs H Q=>∃p ys,xs=[.ref p]/\aj K H p ys/\∀l,H l=none->Q (.ref l) (upd H l (.tup ys))
theorem kA (hK:X.K=K:=by rfl):aL X (.type "tuple") (sg K):=by
 subst hK
 intro zz s σ H xs us Q I r h
 obtain⟨p,ys,e,hs,q⟩:=h
 exact QX zz s σ H xs us Q I r ⟨p,ys,e,.inl ⟨hs,q⟩⟩
def BS (K:aq):List V->Hp->VK->Prop:=λxs H Q=>∃x T t b,xs=[x,.ty T]/\c7 K H x t/\PySem.W.kitOne K t (.type T)=some b/\Q (.bl b) H
theorem wC (hK:X.K=K:=by rfl):aL X (.builtin "isinstance") (BS K):=by subst hK;exact RF
variable {tg l o e:Expr}{es:List Expr}{tl to:TE}{t:TA}{name:Str}{pos apos ay:Pos}{T id:String}{r:V->List V->Hp->VK->Prop}
theorem xQ (hl:PE X l tl)(hK:X.K=K:=by rfl):PI X tg l (lZ K tl):=by subst hK;exact K0 hl
theorem BU (hl:PE X l tl)(hK:X.K=K:=by rfl):PI X tg l (rB K tl):=by subst hK;exact Qh hl
theorem zI {es:List Expr}{k:Nat}{t:nG}{n:Nat}(hc:X.calm=true)(h:Bd X es t)
  (hn:(assignEach es X.env).length=n:=by rfl) (fZ:(assignEach es X.env).findIdx? (·.1)=none:=by rfl) (hK:X.K=K:=by rfl):PG X (.Tuple es k pos) (gZ K n t):=by subst hK;exact KW hc h hn fZ
theorem Sh (pa:PlainAttrs T)(slot:Slot T name id)(rP:typeOf (.builtin id)=pure (.type "method_descriptor"))(hm:D' X id r)(ho:PE X o to)
  (c8:attributeBase o name X.env (eval o X.env)=eval o X.env:=by rfl) (c9:(apos.endLine == ay.line)=true:=by rfl) (hK:X.K=K:=by rfl):PE X (.Call (.Attribute o name apos) [] [] ay) (rO K T r to):=by
 subst hK;exact QY pa slot rP hm ho c8 c9
theorem yR (pa:PlainAttrs T)(slot:Slot T name id)(rP:typeOf (.builtin id)=pure (.type "method_descriptor"))(hm:D' X id r)(ho:PE X o to)(ha:PA X (e::es) t)
  (c8:attributeBase o name X.env (eval o X.env)=eval o X.env:=by rfl)
  (rQ:((backTo ay (starEach (e::es) X.env)).all (λx=>!x.1) && (backToKw ay (keywordEach [] X.env)).all (λx=>x.1.isSome)
   && decide ((e::es).length+([]:List Keyword).length+(if ([]:List Keyword).isEmpty then 0 else 1)<30))=true:=by rfl)
  (c9:(apos.endLine == ay.line)=true:=by rfl) (hs:starEach (e::es) X.env=(false,eval e X.env)::starEach es X.env:=by rfl) (hU:(backTo ay (starEach es X.env)).any (·.1)=false:=by rfl) (hK:X.K=K:=by rfl):
  PE X (.Call (.Attribute o name apos) (e::es) [] ay) (Fy K T r to t):=by
 subst hK;exact QZ pa slot rP hm ho ha c8 rQ c9 hs hU
end
structure Dn (P:Program)(w:World)(K:aq)(mg:Str->Option Value)(base:Heap)(x:Str)(k:Nat)(ps:List Str)(sp:Sp):Prop where
 ex:∃f fd,aT P w K mg base eU k f fd ps sp/\mg x=some (.ref f)/\PySem.W.keepIn K (.ref f)=true/\Binds K fd ps []
section
variable {X:Cx}{P:Program}{w:World}{K:aq}{mg:Str->Option Value}{base:Heap}{j k:Nat}{ps:List Str}{sp:Sp}{x:Str}{p pos:Pos}{e:Expr}{es:List Expr}{t:TA}
theorem qE (D:Dn P w K mg base x j ps sp)(hr:aJ k X.A)(ha:PA X (e::es) t)(oB:j<=k:=by first | decide | omega)(hg:Gl X x:=by rfl)
  (h1:X.prog=P:=by rfl) (h2:X.w=w:=by rfl) (h3:X.K=K:=by rfl) (h4:X.mg=mg:=by rfl) (h5:X.base=base:=by rfl)
  (dy:(x == ("__debug__" : Str))=false:=by decide) (he:starEach (e::es) X.env=(false,eval e X.env)::starEach es X.env:=by rfl) (dv:(backTo pos (starEach es X.env)).any (·.1)=false:=by rfl):
  PE X (.Call (.Name x p) (e::es) [] pos) (iJ sp [] E0 t):=by
 subst h1 h2 h3 h4 h5
 obtain⟨f,fd,F,a,b,c⟩:=D.ex
 exact wX (F.mono oB) hr hg a b c .nil dW ha dy he dv
end
def BV:Expr->List Expr
 | .BoolOp _ vs _=>vs
 | .BinOp l _ r _=>[l,r]
 | .UnaryOp _ a _=>[a]
 | .IfExp a b c _=>[a,b,c]
 | .ListComp e gs _ _=>e::gs.flatMap λg=>g.iter::g.ifs
 | .Compare l _ cs _=>l::cs
 | .Call f as _ _=>f::as
 | .Attribute v _ _=>[v]
 | .Subscript a b _=>[a,b]
 | .List es _=>es
 | .Tuple es _ _=>es
 | .Slice a b c _=>a.toList++b.toList++c.toList
 | _=>[]
def qh (e:Expr):List Nat->Expr
 | []=>e
 | i::p=>qh ((BV e).getD i (.Constant .none 0 ⟨0,0,0,0⟩)) p
def BW:Stmt->Expr
 | .Assign _ v _=>v
 | .Return (some v) _=>v
 | .Expr v _=>v
 | .If t _ _ _=>t
 | .While t _ _ _=>t
 | .For _ it _ _ _=>it
 | _=>.Constant .none 0 ⟨0,0,0,0⟩
def si:Stmt->List Stmt
 | .If _ a b _=>a++b
 | .For _ _ b _ _=>b
 | .While _ b _ _=>b
 | _=>[]
def mx (body:List Stmt):List Nat->Stmt
 | []=>.Pass ⟨0,0,0,0⟩
 | [i]=>body.getD i (.Pass ⟨0,0,0,0⟩)
 | i::j::p=>mx (si (body.getD i (.Pass ⟨0,0,0,0⟩))) (j::p)
abbrev bP (body:List Stmt)(p q:List Nat):Scope:=LO (qh (BW (mx body p)) q)
def F7 (scope sc:Scope):Scope:=
 { scope with names:=scope.names.map λ(n,k)=>if (k == .free && sc.kind == .function && sc.names.lookup n == some .cell) then (n,.cell) else (n,k) }
def F8 (t u:TS):TS:=λD σ H=>∃Pv:St->Hp->Prop,t { D with nx:=Pv } σ H/\∀σ' H',Pv σ' H'->u D σ' H'
theorem qK {X:Cx}{st:Stmt}{rest:List Stmt}{t u:TS}(h1:PS X st t)(h2:dR X rest u):dR X (st::rest) (F8 t u):=by
 intro zz s σ H D I h
 obtain⟨Pv,q1,q2⟩:=h
 refine wpAny_execs_cons (aF (h1 zz s σ H { D with nx:=Pv } I q1) λf s1 q=>?_)
 cases f with
 | next=>
  obtain⟨σ',H',I',q⟩:=q
  exact h2 zz s1 σ' H' D I' (q2 σ' H' q)
 | ret v=>exact q
 | brk=>exact q
 | cont=>exact q
section
variable {σ:St}{H:Hp}{Q:VK}{R:Bool->Hp->Prop}{S:St->Hp->Prop}{L:List V->Hp->Prop}{O:Option Int->Hp->Prop}{D:Ends}{ta tb tc:TE}{t u:TT}{a b:TS}{x y v:V}{i j:Int}{c:Bool}{K:aq}
theorem w_var {k:Nat}(h:σ[k]? = some (some v))(q:Q v H):eS k σ H Q:=⟨v,h,q⟩
theorem Si (q:Q v H):tC v σ H Q:=q
theorem F9 {r:R2}(q:ta σ H λx H1=>tb σ H1 λy H2=>r x y H2 Q):rD r ta tb σ H Q:=q
theorem Ga {g:Int->Int->V}(q:Q (g i j) H):rE g (.int i) (.int j) H Q:=⟨i,j,rfl,rfl,q⟩
theorem Sj {C:Int->Int->Prop}{g:Int->Int->V}(h:C i j)(q:Q (g i j) H):rI C g (.int i) (.int j) H Q:=⟨i,j,rfl,rfl,h,q⟩
theorem w_eq (h:og x y=true)(q:Q (.bl (decide (x=y))) H):Ft x y H Q:=⟨h,q⟩
theorem Gb (h:og x y=true)(q:Q (.bl (!decide (x=y))) H):Fu x y H Q:=⟨h,q⟩
theorem Sk {p:Addr}{xs:List V}(h:aj K H p xs)(e:gA xs i=some v)(q:Q v H):om K (.ref p) (.int i) H Q:=⟨p,xs,i,v,rfl,rfl,h,e,q⟩
theorem Sm {p:Addr}{xs:List V}(h:aS K H p xs)(e:gA xs i=some v)(q:Q v H):oo K (.ref p) (.int i) H Q:=⟨p,xs,i,v,rfl,rfl,h,e,q⟩
theorem So (q:ta σ H λx H'=>∃k,x=.bl k/\R k H'):p9 ta σ H R:=q
theorem Sq (q:ta σ H λx H'=>∃k,x=.bl k/\R k H'):tB ta σ H R:=q
theorem Gd {F:Bool->Prop}(q:F c):∃k,V.bl c=.bl k/\F k:=⟨c,rfl,q⟩
theorem w_not (q:t σ H λc H1=>R (!c) H1):A5 t σ H R:=q
theorem w_or (q:t σ H λc H1=>if c=true then R true H1 else u σ H1 R):KS t u σ H R:=q
theorem Ss (q:ta σ H λx H1=>∃c,x=.bl c/\if c=true then tb σ H1 Q else Q (.bl false) H1):pW ta tb σ H Q:=q
theorem Su (q:ta σ H λx H1=>∃c,x=.bl c/\if c=true then Q (.bl true) H1 else tb σ H1 Q):A7 ta tb σ H Q:=q
theorem Sw (q:ta σ H λx H1=>∃c,x=.bl c/\Q (.bl (!c)) H1):pX ta σ H Q:=q
theorem Ge (q:t σ H λc H1=>if c=true then ta σ H1 Q else tb σ H1 Q):KU t ta tb σ H Q:=q
theorem Sx (q:D.nx σ H):pY D σ H:=q
theorem Sz (q:a { D with nx:=b D } σ H):Ba a b D σ H:=q
theorem SD (q:ta σ H λ_ H1=>D.nx σ H1):pZ ta D σ H:=q
theorem SE (q:ta σ H D.rt):Bb ta D σ H:=q
theorem SG (q:t σ H λc H1=>if c=true then a D σ H1 else b D σ H1):Bc t a b D σ H:=q
theorem SH {g:TG}(q:ta σ H λx H1=>g x σ H1 D.nx):nY ta g D σ H:=q
theorem SJ {k:Nat}(q:S (σ.set k (some v)) H):br k v σ H S:=q
theorem SK (q:S σ H):lV [] σ H S:=⟨rfl,q⟩
theorem SM {g:TG}{gs:nG}{vs:List V}(q:g v σ H λσ' H'=>gs vs σ' H' S):dI g gs (v::vs) σ H S:=⟨v,vs,rfl,q⟩
theorem SN {n:Nat}{gs:nG}{p:Addr}{xs:List V}(h:aS K H p xs)(e:xs.length=n)(q:gs xs σ H S):gZ K n gs (.ref p) σ H S:=⟨p,xs,rfl,h,e,q⟩
theorem SO (q:L [] H):rH σ H L:=q
theorem SQ {ts:TA}(q:ta σ H λx H1=>ts σ H1 λxs H2=>L (x::xs) H2):l7 ta ts σ H L:=q
theorem SR {ts:TA}(q:ts σ H λxs H1=>xs.length<=Yc/\∀p,H1 p=none->Q (.ref p) (upd H1 p (.tup xs))):rJ ts σ H Q:=q
theorem SS {ts:TA}(q:ts σ H λxs H1=>xs.length<=Yc/\∀p,H1 p=none->Q (.ref p) (upd H1 p (.lst xs))):Bq ts σ H Q:=q
theorem SU {sp:Sp}{cQ:List V}{E:XK}{ts:TA}(q:ts σ H λvs H1=>sp (vs++cQ) H1 Q E):iJ sp cQ E ts σ H Q:=q
theorem Gf {r:List V->Hp->VK->Prop}{ts:TA}(q:ts σ H λvs H1=>r vs H1 Q):Fw r ts σ H Q:=q
theorem SV {T:String}{r:V->List V->Hp->VK->Prop}(q:ta σ H λx H1=>tV K T x H1/\r x [] H1 Q):rO K T r ta σ H Q:=q
theorem Gg {T:String}{r:V->List V->Hp->VK->Prop}{ts:TA}(q:ta σ H λx H1=>tV K T x H1/\ts σ H1 λxs H2=>r x xs H2 Q):Fy K T r ta ts σ H Q:=q
theorem wF {p:Addr}{xs:List V}{A:Prop}(h:aj K H p xs)(q:A):tV K "list" (.ref p) H/\A:=⟨.inl ⟨rfl,xs,h⟩,q⟩
theorem SW (q:O none H):Lj σ H O:=q
theorem S8 (q:ta σ H λx H1=>∃i,x=.int i/\O (some i) H1):qc ta σ H O:=q
theorem Ta {F:Int->Prop}(q:F i):∃k,V.int i=.int k/\F k:=⟨i,rfl,q⟩
theorem Gh {r:V->Option Int->Option Int->Hp->VK->Prop}{tl th:TO}(q:ta σ H λx H1=>tl σ H1 λl H2=>th σ H2 λu H3=>r x l u H3 Q):Lm r ta tl th σ H Q:=q
theorem BX {p:Addr}{xs:List V}(h:aj K H p xs\/aS K H p xs)(q:Q (.int xs.length) H):sf K [.ref p] H Q:=⟨p,xs,rfl,h,q⟩
theorem Tb {td ty:TE}(q:td σ H λx H1=>ty σ H1 λy H2=>∃a v,x=.ref a/\cm H2 a y (some v)/\Q v H2):qd td ty σ H Q:=q
theorem Tc {td ty tv:TE}(q:tv σ H λv H1=>td σ H1 λx H2=>ty σ H2 λy H3=>∃a H4,x=.ref a/\fK H3 a y v H4/\D.nx σ H4):qe td ty tv D σ H:=q
theorem kX {p:Addr}{xs:List V}(h:H p=some (.lst xs))(e:xs.length<Yc)(q:Q .non (upd H p (.lst (xs++[y])))):Lv (.ref p) [y] H Q:=⟨p,xs,y,rfl,rfl,h,e,q⟩
theorem Td {W:It->Hp->Prop}(q:ta σ H λx H1=>∃a,x=.ref a/\(∃xs,aj K H1 a xs)/\W (i6 K a) H1):lZ K ta σ H W:=q
theorem Te {W:It->Hp->Prop}(q:ta σ H λx H1=>∃a,x=.ref a/\(∃xs,aS K H1 a xs)/\W (lF K a) H1):rB K ta σ H W:=q
theorem Tf {W:It->Hp->Prop}{ts:TA}(q:ts σ H λvs H1=>∃j:Int,vs=[.int j]/\-(2 ^ 62)<=j/\j<2 ^ 62/\W (lG 0 j.toNat) H1):p6 ts σ H W:=q
theorem kU {p:Addr}{xs:List V}{F:Addr->Prop}(h:aj K H p xs)(q:F p):∃a,V.ref p=.ref a/\(∃xs,aj K H a xs)/\F a:=⟨p,rfl,⟨xs,h⟩,q⟩
theorem BY {p:Addr}{xs:List V}{F:Addr->Prop}(h:aS K H p xs)(q:F p):∃a,V.ref p=.ref a/\(∃xs,aS K H a xs)/\F a:=⟨p,rfl,⟨xs,h⟩,q⟩
theorem Tg {F:Int->Prop}(h1 : -(2 ^ 62)<=i)(h2:i<2 ^ 62)(q:F i):∃j:Int,[V.int i]=[.int j]/\-(2 ^ 62)<=j/\j<2 ^ 62/\F j:=⟨i,rfl,h1,h2,q⟩
theorem Ti {A B:Prop}(h:c=true)(q:A):if c=true then A else B:=by rw[if_pos h];exact q
theorem Eg {A B:Prop}(h:c=false)(q:B):if c=true then A else B:=by rw[h];exact bO q
def Gj (g:TG)(tb:TS)(D:Ends)(σ:St):It->Hp->Prop:=λJ H1=>∃W:Nat->Nat->St->Hp->Prop,(∃m,W 0 m σ H1)/\∀i m σ H,W i m σ H->
 (J.stop i H/\D.nx σ H)\/(J.go i H/\∃N:St->Hp->Prop,(∀σ' H',N σ' H'->∃m',m'<m/\W (i+1) m' σ' H')/\∀x H',J.lY i H x H'->g x σ H' λσ2 H2=>tb { D with nx:=N,ct:=N,bk:=D.nx } σ2 H2)
theorem Tj {wi:TI}{g:TG}(q:wi σ H (Gj g a D σ)):Bg wi g a D σ H:=q
theorem L0 {k:Nat}{js:List Nat}{wi:TI}{g:TG}(q:wi σ H λJ H1=>fM k js g t ta J σ H1 Q):iL k js wi g t ta σ H Q:=q
theorem BZ {A B:Prop}(q:B):if (!true)=true then A else B:=bO q
theorem B0 {A B:Prop}(q:A):if (!false)=true then A else B:=bz q
theorem Tn {T:String}:PySem.W.kitOne K (.type T) (.type T)=some true:=by simp[PySem.W.kitOne]
end
structure Fd (K:aq)(mg:Str->Option Value)(x:Str)(st:Stmt)(ps:List Str):Prop where
 ex:∃f fd,gC K x x st f fd/\mg x=some (.ref f)/\PySem.W.keepIn K (.ref f)=true/\Binds K fd ps []
section
variable {P:Program}{w:World}{K:aq}{mg:Str->Option Value}{base:Heap}{x:Str}{st:Stmt}{k:Nat}{N ps:List Str}{sp:Sp}
theorem Fd.ok (F:Fd K mg x st ps)(S:xI N ps (xB st))(len:∀vs H Q E,sp vs H Q E->vs.length=ps.length)
  (cC:∀(f:Addr) (zy:Value) (A:Around) (outer:List Env) (s:Shared) (H:Hp) (vs:List V) (Q:VK) (E:XK),aJ k (A.deeper (envOfC x (xB st) s.heap.objs.size f zy))->sp vs H Q E->
   ∃t,dR (aU eU P w K mg base N x (xB st) f zy A outer s H E).lE (xC st) t/\t { nx:=λ_ H'=>Q .non H',rt:=Q } (start N vs) H):Dn P w K mg base x (k+1) ps sp:=
 let ⟨f,fd,F,a,b,c⟩:=F.ex
 ⟨f,fd,F.ok S len (cC f),a,b,c⟩
theorem Fd.never (F:Fd K mg x st ps)(no:∀vs H Q E,¬sp vs H Q E):Dn P w K mg base x k ps sp:=
 let ⟨f,fd,F,a,b,c⟩:=F.ex
 ⟨f,fd,⟨λvs H Q E h=>absurd h (no vs H Q E),λA outer s H args us vs Q E _ _ _ _ h=>absurd h (no vs H Q E)⟩,a,b,c⟩
end
end L2
namespace PySem
section
variable {prog:Program}{w:World}{κ:Type}[DecidableEq κ]{knd:KeyKind prog w κ}{A:Around}{E:Value->Shared->Prop}{s:Shared}
abbrev bh (led:Bool):Obj:={ cls:=.type "set",dict:=none,data:=.set #[] 0 (.fresh 0 0 led) }
end
end PySem
namespace L2
open PySem PySem.Spec PyProof.Rows
def qi (K:aq):R2:=λx y H Q=>∃a b xs ys,x=.ref a/\y=.ref b/\aS K H a xs/\aS K H b ys/\ys≠[]/\xs.length+ys.length<=Yc/\
 (xs=[]->Q (.ref b) H)/\(xs≠[]->∀p,H p=none->Q (.ref p) (upd H p (.tup (xs++ys))))
section
variable {X:Cx}{K:aq}
theorem L4 (hK:X.K=K:=by rfl):eJ X (binaryOp .Add) (qi K):=by
 subst hK
 intro zz s σ H x y v u Q I rx ry h
 obtain⟨a,b,xs,ys,rfl,rfl,ha,hb,hy,hz,q0,q1⟩:=h
 by_cases hx:xs=[]
 .subst hx
  cases rx;cases ry
  obtain⟨i1,r1,⟨⟨c1,d1,t1,l1⟩,g1,k1,n1,e1⟩,_⟩:=I.tuple ha
  obtain⟨i2,r2,⟨⟨c2,d2,t2,l2⟩,g2,k2,n2,e2⟩,_⟩:=I.tuple hb
  cases r1
  simp only at k1 e1 k2 e2
  subst k1 e1 k2 e2
  exact concat_meets ⟨_,g1,rfl⟩ ⟨_,g2,rfl⟩ noFill_tuple_add seq_tuple_add PySem.F.slot_tuple_add PySem.F.entry_tuple_add (PySem.F.args_tuple_add_2 _ _) (tuple_addW0 a b _ _ n1 n2 d1 d2 l1 l2 (by simp)) ⟨g1,g2,⟨.ref b,H,I,rfl,q0 rfl⟩⟩
 .exact QN zz s σ H _ _ v u Q I rx ry ⟨a,b,xs,ys,rfl,rfl,ha,hb,hx,hz,λz=>absurd z hy,λ_=>q1 hx⟩
end
theorem To:bootBuiltins "set" = some (.type "set"):=by wtm_at"d"
theorem L5:bootBuiltins "all" = some (.builtin "all"):=by wtm_at"d"
theorem Gk:bootBuiltins "sorted" = some (.builtin "sorted"):=by wtm_at"d"
structure Gi (mg:Str->Option Value)(x:Str)(i:Int):Prop where
 ex:∃t,mg x=some (.int i t)
section
variable {X:Cx}{mg:Str->Option Value}{K:aq}{x:Str}{i:Int}{ws:List Str}{pos:Pos}
theorem L6 (g:Gi mg x i)(hg:Gl X x:=by rfl)(hm:X.mg=mg:=by rfl)(hd:(x == ("__debug__" : Str))=false:=by decide):PE X (.Name x pos) (tC (.int i)):=by
 subst hm
 obtain⟨t,e⟩:=g.ex
 exact KP hg e ⟨t,rfl⟩ hd
end
end L2
namespace L2
open PySem PySem.Spec PyProof.Rows
def Gm (K:aq):List V->Hp->VK->Prop:=λxs H Q=>∃(l:Addr) (bs:List Bool),xs=[.ref l]/\aj K H l (bs.map V.bl)/\Q (.bl (bs.all id)) H
def Tp:List V->Hp->VK->Prop:=λxs H Q=>∃(d:Addr) (kvs:List (Key×V)),xs=[.ref d]/\H d=some (.dK kvs)/\∀p,H p=none->Q (.ref p) (upd H p (.dK kvs))
theorem Tq (bs:List Bool):(List.range bs.length).all (λi=>bs.getD i true)=bs.all id:=by
 have e:bs=(List.range bs.length).map λi=>bs.getD i true:=by
  refine List.ext_getElem (by simp) λi h1 h2=>?_
  rw[List.getElem_map,List.getElem_range,Yh,aH h1]
  rfl
 have:=congrArg (λl:List Bool=>l.all id) e
 simp only[List.all_map] at this
 exact this.symm
section
variable {X:Cx}{K:aq}
theorem L7 (hc:X.calm=true)(hK:X.K=K:=by rfl):aL X (.builtin "all") (Gm K):=by
 subst hK
 intro zz s σ H xs us Q I r h
 obtain⟨l,bs,rfl,hl,q⟩:=h
 obtain⟨u,rfl,ru⟩:=vals1 r
 cases ru
 obtain⟨its,r1,p1,_⟩:=I.list hl
 have len:=r1.length
 rw[av] at len
 have sz:its.toArray.size=bs.length:=by simp[len]
 refine call_all_walk (wpAny_pyIter_list p1.isList ?_)
 have ol:l<s.heap.objs.size:=by
  obtain⟨o,n,e,_⟩:=p1
  exact aG e
 refine⟨_,_,_,_,_,_,λi=>bs.getD i true,rfl,Walks.list (by show X.A.handled=none;exact I.ok.hd hc) s.heap.objs.size l (yZF ol) its.toArray,⟨⟨_,bg _ rfl,rfl,rfl⟩,?_⟩,λi v s' Q' E' hv hq=>?_,λh' tk keep=>?_⟩
 .obtain⟨o,n,e,c,d,k⟩:=p1
  exact⟨o,yYZ _ e,c,n,k⟩
 .have hv:its.toArray[i]? = some v:=hv
  have hi:i<bs.length:=by
   have:=(Array.getElem?_eq_some_iff.mp hv).1
   omega
  have e0:(bs.map V.bl)[i]? = some (.bl bs[i]):=by rw[bb,aH hi];rfl
  obtain⟨u,e1,q1⟩:=r1.get e0
  have:its.toArray[i]? = some u:=by simpa using e1
  rw[this] at hv
  cases hv
  cases q1
  have d:bs.getD i true=bs[i]:=by rw[Yh,aH hi];rfl
  have lJ:Q' bs[i] s':=by rw[<- d];exact hq
  exact wpAny_truthy_bool lJ
 .rw[sz,Tq]
  refine⟨.bl _,H,I.kept λb o e=>?_,rfl,q⟩
  refine keep b o (λz=>?_) (yYZ _ e)
  have z:b=s.heap.objs.size:=by simpa using z
  exact absurd (aG e) (by rw[z];exact Nat.lt_irrefl _)
theorem Tr:aL X (.type "dict") Tp:=by
 intro zz s σ H xs us Q I r h
 obtain⟨d,kvs,rfl,hd,q⟩:=h
 obtain⟨u,rfl,ru⟩:=vals1 r
 cases ru
 exact Rm I (.inl hd) λp s' hp I'=>⟨.ref p,_,I',rfl,q p hp⟩
end
section
variable {α:Type}
theorem Gn {x:Str}:∀{l:List (Str×α)},x∉l.map (·.1)->l.lookup x=none
 | [],_=>rfl
 | (n,v)::l,h=>by
  have h1:x≠n:=λz=>h (z▸aW)
  rw[jY _ _ (by simpa using h1)]
  exact Gn λz=>h (yYH _ z)
theorem Eh {x:Str}{v:α}:∀{l:List (Str×α)} {i:Nat},(l.map (·.1)).Nodup->l[i]? = some (x,v)->l.lookup x=some v
 | (n,u)::l,0,_,e=>by
  cases e
  exact jS _ _ _
 | (n,u)::l,i+1,nd,e=>by
  have e:l[i]? = some (x,v):=e
  have bI:=List.nodup_cons.mp nd
  have h1:x≠n:=λz=>bI.1 (z▸aZ.mpr ⟨_,bw e,rfl⟩)
  rw[jY _ _ (by simpa using h1)]
  exact Eh bI.2 e
end
theorem Gq {x:Str}:∀(kvs:List (Str×V)) (acc:List (Key×V)),(kvs.map (·.1)).Nodup->ai (az acc (cR kvs)) (Sum.inr x)=(match kvs.lookup x with | some v=>some v | none=>ai acc (Sum.inr x))
 | [],acc,_=>rfl
 | (n,v)::kvs,acc,nd=>by
  have bI:=List.nodup_cons.mp nd
  show ai (az (putK acc (Sum.inr n) v) (cR kvs)) (Sum.inr x)=_
  rw[Gq kvs _ bI.2]
  by_cases e:x=n
  .subst e
   rw[Gn bI.1,jS]
   show ai (putK acc (Sum.inr x) v) (Sum.inr x)=some v
   rw[kM,if_pos rfl]
  .rw[jY v kvs (by simpa using e)]
   cases kvs.lookup x with
   | some u=>rfl
   | none=>
    show ai (putK acc (Sum.inr n) v) (Sum.inr x)=ai acc (Sum.inr x)
    rw[kM,if_neg (λz=>e (Sum.inr.inj z))]
end L2
namespace L2
open PySem PySem.Spec PyProof.Rows
def Gr (K:aq)(a:Addr):It:=
 ⟨λi H=>∃xs x,aj K H a xs/\xs[i]? = some x,
   λi H x H'=>∃T vx,x=.ref T/\H T=none/\H'=upd H T (.tup [.int (i:Int),vx])/\∀xs,aj K H a xs->xs[i]? = some vx,
   λi H=>∃xs,aj K H a xs/\xs.length<=i⟩
theorem Ts {P:Program}{w:World}{K:aq}{es:List Expr}{kk:Nat}{tp:Pos}(a e it:Addr)(L8:e≠it):
  Turn P w K (.Tuple es kk tp) (Gr K a) [e,it] e (λi h=>(∃old,IsEnum h e it ((i:Nat):Int) old)/\h.IsListIter it a i) where
 mem:=by simp
 obj:=λi h S b hb=>by
  obtain⟨⟨old,he⟩,o,ho,hc,hd⟩:=S
  simp only[aE,Yp,or_false] at hb
  rcases hb with rfl | rfl
  .exact⟨_,he,λv q=>by cases(show Data.fields _=Data.cell v from q)⟩
  .exact⟨o,ho,λv q=>by rw[hd] at q;cases q⟩
 keep:=λi h h' S k=>by
  obtain⟨⟨old,he⟩,hit⟩:=S
  exact⟨⟨old,k e (by simp) _ he⟩,hit.at λo q=>k it (by simp) o q⟩
 item:=by
  intro X hP hw hK hc i zz s σ H E I hf S hg
  subst hP hw hK
  obtain⟨⟨old,he⟩,hit⟩:=S
  obtain⟨xs,x,hq,hx⟩:=hg
  obtain⟨its,rv,p,_⟩:=I.list hq
  obtain⟨u,hu,ru⟩:=rv.get hx
  have elt:e<s.heap.objs.size:=aG he
  have Tt:it<s.heap.objs.size:=by obtain⟨o,ho,_⟩:=hit;exact aG ho
  refine wpAny_pyNext_enum_item he hit p.isList (x:=u) (by simpa using hu) L8 λh' a1 a2 a3 a4 a5=>?_
  refine⟨.ref s.heap.objs.size,rfl,?_⟩
  refine wpAny_letOwnedTupleGo_enum (s:={ s with heap:=h',toks:=s.toks+1 }) a1 λiM Gs sb=>?_
  have k2:∀c o,c≠e->h'.get? c=some o->iM.get? c=some o:=λc o c1 q=>sb.extBut _ _ c1 q
  have keep:∀c o,c∉[e,it]->s.heap.get? c=some o->iM.get? c=some o:=λc o fq q=>by
   simp only[aE,Yp,or_false,not_or] at fq
   exact k2 _ _ fq.1 (a5 c o fq.1 fq.2 q)
  have sj:=k2 _ _ (yZH elt) a3
  have fresh:H s.heap.objs.size=none:=I.af.fresh (yZD _)
  have lB:∀b o,H b=some o->b∉[e,it]:=λb o q hb=>by
   have:=(hf b hb).1
   rw[q] at this;cases this
  have I1:Inv X zz σ (upd H s.heap.objs.size (.tup [.int (i:Int),x])) { s with heap:=iM,toks:=s.toks+1 }:=by
   refine I.step (h':=iM) (H':=upd H s.heap.objs.size (.tup [.int (i:Int),x])) (g':=s.gens) (d':=s.drawn) (t':=s.toks+1) (ch:=[e,it]) (λb hb=>?_) (λb o _ _ bH q _=>keep b o bH q) (λb o _ _ bH q _=>⟨o.slots,keep b o bH q⟩) (λb o bH q n=>?_)
    (λb o bH q=>⟨o,keep b o bH q⟩) (λb zs q=>?_) (λb o q' q=>?_) (λb ps q=>⟨#[],?_⟩) (λm hm=>?_) (λb ob q=>?_) I.bare
   .obtain⟨f0,f1,f2,f3,f4,f5⟩:=hf b hb
    exact⟨f3,f1,f4,f5⟩
   .rw[qB (yZF (aG q))];exact n
   .rw[qB (qC q fresh)];exact q
   .rw[qB (qC q fresh)];exact q
   .rw[qB (qC q fresh),q];simp
   .obtain⟨o,bC,ep,ho,r⟩:=hm
    exact⟨o,bC,ep,keep _ o (λhb=>(hf _ hb).2.1 rfl) ho,r⟩
   .by_cases hb:b=s.heap.objs.size
    .subst hb
     rw[qW] at q
     cases q
     exact⟨by show 2<=Yc;decide,[.int (i:Int) s.toks,u],.cons ⟨_,rfl⟩ (.cons ru .nil),⟨_,sj,rfl,0,rfl,rfl⟩⟩
    .rw[qB hb] at q
     refine(I.af b ob q).stay (λc o bH q'=>keep c o ?_ q') (λc q'=>by rw[qB (qC q' fresh)];exact q') λc zs q'=>by rw[qB (qC q' fresh)];exact q'
     rcases bH with rfl | bH
     .exact lB _ _ q
     .exact lB _ _ bH
  refine⟨.ref s.heap.objs.size,_,I1,rfl,⟨_,_,rfl,fresh,rfl,λzs hz=>by rw[I.list_inj hz hq];exact hx⟩,⟨⟨u,by rw[Int.natCast_add];exact Gs⟩,a2.at λo q=>k2 _ _ (Ne.symm L8) q⟩,λb hb=>?_⟩
  rw[qB ?_]
  .exact(hf b hb).1
  .simp only[aE,Yp,or_false] at hb
   rcases hb with rfl | rfl
   .exact yZF elt
   .exact yZF Tt
 done:=by
  intro X hP hw hK hc i zz s σ H E I hf S hg
  subst hP hw hK
  obtain⟨⟨old,he⟩,hit⟩:=S
  obtain⟨xs,hq,hx⟩:=hg
  obtain⟨its,rv,p,_⟩:=I.list hq
  obtain⟨f0,f1,f2,f3,f4,f5⟩:=hf it (by simp)
  have hl:=rv.length
  exact wpAny_pyNext_enum_end (I.ok.hd hc) he hit p.isList (by simp;omega) λh' eb=>⟨rfl,I.turned (t':=s.toks) (λb o hb q=>eb b o hb q) f0 f1 f3 f4 f5⟩
 self:=λ_ _ _ _ _ S h=>by
  obtain⟨⟨old,he⟩,_⟩:=S
  exact wpAny_pyIter_enum he h
theorem Tu:bootBuiltins "enumerate" = some (.type "enumerate"):=by wtm_at"d"
section
variable {X:Cx}{K:aq}
def B1 (K:aq)(ta:TA):TI:=λσ H R=>ta σ H λvs H1=>∃l xs,vs=[.ref l]/\aj K H1 l xs/\R (Gr K l) H1
theorem Tv {es:List Expr}{kk:Nat}{tp p pos:Pos}{a:Expr}{ta:TA}(hg:Gl X "enumerate")(hm:X.mg "enumerate" = none)(ha:PA X [a] ta)
  (hs:starEach [a] X.env=[(false,eval a X.env)]:=by rfl) (hK:X.K=K:=by rfl):PI X (.Tuple es kk tp) (.Call (.Name "enumerate" p) [a] [] pos) (B1 K ta):=by
 subst hK
 intro zz s σ H R I h
 refine Call_ (wA I hg hm Tu (PyProof.Rows.callWith_type1 (aF (ha pos zz s σ H _ I h) λus s1 ⟨vs,H1,I1,r1,q1⟩=>?_) hs rfl))
 obtain⟨l,xs,rfl,hq,q⟩:=q1
 cases r1 with
 | cons r rr=>
  cases rr
  cases r
  obtain⟨its,r2,p2,_⟩:=I1.list hq
  refine call_enumerate_list p2.isList λh' hE hI hsz hk=>?_
  have I2:Inv X zz σ H1 { s1 with heap:=h' }:=I1.kept (t':=s1.toks) hk
  refine wpAny_pyIter_enum (s:={ s1 with heap:=h' }) hE ?_
  refine⟨s1.heap.objs.size+1,[s1.heap.objs.size+1,s1.heap.objs.size],_,_,H1,rfl,I2,Ts l _ _ (Nat.succ_ne_self _),⟨⟨_,hE⟩,hI⟩,λb hb=>?_,q⟩
  have oH:s1.heap.objs.size<=b:=by
   simp only[aE,Yp,or_false] at hb
   rcases hb with rfl | rfl
   .exact Nat.le_succ _
   .exact yZD _
  exact I1.fpOk oH (I1.af.fresh oH)
end
open FP
end L2
namespace TM
open PySem PyProof.Rows
section
variable {prog:Program}{w:World}{A:Around}{E:Value->Shared->Prop}{s:Shared}{O:KeyOrd}{key:Value->O.α}{κ:SortKind}{a₀:Array Keyed}
def B2 (prog:Program)(w:World)(A:Around)(s:Shared)(key:Value->O.α)(κ:SortKind)(a₀:Array Keyed):Prop:=
 ∀x y:Keyed,x∈a₀.toList->y∈a₀.toList->∀(E:Value->Shared->Prop) (Q:Bool->Shared->Prop),Q (O.blt (key x.1) (key y.1)) s->wpAny (model prog w) A (keyLt' κ x.1 y.1) Q E s
end
end TM
namespace TM
open PySem PyProof.Rows
section
variable {prog:Program}{w:World}{A:Around}{E:Value->Shared->Prop}{s:Shared}{O:KeyOrd}{key:Value->O.α}{κ:SortKind}{a₀:Array Keyed}
def le (key:Value->O.α)(x y:Keyed):Prop:=O.kle (key x.1) (key y.1)
end
end TM
namespace TM
open PySem PyProof.Rows PySem.W
section
variable {prog:Program}{w:World}{A:Around}{E:Value->Shared->Prop}{s:Shared}{O:KeyOrd}{key:Value->O.α}{κ:SortKind}{vs:List Value}
structure iO (prog:Program)(w:World)(s:Shared)(key:Value->O.α)(κ:SortKind)(vs:List Value):Prop where
 kind:∀(A:Around) (E:Value->Shared->Prop) (h':Heap),(∀b o,s.heap.get? b=some o->h'.get? b=some o)->2<=vs.length->∀Q:SortKind->Shared->Prop,Q κ { s with heap:=h' }->wpAny (model prog w) A (keyKind' vs.toArray) Q E { s with heap:=h' }
 ask:∀(A:Around) (h':Heap),(∀b o,s.heap.get? b=some o->h'.get? b=some o)->B2 prog w A { s with heap:=h' } key κ (pairsOf vs)
theorem Tw {xs:Array Keyed}(hp:xs.Perm (pairsOf vs))(so:xs.toList.Pairwise (le key)):(xs.map (·.2)).toList.Perm vs/\(xs.map (·.2)).toList.Pairwise (λx y=>O.kle (key x) (key y)):=by
 have pl:=Array.perm_iff_toList_perm.mp hp
 rw[pairsOf_toList] at pl
 have same:∀p∈xs.toList,p.1=p.2:=λp hm=>by
  have:=pl.mem_iff.mp hm
  obtain⟨i,hi,e⟩:=List.getElem_of_mem this
  rw[List.getElem_zip] at e
  rw[<- e]
 rw[Array.toList_map]
 refine⟨?_,?_⟩
 .have:=pl.map (·.2)
  rw[List.map_snd_zip (by omega)] at this
  exact this
 .rw[List.pairwise_map]
  refine List.Pairwise.imp_of_mem (λ{p q} hp hq h=>?_) so
  rw[<- same p hp,<- same q hq];exact h
theorem Tx {l:List Keyed}(h:l.length<2):l.Pairwise (le key):=by
 cases l with
 | nil=>exact .nil
 | cons x l=>
  cases l with
  | nil=>exact List.pairwise_singleton _ _
  | cons y l=>
   rw[cP,cP] at h
   omega
end
theorem lex_irrefl (a:List Int):HT.lexLt a a=false:=by
 induction a with
 | nil=>rfl
 | cons x a ih=>rw[HT.aX,if_pos rfl];exact ih
theorem Tz (a b c:List Int)(h1:HT.lexLt a b=true)(h2:HT.lexLt b c=true):HT.lexLt a c=true:=by
 induction a generalizing b c with
 | nil=>
  cases c with
  | nil=>
   cases b with
   | nil=>cases h1
   | cons y b=>cases h2
  | cons z c=>rfl
 | cons x a ih=>
  cases b with
  | nil=>cases h1
  | cons y b=>
   cases c with
   | nil=>cases h2
   | cons z c=>
    rw[HT.aX] at h1 h2 ⊢
    by_cases e1:x=y
    .subst e1
     rw[if_pos rfl] at h1
     by_cases e2:x=z
     .subst e2;rw[if_pos rfl] at h2 ⊢;exact ih b c h1 h2
     .rw[if_neg e2] at h2 ⊢;exact h2
    .rw[if_neg e1] at h1
     have l1:=of_decide_eq_true h1
     by_cases e2:y=z
     .subst e2;rw[if_neg e1];exact h1
     .rw[if_neg e2] at h2
      have l2:=of_decide_eq_true h2
      rw[if_neg (by omega)]
      exact decide_eq_true (by omega)
theorem TB (a b c:List Int)(h:HT.lexLt a c=true):HT.lexLt a b=true\/HT.lexLt b c=true:=by
 induction a generalizing b c with
 | nil=>
  cases b with
  | nil=>exact .inr h
  | cons y b=>exact .inl rfl
 | cons x a ih=>
  cases c with
  | nil=>cases h
  | cons z c=>
   cases b with
   | nil=>exact .inr rfl
   | cons y b=>
    rw[HT.aX] at h ⊢
    rw[HT.aX]
    by_cases e1:x=y
    .subst e1
     rw[if_pos rfl]
     by_cases e2:x=z
     .subst e2;rw[if_pos rfl] at h ⊢;exact ih b c h
     .rw[if_neg e2] at h ⊢;exact .inr h
    .rw[if_neg e1]
     by_cases l:x<y
     .exact .inl (decide_eq_true l)
     .right
      by_cases e2:x=z
      .subst e2;rw[if_neg (by omega)];exact decide_eq_true (by omega)
      .rw[if_neg e2] at h
       have:=of_decide_eq_true h
       rw[if_neg (by omega)];exact decide_eq_true (by omega)
theorem fu (a b:List Int)(h1:HT.lexLt a b=false)(h2:HT.lexLt b a=false):a=b:=by
 induction a generalizing b with
 | nil=>
  cases b with
  | nil=>rfl
  | cons y b=>cases h1
 | cons x a ih=>
  cases b with
  | nil=>cases h2
  | cons y b=>
   rw[HT.aX] at h1 h2
   by_cases e:x=y
   .subst e
    rw[if_pos rfl] at h1 h2
    rw[ih b h1 h2]
   .rw[if_neg e] at h1
    rw[if_neg (Ne.symm e)] at h2
    have l1:=of_decide_eq_false h1
    have l2:=of_decide_eq_false h2
    omega
def Gu:KeyOrd:=⟨List Int,HT.lexLt,lex_irrefl,Tz,TB,fu⟩
def eE (h:Heap):Value->List Int
 | .ref a=>match h.get? a with
  | some o=>match o.data with
   | .seq items _=>items.toList.map numOf
   | _=>[]
  | none=>[]
 | _=>[]
section
variable {prog:Program}{w:World}{A:Around}{E:Value->Shared->Prop}{s:Shared}{vs:List Value}
theorem TC {b:Bool}{Q:Bool->Shared->Prop}{xs ys:List Value}{ns ms:List Int}(i:Nat)(p:IntsAre xs ns)(q:IntsAre ys ms)(h:Q (HT.lexLt ns ms) s):KatLex prog w A b (decide (xs.length<ys.length)) Q (xs.zip ys) i s:=by
 induction p generalizing ys ms i with
 | nil=>
  cases q with
  | nil=>exact h
  | cons m u q=>
   show Q (decide (0<_+1)) s
   rw[decide_eq_true (Nat.succ_pos _)];exact h
 | @cons n t xs ns r ih=>
  cases q with
  | nil=>
   show Q (decide (_+1<0)) s
   rw[decide_eq_false (Nat.not_lt_zero _)];exact h
  | @cons m u ys ms q=>
   rw[List.zip_cons_cons]
   refine kat_cons (wpAny_eqBool_int ?_)
   rw[HT.aX] at h
   have e:(decide ((Value.int n t::xs).length<(Value.int m u::ys).length))=decide (xs.length<ys.length):=by
    rw[cP,cP];exact decide_eq_decide.mpr (by omega)
   by_cases c:n=m
   .subst c
    rw[if_pos rfl] at h
    rw[beq_self_eq_true,e]
    exact kat_yes (ih (i+1) q h)
   .rw[if_neg c] at h
    rw[show(n == m)=false from beq_eq_false_iff_ne.mpr c]
    refine kat_no ?_
    cases(b && i == 0) with
    | true=>exact oneLt_int h
    | false=>exact kat_one _ _ (PyProof.Rows.lt_int h)
def gI (h:Heap)(v:Value)(ns:List Int):Prop:=∃a o xs n,v=.ref a/\h.get? a=some o/\o.cls=.type "tuple" /\ o.data=.seq xs n/\IntsAre xs.toList ns/\ns≠[]
theorem gI.kept {h h':Heap}{v:Value}{ns:List Int}(t:gI h v ns)(k:∀b o,h.get? b=some o->h'.get? b=some o):gI h' v ns:=let ⟨a,o,xs,n,e1,e2,r⟩:=t;⟨a,o,xs,n,e1,k _ _ e2,r⟩
theorem gI.key {h:Heap}{v:Value}{ns:List Int}(t:gI h v ns):eE h v=ns:=by
 obtain⟨a,o,xs,n,rfl,e,_,d,i,_⟩:=t
 unfold eE
 dsimp only
 rw[e]
 dsimp only
 rw[d]
 exact i.nums
theorem TF (ht:∀v∈vs,∃ns,gI s.heap v ns):iO (O:=Gu) prog w s (eE s.heap) (tuples' (Value.type "int" != Value.type "tuple")) vs:=by
 refine⟨λA E h' keep h2 Q hq=>?_,λA h' keep x y hx hy E Q hq=>?_⟩
 .have:∃fs:List Value,KatTups h' vs fs/\fs.length=vs.length/\∀f∈fs,∃n t,f=.int n t:=by
   clear h2 hq
   induction vs with
   | nil=>exact⟨[],.nil,rfl,λf hf=>by cases hf⟩
   | cons v vs ih=>
    obtain⟨fs,k,l,hf⟩:=ih λv hv=>ht v (yYH _ hv)
    obtain⟨ns,t⟩:=ht v aW
    obtain⟨a,o,xs,n,rfl,e,c,d,i,ne⟩:=t.kept keep
    cases ns with
    | nil=>exact absurd rfl ne
    | cons m ns=>
     generalize TH:xs.toList=xl at i
     cases i with
     | cons _ tk i=>
      have e0:xs[0]? = some (.int m tk):=by rw[<- lT,TH];rfl
      exact⟨_::fs,KatTups.cons e c d e0 k,by rw[cP,cP,l],λf hm=>by
       rcases aE.mp hm with rfl | hm
       .exact⟨_,_,rfl⟩
       .exact hf f hm⟩
  obtain⟨fs,k,l,hf⟩:=this
  refine kat_kind (T:=.type "int") k (by omega) (λv hv=>?_) rfl hq
  obtain⟨n,t,rfl⟩:=hf v hv
  exact .now
 .have mem:∀p:Keyed,p∈(pairsOf vs).toList->p.1∈vs:=λp hp=>by
   rw[pairsOf_toList] at hp
   exact(List.of_mem_zip hp).1
  obtain⟨ns,t1⟩:=ht _ (mem x hx)
  obtain⟨ms,t2⟩:=ht _ (mem y hy)
  have k1:=t1.key
  have k2:=t2.key
  obtain⟨a,o,xs,n,e1,e2,c,d,i,_⟩:=t1.kept keep
  obtain⟨a',o',lK,n',oJ,de,c',d',i',_⟩:=t2.kept keep
  rw[k1,k2] at hq
  rw[e1,oJ]
  refine kat_lt e2 d de d' ?_
  have:=TC (prog:=prog) (w:=w) (A:=A) (b:=(Value.type "int" != Value.type "tuple")) (Q:=Q) 0 i i' hq
  rw[eP,eP] at this
  exact this
end
end TM
namespace L2
open PySem PySem.Spec PyProof.Rows TM
def L9 (H:Hp)(ns:List Int)(u:V):Prop:=∃a,u=.ref a/\H a=some (.tup (ns.map V.int))
theorem jB {α β:Type}{f:α->β}:∀{L:List β} {Z:List α},L.Perm (Z.map f)->∃ps:List α,ps.Perm Z/\L=ps.map f:=by
 intro L Z h
 generalize hM:Z.map f=M at h
 induction h generalizing Z with
 | nil=>
  cases Z with
  | nil=>exact⟨[],List.Perm.nil,rfl⟩
  | cons a b=>cases hM
 | @cons x l1 l2 _ ih=>
  cases Z with
  | nil=>cases hM
  | cons a Z=>
   simp only[Yl,List.cons.injEq] at hM
   obtain⟨rfl,hM⟩:=hM
   obtain⟨ps,p1,p2⟩:=ih hM
   exact⟨a::ps,p1.cons a,by rw[p2];rfl⟩
 | swap x y l=>
  cases Z with
  | nil=>cases hM
  | cons a Z=>
   cases Z with
   | nil=>simp at hM
   | cons b Z=>
    simp only[Yl,List.cons.injEq] at hM
    obtain⟨rfl,rfl,rfl⟩:=hM
    exact⟨b::a::Z,.swap _ _ _,rfl⟩
 | @trans l1 l2 l3 _ _ ih1 ih2=>
  obtain⟨ps,p1,p2⟩:=ih2 hM
  obtain⟨TJ,p3,p4⟩:=ih1 p2.symm
  exact⟨TJ,p3.trans p1,p4⟩
section
variable {X:Cx}{K:aq}
theorem TK {ns:List Int}{its:List Value}(h:Vals (ns.map V.int) its):IntsAre its ns:=by
 induction ns generalizing its with
 | nil=>cases h;exact .nil
 | cons n ns ih=>
  cases h with
  | cons r t=>
   obtain⟨tk,rfl⟩:=r
   exact .cons n tk (ih t)
def gJ:V->Value
 | .ref a=>.ref a
 | _=>.none
theorem TL {H:Hp}{ss:List (List Int)}{us:List V}{its:List Value}(p:Paired (L9 H) ss us)(v:Vals us its):its=us.map gJ:=by
 induction p generalizing its with
 | nil=>cases v;rfl
 | cons h t ih=>
  cases v with
  | cons r v=>
   obtain⟨a,rfl,_⟩:=h
   cases r
   rw[ih v];rfl
theorem TN {us:List V}(h:∀u∈us,∃a,u=.ref a):Vals us (us.map gJ):=by
 induction us with
 | nil=>exact .nil
 | cons u us ih=>
  obtain⟨a,rfl⟩:=h u aW
  exact .cons rfl (ih λu hu=>h u (yYH _ hu))
end
end L2
namespace SI
open PySem PyProof.Rows
def lM (p:Array Nat):Prop:=p.toList.Pairwise (·<·)
theorem lM.get {p:Array Nat}(h:lM p){i j:Nat}(oO:i<j)(hj:j<p.size):p.getD i 0<p.getD j 0:=by
 have e:∀k (hk:k<p.size),p.getD k 0=p[k]:=λk hk=>by simp[Array.getD,hk]
 rw[e i (by omega),e j hj]
 have:=List.pairwise_iff_getElem.mp h i j (by simp;omega) (by simp;exact hj) oO
 simpa using this
theorem Gv {p:Array Nat}(h:lM p)(j:Nat):∀(f lo hi:Nat),lo<=hi->hi<=p.size->hi - lo<=f->(∀i,i<lo->p.getD i 0<j)->(∀i,hi<=i->i<p.size->j<=p.getD i 0)->
  SetTable.below.go p j f lo hi<=p.size/\(∀i,i<SetTable.below.go p j f lo hi->p.getD i 0<j)/\(∀i,SetTable.below.go p j f lo hi<=i->i<p.size->j<=p.getD i 0)
 | 0,lo,hi,a,b,c,d,e=>by
  have:lo=hi:=by omega
  subst this
  exact⟨b,d,e⟩
 | f+1,lo,hi,a,b,c,d,e=>by
  unfold SetTable.below.go
  by_cases lt:lo<hi
  .rw[if_pos lt]
   dsimp only
   have hm:(lo+hi) / 2<p.size:=by omega
   have eg:p.getD ((lo+hi) / 2) j=p.getD ((lo+hi) / 2) 0:=by simp[Array.getD,hm]
   rw[eg]
   by_cases c2:p.getD ((lo+hi) / 2) 0<j
   .rw[if_pos c2]
    refine Gv h j f _ hi (by omega) b (by omega) (λi tZ=>?_) e
    by_cases x:i=(lo+hi) / 2
    .rw[x];exact c2
    .exact Nat.lt_trans (h.get (by omega) hm) c2
   .rw[if_neg c2]
    refine Gv h j f lo _ (by omega) (by omega) (by omega) d λi x y=>?_
    by_cases z:i=(lo+hi) / 2
    .rw[z];omega
    .have:=h.get (show(lo+hi) / 2<i by omega) y
     omega
  .rw[if_neg lt]
   have:lo=hi:=by omega
   subst this
   exact⟨b,d,e⟩
theorem vI {p:Array Nat}(h:lM p)(j:Nat):SetTable.below p j<=p.size/\(∀i,i<SetTable.below p j->p.getD i 0<j)/\(∀i,SetTable.below p j<=i->i<p.size->j<=p.getD i 0):=
 Gv h j _ 0 _ (yZG _) (yZD _) (by omega) (λi hi=>by omega) (λi a b=>by omega)
structure t9 (b:Bool)(t:SetTable):Prop where
 led:t.led=b
 j4:t.dummies=#[]
 fw:lM t.place
theorem Ma {t:SetTable}(h:t.dummies=#[])(j:Nat):t.slot j≠.dummy:=λe=>by
 unfold SetTable.slot at e
 dsimp only at e
 split at e
 .cases e
 .rw[h] at e
  unfold SetTable.has at e
  simp at e
theorem TQ {t:SetTable}(h:lM t.place){j:Nat}(e:t.slot j=.empty):lM (t.put j).1.place:=by
 show(SetTable.insertAt t.place (SetTable.below t.place j) j).toList.Pairwise (·<·)
 obtain⟨b1,b2,b3⟩:=vI h j
 have ne:t.place[SetTable.below t.place j]? ≠ some j:=λz=>by
  unfold SetTable.slot at e
  dsimp only at e
  rw[if_pos (by rw[z];simp)] at e
  cases e
 generalize SetTable.below t.place j=p at b1 b2 b3 ne
 rw[SetTable.toList_insertAt]
 have g:∀k (hk:k<t.place.size),t.place.toList[k]'(by simpa using hk)=t.place.getD k 0:=λk hk=>by simp[Array.getD,hk]
 have gt:∀k,p<=k->k<t.place.size->j<t.place.getD k 0:=λk hk hs=>by
  have:=b3 k hk hs
  by_cases x:k=p
  .subst x
   have e2:t.place[k]? = some (t.place.getD k 0):=by simp[Array.getD,hs]
   rw[e2] at ne
   have:t.place.getD k 0≠j:=λz=>ne (by rw[z])
   omega
  .have h1:=b3 p (yZD _) (by omega)
   have h2:=h.get (show p<k by omega) hs
   omega
 refine List.pairwise_append.mpr ⟨h.sublist (Yv _ _),List.pairwise_cons.mpr ⟨λy hy=>?_,h.sublist (List.drop_sublist _ _)⟩,λx hx y hy=>?_⟩
 .obtain⟨k,hk,rfl⟩:=List.getElem_of_mem hy
  rw[Yo,eP] at hk
  rw[List.getElem_drop,g _ (by omega)]
  exact gt _ (by omega) (by omega)
 .obtain⟨i,hi,rfl⟩:=List.getElem_of_mem hx
  rw[cJ,eP] at hi
  have lx:t.place.getD i 0<j:=b2 i (by omega)
  rw[List.getElem_take,g _ (by omega)]
  rcases aE.mp hy with rfl | hy
  .exact lx
  .obtain⟨k,hk,rfl⟩:=List.getElem_of_mem hy
   rw[Yo,eP] at hk
   rw[List.getElem_drop,g _ (by omega)]
   have:=gt (p+k) (by omega) (by omega)
   omega
theorem t9.put {b:Bool}{t:SetTable}(h:t9 b t){j:Nat}(e:t.slot j=.empty):t9 b (t.put j).1:=by
 refine⟨h.led,?_,TQ h.fw e⟩
 show(if SetTable.has t.dummies j then _ else t.dummies)=_
 rw[h.j4]
 rw[if_neg (by unfold SetTable.has;simp)]
end SI
namespace SI
open PySem PyProof.Rows
def au (w:World):Bool:=w.params.followText "set-order"
section
variable {prog:Program}{w:World}{A:Around}{E:Value->Shared->Prop}{s:Shared}
theorem TR (a:Value){Q₁:Value->Shared->Prop}(h:Q₁ (.ref s.heap.objs.size) { s with heap:=s.heap.push (bh (!au w)) }):
  codeAny (model prog w) A (.call (.builtin "set.__new__") ⟨[.type "set",a],[]⟩) (wants Q₁ E) s:=by
 refine codeAny_of_tree ?_
 show wpAny _ A.in1 (do checkBuiltinCall "set.__new__" ⟨[.type "set",a],[]⟩;again (.builtin "set.__new__" ⟨[.type "set",a],[]⟩)) _ _ s
 refine yYX (wpAny_of_eq (F.newCall_set_1 a) (yYY ⟨plainId_quiet F.plain_set_new _,codeAny_builtin F.entry_set_new ?_⟩))
 rw[Around.under_plainId F.plain_set_new _]
 unfold Builtin.«set.__new__» Builtin.Frozenset.newClass
 have FV:=sub_set_self
 obtain⟨hp,g,d,tk,os⟩:=s
 dsimp only
 wp_walk
 refine wpAny_askSetting (yYY ?_)
 dsimp only
 simp only[newObj]
 refine yYX (wpAny_alloc (yYY ?_))
 exact yYY h
end
end SI
namespace SI
open PySem PyProof.Rows
theorem TU:entryFor table "set.__iter__" = some Builtin.«frozenset.__iter__»:=entryFor_alias (id' := "frozenset.__iter__") (by kernel_rfl) rfl (by wtm_at"d") (by kernel_rfl)
theorem zJ:Slot "set_iterator" "__next__" "set_iterator.__next__" :=
 .of (owner := "set_iterator") (n := "__next__") (by rw[typeLookup_type,builtinLookup_eq_fast];kernel_rfl) (by wtm_at"d") (by wtm_at"d") (by wtm_at"d")
  (by first | exact .inl (by wtm_at"d") | exact .inr (by wtm_at"d")) (by rw[isSubtype_type];kernel_rfl)
theorem yC:entryFor table "set_iterator.__next__" = some Builtin.«set_iterator.__next__»:=entryFor_of_tree (by kernel_rfl)
theorem yH (a:Value):argsOk "set_iterator.__next__" ⟨[a],[]⟩:=by unfold argsOk;kernel_rfl
section
variable {M:Model}{A:Around}{E:Value->Shared->Prop}{s:Shared}
theorem wp_choose {src:Source}{n:Nat}{Q:Nat->Shared->Prop}(hn:n≠0)(h:∀i,i<n->Q i { s with drawn:=s.drawn.bump src }):wpAny M A (choose src n) Q E s:=λΓ p hΓ=>by
 show Sem.wp M Γ (.choose src n .pure) _ _ p s
 rw[Sem.wp_choose]
 exact⟨hn,h _ (Nat.mod_lt _ (Nat.pos_of_ne_zero hn))⟩
theorem Mb {α:Type}{xs:List α}{i:Nat}{x:α}(h:xs[i]? = some x):(x::xs.eraseIdx i).Perm xs:=by
 obtain⟨hi,rfl⟩:=aN.mp h
 rw[List.eraseIdx_eq_take_drop_succ]
 have e:xs=xs.take i++xs[i]::xs.drop (i+1):=by rw[List.getElem_cons_drop,List.take_append_drop]
 conv=>rhs;rw[e]
 exact List.perm_middle.symm
theorem TV {α:Type}{Q:List α->Shared->Prop}:∀(n:Nat) (xs:List α) (s:Shared),xs.length=n->(∀ys d,ys.Perm xs->Q ys { s with drawn:=d })->wpAny M A (drawOrder n xs) Q E s:=by
 intro n
 induction n generalizing Q with
 | zero=>
  intro xs s hl h
  have:xs=[]:=List.length_eq_zero_iff.mp hl
  subst this
  unfold drawOrder
  exact yYY (by have:=h [] s.drawn .nil;cases s;exact this)
 | succ n ih=>
  intro xs s hl h
  cases xs with
  | nil=>cases hl
  | cons x0 xr=>
   unfold drawOrder
   refine yYX (wp_choose (by simp) λi hi=>?_)
   have e:(x0::xr)[i]? = some ((x0::xr)[i]):=aH hi
   rw[e]
   dsimp only
   refine yYX (ih (Q:=λys s'=>wpAny M A (pure ((x0::xr)[i]::ys)) Q E s') ((x0::xr).eraseIdx i) _ (by rw[List.length_eraseIdx_of_lt hi];simp only[cP] at hl ⊢;omega) λys d p=>?_)
   exact yYY (h _ d ((p.cons _).trans (Mb e)))
end
theorem TX {α:Type}(next:Nat->Nat):∀(f k:Nat) (left:List α) (out:Array α),f=left.length->(pickOrder.go next f k left out).toList.Perm (out.toList++left):=by
 intro f
 induction f with
 | zero=>
  intro k left out h
  have:left=[]:=List.length_eq_zero_iff.mp h.symm
  subst this
  unfold pickOrder.go
  rw[Yq]
 | succ f ih=>
  intro k left out h
  have hi:next k % left.length<left.length:=Nat.mod_lt _ (by omega)
  have e:left[next k % left.length]? = some left[next k % left.length]:=aH hi
  unfold pickOrder.go
  rw[e]
  dsimp only
  refine(ih (k+1) _ _ (by rw[List.length_eraseIdx_of_lt hi];omega)).trans ?_
  rw[Array.toList_push,lS]
  exact List.Perm.append_left _ (Mb e)
theorem TY {α:Type}(next:Nat->Nat)(xs:Array α):(pickOrder next xs).toList.Perm xs.toList:=by
 have:=TX next xs.size 0 xs.toList #[] (by simp)
 exact this
abbrev cS (first:Value)(i:Nat)(a:Addr)(n ep:Nat):Obj:={ cls:=.type "set_iterator",data:=.fields #[first,.int i 0,.ref a,.int n 0,.int ep 0] }
structure Lies (h:Heap)(a:Addr)(o:Obj)(es:Array (Int×Value))(ep:Nat)(t:SetTable):Prop where
 at':h.get? a=some o
 ex:o.ExactSet
 data:o.data=.set es ep t
 fits:t.fits es.size=true
theorem Lies.kept {h h':Heap}{a:Addr}{o:Obj}{es:Array (Int×Value)}{ep:Nat}{t:SetTable}(x:Lies h a o es ep t)(k:∀o,h.get? a=some o->h'.get? a=some o):Lies h' a o es ep t:=⟨k _ x.at',x.ex,x.data,x.fits⟩
section
variable {prog:Program}{w:World}{A:Around}{E:Value->Shared->Prop}{s:Shared}{I a:Addr}{o:Obj}{es:Array (Int×Value)}{ep:Nat}{t:SetTable}{i:Nat}
theorem Mc {slot:Nat}{Q:Option Value->Shared->Prop}(hi:s.heap.get? I=some (cS (.int slot 0) i a es.size ep))(L:Lies s.heap a o es ep t)
  {x:Value} {nx:Nat} (hn:∀(Q':Option (Value×Nat)->Shared->Prop) (A':Around) (E':Value->Shared->Prop),Q' (some (x,nx)) s->wpAny (model prog w) A' (setNext a slot i ep) Q' E' s)
  (h:∀h',h'.get? I=some (cS (.int nx 0) (i+1) a es.size ep)->Heap.SameBut I s.heap h'->Q (some x) { s with heap:=h' }):wpAny (model prog w) A (pyNext (.ref I)) Q E s:=by
 have hT:s.TypeIs (.ref I) "set_iterator" := ⟨_,hi,rfl⟩
 unfold pyNext
 refine yYX (wpAny_attempt (wpAny_callSpecial?_slot (name:=Yb "__next__") hT zJ (wpAny_call_entry zJ hT yC ?_ (yH _))))
 unfold Builtin.«set_iterator.__next__» slotArgs
 simp only[List.isEmpty_nil,Bool.not_true,bL,↓reduceIte,bind_assoc,gW,bne_self_eq_false]
 refine yYX (yYY ?_)
 refine yYX (wpAny_fieldsOf hi rfl ?_)
 dsimp only
 refine yYX (wpAny_setEntries_of L.at' L.data L.fits ?_)
 simp only[bne_self_eq_false,bL,↓reduceIte]
 rw[Int.toNat_natCast,Int.toNat_natCast,Int.toNat_natCast]
 refine yYX (hn _ _ _ ?_)
 dsimp only
 refine yYX (wpAny_setField hi rfl (by simp) ?_)
 have e1:(s.heap.update I (Obj.mapFields λvs=>vs.setIfInBounds 0 (rawInt nx))).get? I=some (cS (.int nx 0) i a es.size ep):=Heap.get?_update_self _ hi rfl
 refine yYX (wpAny_setField e1 rfl (by simp) ?_)
 refine yYY ⟨x,rfl,yYY (h _ ?_ ((Heap.SameBut.update ..).trans (Heap.SameBut.update ..)))⟩
 exact Heap.get?_update_self _ e1 rfl
theorem TZ {first:Value}{Q:Option Value->Shared->Prop}(hh:A.handled=none)(hi:s.heap.get? I=some (cS first i a es.size ep))(L:Lies s.heap a o es ep t)
  (hn:∀slot:Nat,first=.int slot 0->∀(Q':Option (Value×Nat)->Shared->Prop) (A':Around) (E':Value->Shared->Prop),Q' none s->wpAny (model prog w) A' (setNext a slot i ep) Q' E' s)
  (hp:(∃slot:Nat,first=.int slot 0)\/∃p op ys n,first=.ref p/\s.heap.get? p=some op/\op.data=.seq ys n/\ys.size=i)
  (h:∀h',Heap.ExtBut I s.heap h'->Q none { s with heap:=h' }):wpAny (model prog w) A (pyNext (.ref I)) Q E s:=by
 have hT:s.TypeIs (.ref I) "set_iterator" := ⟨_,hi,rfl⟩
 have stop:∀h1 (f:Value),h1.get? I=some (cS f i a es.size ep)->Heap.SameBut I s.heap h1->wpAny (model prog w) A.in1 (do
   setField (Value.ref I) 2 Value.none
   let e <- newExc (Value.type "StopIteration") []
   (raiseNew e:Sem PySem.Fin)) (λfin s'=>∃v,fin=Fin.done (Flow.ret v)/\wpAny (model prog w) A (pure (some v)) Q E s')
   (λe s'=>wpAny (model prog w) A (do
     let c <- isInstance e (Value.type "StopIteration")
     if c=true then pure none else throw e) Q E s') { s with heap:=h1 }:=λh1 f e1 sb=>by
  refine yYX (wpAny_setField (s:={ s with heap:=h1 }) e1 rfl (by simp) ?_)
  refine yYX ?_
  simp only[newExc,newTuple]
  refine yYX (wpAny_newObj_type ?_ (by size_fits))
  refine yYX (m:=firstArgMember _ _) (wpAny_of_eq (a:=Value.none) (by first | rfl | (simp only[firstArgMember];rfl)) ?_)
  refine wpAny_newObj_type ?_ (by size_fits)
  simp only[raiseNew]
  refine yYX (wpAny_handled ?_)
  rw[show A.in1.handled=none from hh]
  refine yYX (yYY (wpAny_throw ?_))
  refine yYX (wpAny_isInstance (T := "StopIteration") (b:=true) ⟨_,bg _ rfl,rfl⟩ isSubtype_stop ?_)
  exact yYY (h _ (((sb.trans (Heap.SameBut.update ..)).extBut.push _).push _))
 unfold pyNext
 refine yYX (wpAny_attempt (wpAny_callSpecial?_slot (name:=Yb "__next__") hT zJ (wpAny_call_entry zJ hT yC ?_ (yH _))))
 unfold Builtin.«set_iterator.__next__» slotArgs
 simp only[List.isEmpty_nil,Bool.not_true,bL,↓reduceIte,bind_assoc,gW,bne_self_eq_false]
 refine yYX (yYY ?_)
 refine yYX (wpAny_fieldsOf hi rfl ?_)
 dsimp only
 refine yYX (wpAny_setEntries_of L.at' L.data L.fits ?_)
 simp only[bne_self_eq_false,bL,↓reduceIte]
 rcases hp with⟨slot,rfl⟩ | ⟨p,op,ys,n,rfl,e2,d2,z⟩
 .dsimp only
  rw[Int.toNat_natCast,Int.toNat_natCast,Int.toNat_natCast]
  refine yYX (hn slot rfl _ _ _ ?_)
  dsimp only
  exact stop s.heap _ hi (Heap.SameBut.refl ..)
 .dsimp only
  refine yYX (wpAny_seqItems e2 d2 ?_)
  dsimp only
  rw[Int.toNat_natCast,show ys[i]? = none by simp[z]]
  dsimp only
  refine yYX (wpAny_setField hi rfl (by simp) ?_)
  have e1:(s.heap.update I (Obj.mapFields λvs=>vs.setIfInBounds 0 (rawInt 0))).get? I=some (cS (.int 0 0) i a es.size ep):=Heap.get?_update_self _ hi rfl
  exact stop _ _ e1 (Heap.SameBut.update ..)
theorem T6 {p:Addr}{op:Obj}{ys:Array Value}{n:Nat}{pl:Nat}{x:Int×Value}{Q:Option Value->Shared->Prop}(hi:s.heap.get? I=some (cS (.ref p) i a es.size ep))(L:Lies s.heap a o es ep t)
  (e2:s.heap.get? p=some op) (d2:op.data=.seq ys n) (ey:ys[i]? = some (.int pl 0)) (ex:es[pl]? = some x)
  (h:∀h',h'.get? I=some (cS (.ref p) (i+1) a es.size ep)->Heap.SameBut I s.heap h'->Q (some x.2) { s with heap:=h' }):wpAny (model prog w) A (pyNext (.ref I)) Q E s:=by
 have hT:s.TypeIs (.ref I) "set_iterator" := ⟨_,hi,rfl⟩
 unfold pyNext
 refine yYX (wpAny_attempt (wpAny_callSpecial?_slot (name:=Yb "__next__") hT zJ (wpAny_call_entry zJ hT yC ?_ (yH _))))
 unfold Builtin.«set_iterator.__next__» slotArgs
 simp only[List.isEmpty_nil,Bool.not_true,bL,↓reduceIte,bind_assoc,gW,bne_self_eq_false]
 refine yYX (yYY ?_)
 refine yYX (wpAny_fieldsOf hi rfl ?_)
 dsimp only
 refine yYX (wpAny_setEntries_of L.at' L.data L.fits ?_)
 simp only[bne_self_eq_false,bL,↓reduceIte]
 refine yYX (wpAny_seqItems e2 d2 ?_)
 dsimp only
 rw[Int.toNat_natCast,ey]
 dsimp only
 rw[Int.toNat_natCast,Int.toNat_natCast]
 refine yYX ?_
 unfold setNextDrawn
 refine yYX (wpAny_setState_of L.at' L.data L.fits ?_)
 dsimp only
 rw[if_neg (by simp),ex]
 refine yYY ?_
 refine yYX (wpAny_setField hi rfl (by simp) ?_)
 exact yYY ⟨_,rfl,yYY (h _ (Heap.get?_update_self _ hi rfl) (Heap.SameBut.update ..))⟩
end
end SI
namespace SI
open PySem PyProof.Rows
theorem kO:Slot "set_iterator" "__iter__" "set_iterator.__iter__" :=
 .of (owner := "set_iterator") (n := "__iter__") (by rw[typeLookup_type,builtinLookup_eq_fast];kernel_rfl) (by wtm_at"d") (by wtm_at"d") (by wtm_at"d")
  (by first | exact .inl (by wtm_at"d") | exact .inr (by wtm_at"d")) (by rw[isSubtype_type];kernel_rfl)
theorem T7:entryFor table "set_iterator.__iter__" = some Builtin.«dict_keyiterator.__iter__»:=entryFor_alias (id' := "dict_keyiterator.__iter__") (by kernel_rfl) rfl (by wtm_at"d") (by kernel_rfl)
theorem T9 (a:Value):argsOk "set_iterator.__iter__" ⟨[a],[]⟩:=by unfold argsOk;kernel_rfl
section
variable {prog:Program}{w:World}{A:Around}{E:Value->Shared->Prop}{s:Shared}{I a:Addr}{o:Obj}{es:Array (Int×Value)}{ep:Nat}{t:SetTable}{i slot:Nat}
theorem Ei {Q:Bool->Shared->Prop}(h:Q (au w) s):wpAny (model prog w) A setsByText Q E s:=by
 unfold setsByText
 exact yYX (wpAny_askSetting (yYY h))
theorem Me (ht:au w=true)(L:Lies s.heap a o es ep t){Q:Option (Value×Nat)->Shared->Prop}(h:Q ((pickOrder (w.params.setOrder a ep) es)[i]?.map λe=>(e.2,slot)) s):wpAny (model prog w) A (setNext a slot i ep) Q E s:=by
 unfold setNext
 refine yYX (wpAny_setState_of L.at' L.data L.fits ?_)
 dsimp only
 refine yYX (Ei ?_)
 rw[ht]
 simp only[↓reduceIte,bne_self_eq_false,bL]
 refine yYX ?_
 unfold setWalk
 refine yYX (wpAny_setState_of L.at' L.data L.fits ?_)
 dsimp only
 refine yYX (Ei ?_)
 rw[ht]
 simp only[↓reduceIte]
 refine yYX (wpAny_askSetting (yYY ?_))
 exact yYY h
theorem Mf (hf:au w=false)(nd:(!t.plain && decide (es.size>1))=false)(led:t.led=true)(L:Lies s.heap a o es ep t){Q:Option (Value×Nat)->Shared->Prop}
  (h:Q (match es[SetTable.below t.place slot]?,t.place[SetTable.below t.place slot]? with | some (_,x),some j=>some (x,j+1) | _,_=>none) s):wpAny (model prog w) A (setNext a slot i ep) Q E s:=by
 unfold setNext
 refine yYX (wpAny_setState_of L.at' L.data L.fits ?_)
 dsimp only
 refine yYX (Ei ?_)
 rw[hf]
 simp only[↓reduceIte,bL]
 show wpAny _ _ (if (!t.plain && decide (es.size>1))=true then _ else _) _ _ _
 rw[nd]
 simp only[↓reduceIte,bL]
 refine yYX (m:=if (!t.led && !es.isEmpty)=true then unsupported "set:maker-not-led" else pure ()) ?_
 rw[led]
 simp only[Bool.not_true,Bool.false_and,bL,↓reduceIte]
 exact yYY (yYY h)
inductive Way (w:World)(h:Heap)(a:Addr)(es:Array (Int×Value))(ep:Nat)(t:SetTable)(i:Nat):List (Int×Value)->Value->Prop
 | text (slot:Nat):au w=true->Way w h a es ep t i (pickOrder (w.params.setOrder a ep) es).toList (.int slot 0)
 | place (slot:Nat):au w=false->(!t.plain && decide (es.size>1))=false->t.led=true->lM t.place->SetTable.below t.place slot=i->Way w h a es ep t i es.toList (.int slot 0)
 | drawn (p:Addr) (op:Obj) (ks:List Nat) (n:Nat):h.get? p=some op->op.data=.seq (ks.map λk=>Value.int (k:Nat) 0).toArray n->ks.Perm (List.range es.size)->Way w h a es ep t i (ks.filterMap λk=>es[k]?) (.ref p)
structure B3 (w:World)(I a:Addr)(o:Obj)(es:Array (Int×Value))(ep:Nat)(t:SetTable)(ord:List (Int×Value))(fp:List Addr)(i:Nat)(s:Shared):Prop where
 lies:Lies s.heap a o es ep t
 it:∃first,s.heap.get? I=some (cS first i a es.size ep)/\Way w s.heap a es ep t i ord first/\∀p,first=.ref p->p∈fp/\p≠I
theorem Way.kept {h h':Heap}{ord:List (Int×Value)}{first:Value}(x:Way w h a es ep t i ord first)(k:∀p o,first=.ref p->h.get? p=some o->h'.get? p=some o):Way w h' a es ep t i ord first:=by
 cases x with
 | text slot b=>exact .text slot b
 | place slot b c d e f=>exact .place slot b c d e f
 | drawn p op ks n e d pm=>exact .drawn p op ks n (k p op rfl e) d pm
theorem Ua {es:Array (Int×Value)}{ks:List Nat}(h:∀k∈ks,k<es.size)(i:Nat):(ks.filterMap λk=>es[k]?)[i]? = ks[i]?.bind λk=>es[k]? := by
 induction ks generalizing i with
 | nil=>rfl
 | cons k ks ih=>
  have hk:=h k aW
  rw[List.filterMap_cons_some (b:=es[k]) (getElem?_pos es k hk)]
  cases i with
  | zero=>exact(getElem?_pos es k hk).symm
  | succ i=>
   rw[List.getElem?_cons_succ,List.getElem?_cons_succ]
   exact ih (λk hk=>h k (yYH _ hk)) i
theorem Ub {p:Array Nat}(h:lM p){i:Nat}(hi:i<p.size):SetTable.below p (p.getD i 0+1)=i+1:=by
 obtain⟨b1,b2,b3⟩:=vI h (p.getD i 0+1)
 have l1:i<SetTable.below p (p.getD i 0+1):=by
  by_cases c:i<SetTable.below p (p.getD i 0+1)
  .exact c
  .have:=b3 i (by omega) hi
   omega
 by_cases c:i+1<SetTable.below p (p.getD i 0+1)
 .have h1:=b2 (i+1) c
  have h2:=h.get (show i<i+1 by omega) (show i+1<p.size by omega)
  omega
 .omega
theorem Uc {t:SetTable}{n:Nat}(h:t.fits n=true):t.place.size=n:=by
 simp only[SetTable.fits,Bool.and_eq_true,beq_iff_eq] at h
 exact h.1
theorem Ud (hh:A.handled=none)(oz:a≠I){fp:List Addr}(Mg:I∈fp)(Ue:a∈fp)(o:Obj)(es:Array (Int×Value))(ep:Nat)(t:SetTable)(ord:List (Int×Value))(lo:ord.length=es.size):
  WalksS prog w A I fp [I] (λa b=>b=a) es.size (λi v=>∃k,ord[i]? = some (k,v)) (B3 w I a o es ep t ord fp) where
 sub:=λb hb=>by rw[bB.mp hb];exact Mg
 grefl:=λ_=>rfl
 gtrans:=λ_ _ _ x y=>y.trans x
 frame:=λi s h' tk st _ hk=>by
  obtain⟨first,e,wy,hp⟩:=st.it
  exact⟨st.lies.kept λo e=>hk a Ue o e,first,hk I Mg _ e,wy.kept λp o ep e=>hk p (hp p ep).1 o e,hp⟩
 item:=λi s Q E hi st hQ=>by
  obtain⟨first,e,wy,hp⟩:=st.it
  have L:=st.lies
  have fin:∀(x:Int×Value) (f':Value) (h':Heap),ord[i]? = some x->h'.get? I=some (cS f' (i+1) a es.size ep)->Heap.SameBut I s.heap h'->Way w h' a es ep t (i+1) ord f'->(∀p,f'=.ref p->p∈fp/\p≠I)->Q (some x.2) { s with heap:=h' }:=λx f' h' ex e1 sb Ug j3=>
   hQ x.2 _ ⟨x.1,ex⟩ ⟨L.kept λo e=>(sb.2 a oz).trans e,f',e1,Ug,j3⟩ ⟨λb o hb e=>(sb.2 b (λz=>hb (by rw[z];exact bB.mpr rfl))).trans e,rfl,rfl,rfl,yZD _⟩
  cases wy with
  | text slot b=>
   have ex:(pickOrder (w.params.setOrder a ep) es)[i]? = some ((pickOrder (w.params.setOrder a ep) es).toList[i]'(by omega)):=by rw[<- lT];exact aH _
   refine Mc (x:=_) (nx:=slot) e L (λQ' A' E' hq=>Me b L (by rw[ex];exact hq)) λh' e1 sb=>?_
   exact fin _ _ h' (aH (by omega)) e1 sb (.text slot b) λp z=>by cases z
  | place slot b c d fw bl=>
   have zp:=Uc L.fits
   have ex:es[i]? = some es[i]:=getElem?_pos es i hi
   have dt:t.place[i]? = some (t.place.getD i 0):=by simp[Array.getD,zp,hi]
   refine Mc (x:=es[i].2) (nx:=t.place.getD i 0+1) e L (λQ' A' E' hq=>Mf b c d L (by rw[bl,ex,dt];exact hq)) λh' e1 sb=>?_
   exact fin es[i] _ h' (by rw[lT];exact ex) e1 sb (.place _ b c d fw (Ub fw (by omega))) λp z=>by cases z
  | drawn p op ks n e2 d2 pm=>
   have lk:ks.length=es.size:=by rw[pm.length_eq,List.length_range]
   have kb:∀k∈ks,k<es.size:=λk hk=>List.mem_range.mp (pm.mem_iff.mp hk)
   have ek:ks[i]? = some (ks[i]'(by omega)):=aH _
   have bk:=kb _ (List.getElem_mem (h:=(by omega:i<ks.length)))
   have ey:(ks.map λk=>Value.int (k:Nat) 0).toArray[i]? = some (.int ((ks[i]'(by omega):Nat)) 0):=by
    rw[List.getElem?_toArray,bb,ek];rfl
   refine T6 e L e2 d2 ey (getElem?_pos es _ bk) λh' e1 sb=>?_
   refine fin _ _ h' (by rw[Ua kb,ek];exact getElem?_pos es _ bk) e1 sb (.drawn p op ks n ((sb.2 p (hp p rfl).2).trans e2) d2 pm) λp' z=>by cases z;exact hp p rfl
 done:=λs Q E st hQ=>by
  obtain⟨first,e,wy,hp⟩:=st.it
  have L:=st.lies
  refine TZ hh e L (λslot ef Q' A' E' hq=>?_) ?_ λh' x=>hQ _ ⟨λb o hb e=>x b o (λz=>hb (by rw[z];exact bB.mpr rfl)) e,rfl,rfl,rfl,yZD _⟩
  .cases wy with
   | text slot' b=>
    refine Me b L ?_
    rw[<- lT,List.getElem?_eq_none (by omega)]
    exact hq
   | place slot' b c d fw bl=>
    cases ef
    refine Mf b c d L ?_
    rw[bl,Array.getElem?_eq_none (yZD _)]
    exact hq
   | drawn p op ks n e2 d2 pm=>cases ef
  .cases wy with
   | text slot b=>exact .inl ⟨slot,rfl⟩
   | place slot b c d fw bl=>exact .inl ⟨slot,rfl⟩
   | drawn p op ks n e2 d2 pm=>exact .inr ⟨p,op,_,n,rfl,e2,d2,by rw[dO,av,pm.length_eq,List.length_range]⟩
 self:=λi s Q E st hQ=>by
  obtain⟨first,e,_,_⟩:=st.it
  have hT:s.TypeIs (.ref I) "set_iterator" := ⟨_,e,rfl⟩
  refine wpAny_pyIter_slot hT kO (wpAny_call_entry kO hT T7 ?_ (T9 _))
  show wpAny _ _ (ret (.ref I)) _ _ s
  exact yYY ⟨_,rfl,"set_iterator",_,hT,zJ.lookup,hQ⟩
theorem Uh (L:Lies s.heap a o es ep t){Q:Bool->Shared->Prop}(h:Q (!au w && (!t.plain && decide (es.size>1))) s):wpAny (model prog w) A (setDrawn a) Q E s:=by
 unfold setDrawn
 refine yYX (wpAny_setState_of L.at' L.data L.fits ?_)
 dsimp only
 refine yYX (Ei ?_)
 exact yYY h
theorem Ui (L:Lies s.heap a o es ep t)(ok:t9 (!au w) t)(hz:es.size<=5000){Q:Value->Shared->Prop}
  (h:∀(I:Addr) (ord:List (Int×Value)) (fp:List Addr) (h':Heap) (d:Drawn),ord.Perm es.toList->s.heap.objs.size<=I->I∈fp->a∈fp->(∀b∈fp,b=a\/s.heap.objs.size<=b)->(∀b∈fp,b<h'.objs.size)->(∀b o,s.heap.get? b=some o->h'.get? b=some o)->
   B3 w I a o es ep t ord fp 0 { s with heap:=h',drawn:=d }->Q (.ref I) { s with heap:=h',drawn:=d }):wpAny (model prog w) A (pyIter (.ref a)) Q E s:=by
 have hT:s.TypeIs (.ref a) "set" := ⟨o,L.at',L.ex.1⟩
 have la:a<s.heap.objs.size:=aG L.at'
 refine wpAny_pyIter_slot hT PySem.F.slot_set_iter (wpAny_call_entry PySem.F.slot_set_iter hT TU ?_ (PySem.F.args_set_iter_1 _))
 unfold Builtin.«frozenset.__iter__» Builtin.Frozenset.slot0 slotArgs
 simp only[List.isEmpty_nil,Bool.not_true,bL,↓reduceIte,bind_assoc,gW,bne_self_eq_false]
 unfold Builtin.Frozenset.addrOf Builtin.Frozenset.sizeOf
 refine yYX (yYY ?_)
 refine yYX (yYY ?_)
 refine yYX (yYX (wpAny_setEntries_of L.at' L.data L.fits (yYY ?_)))
 refine yYX (Uh L ?_)
 have fin:∀(first:Value) (h1:Heap) (d:Drawn) (ord:List (Int×Value)) (fp:List Addr),(∀b o,s.heap.get? b=some o->h1.get? b=some o)->s.heap.objs.size<=h1.objs.size->ord.Perm es.toList->Way w h1 a es ep t 0 ord first->(∀p,first=.ref p->p∈fp)->(∀b∈fp,s.heap.objs.size<=b/\b<h1.objs.size)->
   wpAny (model prog w) A.in1 (do
    let e <- setEpoch a
    let it <- newFields "set_iterator" [first,rawInt 0,.ref a,rawInt es.size,rawInt e]
    ret it) (λfin s'=>∃v,fin=Fin.done (Flow.ret v)/\∃T' r,s'.TypeIs v T'/\typeLookup (.type T') "__next__" = pure (some r)/\Q v s') E { s with heap:=h1,drawn:=d }:=λfirst h1 d ord fp kp hs pm wy hp hf=>by
  have L1:Lies h1 a o es ep t:=L.kept λo e=>kp a o e
  refine yYX (wpAny_setEpoch_of (s:={ s with heap:=h1,drawn:=d }) L1.at' L1.data L1.fits ?_)
  refine yYX (wpAny_newObj_type ?_)
  have nI:∀b∈fp,b≠h1.objs.size:=λb hb=>yZF (hf b hb).2
  refine yYY ⟨_,rfl,"set_iterator",_,⟨_,bg _ rfl,rfl⟩,zJ.lookup,?_⟩
  refine h h1.objs.size ord (h1.objs.size::a::fp) _ d pm hs aW (yYH _ aW) (λb hb=>?_) (λb hb=>?_) (λb o e=>yYZ _ (kp b o e)) ⟨L1.kept λo e=>yYZ _ e,first,bg _ rfl,wy.kept λp o _ e=>yYZ _ e,λp e=>⟨yYH _ (yYH _ (hp p e)),nI p (hp p e)⟩⟩
  .rcases aE.mp hb with rfl | hb
   .exact .inr hs
   .rcases aE.mp hb with rfl | hb
    .exact .inl rfl
    .exact .inr (hf b hb).1
  .rw[gj]
   rcases aE.mp hb with rfl | hb
   .exact Nat.lt_succ_self _
   .rcases aE.mp hb with rfl | hb
    .exact Nat.lt_succ_of_lt (yZE la hs)
    .exact Nat.lt_succ_of_lt (hf b hb).2
 cases c:(!au w && (!t.plain && decide (es.size>1))) with
 | true=>
  simp only[↓reduceIte]
  refine yYX (TV es.size (List.range es.size) s (by rw[List.length_range]) λks d pm=>?_)
  refine yYX (wpAny_newTuple ?_ (by rw[av,pm.length_eq,List.length_range];rw[sizeLine_eq];omega))
  refine fin _ _ d _ [s.heap.objs.size] (λb o e=>yYZ _ e) (by rw[gj];exact Nat.le_succ _) ?_ (.drawn s.heap.objs.size _ ks 0 (bg _ rfl) rfl pm) (λp e=>by cases e;exact bB.mpr rfl) (λb hb=>by rw[bB.mp hb,gj];exact⟨yZD _,Nat.lt_succ_self _⟩)
  have:=pm.filterMap λk=>es[k]?
  rw[filterMap_getElem?_range] at this
  exact this
 | false=>
  simp only[bL,↓reduceIte]
  refine yYX (yYY ?_)
  cases b:au w with
  | true=>
   have:=fin (.int (0:Nat) 0) s.heap s.drawn _ [] (λ_ _ e=>e) (yZD _) (TY (w.params.setOrder a ep) es) (.text 0 b) (λp e=>by cases e) (λb hb=>by cases hb)
   cases s;exact this
  | false=>
   rw[b] at c ok
   have:=fin (.int (0:Nat) 0) s.heap s.drawn _ [] (λ_ _ e=>e) (yZD _) (List.Perm.refl _) (.place 0 b (by simpa using c) ok.led ok.fw (by
    obtain⟨_,b2,_⟩:=vI ok.fw 0
    by_cases z:SetTable.below t.place 0=0
    .exact z
    .exact absurd (b2 0 (by omega)) (Nat.not_lt_zero _))) (λp e=>by cases e) (λb hb=>by cases hb)
   cases s;exact this
end
end SI
namespace SI
open PySem PyProof.Rows
theorem Uj:isSubtype (.type "set") (.type "set")=pure true:=by rw[isSubtype_type];kernel_rfl
section
variable {prog:Program}{w:World}{A:Around}{E:Value->Shared->Prop}{s:Shared}{a:Addr}{o:Obj}{es:Array (Int×Value)}{ep:Nat}{t:SetTable}
theorem Uk (hT:s.TypeIs (.ref a) "set"){Q:Bool->Shared->Prop}(h:Q false s):wpAny (model prog w) A (Builtin.List.listLengthHint (.ref a)) Q E s:=by
 unfold Builtin.List.listLengthHint
 refine yYX (wpAny_specialOf hT PySem.F.slot_set_len.lookup ?_)
 dsimp only
 rw[show splitId "set.__len__" = some ("set","__len__") by wtm_at"d"]
 dsimp only
 refine yYX (wpAny_isInstance hT Uj ?_)
 simp only[Bool.not_true,bL,↓reduceIte]
 refine wpAny_ite_split (λ_=>?_) (λqj=>absurd (by wtm_at"d") qj)
 refine yYX (wpAny_typeOf hT ?_)
 exact yYY h
theorem Ul (hh:A.handled=none)(L:Lies s.heap a o es ep t)(ok:t9 (!au w) t)(hz:es.size<=5000){Q:List Value->Shared->Prop}
  (h:∀(ord:List (Int×Value)) (s':Shared),ord.Perm es.toList->(∀b o,s.heap.get? b=some o->s'.heap.get? b=some o)->s'.gens=s.gens->s'.os=s.os->s.toks<=s'.toks->s.heap.objs.size<=s'.heap.objs.size->Q (ord.map (·.2)) s'):wpAny (model prog w) A (collect (.ref a)) Q E s:=by
 have la:a<s.heap.objs.size:=aG L.at'
 have hT:s.TypeIs (.ref a) "set" := ⟨o,L.at',L.ex.1⟩
 unfold collect
 refine yYX (wpAny_runValue (codeAny_builtin PySem.F.entry_proto_collect ?_))
 rw[Around.under_plainId PySem.F.plain_proto_collect _]
 show wpAny _ A.in1 (newList [] >>= λl=>again (.builtin "list.__iadd__" ⟨[l,.ref a],[]⟩)) _ _ s
 refine yYX (wpAny_newObj_type ?_)
 refine yYY ⟨plainId_quiet PySem.F.plain_list_iadd _,codeAny_builtin PySem.F.entry_list_iadd ?_⟩
 rw[Around.under_plainId PySem.F.plain_list_iadd _]
 have L1:Lies (s.heap.push { cls:=.type "list",data:=.seq ([]:List Value).toArray }) a o es ep t:=L.kept λo e=>yYZ _ e
 have Mh:(s.heap.push { cls:=.type "list",data:=.seq ([]:List Value).toArray }).get? s.heap.objs.size=some { cls:=.type "list",data:=.seq ([]:List Value).toArray }:=bg _ rfl
 have z0:(s.heap.push { cls:=.type "list",data:=.seq ([]:List Value).toArray }).objs.size=s.heap.objs.size+1:=gj _ _
 have Mj:∀b o,s.heap.get? b=some o->(s.heap.push { cls:=.type "list",data:=.seq ([]:List Value).toArray }).get? b=some o:=λb o e=>yYZ _ e
 show wpAny _ A.in1 (Builtin.List.listExtendWith (.ref s.heap.objs.size) (.ref a) (.ref s.heap.objs.size)) _ _ { s with heap:=s.heap.push { cls:=.type "list",data:=.seq ([]:List Value).toArray } }
 generalize s.heap.push { cls:=.type "list",data:=.seq ([]:List Value).toArray }=h1 at L1 Mh z0 Mj
 have Um:Shared.TypeIs { s with heap:=h1 } (.ref a) "set" := ⟨o,L1.at',L.ex.1⟩
 unfold Builtin.List.listExtendWith
 refine yYX (wpAny_typeOf Um ?_)
 have e1:Builtin.List.listSameRef (.ref s.heap.objs.size) (.ref a)=false:=by
  have:s.heap.objs.size≠a:=yZH la
  simp[Builtin.List.listSameRef,this]
 have e2:(Value.type "set" == Value.type "list")=false:=by decide
 have e3:(Value.type "set" == Value.type "tuple")=false:=by decide
 simp only[e1,e2,e3,Bool.or_false,bL,if_false]
 refine yYX (Ui (s:={ s with heap:=h1 }) L1 ok hz λI ord fp h2 d pm hI Ifp afp i7 bc u0 st=>?_)
 have sk:=u0 _ _ Mh
 refine yYX (wpAny_holding (Uk (s:={ s with heap:=h2,drawn:=d }) ⟨o,u0 _ _ L1.at',L.ex.1⟩ ?_))
 have Sn:s.heap.objs.size∉fp:=λhb=>by
  rcases i7 _ hb with z | z
  .exact absurd z (yZH la)
  .have z:h1.objs.size<=s.heap.objs.size:=z
   omega
 refine wpAny_ite_split (λ_=>?_) (λqj=>absurd (by wtm_at"d") qj)
 refine yYX (wpAny_rule ?_)
 refine yYX ?_
 show wpAny _ A.in1 (updateSeq s.heap.objs.size (·.push .none) >>= λ_=>updateSeq s.heap.objs.size (·.pop)) _ _ _
 refine yYX (wpAny_updateSeq sk rfl ?_)
 have sq:=Heap.get?_update_self (Obj.mapSeq (·.push Value.none)) sk rfl
 refine wpAny_updateSeq sq rfl ?_
 have Gw:=Heap.get?_update_self (Obj.mapSeq (·.pop)) sq rfl
 have oth:∀b o,b≠s.heap.objs.size->h2.get? b=some o->((h2.update s.heap.objs.size (Obj.mapSeq (·.push Value.none))).update s.heap.objs.size (Obj.mapSeq (·.pop))).get? b=some o:=
  λb o hb e=>(Heap.get?_update_other _ _ (Ne.symm hb)).trans ((Heap.get?_update_other _ _ (Ne.symm hb)).trans e)
 have oP:ord.length=es.size:=by rw[pm.length_eq,eP]
 have Ml:s.heap.objs.size<=I:=yZJ (by omega:s.heap.objs.size<=h1.objs.size) hI
 have aI:a≠I:=yZF (yZE la Ml)
 have W:=Ud (prog:=prog) (w:=w) (A:=A.in1) (by simp[hh]) aI Ifp afp o es ep t ord oP
 refine yYY ⟨plainId_quiet PySem.F.plain_extend_loop _,codeAny_extend_loopS W (by rw[sizeLine_eq];omega) _ Sn _ es.size 0 _ _ _ rfl (yZG _)
  (W.frame 0 ({ s with heap:=h2,drawn:=d }:Shared) _ s.toks st (yZD _) λb hb o e=>oth b o (λz=>Sn (z▸hb)) e) Gw (ItemsOf.nil _) λs' oQ c' hm sy oU=>?_⟩
 show wpAny _ A (load s.heap.objs.size >>= _) _ _ s'
 refine yYX (wpAny_load sy ?_)
 have ea:oQ.toList=ord.map (·.2):=by
  refine List.ext_getElem? λi=>?_
  rw[bb,lT]
  by_cases c:i<es.size
  .have g:oQ[i]? = some (oQ[i]'(by rw[oU.1];exact c)):=getElem?_pos oQ i (by rw[oU.1];exact c)
   obtain⟨k,ek⟩:=oU.2 i _ g
   rw[g,ek];rfl
  .rw[Array.getElem?_eq_none (by rw[oU.1];omega),List.getElem?_eq_none (by omega)];rfl
 refine yYY ?_
 rw[ea]
 have kk:∀b o,s.heap.get? b=some o->s'.heap.get? b=some o:=λb o e=>by
  have lb:=aG e
  refine hm.heap b o (λz=>?_) (oth b o (yZF lb) (u0 _ _ (Mj _ _ e)))
  rcases aE.mp z with z | z
  .exact absurd z (yZF lb)
  .exact absurd (bB.mp z) (yZF (yZE lb Ml))
 exact h ord s' pm kk hm.gens hm.os hm.toks (Nat.le_of_lt (aG sy))
end
end SI
namespace SI
open PySem PyProof.Rows TM
def Gx:KeyOrd:=⟨Int,λa b=>decide (a<b),λa=>decide_eq_false (by omega),λa b c h1 h2=>decide_eq_true (Int.lt_trans (of_decide_eq_true h1) (of_decide_eq_true h2)),
 λa b c h=>by
  have:=of_decide_eq_true h
  by_cases l:a<b
  .exact .inl (decide_eq_true l)
  .exact .inr (decide_eq_true (by omega)),
 λa b h1 h2=>by
  have:=of_decide_eq_false h1
  have:=of_decide_eq_false h2
  omega⟩
end SI
namespace L2
open PySem PySem.Spec PyProof.Rows
section
variable {X:Cx}{zz:List (Addr×Obj)}{σ:St}{H H':Hp}{s:Shared}
theorem Inv.laidD {a:Addr}{o:HO}{s':Shared}(I:Inv X zz σ H s)(k:∀b u,s.heap.get? b=some u->s'.heap.get? b=some u)(hp:s.heap.objs.size<=a)(new:ao X.prog X.w (upd H a o) s'.heap a o)(hg:s'.gens=s.gens)(oV:s'.os=s.os):
  Inv X zz σ (upd H a o) s':=by
 obtain⟨h',g',d',t',o'⟩:=s'
 have e1:g'=s.gens:=hg
 have e2:o'=s.os:=oV
 subst e1 e2
 have u:Un X.fs [] H (upd H a o) s.heap h':=Un.laid k hp (I.af.fresh hp)
 obtain⟨m,⟨ol,es,ep,ho,r⟩,_⟩:=id I.loc
 obtain⟨sl,hL⟩:=u.any ho I.free (by simp)
 exact I.step (g':=s.gens) (d':=d') (ch:=[]) (λ_ z=>nomatch z) (λb o _ hb _ e n=>u.keep b o e n hb (by simp)) (λb o _ hb _ e n=>u.slot b o e n hb (by simp)) (λb o _ e n=>u.free b o e n (by simp)) (λb o _ e=>u.there b o e (by simp)) u.tups u.frzs u.cK (λm' hm=>by
  obtain⟨o',bC,dt,dQ,r'⟩:=hm
  rw[ho] at dQ;cases dQ
  exact⟨_,bC,dt,hL,r'⟩) (I.af.laid k hp new) I.bare
end
end L2
namespace L2
open PySem PySem.Spec PyProof.Rows
section
variable {X:Cx}{zz:List (Addr×Obj)}{σ:St}{H:Hp}{s:Shared}
def Uo:V->List V->Hp->VK->Prop:=λx vs H Q=>∃(d:Addr) (kvs:List (Key×V)) (k:Key) (y:V),x=.ref d/\vs=[kV k,y]/\H d=some (.dK kvs)/\kvs.length+1<=Yc/\
 (∀v,ai kvs k=some v->Q v H)/\(ai kvs k=none->Q y (upd H d (.dK (putK kvs k y))))
theorem Uq:tW X "dict.setdefault" Uo:=by
 intro zz s σ H x vs v us Q I rx rv h
 obtain⟨d,kvs,k,y,rfl,rfl,hH,hl,q1,q2⟩:=h
 cases rx
 obtain⟨u1,u2,rfl,r1,r2⟩:=vals2 rv
 obtain⟨z,hd,ws,rel,dd⟩:=Bu I.af hH
 have hz:ws.length<=Yc:=by rw[<- rel.length];exact z
 have hv:=rel.val k
 refine call_meetsIn PySem.F.slot_dict_setdefault dd.typeIs PySem.F.entry_dict_setdefault (PySem.F.args_dict_setdefault_3 _ _ _) (kt_meets_setdefault (xH X.prog X.w) d (rR r1) hd u2) ⟨ws,dd,hz,λv' e=>?_,λe h' hW hs=>?_⟩
 .rw[e] at hv
  cases e':ai kvs k with
  | none=>rw[e'] at hv;exact hv.elim
  | some w'=>rw[e'] at hv;exact⟨w',H,I.tok _,hv,q1 w' e'⟩
 .rw[e] at hv
  cases e':ai kvs k with
  | some w'=>rw[e'] at hv;exact hv.elim
  | none=>
   have Ea:(putK kvs k y).length<=Yc:=by have:=yW kvs k y;omega
   have he:∃q,h'.get? d=some q:=let ⟨q,_,_,hq,_⟩:=hW;⟨q,hq⟩
   exact⟨y,_,Bv I (by rw[hH];exact True.intro) hs he (Eb Ea hd (rel.put k r2) hW),r2,q2 e'⟩
def dB (v d:Addr):HO:=.ext λh=>h.IsItemsView v d
def sD:V->List V->Hp->VK->Prop:=λx vs H Q=>∃(d:Addr) (kvs:List (Key×V)),x=.ref d/\vs=[]/\H d=some (.dK kvs)/\∀v,H v=none->Q (.ref v) (upd H v (dB v d))
theorem Ur:tW X "dict.items" sD:=by
 intro zz s σ H x vs v us Q I rx rv h
 obtain⟨d,kvs,rfl,rfl,hH,q⟩:=h
 cases rx
 have B4:=rv.zero
 subst B4
 obtain⟨z,hd,ws,rel,dd⟩:=Bu I.af hH
 refine call_meetsIn PySem.F.slot_dict_items dd.typeIs PySem.F.entry_dict_items (PySem.F.args_dict_items_1 _) (meets_dict_items (xH X.prog X.w) d hd) ⟨⟨ws,dd⟩,?_⟩
 have hv:(s.heap.push { cls:=.type "dict_items",data:=.fields #[.ref d] }).IsItemsView s.heap.objs.size d:=⟨_,bg _ rfl,rfl,rfl⟩
 refine⟨.ref s.heap.objs.size,_,I.laid (t':=s.toks) (o:=dB s.heap.objs.size d) (λb u e=>yYZ _ e) (yZD _) ⟨hv,⟨_,bg _ rfl⟩,?_⟩,rfl,q _ (I.af.fresh (yZD _))⟩
 rintro h1 h2 ⟨o,e,r⟩ k
 exact⟨o,k o e,r⟩
end
end L2
namespace SI
open PySem PyProof.Rows PySem.W TM
section
variable {prog:Program}{w:World}{A:Around}{E:Value->Shared->Prop}{s:Shared}
def bY (h:Heap)(v:Value):Int:=match v with
 | .ref a=>(match h.get? a with
  | some o=>(match o.data with
   | .seq xs _=>(match (xs[0]? : Option Value) with
    | some (Value.int k _)=>k
    | _=>0)
   | _=>0)
  | none=>0)
 | _=>0
theorem Us {α:Type}{n:Nat}{R:Nat->α->Prop}(h:∀j,j<n->∃x,R j x):∃l:List α,l.length=n/\∀j x,l[j]? = some x->R j x:=by
 induction n with
 | zero=>exact⟨[],rfl,λj x e=>by cases e⟩
 | succ n ih=>
  obtain⟨l,hl,hp⟩:=ih λj hj=>h j (Nat.lt_succ_of_lt hj)
  obtain⟨y,hy⟩:=h n (Nat.lt_succ_self n)
  refine⟨l++[y],by rw[bK,hl];rfl,λj x e=>?_⟩
  by_cases c:j<n
  .rw[Yr (by omega)] at e
   exact hp j x e
  .have lt:=(aN.mp e).1
   rw[bK,List.length_singleton,hl] at lt
   have:j=n:=by omega
   subst this
   rw[Yi (by omega),hl,Nat.sub_self] at e
   cases e
   exact hy
theorem dg {α β:Type}{f:α->β}{l:List α}(h:(l.map f).Nodup):l.Nodup:=by
 unfold List.Nodup at h ⊢
 rw[List.pairwise_map] at h
 exact h.imp λ{a b} n e=>n (by rw[e])
theorem cI {α β:Type}{f:α->β}{l:List α}(h:(l.map f).Nodup){x y:α}(hx:x∈l)(hy:y∈l)(e:f x=f y):x=y:=by
 obtain⟨i,hi,rfl⟩:=List.getElem_of_mem hx
 obtain⟨j,hj,rfl⟩:=List.getElem_of_mem hy
 have:i=j:=(List.getElem_inj (xs:=l.map f) (h₀:=by rw[av];exact hi) (h₁:=by rw[av];exact hj) h).mp (by rw[List.getElem_map,List.getElem_map];exact e)
 subst this
 rfl
end
end SI
namespace L2
open PySem PySem.Spec PyProof.Rows
section
variable {X:Cx}{zz:List (Addr×Obj)}{σ:St}{H H':Hp}{s:Shared}
theorem Inv.laidG {s':Shared}(I:Inv X zz σ H s)(k:∀b u,s.heap.get? b=some u->s'.heap.get? b=some u)(S:∀b o,H b=some o->H' b=some o)
  (new:∀b o,H' b=some o->H b=some o\/(s.heap.objs.size<=b/\ao X.prog X.w H' s'.heap b o)) (hg:s'.gens=s.gens) (oV:s'.os=s.os):Inv X zz σ H' s':=by
 obtain⟨h',g',d',t',o'⟩:=s'
 have e1:g'=s.gens:=hg
 have e2:o'=s.os:=oV
 subst e1 e2
 have u:Un X.fs [] H H' s.heap h':=⟨λb u q _ _ _=>k b u q,λb u q _ _ _=>⟨u.slots,k b u q⟩,λb u q n _=>(by
  cases e:H' b with
  | none=>rfl
  | some o=>
   rcases new b o e with z | ⟨z,_⟩
   .rw[z] at n;cases n
   .exact absurd (aG q) (Nat.not_lt.mpr z)),λb u q _=>⟨u,k b u q⟩,λb xs q=>S _ _ q,λb u xs q=>S _ _ q,λb ps q=>⟨#[],by rw[S _ _ q];simp⟩,λb _ u _ e=>k b u e⟩
 have af:ck X.prog X.w H' h':=λb u e=>by
  rcases new b u e with z | ⟨_,z⟩
  .exact(I.af b u z).stay (λc v _ q=>k c v q) (λc q=>S _ _ q) λc xs q=>S _ _ q
  .exact z
 obtain⟨m,⟨ol,es,ep,ho,r⟩,_⟩:=id I.loc
 obtain⟨sl,hL⟩:=u.any ho I.free (by simp)
 exact I.step (g':=s.gens) (d':=d') (ch:=[]) (λ_ z=>nomatch z) (λb o _ hb _ e n=>u.keep b o e n hb (by simp)) (λb o _ hb _ e n=>u.slot b o e n hb (by simp)) (λb o _ e n=>u.free b o e n (by simp)) (λb o _ e=>u.there b o e (by simp)) u.tups u.frzs u.cK (λm' hm=>by
  obtain⟨o',bC,dt,dQ,r'⟩:=hm
  rw[ho] at dQ;cases dQ
  exact⟨_,bC,dt,hL,r'⟩) af I.bare
end
end L2
namespace ST
open PySem PyProof.Rows
open PySem.SetTable (runEnd leap bits turns)
def nx (N x:Nat):Nat:=(5 * x+1) % N
def gU (N x:Nat):Nat->Nat
 | 0=>x
 | k+1=>nx N (gU N x k)
theorem B5 (N x a:Nat):∀b,gU N x (a+b)=gU N (gU N x a) b
 | 0=>rfl
 | b+1=>by show nx N (gU N x (a+b))=nx N (gU N (gU N x a) b);rw[B5 N x a b]
theorem Mm (N x k:Nat):gU N x (k+1)=gU N (nx N x) k:=by
 rw[Nat.add_comm,B5];rfl
def B6 (N:Nat):Nat->Nat->Nat->Nat×Nat
 | 0,x,acc=>(x,acc)
 | f+1,x,acc=>B6 N f (nx N x) (acc ||| 2 ^ x)
theorem Mn (N:Nat):∀f x acc,(B6 N f x acc).1=gU N x f
 | 0,x,acc=>rfl
 | f+1,x,acc=>by rw[Mm];exact Mn N f _ _
theorem Mo (N:Nat):∀f x acc j,(B6 N f x acc).2.testBit j=true->acc.testBit j=true\/∃k,k<f/\gU N x k=j
 | 0,x,acc,j,h=>.inl h
 | f+1,x,acc,j,h=>by
  rcases Mo N f _ _ j h with h | ⟨k,hk,e⟩
  .rw[Nat.testBit_or,Bool.or_eq_true] at h
   rcases h with h | h
   .exact .inl h
   .refine .inr ⟨0,Nat.succ_pos _,?_⟩
    rw[Nat.testBit_two_pow] at h
    exact of_decide_eq_true h
  .exact .inr ⟨k+1,by omega,by rw[Mm];exact e⟩
def Full (N:Nat):Prop:=(∀j,j<N->∃k,k<N/\gU N 0 k=j)/\gU N 0 N=0
theorem Ej {N:Nat}(h:B6 N N 0 0=(0,2 ^ N - 1)):Full N:=by
 refine⟨λj hj=>?_,by rw[<- Mn N N 0 0,h]⟩
 have t:(B6 N N 0 0).2.testBit j=true:=by
  rw[h]
  show(2 ^ N - 1).testBit j=true
  rw[Nat.testBit_two_pow_sub_one]
  exact decide_eq_true hj
 rcases Mo N N 0 0 j t with h | h
 .simp at h
 .exact h
theorem qm:Full 8:=Ej (by wtm_at"d")
theorem sF:Full 32:=Ej (by wtm_at"d")
theorem oX:Full 128:=Ej (by wtm_at"d")
theorem oY:Full 512:=Ej (by wtm_at"d")
theorem Full.from {N:Nat}(F:Full N){i j:Nat}(hi:i<N)(hj:j<N):∃d,d<N/\gU N i d=j:=by
 obtain⟨a,ha,ea⟩:=F.1 i hi
 obtain⟨b,hb,eb⟩:=F.1 j hj
 by_cases c:a<=b
 .refine⟨b - a,by omega,?_⟩
  rw[<- ea,<- B5,show a+(b - a)=b by omega]
  exact eb
 .refine⟨N - a+b,by omega,?_⟩
  rw[<- ea,<- B5,show a+(N - a+b)=N+b by omega,B5,F.2]
  exact eb
def lp (mask:Nat)(h:Int):Nat->Nat×Nat
 | 0=>(bits h % (mask+1),bits h)
 | k+1=>leap mask (lp mask h k).1 (lp mask h k).2
theorem Mp (mask:Nat)(h:Int):∀k,(lp mask h k).1<mask+1
 | 0=>Nat.mod_lt _ (Nat.succ_pos _)
 | k+1=>Nat.mod_lt _ (Nat.succ_pos _)
theorem Mq (mask:Nat)(h:Int):∀k,(lp mask h k).2=bits h / 32 ^ k
 | 0=>by rw[Nat.pow_zero,Nat.div_one];rfl
 | k+1=>by
  show(lp mask h k).2 / 32=_
  rw[Mq mask h k,Nat.div_div_eq_div_mul,Nat.pow_succ]
theorem Ut (h:Int):bits h<2 ^ 64:=by
 unfold SetTable.bits
 have h1:=YH h (show(2 ^ 64:Int)≠0 by decide)
 have h2:=YG h (show(0:Int)<2 ^ 64 by decide)
 omega
theorem Uu (mask:Nat)(h:Int){k:Nat}(hk:13<=k):(lp mask h k).2=0:=by
 rw[Mq]
 refine Nat.div_eq_of_lt (yZE (Ut h) ?_)
 exact yZJ (show 2 ^ 64<=32 ^ 13 by decide) (YF (by decide) hk)
theorem Mr (mask:Nat)(h:Int){k:Nat}(hk:13<=k):∀d,(lp mask h (k+d)).1=gU (mask+1) (lp mask h k).1 d
 | 0=>rfl
 | d+1=>by
  show((lp mask h (k+d)).1 * 5+1+(lp mask h (k+d)).2 / 32) % (mask+1)=nx (mask+1) (gU (mask+1) (lp mask h k).1 d)
  rw[Uu mask h (by omega),Mr mask h hk d]
  unfold nx
  rw[Nat.zero_div,Nat.add_zero,Nat.mul_comm]
theorem Uv {mask:Nat}(F:Full (mask+1))(h:Int)(k:Nat){j:Nat}(hj:j<=mask):∃d,d<=mask+13/\(lp mask h (k+d)).1=j:=by
 have hk:13<=k+13:=by omega
 obtain⟨d,hd,e⟩:=F.from (Mp mask h (k+13)) (show j<mask+1 by omega)
 refine⟨13+d,by omega,?_⟩
 rw[show k+(13+d)=k+13+d by omega,Mr mask h hk,e]
def run (mask i:Nat):Nat:=runEnd mask i - i
theorem Ms (mask i:Nat):run mask i<=9:=by
 unfold run SetTable.runEnd
 split <;> omega
theorem Uw {mask i:Nat}(h:i<=mask):i+run mask i<=mask:=by
 unfold run SetTable.runEnd
 split <;> omega
def pr (mask:Nat)(h:Int)(k m:Nat):SetTable.Probe:={ j:=(lp mask h k).1+m,more:=run mask (lp mask h k).1 - m,i:=(lp mask h k).1,perturb:=(lp mask h k).2,dummy:=none }
theorem Ux (t:SetTable){h:Int}{k m:Nat}(hm:m<run t.mask (lp t.mask h k).1):t.advance (pr t.mask h k m)=pr t.mask h k (m+1):=by
 unfold SetTable.advance pr
 dsimp only
 rw[if_pos (by omega)]
 congr 1
theorem Uy (t:SetTable){h:Int}{k m:Nat}(hm:run t.mask (lp t.mask h k).1<=m):t.advance (pr t.mask h k m)=pr t.mask h (k+1) 0:=by
 unfold SetTable.advance pr
 dsimp only
 rw[if_neg (by omega)]
 rfl
def wk (mask:Nat)(h:Int):Nat->Nat×Nat
 | 0=>(0,0)
 | n+1=>if (wk mask h n).2<run mask (lp mask h (wk mask h n).1).1 then ((wk mask h n).1,(wk mask h n).2+1) else ((wk mask h n).1+1,0)
def fR (mask:Nat)(h:Int)(n:Nat):SetTable.Probe:=pr mask h (wk mask h n).1 (wk mask h n).2
def pos (mask:Nat)(h:Int)(n:Nat):Nat:=(lp mask h (wk mask h n).1).1+(wk mask h n).2
theorem Uz (mask:Nat)(h:Int):∀n,(wk mask h n).2<=run mask (lp mask h (wk mask h n).1).1
 | 0=>yZG _
 | n+1=>by
  unfold wk
  split
  .rename_i c;exact c
  .exact yZG _
theorem UA (mask:Nat)(h:Int)(n:Nat):pos mask h n<=mask:=by
 have h1:=Mp mask h (wk mask h n).1
 have h2:=Uz mask h n
 have h3:=Uw (mask:=mask) (i:=(lp mask h (wk mask h n).1).1) (by omega)
 unfold pos
 omega
theorem UB (t:SetTable)(h:Int)(n:Nat):t.advance (fR t.mask h n)=fR t.mask h (n+1):=by
 have e:wk t.mask h (n+1)=if (wk t.mask h n).2<run t.mask (lp t.mask h (wk t.mask h n).1).1 then ((wk t.mask h n).1,(wk t.mask h n).2+1) else ((wk t.mask h n).1+1,0):=rfl
 unfold fR
 by_cases c:(wk t.mask h n).2<run t.mask (lp t.mask h (wk t.mask h n).1).1
 .rw[e,if_pos c];exact Ux t c
 .rw[e,if_neg c];exact Uy t (by omega)
theorem Gy (mask:Nat)(h:Int):∀(r n k m:Nat),wk mask h n=(k,m)->run mask (lp mask h k).1 - m=r->wk mask h (n+r+1)=(k+1,0)
 | 0,n,k,m,e,hr=>by
  show(if (wk mask h n).2<run mask (lp mask h (wk mask h n).1).1 then _ else _)=_
  rw[e]
  exact if_neg (by show¬m<run mask (lp mask h k).1;omega)
 | r+1,n,k,m,e,hr=>by
  have e1:wk mask h (n+1)=(k,m+1):=by
   show(if (wk mask h n).2<run mask (lp mask h (wk mask h n).1).1 then _ else _)=_
   rw[e]
   exact if_pos (by show m<run mask (lp mask h k).1;omega)
  have:=Gy mask h r (n+1) k (m+1) e1 (by omega)
  rw[show n+(r+1)+1=n+1+r+1 by omega]
  exact this
theorem Mt (mask:Nat)(h:Int){n k:Nat}(e:wk mask h n=(k,0)):∀d,∃s,s<=10 * d/\wk mask h (n+s)=(k+d,0)
 | 0=>⟨0,yZD _,e⟩
 | d+1=>by
  obtain⟨s,hs,es⟩:=Mt mask h e d
  have h9:=Ms mask (lp mask h (k+d)).1
  have:=Gy mask h _ (n+s) (k+d) 0 es rfl
  refine⟨s+run mask (lp mask h (k+d)).1+1,by omega,?_⟩
  rw[show n+(s+run mask (lp mask h (k+d)).1+1)=n+s+(run mask (lp mask h (k+d)).1 - 0)+1 by omega]
  exact this
theorem Mu {mask:Nat}(F:Full (mask+1))(h:Int)(n:Nat){j:Nat}(hj:j<=mask):∃s,s<10 * turns mask/\pos mask h (n+s)=j:=by
 have h9:=Ms mask (lp mask h (wk mask h n).1).1
 have e1:=Gy mask h _ n _ _ (show wk mask h n=((wk mask h n).1,(wk mask h n).2) from rfl) rfl
 obtain⟨d,hd,ed⟩:=Uv F h ((wk mask h n).1+1) hj
 obtain⟨s,hs,es⟩:=Mt mask h e1 d
 refine⟨run mask (lp mask h (wk mask h n).1).1 - (wk mask h n).2+1+s,?_,?_⟩
 .show _<10 * (mask+15)
  omega
 .unfold pos
  rw[show n+(run mask (lp mask h (wk mask h n).1).1 - (wk mask h n).2+1+s)=n+(run mask (lp mask h (wk mask h n).1).1 - (wk mask h n).2)+1+s by omega,es]
  exact ed
end ST
namespace ST
open PySem PyProof.Rows SI
open PySem.SetTable (runEnd leap bits turns)
theorem iP {α:Type}[DecidableEq α]:∀(l1 l2:List α),l1.Nodup->(∀x∈l1,x∈l2)->l1.length<=l2.length
 | [],_,_,_=>yZG _
 | x::l1,l2,nd,sub=>by
  have bI:=List.nodup_cons.mp nd
  have hx:=sub x aW
  have h1:=iP l1 (l2.erase x) bI.2 (λy hy=>(List.mem_erase_of_ne (λe:y=x=>bI.1 (by rw[<- e];exact hy))).mpr (sub y (yYH _ hy)))
  rw[List.length_erase_of_mem hx] at h1
  have h2:=List.length_pos_of_mem hx
  rw[cP];omega
section
variable {t:SetTable}
theorem Gz {j i:Nat}(h:t.slot j=.live i):t.place[i]? = some j:=by
 unfold SetTable.slot at h
 dsimp only at h
 split at h
 .rename_i c
  cases h
  exact eq_of_beq c
 .split at h <;> cases h
theorem Mw (hr:lM t.place){j:Nat}(h:j∈t.place.toList):∃i,t.slot j=.live i:=by
 obtain⟨i,hi,e⟩:=List.getElem_of_mem h
 rw[eP] at hi
 have e':t.place.getD i 0=j:=by
  rw[<- e];simp[Array.getD,hi]
 obtain⟨b1,b2,b3⟩:=vI hr j
 have ei:SetTable.below t.place j=i:=by
  rcases Nat.lt_trichotomy (SetTable.below t.place j) i with c | c | c
  .have h1:=b3 _ (yZD _) (by omega)
   have h2:=hr.get c hi
   omega
  .exact c
  .have:=b2 i c
   omega
 refine⟨i,?_⟩
 unfold SetTable.slot
 dsimp only
 rw[ei,if_pos (by
  have:t.place[i]? = some j:=by rw[<- e];simp[hi]
  rw[this];simp)]
theorem vR (hr:lM t.place)(hd:t.dummies=#[])(j:Nat):t.slot j=.empty↔j∉t.place.toList:=by
 constructor
 .intro h m
  obtain⟨i,e⟩:=Mw hr m
  rw[h] at e
  cases e
 .intro h
  cases e:t.slot j with
  | empty=>rfl
  | dummy=>exact absurd e (Ma hd j)
  | live i=>
   have:=Gz e
   exact absurd (by
    have h1:=Array.mem_of_getElem? this
    exact Array.mem_toList_iff.mpr h1) h
end
structure Tab (t:SetTable)(es:Array (Int×Value)):Prop where
 j4:t.dummies=#[]
 fw:lM t.place
 full:Full (t.mask+1)
 odd:t.gaveWay=false
 size:t.place.size=es.size
 lO:∀j∈t.place.toList,j<=t.mask
 room:es.size<=t.mask
 reach:∀(i j:Nat) (e:Int×Value),t.place[i]? = some j->es[i]? = some e->∃m,pos t.mask e.1 m=j/\∀l,l<m->t.slot (pos t.mask e.1 l)≠.empty
section
variable {t:SetTable}{es:Array (Int×Value)}
theorem Tab.free (T:Tab t es):∃j,j<=t.mask/\t.slot j=.empty:=by
 apply Classical.byContradiction
 intro h
 have all:∀j∈List.range (t.mask+1),j∈t.place.toList:=λj hj=>Classical.byContradiction λz=>h ⟨j,by have:=List.mem_range.mp hj;omega,(vR T.fw T.j4 j).mpr z⟩
 have:=iP _ _ List.nodup_range all
 rw[List.length_range,eP,T.size] at this
 have:=T.room
 omega
theorem Mx (hd:t.dummies=#[])(ha:Nat->Int)(h:Int):∀(f n:Nat),(∃s,s<f/\t.slot (pos t.mask h (n+s))=.empty)->
  ∃s,(∀l,l<s->t.slot (pos t.mask h (n+l))≠.empty/\∀i,t.slot (pos t.mask h (n+l))=.live i->ha i≠h)/\
   ((t.slot (pos t.mask h (n+s))=.empty/\SetTable.probe.go t ha h f (fR t.mask h n)=some (.empty (pos t.mask h (n+s)) none))\/
     ∃i,t.slot (pos t.mask h (n+s))=.live i/\ha i=h/\SetTable.probe.go t ha h f (fR t.mask h n)=some (.candidate (pos t.mask h (n+s)) i (fR t.mask h (n+s+1))))
 | 0,n,⟨s,hs,_⟩=>absurd hs (Nat.not_lt_zero _)
 | f+1,n,⟨s,hs,es⟩=>by
  have go:SetTable.probe.go t ha h (f+1) (fR t.mask h n)=(match t.slot (pos t.mask h n) with
    | .empty=>some (.empty (pos t.mask h n) none)
    | .dummy=>SetTable.probe.go t ha h f (t.advance { fR t.mask h n with dummy:=some (pos t.mask h n) })
    | .live i=>if ha i == h then some (.candidate (pos t.mask h n) i (t.advance (fR t.mask h n))) else SetTable.probe.go t ha h f (t.advance (fR t.mask h n))):=by
   rw[SetTable.probe.go]
   rfl
  cases c:t.slot (pos t.mask h n) with
  | empty=>
   refine⟨0,λl hl=>absurd hl (Nat.not_lt_zero _),.inl ⟨c,?_⟩⟩
   rw[go,c]
   rfl
  | dummy=>exact absurd c (Ma hd _)
  | live i=>
   rw[c] at go
   dsimp only at go
   rw[UB] at go
   by_cases e:ha i=h
   .refine⟨0,λl hl=>absurd hl (Nat.not_lt_zero _),.inr ⟨i,c,e,?_⟩⟩
    rw[go,if_pos (by rw[e];exact beq_self_eq_true h)]
    rfl
   .rw[if_neg (by rw[beq_iff_eq];exact e)] at go
    have s0:s≠0:=λz=>by rw[z,Nat.add_zero,c] at es;cases es
    obtain⟨s',h1,h2⟩:=Mx hd ha h f (n+1) ⟨s - 1,by omega,by rw[show n+1+(s - 1)=n+s by omega];exact es⟩
    rw[<- go] at h2
    refine⟨s'+1,λl hl=>?_,?_⟩
    .cases l with
     | zero=>
      refine⟨(by rw[Nat.add_zero,c];exact λz=>SetTable.Slot.noConfusion z),λi' ei=>?_⟩
      rw[Nat.add_zero,c] at ei
      cases ei
      exact e
     | succ l=>
      have:=h1 l (by omega)
      rw[show n+1+l=n+(l+1) by omega] at this
      exact this
    .rw[show n+1+s'=n+(s'+1) by omega] at h2
     exact h2
theorem Tab.probe (T:Tab t es)(ha:Nat->Int)(h:Int)(n:Nat):
  ∃s,(∀l,l<s->t.slot (pos t.mask h (n+l))≠.empty/\∀i,t.slot (pos t.mask h (n+l))=.live i->ha i≠h)/\
   ((t.slot (pos t.mask h (n+s))=.empty/\t.probe ha h (fR t.mask h n)=some (.empty (pos t.mask h (n+s)) none))\/
     ∃i,t.slot (pos t.mask h (n+s))=.live i/\ha i=h/\t.probe ha h (fR t.mask h n)=some (.candidate (pos t.mask h (n+s)) i (fR t.mask h (n+s+1)))):=by
 obtain⟨j,hj,ej⟩:=T.free
 obtain⟨s,hs,e⟩:=Mu T.full h n hj
 exact Mx T.j4 ha h _ n ⟨s,hs,by rw[e];exact ej⟩
end
theorem bX {α:Type}(xs:Array α){p:Nat}(hp:p<=xs.size)(x:α)(i:Nat):(SetTable.insertAt xs p x)[i]? = if i<p then xs[i]? else if i=p then some x else xs[i - 1]? := by
 have e:(SetTable.insertAt xs p x)[i]? = (SetTable.insertAt xs p x).toList[i]? := by simp
 rw[e,SetTable.toList_insertAt]
 have lt:(xs.toList.take p).length=p:=by rw[cJ,eP];omega
 by_cases c:i<p
 .rw[if_pos c,Yr (by omega),List.getElem?_take_of_lt c]
  simp
 .rw[if_neg c,Yi (by omega),lt]
  by_cases c2:i=p
  .rw[if_pos c2,c2,Nat.sub_self];rfl
  .rw[if_neg c2,show i - p=(i - p - 1)+1 by omega,List.getElem?_cons_succ,List.getElem?_drop,show p+(i - p - 1)=i - 1 by omega]
   simp
section
variable {t:SetTable}{es:Array (Int×Value)}
theorem My {j k:Nat}:k∈(t.put j).1.place.toList↔k=j\/k∈t.place.toList:=by
 have:=(SetTable.insertAt_perm t.place (SetTable.below t.place j) j).mem_iff (a:=k)
 show k∈(SetTable.insertAt t.place (SetTable.below t.place j) j).toList↔_
 rw[this,Array.toList_push,fh,bB]
 exact or_comm
theorem Tab.put (T:Tab t es){h:Int}{m:Nat}(he:t.slot (pos t.mask h m)=.empty)(u5:∀l,l<m->t.slot (pos t.mask h l)≠.empty)(B7:es.size+1<=t.mask)(x:Value):
  Tab (t.put (pos t.mask h m)).1 (SetTable.insertAt es (t.put (pos t.mask h m)).2 (h,x)):=by
 have ok:t9 t.led t:=⟨rfl,T.j4,T.fw⟩
 have j5:=ok.put he
 have hp:(t.put (pos t.mask h m)).2<=t.place.size:=(vI T.fw _).1
 have GA:(t.put (pos t.mask h m)).2<=es.size:=by rw[<- T.size];exact hp
 have ne:∀k,t.slot k≠.empty->(t.put (pos t.mask h m)).1.slot k≠.empty:=λk hk=>by
  rw[Ne,vR j5.fw j5.j4,Classical.not_not]
  rw[Ne,vR T.fw T.j4,Classical.not_not] at hk
  exact My.mpr (.inr hk)
 have sz:∀{α:Type} (xs:Array α) (p:Nat) (x:α),p<=xs.size->(SetTable.insertAt xs p x).size=xs.size+1:=λxs p x hp=>by
  rw[<- eP,(SetTable.insertAt_perm xs p x).length_eq];simp
 refine⟨j5.j4,j5.fw,T.full,T.odd,?_,λj hj=>?_,?_,λi j e e1 e2=>?_⟩
 .have e1:(t.put (pos t.mask h m)).1.place.size=t.place.size+1:=sz _ _ _ hp
  rw[e1,sz _ _ _ GA,T.size]
 .rcases My.mp hj with rfl | hj
  .exact UA _ _ _
  .exact T.lO j hj
 .rw[sz _ _ _ GA];exact B7
 .have e1:(SetTable.insertAt t.place (t.put (pos t.mask h m)).2 (pos t.mask h m))[i]? = some j:=e1
  rw[bX _ hp] at e1
  rw[bX _ GA] at e2
  by_cases c:i<(t.put (pos t.mask h m)).2
  .rw[if_pos c] at e1 e2
   obtain⟨m',h1,h2⟩:=T.reach i j e e1 e2
   exact⟨m',h1,λl hl=>ne _ (h2 l hl)⟩
  .rw[if_neg c] at e1 e2
   by_cases c2:i=(t.put (pos t.mask h m)).2
   .rw[if_pos c2] at e1 e2
    cases e1
    cases e2
    exact⟨m,rfl,λl hl=>ne _ (u5 l hl)⟩
   .rw[if_neg c2] at e1 e2
    obtain⟨m',h1,h2⟩:=T.reach _ j e e1 e2
    exact⟨m',h1,λl hl=>ne _ (h2 l hl)⟩
end
end ST
namespace ST
open PySem PyProof.Rows SI L2
open PySem.SetTable (runEnd leap bits turns)
section
variable {t:SetTable}{es:Array (Int×Value)}
theorem Tab.fits (T:Tab t es):t.fits es.size=true:=by
 unfold SetTable.fits SetTable.fill
 rw[T.size,T.j4,Bool.and_eq_true,decide_eq_true_eq]
 exact⟨beq_self_eq_true _,T.room⟩
theorem Tab.live (T:Tab t es){j i:Nat}(h:t.slot j=.live i):i<es.size:=by
 have:=Gz h
 rw[<- T.size]
 exact(Array.getElem?_eq_some_iff.mp this).1
theorem Mz (T:Tab t es)(ha:Nat->Int)(u6:∀i e,es[i]? = some e->ha i=e.1)(h:Int)(n:Nat):
  ∃s,(∀l,l<s->t.slot (pos t.mask h (n+l))≠.empty/\∀i e,t.slot (pos t.mask h (n+l))=.live i->es[i]? = some e->e.1≠h)/\
   ((t.slot (pos t.mask h (n+s))=.empty/\t.probe ha h (fR t.mask h n)=some (.empty (pos t.mask h (n+s)) none))\/
     ∃i e,t.slot (pos t.mask h (n+s))=.live i/\es[i]? = some e/\e.1=h/\t.probe ha h (fR t.mask h n)=some (.candidate (pos t.mask h (n+s)) i (fR t.mask h (n+s+1)))):=by
 obtain⟨s,h1,h2⟩:=T.probe ha h n
 refine⟨s,λl hl=>⟨(h1 l hl).1,λi e j6 Ek z=>(h1 l hl).2 i j6 (by rw[u6 i e Ek];exact z)⟩,?_⟩
 rcases h2 with h2 | ⟨i,a,b,c⟩
 .exact .inl h2
 .have hi:=T.live a
  refine .inr ⟨i,es[i],a,Array.getElem?_eq_getElem hi,?_,c⟩
  rw[<- b]
  exact(u6 i _ (Array.getElem?_eq_getElem hi)).symm
end
section
variable {prog:Program}{w:World}{A:Around}{E:Value->Shared->Prop}{s:Shared}
abbrev gV (prog:Program)(w:World)(h:Heap)(ks:List Key)(a:Addr):Prop:=IsTupleKey (xH prog w) h ks a
abbrev hK (prog:Program)(w:World)(ks:List Key):Int:=tupleKeyHash (xH prog w) ks
def ent (prog:Program)(w:World)(x:List Key×Addr):Int×Value:=(hK prog w x.1,.ref x.2)
structure TS (prog:Program)(w:World)(h:Heap)(a:Addr)(b:Bool)(xs:List (List Key×Addr))(o:Obj)(es:Array (Int×Value))(ep:Nat)(t:SetTable):Prop where
 at':h.get? a=some o
 ex:o.ExactSet
 data:o.data=.set es ep t
 ents:es.toList=xs.map (ent prog w)
 nd:(xs.map (·.1)).Nodup
 tab:Tab t es
 led:t.led=b
 len:xs.length<=300
 mask:t.mask=7\/t.mask=31\/t.mask=127\/t.mask=511
 full:t.fill * 5<t.mask * 3
section
variable {h:Heap}{a:Addr}{b:Bool}{xs:List (List Key×Addr)}{o:Obj}{es:Array (Int×Value)}{ep:Nat}{t:SetTable}
theorem TS.size (x:TS prog w h a b xs o es ep t):es.size=xs.length:=by rw[<- eP,x.ents,av]
theorem TS.get (x:TS prog w h a b xs o es ep t){i:Nat}{e:Int×Value}(h:es[i]? = some e):∃y,xs[i]? = some y/\e=ent prog w y:=by
 rw[<- lT,x.ents,bb] at h
 obtain⟨y,h1,h2⟩:=YJ.mp h
 exact⟨y,h1,h2.symm⟩
end
theorem MA {ks:List Key}{c:Addr}{Q:Bool->Shared->Prop}(hk:gV prog w s.heap ks c)(h:Q false s):wpAny (model prog w) A (ofAClassStatement 8 (.ref c)) Q E s:=by
 have hT:=hk.typeIs
 obtain⟨o,items,n,ho,_,hd,hi⟩:=hk
 unfold ofAClassStatement
 refine yYX (wpAny_typeOf hT ?_)
 dsimp only
 rw[if_pos (show("tuple" == "tuple")=true from rfl)]
 refine yYX (yYY ?_)
 simp only[Bool.not_true,bL,if_false]
 refine yYX (wpAny_seqItems ho hd ?_)
 dsimp only
 refine yYX ?_
 rw[<- Array.forIn_toList]
 refine wpAny_forIn_list _ (λrest r s'=>r.1=none/\s'=s/\∀v∈rest,carriedByValue v=true) _ ?_ ?_ _ _ ⟨rfl,rfl,hi.byValue⟩
 .rintro v rest r s' ⟨hr,rfl,hall⟩
  have hv:=hall v aW
  have e:ofAClassStatement 7 v=pure false:=by
   cases v with
   | ref a=>simp[carriedByValue] at hv
   | _=>first | rfl | simp[ofAClassStatement] | (unfold ofAClassStatement;rfl)
  rw[e]
  refine yYX (yYY ?_)
  simp only[bL,if_false]
  exact yYY ⟨rfl,rfl,λu hu'=>hall u (yYH _ hu')⟩
 .rintro⟨r1,r2⟩ s' ⟨hr,rfl,_⟩
  simp only at hr
  subst hr
  exact yYY h
theorem UC {ks:List Key}{c:Addr}{Q:Bool->Shared->Prop}(hk:gV prog w s.heap ks c)(h:∀v,Q v s):wpAny (model prog w) A (hashByValue 8 (.ref c)) Q E s:=by
 have hT:=hk.typeIs
 obtain⟨o,items,n,ho,_,hd,hi⟩:=hk
 unfold hashByValue
 refine yYX (wpAny_specialOf hT F.slot_tuple_hash.lookup ?_)
 show wpAny _ _ (seqItems? (.ref c) >>= _) Q E s
 refine yYX (wpAny_seqItems ho hd ?_)
 dsimp only[Option.getD_some]
 refine yYX ?_
 rw[<- Array.forIn_toList]
 refine wpAny_forIn_list _ (λrest r s'=>(r.1=none\/∃v,r.1=some v)/\s'=s/\∀v∈rest,carriedByValue v=true) _ ?_ ?_ _ _ ⟨.inl rfl,rfl,hi.byValue⟩
 .rintro v rest r s' ⟨hr,rfl,hall⟩
  have hv:=hall v aW
  have e:∃b,hashByValue 7 v=pure b:=by
   cases v with
   | ref a=>simp[carriedByValue] at hv
   | _=>first | exact⟨_,rfl⟩ | (unfold hashByValue;exact⟨_,rfl⟩)
  obtain⟨b,e⟩:=e
  rw[e]
  refine yYX (yYY ?_)
  cases b with
  | true=>
   simp only[Bool.not_true,bL,if_false]
   exact yYY ⟨.inl rfl,rfl,λu hu'=>hall u (yYH _ hu')⟩
  | false=>
   simp only[Bool.not_false,if_true]
   exact yYY (show wpAny (model prog w) A (pure false) Q E _ from yYY (h false))
 .rintro⟨r1,r2⟩ s' ⟨hr,rfl,_⟩
  cases r1 with
  | none=>exact yYY (h true)
  | some v=>exact yYY (h v)
theorem UD {ks:List Key}{c:Addr}{ys:List (List Key×Addr)}{Q:Bool->Shared->Prop}(hk:gV prog w s.heap ks c)(hy:∀y∈ys,gV prog w s.heap y.1 y.2)(h:Q false s):
  wpAny (model prog w) A (searchCouldBeSeen (.ref c) (ys.map λy=>Value.ref y.2)) Q E s:=by
 unfold searchCouldBeSeen
 refine yYX ?_
 refine wpAny_forIn_list _ (λrest r s'=>r.1=none/\s'=s/\∃zs:List (List Key×Addr),rest=zs.map (λy=>Value.ref y.2)/\∀y∈zs,gV prog w s.heap y.1 y.2) _ ?_ ?_ _ _ ⟨rfl,rfl,ys,rfl,hy⟩
 .rintro v rest r s' ⟨hr,rfl,zs,hz,hall⟩
  cases zs with
  | nil=>cases hz
  | cons z zs=>
   rw[Yl] at hz
   obtain⟨rfl,rfl⟩:=List.cons.inj hz
   have nx:∀{B:Prop},(⟨none,()⟩:MProd (Option Bool) PUnit).1=none/\s'=s'/\∃MB:List (List Key×Addr),zs.map (λy=>Value.ref y.2)=MB.map (λy=>Value.ref y.2)/\∀y∈MB,gV prog w s'.heap y.1 y.2:=⟨rfl,rfl,zs,rfl,λy hy=>hall y (yYH _ hy)⟩
   dsimp only
   split
   .exact yYY (nx (B:=True))
   .refine yYX (wpAny_eqIsQuiet_tuple hk ?_)
    simp only[Bool.not_true,bL,if_false]
    refine yYX (wpAny_eqIsQuiet_tuple (hall z aW) ?_)
    simp only[Bool.not_true,bL,if_false]
    refine yYX (MA hk ?_)
    simp only[bL,if_false]
    refine yYX (MA (hall z aW) ?_)
    simp only[bL,if_false]
    exact yYY (nx (B:=True))
 .rintro⟨r1,r2⟩ s' ⟨hr,rfl,_⟩
  simp only at hr
  subst hr
  exact yYY h
theorem MC {a:Addr}{b:Bool}{xs:List (List Key×Addr)}{o:Obj}{es:Array (Int×Value)}{ep:Nat}{t:SetTable}(X:TS prog w s.heap a b xs o es ep t)(room:A.units<cLine){ks:List Key}{c:Addr}(hk:gV prog w s.heap ks c)
  (hx:∀y∈xs,gV prog w s.heap y.1 y.2) {Q:SetFound->Shared->Prop} (q1:ks∈xs.map (·.1)->Q (.there none) s)
  (q2:∀m,ks∉xs.map (·.1)->t.slot (pos t.mask (hK prog w ks) m)=.empty->(∀l,l<m->t.slot (pos t.mask (hK prog w ks) l)≠.empty)->Q (.free (pos t.mask (hK prog w ks) m) false) s)
  {e0:Nat} (El:t.slot (pos t.mask (hK prog w ks) e0)=.empty):∀(f n:Nat) (fy:Option SetTable.Probe),fy.getD (t.probeStart (hK prog w ks))=fR t.mask (hK prog w ks) n->n<=e0->e0<n+f->
   (∀l,l<n->t.slot (pos t.mask (hK prog w ks) l)≠.empty/\∀i y,t.slot (pos t.mask (hK prog w ks) l)=.live i->xs[i]? = some y->y.1≠ks)->
   wpAny (model prog w) A (setSearchFrom a (.ref c) (hK prog w ks) true f fy) Q E s
 | 0,n,fy,lP,hn,hf,u5=>absurd hf (by omega)
 | f+1,n,fy,lP,hn,hf,u5=>by
  have T:=X.tab
  unfold setSearchFrom
  refine yYX (wpAny_setState_of X.at' X.data T.fits ?_)
  dsimp only
  rw[T.odd,lP]
  simp only[bL,if_false]
  have hk1:∀i e (ha:Nat->Int),(ha=λi=>(es[i]?.map (·.1)).getD 0)->es[i]? = some e->ha i=e.1:=λi e ha h1 h2=>by rw[h1];dsimp only;rw[h2];rfl
  split
  .rename_i met hq
   refine(λha (u6:ha=λi=>(es[i]?.map (·.1)).getD 0) (hq:t.probe ha (hK prog w ks) (fR t.mask (hK prog w ks) n)=some met)=>?_) _ ?_ hq
   .obtain⟨st,h1,h2⟩:=Mz T ha (λi e h=>hk1 i e ha u6 h) (hK prog w ks) n
    have oZ:∀l,l<n+st->t.slot (pos t.mask (hK prog w ks) l)≠.empty/\∀i y,t.slot (pos t.mask (hK prog w ks) l)=.live i->xs[i]? = some y->y.1≠ks:=λl hl=>by
     by_cases c:l<n
     .exact u5 l c
     .obtain⟨q,rfl⟩:∃q,l=n+q:=⟨l - n,by omega⟩
      refine⟨(h1 q (by omega)).1,λi y e1 e2 z=>?_⟩
      have e3:es[i]? = some (ent prog w y):=by rw[<- lT,X.ents,bb,e2];rfl
      exact(h1 q (by omega)).2 i _ e1 e3 (by rw[<- z];rfl)
    rcases h2 with⟨h2,h3⟩ | ⟨i,e,h2,h3,h4,h5⟩
    .rw[hq] at h3
     cases h3
     dsimp only
     refine yYY (q2 _ ?_ h2 λl hl=>(oZ l hl).1)
     intro hm
     obtain⟨y,hy,ey⟩:=aZ.mp hm
     obtain⟨i,hi⟩:=List.mem_iff_getElem?.mp hy
     have e3:es[i]? = some (ent prog w y):=by rw[<- lT,X.ents,bb,hi];rfl
     have B8:i<t.place.size:=by rw[T.size];exact(Array.getElem?_eq_some_iff.mp e3).1
     obtain⟨m,GB,t8⟩:=T.reach i _ _ (Array.getElem?_eq_getElem B8) e3
     have e4:(ent prog w y).1=hK prog w ks:=by rw[<- ey];rfl
     rw[e4] at GB t8
     have live:t.slot (pos t.mask (hK prog w ks) m)=.live i:=by
      have GC:pos t.mask (hK prog w ks) m∈t.place.toList:=by rw[GB];exact Array.getElem_mem_toList B8
      obtain⟨i',ei⟩:=Mw T.fw GC
      have e5:=Gz ei
      rw[GB] at e5
      have:i'=i:=by
       rcases Nat.lt_trichotomy i' i with c | c | c
       .have h6:=T.fw.get c B8
        have h7:=(Array.getElem?_eq_some_iff.mp e5)
        rw[Array.getD_eq_getD_getElem?,Array.getD_eq_getD_getElem?,e5,Array.getElem?_eq_getElem B8] at h6
        exact absurd h6 (Nat.lt_irrefl _)
       .exact c
       .have h7:=(Array.getElem?_eq_some_iff.mp e5).1
        have h6:=T.fw.get c h7
        rw[Array.getD_eq_getD_getElem?,Array.getD_eq_getD_getElem?,e5,Array.getElem?_eq_getElem B8] at h6
        exact absurd h6 (Nat.lt_irrefl _)
      rw[ei,this]
     rcases Nat.lt_trichotomy m (n+st) with c | c | c
     .exact(oZ m c).2 i y live hi ey
     .rw[c,h2] at live;cases live
     .exact t8 (n+st) c h2
    .rw[hq] at h5
     cases h5
     obtain⟨y,hy,rfl⟩:=X.get h3
     have UE:=hx y (bw hy)
     have lt:n+st<e0:=by
      rcases Nat.lt_trichotomy (n+st) e0 with c | c | c
      .exact c
      .rw[c,El] at h2;cases h2
      .exact absurd El (oZ e0 c).1
     dsimp only
     have MD:es[i]? = some (hK prog w y.1,Value.ref y.2):=h3
     have ef:List.map (λx=>x.snd) (Array.filter (λx=>x.fst == hK prog w ks) es).toList=(xs.filter λy=>(ent prog w y).1 == hK prog w ks).map λy=>Value.ref y.2:=by
      rw[Array.toList_filter,X.ents,List.filter_map,Yn];rfl
     have sm:t.sameMemory t.moves t.mask=some true:=by
      unfold SetTable.sameMemory
      rw[if_pos (beq_self_eq_true _)]
     cases c0:t.led
     case' true=>simp only[Bool.not_true,bL,if_false]
     case' false=>
      simp only[Bool.not_false,if_true]
      refine yYX ?_
      rw[ef]
      refine UD hk (λy hy=>hx y (tO.mp hy).1) ?_
      simp only[bL,if_false]
     all_goals
      rw[MD]
      dsimp only
      refine yYX (wpAny_holding (wpAny_eqBool_tuple room UE hk ?_))
      refine yYX (wpAny_setState_of X.at' X.data T.fits ?_)
      dsimp only
      by_cases ek:y.1=ks
      .rw[decide_eq_true ek]
       simp only[Bool.and_self,if_true]
       exact yYY (q1 (aZ.mpr ⟨y,bw hy,ek⟩))
      .rw[decide_eq_false ek]
       simp only[Bool.and_false,bL,if_false]
       rw[sm]
       simp only[if_true]
       rw[h2]
       dsimp only
       rw[MD]
       dsimp only
       refine yYX (wpAny_isSame_ref_self ?_)
       simp only[if_true]
       refine yYX (yYY ?_)
       dsimp only
       refine MC X room hk hx q1 q2 El f (n+st+1) (some _) rfl (by omega) (by omega) λl hl=>?_
       by_cases c1:l<n+st
       .exact oZ l c1
       .obtain rfl:l=n+st:=by omega
        refine⟨by rw[h2];exact λz=>SetTable.Slot.noConfusion z,λi' y' e1 e2=>?_⟩
        rw[h2] at e1
        cases e1
        rw[hy] at e2
        cases e2
        exact ek
   .rfl
  .rename_i hq
   refine(λha (u6:ha=λi=>(es[i]?.map (·.1)).getD 0) (hq:∀met,t.probe ha (hK prog w ks) (fR t.mask (hK prog w ks) n)=some met->False)=>?_) _ ?_ hq
   .obtain⟨st,h1,h2⟩:=Mz T ha (λi e h=>hk1 i e ha u6 h) (hK prog w ks) n
    rcases h2 with⟨h2,h3⟩ | ⟨i,e,h2,h3,h4,h5⟩
    .exact(hq _ h3).elim
    .exact(hq _ h5).elim
   .rfl
end
end ST
namespace ST
open PySem PyProof.Rows SI L2
open PySem.SetTable (runEnd leap bits turns)
theorem GD {α β:Type}{f:α->β}{l m:List β}(p:l.Perm m):∀xs:List α,m=xs.map f->∃ys:List α,ys.Perm xs/\l=ys.map f:=by
 induction p with
 | nil=>
  intro xs e
  exact⟨[],by rw[List.map_eq_nil_iff.mp e.symm],rfl⟩
 | cons x _ ih=>
  intro xs e
  obtain⟨y,ys,rfl,e1,e2⟩:=List.map_eq_cons_iff.mp e.symm
  obtain⟨zs,p1,e3⟩:=ih ys e2.symm
  exact⟨y::zs,p1.cons y,by rw[Yl,e3,e1]⟩
 | swap x y l=>
  intro xs e
  obtain⟨a,ys,rfl,e1,e2⟩:=List.map_eq_cons_iff.mp e.symm
  obtain⟨b,zs,rfl,e3,e4⟩:=List.map_eq_cons_iff.mp e2
  exact⟨b::a::zs,.swap a b zs,by rw[Yl,Yl,e1,e3,e4]⟩
 | trans _ _ ih1 ih2=>
  intro xs e
  obtain⟨ys,p1,e1⟩:=ih2 xs e
  obtain⟨zs,p2,e2⟩:=ih1 ys e1
  exact⟨zs,p2.trans p1,e2⟩
theorem Tab.off {t:SetTable}{es:Array (Int×Value)}(T:Tab t es):Tab { t with plain:=false } es:=⟨T.j4,T.fw,T.full,T.odd,T.size,T.lO,T.room,T.reach⟩
section
variable {prog:Program}{w:World}{A:Around}{E:Value->Shared->Prop}{s:Shared}
theorem GF {h h':Heap}{ks:List Key}{c:Addr}(x:gV prog w h ks c)(k:∀o,h.get? c=some o->h'.get? c=some o):gV prog w h' ks c:=let ⟨o,i,n,e,r⟩:=x;⟨o,i,n,k o e,r⟩
theorem B9 {m:Nat}(h:m=7\/m=31\/m=127\/m=511):Full (m+1)/\m % 2≠0/\m<=511:=by
 rcases h with rfl | rfl | rfl | rfl
 .exact⟨qm,by decide,by decide⟩
 .exact⟨sF,by decide,by decide⟩
 .exact⟨oX,by decide,by decide⟩
 .exact⟨oY,by decide,by decide⟩
theorem UG {h:Heap}{a:Addr}{o:Obj}{es:Array (Int×Value)}{ep:Nat}{t:SetTable}(ho:h.get? a=some o)(hd:o.data=.set es ep t)(bC:Array (Int×Value))(t':SetTable):
  (h.update a (Obj.putSet bC t')).get? a=some { o with data:=.set bC (ep+1) t' }:=by
 have:=Heap.get?_update_self (Obj.putSet bC t') ho (by rw[putSet_of bC t' hd];rfl)
 rw[putSet_of bC t' hd] at this;exact this
end
end ST
namespace ST
open PySem PyProof.Rows SI L2
def Made (its:List (List Key×Addr))(i:Nat)(xs:List (List Key×Addr)):Prop:=(∀x∈xs,x∈its.take i)/\∀y∈its.take i,y.1∈xs.map (·.1)
end ST
namespace ST
open PySem PyProof.Rows SI L2 TM
def ik (ns:List Int):List Key:=ns.map Sum.inl
theorem ie {a b:List Int}(h:ik a=ik b):a=b:=by
 unfold ik at h
 exact(List.map_inj_right (λx y e=>Sum.inl.inj e)).mp h
theorem my (ns:List Int):(ik ns).map kV=ns.map V.int:=by
 unfold ik
 rw[Yn];rfl
def kx (x:List Int×Addr):List Key×Addr:=(ik x.1,x.2)
end ST
namespace L2
open PySem PySem.Spec PyProof.Rows
def ig (P:Program)(w:World)(a:Addr)(xs:List (List Int×Addr)):HO:=.ext λh=>∃o es ep t,ST.TS P w h a (!SI.au w) (xs.map ST.kx) o es ep t
end L2
namespace DT
open PySem PyProof.Rows
structure At (h:Heap)(d:Addr)(o:Obj)(es:Array DictEntry)(ep:Nat):Prop where
 at':h.get? d=some o
 ex:o.ExactDict
 data:o.data=.dict es ep
section
variable {prog:Program}{w:World}{A:Around}{E:Value->Shared->Prop}{s:Shared}{d I:Addr}{o:Obj}{es:Array DictEntry}{ep:Nat}
theorem iter (hd:(d == sysModules)=false)(D:At s.heap d o es ep){Q:Value->Shared->Prop}
  (h:∀h',h'.IsKeyIter s.heap.objs.size d 0 es.size ep->(∀b o,s.heap.get? b=some o->h'.get? b=some o)->Q (.ref s.heap.objs.size) { s with heap:=h' }):wpAny (model prog w) A (pyIter (.ref d)) Q E s:=by
 have hT:s.TypeIs (.ref d) "dict" := ⟨o,D.at',D.ex.1⟩
 refine wpAny_pyIter_slot hT F.slot_dict_iter (wpAny_call_entry F.slot_dict_iter hT F.entry_dict_iter ?_ (F.args_dict_iter_1 _))
 unfold Builtin.«dict.__iter__» Builtin.Dict.dictSlotNone
 refine yYX (yYX (wpAny_notOrdered_dict hT (yYY ?_)))
 show wpAny _ _ (Builtin.Dict.showsAll d >>= _) _ _ s
 unfold Builtin.Dict.showsAll
 rw[hd]
 refine yYX (yYY (yYX (wpAny_dictEntries D.at' D.data (yYX (wpAny_dictEpoch D.at' D.data (yYX (wpAny_newObj_type (yYY ⟨_,rfl,"dict_keyiterator",_,⟨_,bg _ rfl,rfl⟩,F.slot_dict_keyiterator_next.lookup,?_⟩))))))))
 exact h _ ⟨_,bg _ rfl,rfl,by simp[rawInt]⟩ λb o e=>yYZ _ e
theorem next {i:Nat}(hit:s.heap.IsKeyIter I d i es.size ep)(D:At s.heap d o es ep)(hi:i<es.size){Q:Option Value->Shared->Prop}
  (h:∀h',h'.IsKeyIter I d (i+1) es.size ep->Heap.SameBut I s.heap h'->Q (some es[i].key) { s with heap:=h' }):wpAny (model prog w) A (pyNext (.ref I)) Q E s:=by
 obtain⟨oi,e1,e2,e3⟩:=id hit
 have T:=hit.typeIs
 unfold pyNext
 refine yYX (wpAny_attempt (wpAny_callSpecial?_slot (name:=Yb "__next__") T F.slot_dict_keyiterator_next (wpAny_call_entry F.slot_dict_keyiterator_next T F.entry_dict_keyiterator_next ?_ (F.args_dict_keyiterator_next_1 _))))
 refine yYX (yYY (yYX (yYX (yYX ?_))))
 refine wpAny_typeNameOfWhole_keyiter T (yYY (yYX (wpAny_fieldsOf e1 e3 ?_)))
 rw[show Builtin.Dict_items.ownsTuple "dict_keyiterator" = false by decide]
 simp only[bL,if_false]
 show wpAny _ _ (if (Value.ref d == Value.none)=true then _ else _) _ _ s
 refine wpAny_ite_split (λz=>absurd z cj) λ_=>?_
 refine yYX (yYY (yYX (wpAny_dictEntries D.at' D.data ?_)))
 refine wpAny_ite_split (λz=>absurd z (by simp)) λ_=>?_
 refine yYX (yYY (yYX (wpAny_dictEpoch D.at' D.data ?_)))
 refine wpAny_ite_split (λz=>absurd z (by simp)) λ_=>?_
 refine yYY ?_
 simp only[show¬((i:Int)<0) from by omega,if_false,Int.toNat_natCast,Array.getElem?_eq_getElem hi]
 refine yYX (yYX (wpAny_typeNameOfWhole_keyiter T (yYY (yYX (wpAny_isOneOf_keyiter T ?_)))))
 show wpAny _ _ (setField (.ref I) 1 (rawInt ((i:Int)+1)) >>= _) _ _ s
 refine yYX (wpAny_setField e1 e3 (by simp) ?_)
 have B':(s.heap.update I (Obj.mapFields (·.setIfInBounds 1 (rawInt ((i:Int)+1))))).IsKeyIter I d (i+1) es.size ep:=
  ⟨_,Heap.get?_update_self _ e1 (Obj.isFreed_of_fields (Obj.data_mapFields e3 _)),(Obj.cls_mapFields ..).trans e2,by rw[Obj.data_mapFields e3];simp[rawInt]⟩
 refine yYX (wpAny_holding (yYX (wpAny_isOneOf_keyiter (s:={ s with heap:=s.heap.update I (Obj.mapFields (·.setIfInBounds 1 (rawInt ((i:Int)+1)))) }) B'.typeIs ?_)))
 exact yYY (yYY ⟨_,rfl,yYY (h _ B' (Heap.SameBut.update ..))⟩)
end
end DT
namespace L2
open PySem PySem.Spec PyProof.Rows
def without (h:Heap)(S:List Addr):Heap:=⟨h.objs.mapIdx λi o=>if i∈S then { o with data:=.freed } else o,h.life⟩
theorem yI {h:Heap}{S:List Addr}{b:Addr}(hb:b∈S):(without h S).get? b=none:=by
 unfold without Heap.get?
 rw[Array.getElem?_mapIdx]
 cases e:h.objs[b]? with
 | none=>rfl
 | some o=>
  show(match some (if b∈S then { o with data:=.freed } else o) with | some ⟨_,_,.freed,_⟩=>none | o=>o)=none
  rw[if_pos hb]
theorem kT {h:Heap}{S:List Addr}{b:Addr}(hb:b∉S):(without h S).get? b=h.get? b:=by
 unfold without Heap.get?
 rw[Array.getElem?_mapIdx]
 cases e:h.objs[b]? with
 | none=>rfl
 | some o=>
  show(match some (if b∈S then { o with data:=.freed } else o) with | some ⟨_,_,.freed,_⟩=>none | o=>o)=_
  rw[if_neg hb]
  rfl
theorem vY (h:Heap)(S:List Addr):(without h S).StaysIn h:=λb o e=>by
 by_cases hb:b∈S
 .rw[yI hb] at e;cases e
 .rw[kT hb] at e;exact e
theorem yS {h base:Heap}{S:List Addr}{l:List Env}(hl:h.FunFrames base l)(hS:∀b∈bG l,b∈S):h.FunFrames (without h S) l:=by
 induction l with
 | nil=>trivial
 | cons env rest ih=>
  obtain⟨hk,⟨L,o,hf,_,ho,hd⟩,hr⟩:=hl
  have hm:∀b,env.frame=some b->b∈bG (env::rest):=λb e=>by
   unfold bG
   rw[Yt,e]
   exact aW
  refine⟨hk,⟨L,o,hf,yI (hS _ (hm L hf)),ho,hd⟩,ih hr λb hb=>hS b ?_⟩
  unfold bG at hb ⊢
  rw[Yt,hf]
  exact yYH _ hb
def u7 (h:Heap)(x T:Addr)(cls:Value):Prop:=
 ∃oe vs oT ts,h.get? x=some oe/\oe.cls=cls/\oe.data=.fields vs/\vs[1]? = some (.ref T)/\T≠x/\h.get? T=some oT/\oT.data=.fields ts/\ts[3]? = some .none
def dw (P:Program)(w:World):lH:=λouter H s E e s'=>∃x T cls H',e=.ref x/\s'.os=s.os/\AllBare s'.gens/\Un (bG outer) [] H H' s.heap s'.heap/\ck P w H' s'.heap/\
 s.heap.get? x=none/\s.heap.get? T=none/\H' x=none/\H' T=none/\u7 s'.heap x T cls/\E cls none H'
section
variable {M:Model}{A:Around}{E:Value->Shared->Prop}{s:Shared}
theorem ME {h h':Heap}{l:List Env}{S:List Addr}{x:Addr}{cls:Value}(left:Heap.Left (without h S) l x cls h h')(hl:h.FunFrames (without h S) l):
  ∃T',u7 h' x T' cls/\T'∉bG l/\(T'∈S\/h.get? T'=none)/\(∀b o,b∉S->h.get? b=some o->h'.get? b=some o)/\∀b o,b∈bG l->h.get? b=some o->∃sl,h'.get? b=some { o with slots:=sl }:=by
 obtain⟨k1,k2,k3,k4⟩:=left
 obtain⟨UH,UI,T',UJ,GG,f1,f2,f3,f4,f5,f6,f7,f8,f9⟩:=k3
 refine⟨T',⟨UH,UI,UJ,GG,f1,f2,f3,f4,f6,f7,f8,f9⟩,λhb=>?_,?_,λb o hb e=>k1 b o (by rw[kT hb];exact e),λb o hb e=>?_⟩
 .obtain⟨_,o,ho,hd⟩:=k2.mem hb
  rw[f7] at ho
  cases ho
  exact hd _ f8
 .by_cases hT:T'∈S
  .exact .inl hT
  .rw[kT hT] at f5
   exact .inr f5
 .obtain⟨_,o',dQ,hd⟩:=hl.mem hb
  rw[e] at dQ
  cases dQ
  exact k4 b o e hd
theorem MF {base:Heap}{env:Env}{outer:List Env}{L x T:Addr}{cls:Value}{Q:Unit->Shared->Prop}(GH:A.frames=some (env::outer))(hl:s.heap.FunFrames base (env::outer))(hf:env.frame=some L)(fl:u7 s.heap x T cls)
  (h:∀h' T',u7 h' x T' cls->T'∉bG (env::outer)->(T'=x\/T'=T\/s.heap.get? T'=none)->(∀b o,b∉bG (env::outer)->b≠x->b≠T->s.heap.get? b=some o->h'.get? b=some o)->
   (∀b o,b∈bG (env::outer)->s.heap.get? b=some o->∃sl,h'.get? b=some { o with slots:=sl })->Q () { s with heap:=h' }):
  wpAny M A (leaving env (.ref x)) Q E s:=by
 obtain⟨oe,vs,oT,ts,e1,e2,e3,e4,e5,e6,e7,e8⟩:=fl
 have S1:∀b∈bG (env::outer),b∈x::T::bG (env::outer):=λb hb=>yYH _ (yYH _ hb)
 have lC:=yS hl S1
 refine wpAny_leaving_next (base:=without s.heap (x::T::bG (env::outer))) GH lC hf ⟨oe,vs,T,oT,ts,e1,e2,e3,e4,yI (by simp),e5,e6,e7,e8⟩ (vY _ _) (yI (by simp)) λh' left=>?_
 obtain⟨T',mz,nT,wT,k,ks⟩:=ME left lC
 refine h h' T' mz nT ?_ (λb o n1 n2 n3 e=>k b o (by simp[n1,n2,n3]) e) ks
 rcases wT with z | z
 .simp only[aE] at z
  rcases z with z | z | z
  .exact .inl z
  .exact .inr (.inl z)
  .exact absurd z nT
 .exact .inr (.inr z)
theorem UK {base:Heap}{env:Env}{outer:List Env}{L x:Addr}{oe:Obj}{vs:Array Value}{Q:Unit->Shared->Prop}(GH:A.frames=some (env::outer))(hl:s.heap.FunFrames base (env::outer))(hf:env.frame=some L)
  (e1:s.heap.get? x=some oe) (e3:oe.data=.fields vs) (e4:vs[1]? = some .none)
  (h:∀h' T',u7 h' x T' oe.cls->T'∉bG (env::outer)->(T'=x\/s.heap.get? T'=none)->(∀b o,b∉bG (env::outer)->b≠x->s.heap.get? b=some o->h'.get? b=some o)->
   (∀b o,b∈bG (env::outer)->s.heap.get? b=some o->∃sl,h'.get? b=some { o with slots:=sl })->Q () { s with heap:=h' }):
  wpAny M A (leaving env (.ref x)) Q E s:=by
 have S1:∀b∈bG (env::outer),b∈x::bG (env::outer):=λb hb=>yYH _ hb
 have lC:=yS hl S1
 refine wpAny_leaving_first (base:=without s.heap (x::bG (env::outer))) GH lC hf e1 (vY _ _) (yI (by simp)) e3 e4 λh' left=>?_
 obtain⟨T',mz,nT,wT,k,ks⟩:=ME left lC
 refine h h' T' mz nT ?_ (λb o n1 n2 e=>k b o (by simp[n1,n2]) e) ks
 rcases wT with z | z
 .rcases aE.mp z with z | z
  .exact .inl z
  .exact absurd z nT
 .exact .inr z
end
end L2
namespace L2
open PySem PySem.Spec PyProof.Rows
theorem ao.there {P:Program}{w:World}{H:Hp}{h:Heap}{a:Addr}{o:HO}(x:ao P w H h a o):∃u,h.get? a=some u:=by
 cases o with
 | lst xs=>obtain⟨_,_,_,_,e⟩:=x;exact⟨_,e⟩
 | tup xs=>obtain⟨_,_,_,_,e,_⟩:=x;exact⟨_,e⟩
 | dK kvs=>obtain⟨_,_,_,_,o,_,_,e,_⟩:=x;exact⟨_,e⟩
 | dT kvs=>obtain⟨_,_,_,_,o,_,_,e,_⟩:=x;exact⟨_,e⟩
 | set S n=>obtain⟨o,_,_,_,e,_⟩:=x;exact⟨_,e⟩
 | ins C dx fs=>obtain⟨_,_,_,e,_⟩:=x;exact⟨_,e⟩
 | own y=>obtain⟨_,e⟩:=x;exact⟨_,e⟩
 | xd fs=>obtain⟨_,⟨_,_,_,e,_⟩,_⟩:=x;exact⟨_,e⟩
 | rng lo hi=>obtain⟨_,_,_,e⟩:=x;exact⟨_,e⟩
 | frz ob u=>obtain⟨e,_⟩:=x;exact⟨_,e⟩
 | tbl ps=>exact⟨_,(show h.get? a=some _ from x)⟩
 | met f y=>exact⟨_,(show h.get? a=some _ from x)⟩
 | ext φ=>obtain⟨_,⟨_,e⟩,_⟩:=x;exact⟨_,e⟩
theorem ck.gone {P:Program}{w:World}{H:Hp}{h:Heap}{a:Addr}(x:ck P w H h)(e:h.get? a=none):H a=none:=by
 cases q:H a with
 | none=>rfl
 | some o=>
  obtain⟨u,r⟩:=(x a o q).there
  rw[e] at r
  cases r
section
variable {P:Program}{w:World}{K:aq}{mg:Str->Option Value}{base:Heap}{N:List Str}{qual:Str}{scope:Scope}{f:Addr}{cd:Value}{A:Around}{outer:List Env}{s₀:Shared}{H₀:Hp}{E:XK}
theorem MG {zz:List (Addr×Obj)}{σ:St}{H':Hp}{s':Shared}{x T T':Addr}{cls:Value}{h':Heap}(J:Inv (aU (dw P w) P w K mg base N qual scope f cd A outer s₀ H₀ E) zz σ H' s')
  (nx:s₀.heap.get? x=none) (nT:s₀.heap.get? T=none) (hx:H' x=none) (hT:H' T=none) (q:E cls none H') (mz:u7 h' x T' cls)
  (wT:T'=x\/T'=T\/s'.heap.get? T'=none)
  (k:∀b o,b∉bG (envOfC qual scope s₀.heap.objs.size f cd::outer)->b≠x->b≠T->s'.heap.get? b=some o->h'.get? b=some o)
  (ks:∀b o,b∈bG (envOfC qual scope s₀.heap.objs.size f cd::outer)->s'.heap.get? b=some o->∃sl,h'.get? b=some { o with slots:=sl }):dw P w outer H₀ s₀ E (.ref x) { s' with heap:=h' }:=by
 have B:Un (bG outer) [] H₀ H' s₀.heap s'.heap:=J.base
 have mem:∀b o,s₀.heap.get? b=some o->b∉bG outer->b∉bG (envOfC qual scope s₀.heap.objs.size f cd::outer):=λb o e hb z=>by
  rcases aE.mp (J.stkSub b z) with y | y
  .exact absurd y (yZF (aG e))
  .exact hb y
 have GI:∀b o,s₀.heap.get? b=some o->b≠x:=λb o e z=>by rw[z,nx] at e;cases e
 have neT:∀b o,s₀.heap.get? b=some o->b≠T:=λb o e z=>by rw[z,nT] at e;cases e
 have gone:s'.heap.get? T'=none->s₀.heap.get? T'=none:=λe=>by
  cases c:s₀.heap.get? T' with
  | none=>rfl
  | some o=>
   obtain⟨o',r⟩:=B.there T' o c (by simp)
   rw[e] at r
   cases r
 refine⟨x,T',cls,H',rfl,J.os,J.bare,⟨λb o e n hb hx=>?_,λb o e n hb hx=>?_,B.free,λb o e hx=>?_,B.tups,B.frzs,B.cK,λb xs o q e=>k b o (λz=>nomatch (B.tups b xs q).symm.trans (J.bV b z)) (GI b o e) (neT b o e) (B.tupk b xs o q e)⟩,λa o e=>?_,nx,?_,hx,?_,mz,q⟩
 .exact k b o (mem b o e hb) (GI b o e) (neT b o e) (B.keep b o e n hb hx)
 .obtain⟨sl,r⟩:=B.slot b o e n hb hx
  obtain⟨rq,r'⟩:=ks b _ (by
   unfold bG at hb ⊢
   rw[Yt]
   split
   .exact hb
   .exact yYH _ hb) r
  exact⟨rq,r'⟩
 .obtain⟨o',r⟩:=B.there b o e hx
  by_cases hb:b∈bG (envOfC qual scope s₀.heap.objs.size f cd::outer)
  .obtain⟨sl,r'⟩:=ks b _ hb r
   exact⟨_,r'⟩
  .exact⟨o',k b o' hb (GI b o e) (neT b o e) r⟩
 .refine(J.af a o e).stay (λb u hb r=>?_) (λ_ z=>z) λ_ _ z=>z
  have tr:H' b≠none:=by
   rcases hb with z | z
   .rw[z,e];exact λz=>nomatch z
   .rw[z];exact λz=>nomatch z
  exact k b u (λz=>tr (J.bV b z)) (λz=>tr (by rw[z];exact hx)) (λz=>tr (by rw[z];exact hT)) r
 .rcases wT with z | z | z
  .rw[z];exact nx
  .rw[z];exact nT
  .exact gone z
 .rcases wT with z | z | z
  .rw[z];exact hx
  .rw[z];exact hT
  .exact J.af.gone z
theorem Ca:Passes (dw P w) (aU (dw P w) P w K mg base N qual scope f cd A outer s₀ H₀ E) E:=by
 intro zz σ H s e s' I ⟨x,T,cls,H',he,os,bare,un,af,gx,gT,hx,hT,fl,q⟩
 subst he
 obtain⟨hh,g,d,t,rL⟩:=s'
 obtain rfl:rL=s.os:=os
 have J:=I.call (h':=hh) (g':=g) (d':=d) (t':=t) (ch:=[]) un af bare (λb z=>absurd z (by simp))
 have B:Un (bG outer) [] H₀ H s₀.heap s.heap:=I.base
 have gone:∀b,s.heap.get? b=none->s₀.heap.get? b=none:=λb e=>by
  cases c:s₀.heap.get? b with
  | none=>rfl
  | some o=>
   obtain⟨o',r⟩:=B.there b o c (by simp)
   rw[e] at r
   cases r
 show wpAny _ _ (leaving _ (.ref x)) _ _ _
 refine MF J.ok.frames J.stack rfl fl λh' T' mz nT wT k ks=>?_
 exact MG J (gone x gx) (gone T gT) hx hT q mz wT k ks
def Throws (X:Cx)(E:XK):Prop:=∀(zz:List (Addr×Obj)) (σ:St) (H:Hp) (s:Shared) (x:Addr) (cls:Value) (us:List Value) (h':Heap),Inv X zz σ H s->Heap.MadeExcOf s.heap h' x cls us->E cls none H->X.xe (.ref x) { s with heap:=h' }
theorem o5:Throws (aU (dw P w) P w K mg base N qual scope f cd A outer s₀ H₀ E) E:=by
 intro zz σ H s x cls us h1 I md q
 have J:=I.un (t':=s.toks) (Un.kept md.keeps) (I.af.kept md.keeps)
 have B:Un (bG outer) [] H₀ H s₀.heap s.heap:=I.base
 have nx:s₀.heap.get? x=none:=by
  cases c:s₀.heap.get? x with
  | none=>rfl
  | some o=>
   obtain⟨o',r⟩:=B.there x o c (by simp)
   rw[md.new] at r
   cases r
 have hx:H x=none:=I.af.gone md.new
 obtain⟨t,ht,_,_⟩:=md.there
 show wpAny _ _ (leaving _ (.ref x)) _ _ _
 refine UK J.ok.frames J.stack rfl ht rfl rfl λh' T' mz nT wT k ks=>?_
 exact MG J nx nx hx hx q mz (wT.elim .inl λz=>.inr (.inr z)) (λb o z1 z2 _ z3=>k b o z1 z2 z3) ks
end
section
variable {X:Cx}{x:Str}{C:Addr}{B newId sG:String}{bm:List Value}{np ay pos:Pos}{e₀:Expr}{rest:List Expr}{t:TA}{E:XK}
def mB (C:Addr)(t:TA)(E:XK):TS:=λ_ σ H=>t σ H λvs H1=>vs.length<=Yc/\E (.ref C) none H1
theorem UL (O:OwnCls x C bm newId X.mg X.base)(FB:ExcBaseFacts B newId sG bm)(hg:Gl X x)(hc:X.calm=true)(hth:Throws X E)(ha:PA X (e₀::rest) t)(dy:(x == ("__debug__" : Str))=false:=by decide)
  (he:starEach (e₀::rest) X.env=(false,eval e₀ X.env)::starEach rest X.env:=by rfl) (dv:(backTo ay (starEach rest X.env)).any (·.1)=false:=by rfl):
  PS X (.Raise (some (.Call (.Name x np) (e₀::rest) [] ay)) none pos) (mB C t E):=by
 intro zz s σ H D I h
 obtain⟨tl,N,nm,q,bs,dr,sn,su,ab,cl,dd,k0,k1,k2,k3,k5,mN,hC,hN,UM,T⟩:=O.obj
 have pl:(backTo ay (starEach (e₀::rest) X.env)).any (·.1)=false:=by
  rw[he]
  show(false || (backTo ay (starEach rest X.env)).any (·.1))=false
  rw[dv]
  rfl
 refine@wpAny_Raise_call_subT _ _ _ _ _ _ nm q C N bs tl bm dr sn su ab cl dd k0 k1 k2 k3 k5 _ _ _ FB _ _ _ _ _ _ _ (T.hasType FB.hasBase) (I.ok.hd hc) pl UM (wJ I hg O.bound ⟨rfl,?_⟩ dy)
 have h2:=ha ay zz s σ H _ I h
 rw[he] at h2 ⊢
 exact Calls.evalArgs_plain (aF h2 λus s2 ⟨vs,H1,I1,r,z,q⟩=>⟨rfl,by rw[<- r.length];exact z,I1.bk _ _ hC,hN.keeps I1.bk,T.keeps I1.bk,λh' e md=>hth zz σ H1 s2 e _ _ h' I1 md q⟩)
end
section
variable {P:Program}{w:World}{K:aq}{mg:Str->Option Value}{base:Heap}{qual x:Str}{st:Stmt}{f:Addr}{fd:FuncData}{N ps:List Str}{k:Nat}{sp:Sp}
theorem gC.ok1 (F:gC K x qual st f fd)(S:xI N ps (xB st))(len:∀vs H Q E,sp vs H Q E->vs.length=ps.length)
  (hb:∀(zy:Value) (A:Around) (outer:List Env) (s:Shared) (H:Hp) (vs:List V) (Q:VK) (E:XK),aJ k (A.deeper (envOfC qual (xB st) s.heap.objs.size f zy))->sp vs H Q E->
   ∃t,dR (aU (dw P w) P w K mg base N qual (xB st) f zy A outer s H E) (xC st) t/\t { nx:=λ_ H'=>Q .non H',rt:=Q } (start N vs) H):aT P w K mg base (dw P w) (k+1) f fd ps sp:=by
 obtain⟨oc,od,kV,doc,pm,an,zy,ct,l9,rfl,lk,i5⟩:=F.ex
 exact Lh lk i5 S len λA outer s H vs Q E hr hsp=>hb zy A outer s H vs Q E hr hsp
end
end L2
namespace L2
open PySem PySem.Spec PyProof.Rows
section
variable {X:Cx}{zz:List (Addr×Obj)}{σ:St}{H H':Hp}{s:Shared}{h':Heap}
theorem Inv.hop {S:List Addr}(I:Inv X zz σ H s)(hS:∀b∈S,X.s₀.heap.get? b=none/\b≠X.env.locals/\(∀x c,X.env.cells.lookup x=some c->c≠b)/\(∀p∈X.pn++zz,p.1≠b)/\H b=none)
  (k:∀b o,b∉bG X.stack->b∉S->s.heap.get? b=some o->h'.get? b=some o) (ks:∀b o,b∈bG X.stack->b∉S->s.heap.get? b=some o->∃sl,h'.get? b=some { o with slots:=sl })
  (same:∀b,b∉S->H' b=H b) (af:ck X.prog X.w H' h'):Inv X zz σ H' { s with heap:=h' }:=by
 have any:∀b o,b∉S->s.heap.get? b=some o->∃sl,h'.get? b=some { o with slots:=sl }:=λb o hb e=>by
  by_cases z:b∈bG X.stack
  .exact ks b o z hb e
  .exact⟨o.slots,k b o z hb e⟩
 have nS:∀b o,X.s₀.heap.get? b=some o->b∉S:=λb o e z=>by rw[(hS b z).1] at e;cases e
 have tr:∀b u,H b=some u->b∉S:=λb u e z=>by rw[(hS b z).2.2.2.2] at e;cases e
 have nL:X.env.locals∉S:=λz=>(hS _ z).2.1 rfl
 have nC:∀x c,X.env.cells.lookup x=some c->c∉S:=λx c e z=>(hS c z).2.2.1 x c e rfl
 have nP:∀p∈X.pn++zz,p.1∉S:=λp hp z=>(hS _ z).2.2.2.1 p hp rfl
 have out:∀b,b∉X.fs->b≠X.env.locals->b∉bG X.stack:=λb h1 h2 z=>(aE.mp (I.stkSub b z)).elim h2 h1
 have Cb:∀x c,X.env.cells.lookup x=some c->∀v,s.heap.IsCell c v->h'.IsCell c v:=λx c e v ⟨o,ho,hd⟩=>by
  obtain⟨sl,q⟩:=any c o (nC x c e) ho
  exact⟨_,q,hd⟩
 have B:=I.base
 constructor
 .exact I.ok
 .exact I.os
 .exact I.bare
 .constructor
  .intro b o e n hb hx
   exact k b o (out b hb (yZF (yZE (aG e) I.ok.above))) (nS b o e) (B.keep b o e n hb hx)
  .intro b o e n hb hx
   obtain⟨sl,e1⟩:=B.slot b o e n hb hx
   obtain⟨rq,e2⟩:=any b _ (nS b o e) e1
   exact⟨rq,e2⟩
  .intro b o e n hx
   rw[same b (nS b o e)]
   exact B.free b o e n hx
  .intro b o e hx
   obtain⟨o',e1⟩:=B.there b o e hx
   obtain⟨sl,e2⟩:=any b o' (nS b o e) e1
   exact⟨_,e2⟩
  .intro b xs e
   have e1:=B.tups b xs e
   rw[same b (tr b _ e1)]
   exact e1
  .intro b o u e
   have e1:=B.frzs b o u e
   rw[same b (tr b _ e1)]
   exact e1
  .intro b ps e
   obtain⟨m,e1⟩:=B.cK b ps e
   exact⟨m,by rw[same b (tr b _ e1)];exact e1⟩
  .exact λb xs o q e=>k b o (λz=>nomatch (B.tups b xs q).symm.trans (I.bV b z)) (nS b o e) (B.tupk b xs o q e)
 .obtain⟨m,⟨o,es,ep,ho,r⟩,hl⟩:=I.loc
  obtain⟨sl,e⟩:=any _ o nL ho
  refine⟨m,⟨_,es,ep,e,r⟩,λi x v e1 e2 e3=>?_⟩
  obtain⟨u,rv,l⟩:=hl i x v e1 e2 e3
  refine⟨u,rv,l.imp id λ⟨kd,c,ec,z⟩=>⟨kd,c,ec,Cb x c ec _ z⟩⟩
 .intro x c e
  obtain⟨v,z⟩:=I.cell x c e
  exact⟨v,Cb x c e v z⟩
 .rw[same _ nL]
  exact I.free
 .intro x c e
  rw[same _ (nC x c e)]
  exact I.bq x c e
 .intro p hp
  obtain⟨e,n,ne,nf,d⟩:=I.pin p hp
  exact⟨k p.1 p.2 (out _ nf ne) (nP p hp) e,by rw[same _ (nP p hp)];exact n,ne,nf,d⟩
 .exact af
 .exact I.len
def cT (x T:Addr)(cls:Value)(h:Heap):Prop:=∃o vs,h.get? x=some o/\o.cls=cls/\o.data=.fields vs/\vs[1]? = some (.ref T)
def fz (T:Addr)(h:Heap):Prop:=∃o ts,h.get? T=some o/\o.data=.fields ts/\ts[3]? = some .none
abbrev held (H:Hp)(x T:Addr)(cls:Value):Hp:=upd (upd H T (.ext (fz T))) x (.ext (cT x T cls))
def XP (X:Cx)(zz:List (Addr×Obj))(Ex:St->Value->Hp->Prop)(e:Value)(s':Shared):Prop:=
 ∃σ1 H1 s1,Inv X zz σ1 H1 s1/\dw X.prog X.w X.stack H1 s1 (λc _ H'=>Ex σ1 c H') e s'
theorem XP.caught {Ex:St->Value->Hp->Prop}{e:Value}{Q:Unit->Shared->Prop}{E:Value->Shared->Prop}{outer:List Env}(hex:X.ex=[])(fZ:X.stack=X.env::outer)(hf:X.env.frame=some X.env.locals)(h:XP X zz Ex e s)
  (hq:∀x T cls σ1 H1 h',e=.ref x->H1 x=none->H1 T=none->T≠x->Ex σ1 cls H1->Inv X zz σ1 (held H1 x T cls) { s with heap:=h' }->Q () { s with heap:=h' }):
  wpAny (model X.prog X.w) X.A (leaving X.env e) Q E s:=by
 obtain⟨σ1,H1,s1,I,x,T,cls,H',he,os,bare,un,af,gx,gT,hx,hT,fl,q⟩:=h
 subst he
 obtain⟨hh,g,d,t,rL⟩:=s
 obtain rfl:rL=s1.os:=os
 have J:=I.call (h':=hh) (g':=g) (d':=d) (t':=t) (ch:=[]) un af bare (λb z=>absurd z (by simp))
 have gone:∀b,s1.heap.get? b=none->X.s₀.heap.get? b=none:=λb e=>by
  cases c:X.s₀.heap.get? b with
  | none=>rfl
  | some o=>
   obtain⟨o',r⟩:=I.base.there b o c (by rw[hex];simp)
   rw[e] at r
   cases r
 have sH:∀b,s1.heap.get? b=none->H' b=none->X.s₀.heap.get? b=none/\b≠X.env.locals/\(∀x c,X.env.cells.lookup x=some c->c≠b)/\(∀p∈X.pn++zz,p.1≠b)/\H' b=none:=λb e n=>by
  refine⟨gone b e,λz=>?_,λy c ec z=>?_,λp hp z=>?_,n⟩
  .obtain⟨m,⟨o,_,_,ho,_⟩,_⟩:=I.loc
   rw[<- z,e] at ho
   cases ho
  .obtain⟨v,o,ho,_⟩:=I.cell y c ec
   rw[z,e] at ho
   cases ho
  .have ho:=(I.pin p hp).1
   rw[z,e] at ho
   cases ho
 have fr:X.A.frames=some (X.env::outer):=by rw[<- fZ];exact I.ok.frames
 have nB:=J.stack
 rw[fZ] at nB
 refine MF fr nB hf fl λh2 T' mz nT wT k ks=>?_
 rw[<- fZ] at k ks
 have nfr:∀b,s1.heap.get? b=none->b∉bG X.stack:=λb e z=>by
  obtain⟨_,o,ho,_⟩:=I.stack.mem z
  rw[e] at ho
  cases ho
 have T1:s1.heap.get? T'=none:=by
  rcases wT with z | z | z
  .rw[z];exact gx
  .rw[z];exact gT
  .cases c:s1.heap.get? T' with
   | none=>rfl
   | some o=>
    obtain⟨o',r⟩:=un.there T' o c (by simp)
    rw[show hh.get? T'=none from z] at r
    cases r
 have T2:H' T'=none:=by
  rcases wT with z | z | z
  .rw[z];exact hx
  .rw[z];exact hT
  .exact af.gone z
 obtain⟨oe,vs,oT,ts,f1,f2,f3,f4,f5,f6,f7,f8⟩:=mz
 refine hq x T' cls σ1 H' h2 rfl hx T2 f5 q (J.hop (S:=[x,T,T']) (λb hb=>?_) (λb o n1 n2 e=>k b o n1 (λz=>n2 (by simp[z])) (λz=>n2 (by simp[z])) e) (λb o n1 _ e=>ks b o n1 e)
  (λb hb=>by show upd (upd H' T' _) x _ b=_;rw[qB λz=>hb (by simp[z]),qB λz=>hb (by simp[z])]) λa o e=>?_)
 .simp only[aE,List.mem_nil_iff,or_false] at hb
  rcases hb with z | z | z
  .rw[z];exact sH x gx hx
  .rw[z];exact sH T gT hT
  .rw[z];exact sH T' T1 T2
 .replace e:upd (upd H' T' (.ext (fz T'))) x (.ext (cT x T' cls)) a=some o:=e
  show ao X.prog X.w (upd (upd H' T' _) x _) h2 a o
  by_cases ha:a=x
  .subst ha
   rw[qW] at e
   cases e
   exact⟨⟨oe,vs,f1,f2,f3,f4⟩,⟨oe,f1⟩,λh1 h2 ⟨o,ws,e1,e2⟩ z=>⟨o,ws,z o e1,e2⟩⟩
  .rw[qB ha] at e
   by_cases hb:a=T'
   .subst hb
    rw[qW] at e
    cases e
    exact⟨⟨oT,ts,f6,f7,f8⟩,⟨oT,f6⟩,λh1 h2 ⟨o,ws,e1,e2⟩ z=>⟨o,ws,z o e1,e2⟩⟩
   .rw[qB hb] at e
    refine(af a o e).stay (λb u hb r=>?_) (λb z=>?_) λb xs z=>?_
    .have tr:H' b≠none:=by
      rcases hb with z | z
      .rw[z,e];exact λz=>nomatch z
      .rw[z];exact λz=>nomatch z
     exact k b u (λz=>tr (J.bV b z)) (λz=>tr (by rw[z];exact hx)) (λz=>tr (by rw[z];exact hT)) r
    .rw[qB (qC z hx),qB (qC z T2)];exact z
    .rw[qB (qC z hx),qB (qC z T2)];exact z
end
section
variable {M:Model}{A:Around}{E:Value->Shared->Prop}{s:Shared}{env:Env}
theorem UN {body orelse:Sem Flow}{h1:ExceptHandler}{hs:List ExceptHandler}{Q:Flow->Shared->Prop}
  (h:wpAny M A body (λf s1=>match f with | .next=>wpAny M A orelse Q E s1 | f=>Q f s1) (λe s1=>wpAny M A (leaving env e) (λ_ s2=>wpAny M A (handleBy e env (h1::hs)) Q E s2) E s1) s):
  wpAny M A (tryStmt false body (h1::hs) orelse [] env) Q E s:=by
 unfold tryStmt
 simp
 refine yYX (wpAny_attempt (wpAny_mono h (λf s1 h2=>?_) λe s1 h2=>?_))
 .cases f <;> first | exact h2 | exact yYY h2
 .have h3:=yYX (f:=λ_=>handleBy e env (h1::hs)) h2
  unfold leaving at h3
  simp only[bind_assoc] at h3
  exact h3
end
abbrev XE:=St->Value->Hp->Prop
def GJ (X:Cx)(e:Expr)(t:XE->TE):Prop:=∀(zz:List (Addr×Obj)) (s:Shared) (σ:St) (H:Hp) (Q:VK) (Ex:XE),Inv X zz σ H s->t Ex σ H Q->wpAny (model X.prog X.w) X.A (eval e X.env) (EP X zz σ Q) (XP X zz Ex) s
def PX (X:Cx)(st:Stmt)(t:XE->TS):Prop:=∀(zz:List (Addr×Obj)) (s:Shared) (σ:St) (H:Hp) (D:Ends) (Ex:XE),Inv X zz σ H s->t Ex D σ H->wpAny (model X.prog X.w) X.A (exec st X.env) (SP X zz D) (XP X zz Ex) s
def MH (X:Cx)(st:List Stmt)(t:XE->TS):Prop:=∀(zz:List (Addr×Obj)) (s:Shared) (σ:St) (H:Hp) (D:Ends) (Ex:XE),Inv X zz σ H s->t Ex D σ H->wpAny (model X.prog X.w) X.A (execs st X.env) (SP X zz D) (XP X zz Ex) s
section
variable {X:Cx}{k:Nat}{f:Addr}{fd:FuncData}{ps:List Str}{sp:Sp}{cQ:List V}{ds:List Value}{x:Str}{p pos pos':Pos}{e:Expr}{es:List Expr}{t:TA}
theorem PA.lE (h:PA X.lE es t){E:Value->Shared->Prop}{pos:Pos}{zz:List (Addr×Obj)}{s:Shared}{σ:St}{H:Hp}{Q:List V->Hp->Prop}(I:Inv X zz σ H s)(hw:t σ H Q):wpAny (model X.prog X.w) X.A (spliced (backTo pos (starEach es X.env))) (AP X zz σ Q) E s:=
 wpAny_mono (h pos zz s σ H Q (I.wish _) hw) (λ_ _ ⟨vs,H',I',r,q⟩=>⟨vs,H',I'.bW,r,q⟩) λ_ _ z=>False.elim z
theorem UO {zz:List (Addr×Obj)}{σ:St}{H:Hp}{s:Shared}{Q:VK}{us:List Value}{vs:List V}{Ex:XE}(F:aT X.prog X.w X.K X.mg X.base (dw X.prog X.w) k f fd ps sp)(hr:aJ k X.A)(hb:Binds X.K fd ps ds)(hd:Vals cQ ds)
  (I:Inv X zz σ H s) (r:Vals vs us) (h:sp (vs++cQ) H Q (λc _ H'=>Ex σ c H')):wpAny (model X.prog X.w) X.A (call (.ref f) us) (EP X zz σ Q) (XP X zz Ex) s:=by
 have r2:=r.append hd
 have hl:=r2.length.symm.trans (F.len _ _ _ _ h)
 refine wpAny_call (codeAny_mono (F.run _ _ _ _ _ _ _ Q _ hr I.rK (hb s us I.dq hl) r2 h) λa s' hq=>?_)
 match a,hq with
 | .error _,hq=>exact⟨σ,H,s,I,hq⟩
 | .ok (.ret _),hq=>exact I.after hq
def qo (sp:Sp)(cQ:List V)(t:TA):XE->TE:=λEx σ H Q=>t σ H λvs H1=>sp (vs++cQ) H1 Q (λc _ H'=>Ex σ c H')
theorem UP (F:aT X.prog X.w X.K X.mg X.base (dw X.prog X.w) k f fd ps sp)(hr:aJ k X.A)(hg:Gl X x)(hm:X.mg x=some (.ref f))(hk:PySem.W.keepIn X.K (.ref f)=true)(hb:Binds X.K fd ps ds)(hd:Vals cQ ds)
  (ha:PA X.lE (e::es) t) (dy:(x == ("__debug__" : Str))=false:=by decide) (he:starEach (e::es) X.env=(false,eval e X.env)::starEach es X.env:=by rfl) (dv:(backTo pos (starEach es X.env)).any (·.1)=false:=by rfl):
  GJ X (.Call (.Name x p) (e::es) [] pos) (qo sp cQ t):=by
 intro zz s σ H Q Ex I h
 refine wpAny_Call_Name_kw (wJ I hg hm (Q:=_) ?_ dy)
 exact PySem.W.callWith_K (h₀:=X.base) I.ok.mod.tQ hk (aF (ha.lE I h) λus s1 ⟨vs,H1,I1,r,q⟩=>⟨I1.dq,UO F hr hb hd I1 r q⟩) he dv
def GK (i:Nat)(te:XE->TE):XE->TS:=λEx D σ H=>te Ex σ H λv H1=>D.nx (σ.set i (some v)) H1
theorem UQ {st:Stmt}{t:XE->TS}(h1:PX X st t):MH X [st] t:=by
 intro zz s σ H D Ex I h
 refine wpAny_execs_cons (aF (h1 zz s σ H D Ex I h) λf s1 q=>?_)
 cases f with
 | next=>exact wpAny_execs_nil q
 | _=>exact q
theorem UR {i:Nat}{te:XE->TE}(hN:X.N.Nodup)(hi:X.N[i]? = some x)(hx:Loc X.env.scope x)(he:GJ X e te)(hs:swapsWith e (some (.Name x pos')) pos.line X.env=pure false:=by rfl)
  (hf:X.fn x=true\/X.env.scope.names.lookup x=some .local:=by first | exact .inl rfl | exact .inr rfl):PX X (.Assign [.Name x pos'] e pos) (GK i te):=λzz s σ H D Ex I h=>
 wpAny_Assign_Name (aF (he zz s σ H _ Ex I h) λv s1 ⟨y,H1,I1,r1,q1⟩=>vK I1 hN hi hx r1 (λs2 I2=>⟨_,H1,I2,q1⟩) hf) hs
end
end L2
namespace L2
open PySem PySem.Spec PyProof.Rows
def ExcAt (h:Heap)(C:Addr)(bm:List Value):Prop:=bm.contains (.type "BaseException")=true/\∃nm q N bs hd sn su ab cl dd k0 k1 k2 k3 k5 qp,h.get? C=some (excClassObj nm q C N bs bm hd sn su ab cl dd k0 k1 k2 k3 k5 qp)
theorem ExcAt.keeps {h h':Heap}{C:Addr}{bm:List Value}(x:ExcAt h C bm)(k:∀b o,h.get? b=some o->h'.get? b=some o):ExcAt h' C bm:=
 ⟨x.1,let ⟨nm,q,N,bs,hd,sn,su,ab,cl,dd,k0,k1,k2,k3,k5,qp,e⟩:=x.2;⟨nm,q,N,bs,hd,sn,su,ab,cl,dd,k0,k1,k2,k3,k5,qp,k _ _ e⟩⟩
section
variable {M:Model}{A:Around}{E:Value->Shared->Prop}
theorem US {s:Shared}{e C C0:Addr}{bm u9:List Value}{oe:Obj}{Q:Bool->Shared->Prop}(x:ExcAt s.heap C bm)(y:ExcAt s.heap C0 u9)(he:s.heap.get? e=some oe)(hc:oe.cls=.ref C)(hq:Q ((Value.ref C::bm).contains (.ref C0)) s):
  wpAny M A (excMatches (.ref e) (.ref C0)) Q E s:=by
 obtain⟨b1,nm,q,N,bs,hd,sn,su,ab,cl,dd,k0,k1,k2,k3,k5,qp,hC⟩:=x
 obtain⟨b2,nm',q',N',bs',dr,sn',su',ab',cl',hW,k0',k1',k2',k3',k5',UT,hD⟩:=y
 obtain⟨h,g,d,t,os⟩:=s
 have UU:(Value.ref C0::u9).contains (.type "BaseException")=true:=by rw[List.contains_cons,b2,Bool.or_true]
 have f:=tc_notTuple
 unfold excMatches
 generalize hb:(Value.ref C::bm).contains (.ref C0)=b at hq
 repeat (first | (with_reducible refine wpAny_loadPart_at he ?_;rw[hc]) | with_reducible refine wpAny_loadPart_at hD ?_ | (with_reducible refine wpAny_isSubtype_exc hD ?_;rw[UU]) | (with_reducible refine wpAny_isSubtype_exc hC ?_;rw[hb]) | wp_step)
 cases b with
 | true=>wp_walk;exact hq
 | false=>wp_walk;exact hq
end
section
variable {X:Cx}{zz:List (Addr×Obj)}{σ:St}{H:Hp}{s:Shared}{h':Heap}{n:Str}{i:Nat}
theorem Inv.lost {m':Str->Option Value}(I:Inv X zz σ H s)(hN:X.N.Nodup)(hi:X.N[i]? = some n)(hl:∀m,s.heap.Ns X.env.locals m->h'.Ns X.env.locals (λy=>if y=n then m' y else m y))(hs:Heap.SameBut X.env.locals s.heap h'):Inv X zz (σ.set i none) H { s with heap:=h' }:=by
 have at':∀b o,b≠X.env.locals->s.heap.get? b=some o->h'.get? b=some o:=λb o hb e=>(hs.2 b hb).trans e
 have ne:∀b o,X.s₀.heap.get? b=some o->b≠X.env.locals:=λb o e=>yZF (yZE (aG e) I.ok.above)
 have Cb:∀x c,X.env.cells.lookup x=some c->∀v,s.heap.IsCell c v->h'.IsCell c v:=λx c e v ⟨o,ho,hd⟩=>⟨o,at' c o (I.pT x c e) ho,hd⟩
 obtain⟨m,hn,v7⟩:=id I.loc
 have B:=I.base
 constructor
 .exact I.ok
 .exact I.os
 .exact I.bare
 .constructor
  .exact λb o e n hb hx=>at' b o (ne b o e) (B.keep b o e n hb hx)
  .intro b o e n hb hx
   obtain⟨sl,e1⟩:=B.slot b o e n hb hx
   exact⟨sl,at' b _ (ne b o e) e1⟩
  .exact B.free
  .intro b o e hx
   obtain⟨o',e1⟩:=B.there b o e hx
   exact⟨o',at' b _ (ne b o e) e1⟩
  .exact B.tups
  .exact B.frzs
  .exact B.cK
  .exact λb xs o q e=>at' b o (ne b o e) (B.tupk b xs o q e)
 .refine⟨_,hl m hn,λj y v e1 e2 e3=>?_⟩
  have hj:j≠i:=λz=>by
   subst z
   rw[List.getElem?_set] at e2
   simp at e2
  rw[List.getElem?_set_ne (Ne.symm hj)] at e2
  obtain⟨u,r,q⟩:=v7 j y v e1 e2 e3
  have hy:y≠n:=λz=>hj (Fi hN e1 (z▸hi))
  refine⟨u,r,q.imp (λ⟨a,b⟩=>⟨a,(if_neg hy).trans b⟩) λ⟨kd,c,ec,z⟩=>⟨kd,c,ec,Cb y c ec _ z⟩⟩
 .intro x c e
  obtain⟨v,z⟩:=I.cell x c e
  exact⟨v,Cb x c e v z⟩
 .exact I.free
 .exact I.bq
 .intro p hp
  obtain⟨e,nn,nl,nf,d⟩:=I.pin p hp
  exact⟨at' _ _ nl e,nn,nl,nf,d⟩
 .intro b o e
  refine(I.af b o e).stay (λc u hc q=>at' c u (λz=>?_) q) (λ_ q=>q) λ_ _ q=>q
  have hf:=I.free
  rw[<- z] at hf
  rcases hc with y | y
  .rw[<- y,hf] at e;cases e
  .rw[hf] at y;cases y
 .simpa using I.len
theorem vG {M:Model}{A:Around}{E:Value->Shared->Prop}{pos:Pos}{Q:Unit->Shared->Prop}(I:Inv X zz σ H s)(hN:X.N.Nodup)(hi:X.N[i]? = some n)(hk:X.env.scope.names.lookup n=some .local)
  (h:∀s',Inv X zz (σ.set i none) H s'->Q () s'):wpAny M A (do bindName X.env n .none;unbindBehindTheSuite X.env n pos) Q E s:=by
 have bc:i<σ.length:=I.len▸(aN.mp hi).1
 refine yYX (wpAny_bindName (vK (v:=.non) I hN hi (.inl hk) rfl (λs1 I1=>?_) (.inr hk)))
 unfold unbindBehindTheSuite
 refine wpAny_onRaise ?_
 obtain⟨m,hn,v7⟩:=id I1.loc
 obtain⟨u,_,q⟩:=v7 i n .non hi (by rw[List.getElem?_set_self bc]) (.inl hk)
 have hv:m n=some u:=by
  rcases q with q | ⟨q,_⟩
  .exact q.2
  .have q':X.env.scope.names.lookup n=some .cell\/X.env.scope.names.lookup n=some .free:=q
   rw[hk] at q'
   rcases q' with q' | q' <;> cases q'
 refine wpAny_unbindName_local hk hn hv (by simp[I.ok.kind]) λh2 w qa D6=>?_
 have J:=I1.lost (h':=h2) (m':=λ_=>w) hN hi (λm2 t8=>?_) D6
 .rw[List.set_set] at J
  exact h _ J
 .have:m2=m:=by
   obtain⟨o,es,ep,ho,hd,_,z⟩:=t8
   obtain⟨o',bC,dt,dQ,dr,_,z'⟩:=hn
   rw[ho] at dQ;cases dQ
   rw[hd] at dr;cases dr
   exact funext λy=>(z y).symm.trans (z' y)
  rw[this]
  exact qa
end
abbrev Cx.row (X:Cx)(e:Value):Cx:={ X with A:=X.A.mark (some e),calm:=false,xe:=λ_ _=>False }
section
variable {X:Cx}{zz:List (Addr×Obj)}{σ:St}{H:Hp}{s:Shared}{e:Value}
theorem Inv.row (I:Inv X zz σ H s)(e:Value):Inv (X.row e) zz σ H s:=by
 have ok:(X.row e).Ok:=by
  have o:=I.ok
  exact⟨o.mod,o.kind,o.glob,o.blt,o.above,o.inj,o.has,o.nX,(λz=>nomatch (show false=true from z)),o.frames,o.nB,o.A3,o.bs,o.lA,o.fH,o.gY,o.cX,o.nE⟩
 exact⟨ok,I.os,I.bare,I.base,I.loc,I.cell,I.free,I.bq,I.pin,I.af,I.len⟩
theorem Inv.unrow (I:Inv (X.row e) zz σ H s)(o:X.Ok):Inv X zz σ H s:=⟨o,I.os,I.bare,I.base,I.loc,I.cell,I.free,I.bq,I.pin,I.af,I.len⟩
def Ends.drop (D:Ends)(i:Nat):Ends:={ nx:=λσ H=>D.nx (σ.set i none) H,rt:=D.rt,bk:=λσ H=>D.bk (σ.set i none) H,ct:=λσ H=>D.ct (σ.set i none) H }
theorem UW {M:Model}{A:Around}{E:Value->Shared->Prop}{Q:Unit->Shared->Prop}{x T:Addr}{cls:Value}(I:Inv X zz σ H s)(hx:H x=some (.ext (cT x T cls)))(hT:H T=some (.ext (fz T)))
  (h:∀s',Inv X zz σ H s'->Q () s'):wpAny M A (setFlight (.ref x) none) Q E s:=by
 obtain⟨⟨oe,vs,f1,f2,f3,f4⟩,_⟩:=I.af x _ hx
 obtain⟨⟨oT,ts,g1,g2,g3⟩,_⟩:=I.af T _ hT
 have hsz:3<ts.size:=by
  obtain⟨z,_⟩:=Array.getElem?_eq_some_iff.mp g3
  exact z
 have mf:Obj.mapFields (·.setIfInBounds 3 .none) oT={ oT with data:=.fields (ts.setIfInBounds 3 .none) }:=by
  obtain⟨oc,od,da,sl⟩:=oT
  obtain rfl:da=_:=g2
  rfl
 have up:(s.heap.update T (Obj.mapFields (·.setIfInBounds 3 .none))).get? T=some { oT with data:=.fields (ts.setIfInBounds 3 .none) }:=by
  rw[Heap.get?_update_self _ g1 (by rw[mf];rfl),mf]
 refine wpAny_setFlight_none f1 f3 f4 g1 g2 hsz (h _ ?_)
 have J:=I.write (x:=T) (e:=T) (o:=.ext (fz T)) (t':=s.toks) (h':=s.heap.update T (Obj.mapFields (·.setIfInBounds 3 .none))) (by rw[hT];trivial) (.inl rfl) ?_ ?_ ?_
 .have:upd H T (.ext (fz T))=H:=by
   funext b
   by_cases hb:b=T
   .subst hb;rw[qW];exact hT.symm
   .exact qB hb
  rw[this] at J
  exact J
 .exact λb u hb e=>by rw[Heap.get?_update_other _ _ (Ne.symm hb)];exact e
 .exact⟨_,up⟩
 .exact⟨⟨_,_,up,rfl,by rw[Array.getElem?_setIfInBounds];simp[hsz]⟩,⟨_,up⟩,λh1 h2 ⟨o,ws,e1,e2⟩ z=>⟨o,ws,z o e1,e2⟩⟩
theorem UX {D:Ends}{x T C C0:Addr}{bm u9:List Value}{cn n:Str}{np pos:Pos}{i:Nat}{b0:Stmt}{fj:List Stmt}{rest:List ExceptHandler}{ts:TS}(I:Inv X zz σ H s)(hx:H x=some (.ext (cT x T (.ref C))))(hT:H T=some (.ext (fz T)))
  (hN:X.N.Nodup) (hi:X.N[i]? = some n) (hk:X.env.scope.names.lookup n=some .local) (hg:Gl X cn) (hm:X.mg cn=some (.ref C0)) (c1:ExcAt X.base C bm) (c2:ExcAt X.base C0 u9) (hit:(Value.ref C::bm).contains (.ref C0)=true)
  (hs:dR (X.row (.ref x)) (b0::fj) ts) (q:ts (D.drop i) (σ.set i (some (.ref x))) H) (dy:(cn == ("__debug__" : Str))=false:=by decide):
  wpAny (model X.prog X.w) X.A (handleBy (.ref x) X.env (.ExceptHandler (some (.Name cn np)) (some n) (b0::fj) pos::rest)) (SP X zz D) X.xe s:=by
 refine wpAny_handleBy_cons (codeAny_handlers_test ?_) (by intro z;cases z)
 have IR:=I.row (.ref x)
 obtain⟨⟨oe,vs,f1,f2,f3,f4⟩,_⟩:=I.af x _ hx
 refine wJ (X:=X.row (.ref x)) IR hg hm (US (c1.keeps I.bk) (c2.keeps I.bk) f1 f2 ?_) dy
 rw[hit]
 refine codeAny_handlers_suite_as (UW IR hx hT λs1 I1=>vK (X:=X.row (.ref x)) (v:=.ref x) I1 hN hi (.inl hk) rfl (λs2 I2=>?_) (.inr hk))
 refine wpAny_mono (hs zz s2 _ H (D.drop i) I2 q) (λf s3 h3=>?_) λ_ _ z=>False.elim z
 cases f with
 | next=>
  obtain⟨σ',H',J,z⟩:=h3
  exact vG (J.unrow I.ok) hN hi hk λs4 J4=>⟨_,H',J4,z⟩
 | brk=>
  obtain⟨σ',H',J,z⟩:=h3
  exact vG (J.unrow I.ok) hN hi hk λs4 J4=>⟨_,H',J4,z⟩
 | cont=>
  obtain⟨σ',H',J,z⟩:=h3
  exact vG (J.unrow I.ok) hN hi hk λs4 J4=>⟨_,H',J4,z⟩
 | ret u=>
  obtain⟨v,σ',H',J,r,z⟩:=h3
  exact vG (J.unrow I.ok) hN hi hk λs4 J4=>⟨v,_,H',J4,r,z⟩
def GL (base:Heap)(C0:Addr)(i:Nat)(ts:TS)(D:Ends):XE:=λσ1 cls H1=>∃C bm,cls=.ref C/\ExcAt base C bm/\(Value.ref C::bm).contains (.ref C0)=true/\
 ∀x T,H1 x=none->H1 T=none->T≠x->ts (D.drop i) (σ1.set i (some (.ref x))) (held H1 x T (.ref C))
def Cc (base:Heap)(C0:Addr)(i:Nat)(tb:XE->TS)(ts:TS):TS:=λD σ H=>tb (GL base C0 i ts D) D σ H
theorem UY {outer:List Env}{body fj:List Stmt}{b0:Stmt}{C0:Addr}{u9:List Value}{cn n:Str}{np hpos pos:Pos}{i:Nat}{tb:XE->TS}{ts:TS}(hex:X.ex=[])(fZ:X.stack=X.env::outer)(hf:X.env.frame=some X.env.locals)
  (hN:X.N.Nodup) (hi:X.N[i]? = some n) (hk:X.env.scope.names.lookup n=some .local) (hg:Gl X cn) (hm:X.mg cn=some (.ref C0)) (c2:ExcAt X.base C0 u9) (hb:MH X body tb) (hs:∀x,dR (X.row (.ref x)) (b0::fj) ts) (dy:(cn == ("__debug__" : Str))=false:=by decide):
  PS X (.Try body [.ExceptHandler (some (.Name cn np)) (some n) (b0::fj) hpos] [] [] pos) (Cc X.base C0 i tb ts):=by
 intro zz s σ H D I h
 rw[arm_exec_Try]
 refine yYX (wpAny_standAt (UN (wpAny_mono (hb zz s σ H D _ I h) (λf s1 q=>?_) λe s1 q=>?_)))
 .cases f with
  | next=>exact wpAny_execs_nil q
  | _=>exact q
 .refine q.caught hex fZ hf λx T cls σ1 H1 h' ee hx hT ne ⟨C,bm,ec,c1,hit,q1⟩ J=>?_
  subst ee ec
  exact UX J (qW ..) ((qB ne).trans (qW ..)) hN hi hk hg hm c1 c2 hit (hs x) (q1 x T hx hT ne) dy
end
end L2
namespace L2
open PySem PySem.Spec PySem.W
section
variable {prog:Program}{w:World}{A:Around}{E:Value->Shared->Prop}{h:Heap}{g:Array GenState}{d:Drawn}{t:Nat}{os:OsState}{a C:Addr}{o:Obj}{bm:List Value}
theorem UZ {R:Result->Shared->Prop}(hx:h.get? a=some o)(hc:o.cls=.ref C)(hC:ExcAt h C bm)(ob:bm.contains (.type "object")=true)(hq:R (.ok (.ret (.ref C))) ⟨h,g,d,t,os⟩):
  codeAny (model prog w) A (.call (.builtin "getset_descriptor.__get__") ⟨[.builtin "object.__class__",.ref a,.ref C],[]⟩) R ⟨h,g,d,t,os⟩:=by
 obtain⟨b1,nm,q,N,bs,hd,sn,su,ab,cl,dd,k0,k1,k2,k3,k5,qp,eC⟩:=hC
 have t5:(⟨h,g,d,t,os⟩:Shared).TypeIs (.builtin "object.__class__") "getset_descriptor" := F.typeOf_object_class
 have cB:(Value.ref C::bm).contains (.type (".".intercalate ("object.__class__".cutAt '.').dropLast))=true:=by rw[F.owner_object_class,List.contains_cons,ob];rfl
 refine codeAny_call_builtin F.slot_gs_get.plain F.entry_gs_get (F.slot_gs_get.check _ _ _ _ _ _ _ _ t5 (F.args_gs_get _ _ _) ?_)
 repeat (any_goals (first | assumption | (with_reducible refine wpAny_loadPart_at hx ?_;rw[hc]) | (with_reducible refine wpAny_isSubtype_exc eC ?_;rw[cB]) | wp_step))
 refine⟨Code.quiet_builtin _ (by wtm_at"d"),?_⟩
 refine codeAny_builtin F.entry_object_class ?_
 repeat (any_goals (first | assumption | (with_reducible refine wpAny_loadPart_at hx ?_;rw[hc]) | wp_step))
theorem U0 {tk:Tok}{Q:Fin->Shared->Prop}(hx:h.get? a=some o)(hc:o.cls=.ref C)(hC:ExcAt h C bm)(ob:bm.contains (.type "object")=true)(l3:Looks (model prog w) h (typeLookup (.ref C) "__class__") (some (.builtin "object.__class__")))(hq:Q (.done (.ret (.ref C))) ⟨h,g,d,t,os⟩):
  wpAny (model prog w) A
   (Builtin.«object.__getattribute__» ⟨[.ref a,.str "__class__" tk],[]⟩) Q E ⟨h,g,d,t,os⟩:=by
 have t5:(⟨h,g,d,t,os⟩:Shared).TypeIs (.builtin "object.__class__") "getset_descriptor" := F.typeOf_object_class
 have ft:=F.typeOf_object_class
 have fg:=F.slot_gs_get.lookup
 have fs:=F.slot_gs_set.lookup
 repeat (any_goals (first | assumption | (with_reducible refine wpAny_loadPart_at hx ?_;rw[hc]) | with_reducible refine l3.at ?_ | wp_step))
 refine UZ hx hc hC ob ?_
 repeat any_goals (first | assumption | wp_step)
theorem U1 {M:Model}{nv:Value}{Q:Unit->Shared->Prop}(hx:h.get? a=some o)(hc:o.cls=.ref C)(hC:ExcAt h C bm)(hq:Q () ⟨h,g,d,t,os⟩):wpAny M A (checkBuiltinCall "BaseException.__getattribute__" ⟨[.ref a,nv],[]⟩) Q E ⟨h,g,d,t,os⟩:=by
 have e1:builtinKind "BaseException.__getattribute__" = some .slot:=by wtm_at"d"
 have e2:splitId "BaseException.__getattribute__" = some ("BaseException","__getattribute__"):=by wtm_at"d"
 obtain⟨b1,nm,q,N,bs,hd,sn,su,ab,cl,dd,k0,k1,k2,k3,k5,qp,eC⟩:=hC
 have cB:(Value.ref C::bm).contains (.type "BaseException")=true:=by rw[List.contains_cons,b1];rfl
 have e3:=F.args_bexc_ga (.ref a) nv
 simp only[checkBuiltinCall,e1,e2]
 refine yYX ?_
 unfold isInstance
 repeat (first | (with_reducible refine wpAny_loadPart_at hx ?_;rw[hc]) | (with_reducible refine wpAny_isSubtype_exc eC ?_;rw[cB]) | wp_step)
 exact hq
theorem U2 {tk:Tok}{R:Result->Shared->Prop}(hx:h.get? a=some o)(hc:o.cls=.ref C)(hC:ExcAt h C bm)(ob:bm.contains (.type "object")=true)(l3:Looks (model prog w) h (typeLookup (.ref C) "__class__") (some (.builtin "object.__class__")))(hq:R (.ok (.ret (.ref C))) ⟨h,g,d,t,os⟩):
  codeAny (model prog w) A (.call (.builtin "BaseException.__getattribute__") ⟨[.ref a,.str "__class__" tk],[]⟩) R ⟨h,g,d,t,os⟩:=
 codeAny_call_builtin PySem.F.attrBase_ValueError.ga.plain F.entry_bexc_ga (U1 hx hc hC (U0 hx hc hC ob l3 hq))
theorem U3 {tk:Tok}{Q:Value->Shared->Prop}(hx:h.get? a=some o)(hc:o.cls=.ref C)(hC:ExcAt h C bm)(ob:bm.contains (.type "object")=true)(l1:Looks (model prog w) h (typeLookup (.ref C) "__getattribute__") (some (.builtin "BaseException.__getattribute__")))
  (l2:Looks (model prog w) h (typeLookup (.ref C) "__getattr__") none) (l3:Looks (model prog w) h (typeLookup (.ref C) "__class__") (some (.builtin "object.__class__"))) (hq:Q (.ref C) ⟨h,g,d,t,os⟩):
  wpAny (model prog w) A (getAttrBy (.ref a) (.str "__class__" tk) false) Q E ⟨h,g,d,t,os⟩:=by
 have f3:=PySem.F.attrBase_ValueError.ga.bind (.ref a)
 have h2:(Value.builtin "BaseException.__getattribute__" == Value.builtin "object.__getattribute__")=false:=by wtm_at"d"
 have h1:(onTheHeap (Value.ref C) && Value.builtin "BaseException.__getattribute__" == Value.builtin "object.__getattribute__")=false:=by rw[h2];rfl
 have h0:(false && onTheHeap (Value.builtin "BaseException.__getattribute__"))=false:=rfl
 repeat (any_goals (first | assumption | (with_reducible refine wpAny_loadPart_at hx ?_;rw[hc]) | with_reducible refine l1.at ?_ | with_reducible refine l2.at ?_ | wp_step))
 refine U2 hx hc hC ob l3 ?_
 repeat any_goals (first | assumption | wp_step)
theorem U4 {Q:Option Value->Shared->Prop}(hx:h.get? a=some o)(hc:o.cls=.ref C)(hC:ExcAt h C bm)(ob:bm.contains (.type "object")=true)(l1:Looks (model prog w) h (typeLookup (.ref C) "__getattribute__") (some (.builtin "BaseException.__getattribute__")))
  (l2:Looks (model prog w) h (typeLookup (.ref C) "__getattr__") none) (l3:Looks (model prog w) h (typeLookup (.ref C) "__class__") (some (.builtin "object.__class__"))) (hq:Q (some (.ref C)) ⟨h,g,d,t+1,os⟩):
  wpAny (model prog w) A (getAttr? (.ref a) "__class__") Q E ⟨h,g,d,t,os⟩:=by
 unfold getAttr? getAttrBy?
 repeat (any_goals (first | assumption | with_reducible apply U3 hx hc hC ob l1 l2 l3 | wp_step))
end
def Cd (x C:Addr)(h:Heap):Prop:=∃o,h.get? x=some o/\o.cls=.ref C
theorem MI {K:Frag}{x C:Addr}{bm:List Value}(hC:∀h,K.In h->ExcAt h C bm)(ob:bm.contains (.type "object")=true)(l1:findIn K (.ref C) "__getattribute__" = some (some (.builtin "BaseException.__getattribute__")))
  (l2:findIn K (.ref C) "__getattr__" = some none) (l3:findIn K (.ref C) "__class__" = some (some (.builtin "object.__class__"))):KitX K (.ref x) (.ref C) (Cd x C) where
 ty:=λ_ _ _ ⟨o,h1,h2⟩=>h2▸(Looks.ld h1).andThen .now
 it:=λ_ h X _=>by
  obtain⟨_,nm,q,N,bs,hd,sn,su,ab,cl,dd,k0,k1,k2,k3,k5,qp,eC⟩:=hC h X
  intro A' Q' E' s' k q
  unfold isType loadHead
  exact yYX (wpAny_loadPart (k _ _ eC) (yYY q))
 ne:=λh tp _ _ _ _ X htp=>by
  obtain⟨_,nm,q,N,bs,hd,sn,su,ab,cl,dd,k0,k1,k2,k3,k5,qp,eC⟩:=hC h X
  refine Bool.eq_false_iff.mpr λz=>?_
  have e:C=tp:=Value.ref.inj (beq_iff_eq.mp z)
  rw[<- e,eC] at htp
  have z2:=congrArg (λo=>Option.map Obj.data o) htp
  cases z2
 ca:=λ{_ _ _ _ _ s} X ⟨o,h1,h2⟩ k=>by
  obtain⟨h,g,d,t,os⟩:=s
  exact U4 h1 h2 (hC h X) ob (looks_findIn X l1) (looks_findIn X l2) (looks_findIn X l3) k
structure mC (K:Frag)(C:Addr)(bm:List Value):Prop where
 at':∀h,K.In h->ExcAt h C bm
 ob:bm.contains (.type "object")=true
 l1:findIn K (.ref C) "__getattribute__" = some (some (.builtin "BaseException.__getattribute__"))
 l2:findIn K (.ref C) "__getattr__" = some none
 l3:findIn K (.ref C) "__class__" = some (some (.builtin "object.__class__"))
section
variable {X:Cx}
theorem U5:aL X (.builtin "isinstance") (λxs H Q=>∃x T C bm D b,xs=[.ref x,.ref D]/\H x=some (.ext (cT x T (.ref C)))/\mC X.K C bm/\kitOne X.K (.ref C) (.ref D)=some b/\Q (.bl b) H):=by
 intro zz s σ H xs us Q I r h
 obtain⟨x,T,C,bm,D,b,rfl,hx,ak,e,q⟩:=h
 obtain⟨u,v,rfl,ru,rv⟩:=vals2 r
 cases ru
 cases rv
 obtain⟨⟨o,vs,h1,h2,_⟩,_⟩:=I.af x _ hx
 exact kia_one (MI ak.at' ak.ob ak.l1 ak.l2 ak.l3) I.dq ⟨o,h1,h2⟩ e (λz=>nomatch z) λtk=>⟨.bl b,H,I.tok _,rfl,q⟩
theorem U6:aL X (.builtin "isinstance") (λxs H Q=>∃x T C bm D b,xs=[.ref x,.ty D]/\H x=some (.ext (cT x T (.ref C)))/\mC X.K C bm/\kitOne X.K (.ref C) (.type D)=some b/\Q (.bl b) H):=by
 intro zz s σ H xs us Q I r h
 obtain⟨x,T,C,bm,D,b,rfl,hx,ak,e,q⟩:=h
 obtain⟨u,v,rfl,ru,rv⟩:=vals2 r
 cases ru
 cases rv
 obtain⟨⟨o,vs,h1,h2,_⟩,_⟩:=I.af x _ hx
 exact kia_one (MI ak.at' ak.ob ak.l1 ak.l2 ak.l3) I.dq ⟨o,h1,h2⟩ e (λz=>nomatch z) λtk=>⟨.bl b,H,I.tok _,rfl,q⟩
end
end L2
namespace L2
open PySem PySem.Spec PySem.W PyProof.Rows
abbrev gc:List Value:=[.type "ValueError",.type "Exception",.type "BaseException",.type "object"]
def MJ (es:List DictEntry):Bool:=es.all λe=>match e.key with | .str _ _=>true | _=>false
structure Ref (K:Frag)(mg:Str->Option Value)(x:Str)(C:Addr)(bm:List Value):Prop where
 bd:mg x=some (.ref C)
 own:∀h,K.In h->OwnCls x C gc "ValueError.__new__" mg h
 asks:mC K C bm
 tail:∀h,K.In h->OwnTail h gc (.ref C::bm)
theorem U7 {K:Frag}{h:Heap}{mg:Str->Option Value}{x:Str}{C N:Addr}{nm q:Str}{bs bm:List Value}{hd:Bool}{sn:List Str}{su:List Value}{ab:Bool}{cl:Option Bool}{dd nd:Option Addr}{k0 k1 k2 k3 k5:Option Value}{nc:Value}{es:Array DictEntry}{ne:Nat}{ns:Array (Option Value)}
  (X:K.In h) (G:h.Ns Yd mg) (t:∀h,K.In h->OwnTail h gc bm) (a:nsIn K Yd x=some (some (.ref C))) (l:K.lookup C=some (excClassObj nm q C N bs bm hd sn su ab cl dd k0 k1 k2 k3 k5 "ValueError.__new__"))
  (lN:K.lookup N=some ⟨nc,nd,.dict es ne,ns⟩) (ok:MJ es.toList=true) (ni:nsIn K N "__init__" = some none)
  (l1:findIn K (.ref C) "__getattribute__" = some (some (.builtin "BaseException.__getattribute__"))) (l2:findIn K (.ref C) "__getattr__" = some none) (l3:findIn K (.ref C) "__class__" = some (some (.builtin "object.__class__"))):Ref K mg x C bm:=by
 have j5:nsOkIn K N=true:=by
  unfold nsOkIn
  rw[lN]
  show es.all _=true
  rw[<- Array.all_toList]
  exact ok
 refine⟨mg_of X G a,λbase Y=>?_,⟨λbase Y=>⟨?_,?_⟩,?_,l1,l2,l3⟩,λbase Y=>?_⟩
 .exact⟨mg_of X G a,bm,N,nm,q,bs,hd,sn,su,ab,cl,dd,k0,k1,k2,k3,k5,_,Y _ _ l,.of_isNs (isNs_of_in Y j5),nsMap_none_of_in Y j5 ni,t base Y⟩
 .exact(t base Y).hasType rfl
 .exact⟨nm,q,N,bs,hd,sn,su,ab,cl,dd,k0,k1,k2,k3,k5,_,Y _ _ l⟩
 .exact(t h X).hasType rfl
 .exact .own (Y _ _ l) (.of_isNs (isNs_of_in Y j5)) (nsMap_none_of_in Y j5 ni) (t base Y)
end L2
namespace L2
open PySem PySem.Spec PySem.W PyProof.Rows
structure Dx (P:Program)(w:World)(K:Frag)(mg:Str->Option Value)(base:Heap)(x:Str)(k:Nat)(ps:List Str)(sp:Sp):Prop where
 ex:∃f fd,aT P w K mg base (dw P w) k f fd ps sp/\mg x=some (.ref f)/\keepIn K (.ref f)=true/\Binds K fd ps []
section
variable {P:Program}{w:World}{K:Frag}{mg:Str->Option Value}{base:Heap}{x:Str}{st:Stmt}{j k:Nat}{N ps:List Str}{sp sp':Sp}
theorem Fd.okx (F:Fd K mg x st ps)(S:xI N ps (xB st))(len:∀vs H Q E,sp vs H Q E->vs.length=ps.length)
  (cC:∀(f:Addr) (zy:Value) (A:Around) (outer:List Env) (s:Shared) (H:Hp) (vs:List V) (Q:VK) (E:XK),aJ k (A.deeper (envOfC x (xB st) s.heap.objs.size f zy))->sp vs H Q E->
   ∃t,dR (aU (dw P w) P w K mg base N x (xB st) f zy A outer s H E) (xC st) t/\t { nx:=λ_ H'=>Q .non H',rt:=Q } (start N vs) H):Dx P w K mg base x (k+1) ps sp:=
 let ⟨f,fd,F,a,b,c⟩:=F.ex
 ⟨f,fd,F.ok1 S len (cC f),a,b,c⟩
end
section
variable {P:Program}{w:World}{K:Frag}{mg:Str->Option Value}{base:Heap}{N:List Str}{qual:Str}{scope:Scope}{f:Addr}{cd:Value}{A:Around}{outer:List Env}{s₀:Shared}{H₀:Hp}{E:XK}{j k:Nat}{ps:List Str}{sp:Sp}{x:Str}{p pos:Pos}{e:Expr}{es:List Expr}{t:TA}
theorem qF (D:Dx P w K mg base x j ps sp)(hr:aJ k (aU (dw P w) P w K mg base N qual scope f cd A outer s₀ H₀ E).A)(ha:PA (aU (dw P w) P w K mg base N qual scope f cd A outer s₀ H₀ E) (e::es) t)(oB:j<=k:=by first | decide | omega)
  (hg:Gl (aU (dw P w) P w K mg base N qual scope f cd A outer s₀ H₀ E) x:=by rfl)
  (dy:(x == ("__debug__" : Str))=false:=by decide) (he:starEach (e::es) (aU (dw P w) P w K mg base N qual scope f cd A outer s₀ H₀ E).env=(false,eval e (aU (dw P w) P w K mg base N qual scope f cd A outer s₀ H₀ E).env)::starEach es (aU (dw P w) P w K mg base N qual scope f cd A outer s₀ H₀ E).env:=by rfl)
  (dv:(backTo pos (starEach es (aU (dw P w) P w K mg base N qual scope f cd A outer s₀ H₀ E).env)).any (·.1)=false:=by rfl):
  PE (aU (dw P w) P w K mg base N qual scope f cd A outer s₀ H₀ E) (.Call (.Name x p) (e::es) [] pos) (iJ sp [] E t):=by
 obtain⟨f',fd,F,a,b,c⟩:=D.ex
 exact wX (F.mono oB) hr hg a b c .nil Ca ha dy he dv
theorem U8 {C:Addr}{np ay:Pos}(O:OwnCls x C gc "ValueError.__new__" mg base)(ha:PA (aU (dw P w) P w K mg base N qual scope f cd A outer s₀ H₀ E) (e::es) t)(hg:Gl (aU (dw P w) P w K mg base N qual scope f cd A outer s₀ H₀ E) x:=by rfl)
  (dy:(x == ("__debug__" : Str))=false:=by decide) (he:starEach (e::es) (aU (dw P w) P w K mg base N qual scope f cd A outer s₀ H₀ E).env=(false,eval e (aU (dw P w) P w K mg base N qual scope f cd A outer s₀ H₀ E).env)::starEach es (aU (dw P w) P w K mg base N qual scope f cd A outer s₀ H₀ E).env:=by rfl)
  (dv:(backTo ay (starEach es (aU (dw P w) P w K mg base N qual scope f cd A outer s₀ H₀ E).env)).any (·.1)=false:=by rfl) (hc:(aU (dw P w) P w K mg base N qual scope f cd A outer s₀ H₀ E).calm=true:=by rfl):
  PS (aU (dw P w) P w K mg base N qual scope f cd A outer s₀ H₀ E) (.Raise (some (.Call (.Name x np) (e::es) [] ay)) none pos) (mB C t E):=
 UL O PySem.F.excBase_ValueError hg hc o5 ha dy he dv
end
section
variable {X:Cx}{P:Program}{w:World}{K:Frag}{mg:Str->Option Value}{base:Heap}{j k:Nat}{ps:List Str}{sp:Sp}{x:Str}{p pos:Pos}{e:Expr}{es:List Expr}{t:TA}
theorem U9 (D:Dx P w K mg base x j ps sp)(hr:aJ k X.A)(ha:PA X.lE (e::es) t)(oB:j<=k:=by first | decide | omega)(hg:Gl X x:=by rfl)
  (h1:X.prog=P:=by rfl) (h2:X.w=w:=by rfl) (h3:X.K=K:=by rfl) (h4:X.mg=mg:=by rfl) (h5:X.base=base:=by rfl)
  (dy:(x == ("__debug__" : Str))=false:=by decide) (he:starEach (e::es) X.env=(false,eval e X.env)::starEach es X.env:=by rfl) (dv:(backTo pos (starEach es X.env)).any (·.1)=false:=by rfl):
  GJ X (.Call (.Name x p) (e::es) [] pos) (qo sp [] t):=by
 subst h1 h2 h3 h4 h5
 obtain⟨f,fd,F,a,b,c⟩:=D.ex
 exact UP (F.mono oB) hr hg a b c .nil ha dy he dv
end
theorem vC {X:Cx}{K:Frag}{mg:Str->Option Value}{x:Str}{C:Addr}{bm:List Value}{pos:Pos}(R:Ref K mg x C bm)(hg:Gl X x:=by rfl)(hm:X.mg=mg:=by rfl)(hd:(x == ("__debug__" : Str))=false:=by decide):PE X (.Name x pos) (tC (.ref C)):=by
 subst hm
 exact KP (v:=.ref C) hg R.bd rfl hd
def GN:R2:=λx y H Q=>y=.non/\Q (.bl (decide (x=.non))) H
def Ce (K:Frag):List V->Hp->VK->Prop:=λxs H Q=>∃x T C bm D b,xs=[.ref x,.ref D]/\H x=some (.ext (cT x T (.ref C)))/\mC K C bm/\kitOne K (.ref C) (.ref D)=some b/\Q (.bl b) H
def Cf (K:Frag):List V->Hp->VK->Prop:=λxs H Q=>∃x T C bm D b,xs=[.ref x,.ty D]/\H x=some (.ext (cT x T (.ref C)))/\mC K C bm/\kitOne K (.ref C) (.type D)=some b/\Q (.bl b) H
section
variable {X:Cx}{K:Frag}
theorem MK:eJ X (compareOp .Is) GN:=Qo
theorem jQ (hK:X.K=K:=by rfl):aL X (.builtin "isinstance") (Ce K):=by subst hK;exact U5
theorem U' (hK:X.K=K:=by rfl):aL X (.builtin "isinstance") (Cf K):=by subst hK;exact U6
theorem Va {D:Ends}{i:Nat}{σ:St}{H:Hp}(h:D.nx (σ.set i none) H):(D.drop i).nx σ H:=h
end
theorem Vb:bootBuiltins "ValueError" = some (.type "ValueError"):=by wtm_at"d"
end L2
namespace L2
open PySem PySem.Spec PyProof.Rows
section
variable {X:Cx}{tg:Expr}
def Em (d:Addr)(o:Obj)(kvs:List (Key×V)):It:=
 ⟨λi H=>i<kvs.length/\H d=some (.frz o (.dK kvs)),λi H x H'=>H'=H/\∃k v,kvs[i]? = some (k,v)/\x=kV k,λi H=>kvs.length<=i/\H d=some (.frz o (.dK kvs))⟩
theorem ML {k:Key}{v:Value}(h:dU k v=true):RelV (kV k) v:=by
 rcases zY h with⟨i,t,rfl,rfl⟩ | ⟨x,t,rfl,rfl⟩
 .exact⟨t,rfl⟩
 .exact⟨t,rfl⟩
theorem En {P:Program}{w:World}{H:Hp}{h:Heap}{d:Addr}{o:Obj}{kvs:List (Key×V)}{es:Array DictEntry}{ep:Nat}(hd:o.data=.dict es ep)(x:ao P w H h d (.frz o (.dK kvs))):
  ∃vs,KV kvs vs/\h.DictAt (xH P w) d vs ep:=by
 obtain⟨e,_,_,vs,r,o',bC,dt,e',c,d',k⟩:=x
 rw[e] at e'
 cases e'
 rw[hd] at d'
 cases d'
 exact⟨vs,r,o,es,e,c,hd,k⟩
theorem Vc {P:Program}{w:World}{K:aq}{tg:Expr}(it d:Addr)(o:Obj)(kvs:List (Key×V))(es:Array DictEntry)(ep:Nat)(hd:o.data=.dict es ep):Turn P w K tg (Em d o kvs) [it] it (λi h=>h.IsKeyIter it d i kvs.length ep) where
 mem:=by simp
 obj:=λi h st b hb=>by
  have e:b=it:=by simpa using hb
  subst e
  obtain⟨o,e,c,d⟩:=st
  exact⟨o,e,λv z=>by rw[d] at z;cases z⟩
 keep:=λi h h' st k=>st.at λo e=>k it (by simp) o e
 item:=by
  intro X hP hw hK hc i zz s σ H E I hf st hg
  subst hP hw hK
  obtain⟨hi,hH⟩:=hg
  obtain⟨f0,f1,f2,f3,f4,f5⟩:=hf it (by simp)
  obtain⟨vs,r,da⟩:=En hd (I.af d _ hH)
  have lv:=Paired.length r
  have qq:i<vs.length:=by omega
  have pr:=xV r (aH hi) (aH qq)
  rw[lv] at st
  refine wpAny_pyNext_dict_item (knd:=xH X.prog X.w) (k:=vs[i].1) (v:=vs[i].2) st da (aH qq) λkey h' g9 c6 sb=>?_
  have I1:Inv X zz σ H { s with heap:=h' }:=I.turned (t':=s.toks) (λb o hb e=>(sb.2 b hb).trans e) f0 f1 f3 f4 f5
  obtain⟨o',e,c,d'⟩:=id c6
  rw[<- lv] at c6
  refine⟨_,rfl,Bf (s:={ s with heap:=h' }) e c d' (by decide) ⟨kV vs[i].1,H,I1,ML g9,⟨rfl,kvs[i].1,kvs[i].2,aH hi,by rw[pr.1]⟩,c6,λb hb=>(hf b hb).1⟩⟩
 done:=by
  intro X hP hw hK hc i zz s σ H E I hf st hg
  subst hP hw hK
  obtain⟨hi,hH⟩:=hg
  obtain⟨f0,f1,f2,f3,f4,f5⟩:=hf it (by simp)
  obtain⟨vs,r,da⟩:=En hd (I.af d _ hH)
  have lv:=Paired.length r
  rw[lv] at st
  exact wpAny_pyNext_dict_end (knd:=xH X.prog X.w) (I.ok.hd hc) st da (List.getElem?_eq_none (by omega)) λh' eb=>⟨rfl,I.turned (t':=s.toks) (λb o hb e=>eb b o hb e) f0 f1 f3 f4 f5⟩
 self:=λ_ _ _ _ _ st h=>wpAny_pyIter_keyiter st h
end
section
variable {k:Nat}{js:List Nat}{g:TG}{tt:TT}{te:TE}{σ:St}{H1:Hp}{Q:VK}
theorem MM {d:Addr}{o:Obj}{kvs:List (Key×V)}(Pv:Addr->Nat->List V->Hp->Prop)(h0:∀D,H1 D=none->Pv D 0 [] (upd H1 D (.lst [])))
  (hl:∀D i ys H,i<=kvs.length->Pv D i ys H->H d=some (.frz o (.dK kvs)))
  (hs:∀D i q v ys H (N:List V->Hp->Prop),H1 D=none->H D=some (.lst ys)->kvs[i]? = some (q,v)->Pv D i ys H->(∀zs H',H' D=some (.lst zs)->Pv D (i+1) zs H'->N zs H')->dJ k js g tt te σ D (kV q) ys H N)
  (hd:∀D ys H,H1 D=none->H D=some (.lst ys)->Pv D kvs.length ys H->Q (.ref D) H):fM k js g tt te (Em d o kvs) σ H1 Q:=by
 intro D hD
 refine⟨λi m ys H=>m=kvs.length - i/\i<=kvs.length/\H D=some (.lst ys)/\Pv D i ys H,⟨kvs.length,by simp,yZG _,qW,h0 D hD⟩,?_⟩
 rintro i m ys H ⟨rfl,hi,aD,p⟩
 refine⟨aD,?_⟩
 have z:=hl D i ys H hi p
 by_cases bc:i<kvs.length
 .refine .inr ⟨⟨bc,z⟩,λx H' y=>?_⟩
  obtain⟨e,q,v,ec,y⟩:=y
  subst e y
  exact hs D i q v ys _ (λzs H'=>∃m',m'<kvs.length - i/\m'=kvs.length - (i+1)/\i+1<=kvs.length/\H' D=some (.lst zs)/\Pv D (i+1) zs H') hD aD ec p λzs H' e p'=>⟨kvs.length - (i+1),by omega,rfl,bc,e,p'⟩
 .have e:i=kvs.length:=by omega
  subst e
  exact .inl ⟨⟨yZD _,z⟩,hd D ys H hD aD p⟩
end
end L2
namespace L2
open PySem PySem.Spec PyProof.Rows
theorem Vd {c:TT}{tb:TS}{D:Ends}{σ:St}{H:Hp}(h:∀R:Bool->Hp->Prop,R false H->c σ H R)(q:D.nx σ H):lW c tb D σ H:=
 ⟨λ_ σ' H'=>σ'=σ/\H'=H,⟨0,rfl,rfl⟩,λm σ' H' e=>by
  obtain⟨rfl,rfl⟩:=e
  exact h _ (bO q)⟩
theorem aa.set {H H1:Hp}{r:Addr}{o:HO}(S:aa H H1)(n:H r=none):aa H (upd H1 r o):=λb u e=>by rw[qB (qC e n)];exact S _ _ e
theorem wE {σ:St}{H:Hp}{R:Bool->Hp->Prop}(q:R true H):gD σ H R:=q
end L2
namespace DT
open PySem PyProof.Rows
section
variable {prog:Program}{w:World}{A:Around}{E:Value->Shared->Prop}{s:Shared}{d I:Addr}{o:Obj}{es:Array DictEntry}{ep:Nat}
theorem sI {i:Nat}(hh:A.handled=none)(hit:s.heap.IsKeyIter I d i es.size ep)(D:At s.heap d o es ep)(GO:es.size<=i){Q:Option Value->Shared->Prop}
  (h:∀h',Heap.ExtBut I s.heap h'->Q none { s with heap:=h' }):wpAny (model prog w) A (pyNext (.ref I)) Q E s:=by
 obtain⟨oi,e1,e2,e3⟩:=id hit
 have T:=hit.typeIs
 unfold pyNext
 refine yYX (wpAny_attempt (wpAny_callSpecial?_slot (name:=Yb "__next__") T F.slot_dict_keyiterator_next (wpAny_call_entry F.slot_dict_keyiterator_next T F.entry_dict_keyiterator_next ?_ (F.args_dict_keyiterator_next_1 _))))
 refine yYX (yYY (yYX (yYX (yYX ?_))))
 refine wpAny_typeNameOfWhole_keyiter T (yYY (yYX (wpAny_fieldsOf e1 e3 ?_)))
 rw[show Builtin.Dict_items.ownsTuple "dict_keyiterator" = false by decide]
 simp only[bL,if_false]
 show wpAny _ _ (if (Value.ref d == Value.none)=true then _ else _) _ _ s
 refine wpAny_ite_split (λz=>absurd z cj) λ_=>?_
 refine yYX (yYY (yYX (wpAny_dictEntries D.at' D.data ?_)))
 refine wpAny_ite_split (λz=>absurd z (by simp)) λ_=>?_
 refine yYX (yYY (yYX (wpAny_dictEpoch D.at' D.data ?_)))
 refine wpAny_ite_split (λz=>absurd z (by simp)) λ_=>?_
 refine yYY ?_
 simp only[show¬((i:Int)<0) from by omega,if_false,Int.toNat_natCast,Array.getElem?_eq_none GO]
 refine yYX (yYX (wpAny_typeNameOfWhole_keyiter T (yYY ?_)))
 show wpAny _ _ (setField (.ref I) 0 .none >>= _) _ _ s
 refine yYX (wpAny_setField e1 e3 (by simp) ?_)
 show wpAny _ _ (newExc (.type "StopIteration") [] >>= _) _ _ _
 refine yYX ?_
 simp only[newExc,newTuple]
 refine yYX (wpAny_newObj_type ?_ (by size_fits))
 refine yYX (m:=firstArgMember _ _) (wpAny_of_eq (a:=Value.none) (by first | rfl | (simp only[firstArgMember];rfl)) ?_)
 refine wpAny_newObj_type ?_ (by size_fits)
 simp only[raiseNew]
 refine yYX (wpAny_handled ?_)
 rw[show A.in1.handled=none from hh]
 refine yYX (yYY (wpAny_throw ?_))
 refine yYX (wpAny_isInstance (T := "StopIteration") (b:=true) ⟨_,bg _ rfl,rfl⟩ isSubtype_stop ?_)
 exact yYY (h _ (((Heap.SameBut.update ..).extBut.push _).push _))
end
end DT
namespace L2
open PySem PySem.Spec PyProof.Rows
def gL (d:Addr)(o:Obj)(kvs:List (List Key×V)):It:=
 ⟨λi H=>i<kvs.length/\H d=some (.frz o (.dT kvs)),λi H x H'=>H'=H/\∃k v a,kvs[i]? = some (k,v)/\x=.ref a/\H a=some (.tup (k.map kV)),λi H=>kvs.length<=i/\H d=some (.frz o (.dT kvs))⟩
theorem MN {P:Program}{w:World}{H:Hp}{h:Heap}{d:Addr}{o:Obj}{kvs:List (List Key×V)}{es:Array DictEntry}{ep:Nat}(hd:o.data=.dict es ep)(x:ao P w H h d (.frz o (.dT kvs))):
  DT.At h d o es ep/\es.size=kvs.length/\∀(i:Nat) (k:List Key) (v:V),kvs[i]? = some (k,v)->∃(a:Addr) (u:Value),(∃hh:Int,es.toList[i]? = some (DictEntry.mk hh (.ref a) u))/\H a=some (.tup (k.map kV))/\RelV v u:=by
 obtain⟨e,_,_,xs,r,o',bC,dt,e',c,d',e4,_⟩:=x
 rw[e] at e'
 cases e'
 rw[hd] at d'
 cases d'
 have lv:=Paired.length r
 refine⟨⟨e,c,hd⟩,?_,λi k v hk=>?_⟩
 .have:=congrArg List.length e4
  rw[av,eP] at this
  omega
 .have hi:=(aN.mp hk).1
  obtain⟨q,eq⟩:∃q,xs[i]? = some q:=⟨_,aH (by omega)⟩
  obtain⟨_,p2,p3⟩:=xV r hk eq
  refine⟨q.2.1,q.2.2,⟨_,by rw[e4,bb,eq];rfl⟩,p2,p3⟩
section
variable {X:Cx}{tg:Expr}
theorem Ve {P:Program}{w:World}{K:aq}{tg:Expr}(it d:Addr)(o:Obj)(kvs:List (List Key×V))(es:Array DictEntry)(ep:Nat)(hd:o.data=.dict es ep):Turn P w K tg (gL d o kvs) [it] it (λi h=>h.IsKeyIter it d i es.size ep) where
 mem:=by simp
 obj:=λi h st b hb=>by
  have e:b=it:=by simpa using hb
  subst e
  obtain⟨o,e,c,d⟩:=st
  exact⟨o,e,λv z=>by rw[d] at z;cases z⟩
 keep:=λi h h' st k=>st.at λo e=>k it (by simp) o e
 item:=by
  intro X hP hw hK hc i zz s σ H E I hf st hg
  subst hP hw hK
  obtain⟨hi,hH⟩:=hg
  obtain⟨f0,f1,f2,f3,f4,f5⟩:=hf it (by simp)
  obtain⟨D,sz,at_⟩:=MN hd (I.af d _ hH)
  obtain⟨⟨k,v⟩,ek⟩:∃q,kvs[i]? = some q:=⟨_,aH hi⟩
  obtain⟨a,u,⟨hh,ee⟩,ha,_⟩:=at_ i k v ek
  have qq:i<es.size:=by omega
  have GP:es[i].key=.ref a:=by
   rw[lT,Array.getElem?_eq_getElem qq] at ee
   rw[Option.some.inj ee]
  refine DT.next st D qq λh' c6 sb=>?_
  have I1:Inv X zz σ H { s with heap:=h' }:=I.turned (t':=s.toks) (λb o hb e=>(sb.2 b hb).trans e) f0 f1 f3 f4 f5
  obtain⟨o',e,c,d'⟩:=id c6
  rw[GP]
  exact⟨_,rfl,Bf (s:={ s with heap:=h' }) e c d' (by decide) ⟨.ref a,H,I1,rfl,⟨rfl,k,v,a,ek,rfl,ha⟩,c6,λb hb=>(hf b hb).1⟩⟩
 done:=by
  intro X hP hw hK hc i zz s σ H E I hf st hg
  subst hP hw hK
  obtain⟨hi,hH⟩:=hg
  obtain⟨f0,f1,f2,f3,f4,f5⟩:=hf it (by simp)
  obtain⟨D,sz,_⟩:=MN hd (I.af d _ hH)
  have st:s.heap.IsKeyIter it d i es.size ep:=st
  exact DT.sI (I.ok.hd hc) st D (by omega) λh' eb=>⟨rfl,I.turned (t':=s.toks) (λb o hb e=>eb b o hb e) f0 f1 f3 f4 f5⟩
 self:=λ_ _ _ _ _ st h=>wpAny_pyIter_keyiter st h
def ip (tl:TE):TI:=λσ H R=>tl σ H λx H1=>∃d kvs,x=.ref d/\((H1 d=some (.dT kvs)/\∀o,R (gL d o kvs) (upd H1 d (.frz o (.dT kvs))))\/∃o,H1 d=some (.frz o (.dT kvs))/\R (gL d o kvs) H1)
theorem frozen {zz:List (Addr×Obj)}{σ:St}{H:Hp}{s:Shared}{d:Addr}{kvs:List (List Key×V)}{G:Obj->Hp->Prop}(I:Inv X zz σ H s)
  (q:(H d=some (.dT kvs)/\∀o,G o (upd H d (.frz o (.dT kvs))))\/∃o,H d=some (.frz o (.dT kvs))/\G o H):
  ∃o H2 es ep,o.data=.dict es ep/\(d == sysModules)=false/\DT.At s.heap d o es ep/\Inv X zz σ H2 s/\H2 d=some (.frz o (.dT kvs))/\G o H2:=by
 rcases q with⟨hk,q⟩ | ⟨o,hk,q⟩
 .have ok:=I.af d _ hk
  obtain⟨z,hs,xs,r,o,es,ep,e,c,dd,k,nd⟩:=id ok
  have I2:Inv X zz σ (upd H d (.frz o (.dT kvs))) s:=I.write (t':=s.toks) (x:=d) (e:=d) (by rw[hk];exact trivial) (.inl rfl) (λb u hb hu=>hu) ⟨_,e⟩ (by
   refine⟨e,z,hs,xs,Paired.mapP r λp q y=>⟨y.1,?_,y.2.2⟩,o,es,ep,e,c,dd,k,nd⟩
   rw[qB (jC y.2.1 hk (by intro z;cases z))];exact y.2.1)
  exact⟨o,_,es,ep,dd,hs,⟨e,c,dd⟩,I2,qW,q o⟩
 .obtain⟨e,z,hs,xs,r,o',es,ep,e',c,dd,k,nd⟩:=(show ao X.prog X.w H s.heap d (.frz o (.dT kvs)) from I.af d _ hk)
  rw[e] at e'
  cases e'
  exact⟨o,H,es,ep,dd,hs,⟨e,c,dd⟩,I,hk,q⟩
theorem MO {l:Expr}{tl:TE}(hl:PE X l tl):PI X tg l (ip tl):=by
 intro zz s σ H R I h
 refine aF (hl zz s σ H _ I h) λv s1 ⟨x,H1,I1,r1,q1⟩=>?_
 obtain⟨d,kvs,e,q⟩:=q1
 subst e
 cases r1
 obtain⟨o,H2,es,ep,dd,hs,D,I2,hH,q⟩:=frozen I1 q
 refine DT.iter hs D λh' hi kp=>?_
 refine⟨s1.heap.objs.size,[s1.heap.objs.size],_,_,H2,rfl,I2.kept (t':=s1.toks) kp,Ve _ d o kvs es ep dd,hi,λb hb=>?_,q⟩
 have e:b=s1.heap.objs.size:=by simpa using hb
 subst e
 exact I2.fpOk (yZD _) (I2.af.fresh (yZD _))
end
section
variable {k:Nat}{js:List Nat}{g:TG}{tt:TT}{te:TE}{σ:St}{H1:Hp}{Q:VK}
theorem Vf {d:Addr}{o:Obj}{kvs:List (List Key×V)}(Pv:Addr->Nat->List V->Hp->Prop)(h0:∀D,H1 D=none->Pv D 0 [] (upd H1 D (.lst [])))
  (hl:∀D i ys H,i<=kvs.length->Pv D i ys H->H d=some (.frz o (.dT kvs)))
  (hs:∀D i q v a ys H (N:List V->Hp->Prop),H1 D=none->H D=some (.lst ys)->kvs[i]? = some (q,v)->H a=some (.tup (q.map kV))->Pv D i ys H->(∀zs H',H' D=some (.lst zs)->Pv D (i+1) zs H'->N zs H')->dJ k js g tt te σ D (.ref a) ys H N)
  (hd:∀D ys H,H1 D=none->H D=some (.lst ys)->Pv D kvs.length ys H->Q (.ref D) H):fM k js g tt te (gL d o kvs) σ H1 Q:=by
 intro D hD
 refine⟨λi m ys H=>m=kvs.length - i/\i<=kvs.length/\H D=some (.lst ys)/\Pv D i ys H,⟨kvs.length,by simp,yZG _,qW,h0 D hD⟩,?_⟩
 rintro i m ys H ⟨rfl,hi,aD,p⟩
 refine⟨aD,?_⟩
 have z:=hl D i ys H hi p
 by_cases bc:i<kvs.length
 .refine .inr ⟨⟨bc,z⟩,λx H' y=>?_⟩
  obtain⟨e,q,v,a,ec,y,ha⟩:=y
  subst e y
  exact hs D i q v a ys _ (λzs H'=>∃m',m'<kvs.length - i/\m'=kvs.length - (i+1)/\i+1<=kvs.length/\H' D=some (.lst zs)/\Pv D (i+1) zs H') hD aD ec ha p λzs H' e p'=>⟨kvs.length - (i+1),by omega,rfl,bc,e,p'⟩
 .have e:i=kvs.length:=by omega
  subst e
  exact .inl ⟨⟨yZD _,z⟩,hd D ys H hD aD p⟩
end
end L2
namespace DT
open PySem PyProof.Rows
section
variable {prog:Program}{w:World}{A:Around}{E:Value->Shared->Prop}{s:Shared}{d I:Addr}{o:Obj}{es:Array DictEntry}{ep:Nat}
theorem sJ:Builtin.Dict_items.ownsTuple "dict_itemiterator" = true:=by decide
theorem Cg {v:Addr}{Q:Value->Shared->Prop}(hv:s.heap.IsItemsView v d)(D:At s.heap d o es ep)
  (h:∀h',IsItemIter h' s.heap.objs.size d 0 es.size ep .none .none->(∀b o,s.heap.get? b=some o->h'.get? b=some o)->Q (.ref s.heap.objs.size) { s with heap:=h' }):wpAny (model prog w) A (pyIter (.ref v)) Q E s:=by
 obtain⟨ov,e1,e2,e3⟩:=id hv
 refine wpAny_pyIter_slot hv.typeIs F.slot_dict_items_iter (wpAny_call_entry F.slot_dict_items_iter hv.typeIs F.entry_dict_items_iter ?_ (F.args_dict_items_iter_1 _))
 unfold Builtin.«dict_items.__iter__» Builtin.Dict_items.dictOf Builtin.Dict_items.newIterator
 refine yYX (yYY (yYX (yYX (wpAny_field e1 e3 (x:=.ref d) rfl (yYY (yYX (yYX (wpAny_dictEntries D.at' D.data (yYX (wpAny_dictEpoch D.at' D.data ?_))))))))))
 simp only[sJ,if_true]
 refine wpAny_newObj_type (yYY ⟨_,rfl,"dict_itemiterator",_,⟨_,bg _ rfl,rfl⟩,F.slot_dict_itemiterator_next.lookup,?_⟩) (by simp[sizeOk,Builtin.Dict_items.ownedTupleFields,sizeLine_eq])
 exact h _ (bg _ rfl) λb o e=>yYZ _ e
theorem Ci {i:Nat}{x y:Value}(hit:IsItemIter s.heap I d i es.size ep x y)(D:At s.heap d o es ep)(hi:i<es.size){Q:Option Value->Shared->Prop}
  (h:∀h',IsItemIterOut h' I d (i+1) es.size ep es[i].key es[i].val s.heap.objs.size->h'.get? s.heap.objs.size=some { cls:=.type "tuple",data:=.seq #[es[i].key,es[i].val] }->
   (∀b o,b≠I->s.heap.get? b=some o->h'.get? b=some o)->Q (some (.ref s.heap.objs.size)) { s with heap:=h' }):wpAny (model prog w) A (pyNext (.ref I)) Q E s:=by
 have T:s.TypeIs (.ref I) "dict_itemiterator" := ⟨_,hit,rfl⟩
 have lI:I<s.heap.objs.size:=aG hit
 unfold pyNext
 refine yYX (wpAny_attempt (wpAny_callSpecial?_slot (name:=Yb "__next__") T F.slot_dict_itemiterator_next (wpAny_call_entry F.slot_dict_itemiterator_next T F.entry_dict_itemiterator_next ?_ (F.args_dict_itemiterator_next_1 _))))
 refine yYX (yYY (yYX (yYX (yYX ?_))))
 refine wpAny_typeNameOfWhole_itemiter T (yYY (yYX (wpAny_fieldsOf hit rfl ?_)))
 simp only[sJ,if_true]
 show wpAny _ _ (if (Value.ref d == Value.none)=true then _ else _) _ _ s
 refine wpAny_ite_split (λz=>absurd z cj) λ_=>?_
 refine yYX (yYY (yYX (wpAny_dictEntries D.at' D.data ?_)))
 refine wpAny_ite_split (λz=>absurd z (by simp)) λ_=>?_
 refine yYX (yYY (yYX (wpAny_dictEpoch D.at' D.data ?_)))
 refine wpAny_ite_split (λz=>absurd z (by simp)) λ_=>?_
 refine yYY ?_
 simp only[show¬((i:Int)<0) from by omega,if_false,Int.toNat_natCast,Array.getElem?_eq_getElem hi]
 refine yYX (yYX (wpAny_typeNameOfWhole_itemiter T (yYY (yYX (wpAny_isOneOf_itemiter T ?_)))))
 show wpAny _ _ (setField (.ref I) 3 (rawInt ((i:Int)+1)) >>= _) _ _ s
 refine yYX (wpAny_setField_rec hit (by simp) λh1 g1 b1=>?_)
 have g1:IsItemIter h1 I d (i+1) es.size ep x y:=by
  have e:((i+1:Nat):Int)=(i:Int)+1:=by omega
  unfold IsItemIter
  rw[e]
  exact g1
 have z1:h1.objs.size=s.heap.objs.size:=b1.1
 refine yYX (wpAny_holding (yYX (wpAny_isOneOf_itemiter (s:={ s with heap:=h1 }) ⟨_,g1,rfl⟩ (yYX (wpAny_isOneOf_itemiter (s:={ s with heap:=h1 }) ⟨_,g1,rfl⟩ ?_)))))
 show wpAny _ _ (newTuple [es[i].key,es[i].val] >>= _) _ _ { s with heap:=h1 }
 refine yYX (wpAny_newTuple ?_)
 have g2:IsItemIter (h1.push { cls:=.type "tuple",data:=.seq #[es[i].key,es[i].val] }) I d (i+1) es.size ep x y:=yYZ _ g1
 have t2:(h1.push { cls:=.type "tuple",data:=.seq #[es[i].key,es[i].val] }).get? s.heap.objs.size=some { cls:=.type "tuple",data:=.seq #[es[i].key,es[i].val] }:=by
  rw[<- z1];exact bg _ rfl
 have k2:∀b o,b≠I->s.heap.get? b=some o->(h1.push { cls:=.type "tuple",data:=.seq #[es[i].key,es[i].val] }).get? b=some o:=λb o hb e=>yYZ _ (b1.extBut b o hb e)
 show wpAny _ _ (Builtin.Dict_items.ownedTupleIsFree (.ref I) >>= _) _ _ { s with heap:=h1.push { cls:=.type "tuple",data:=.seq #[es[i].key,es[i].val] } }
 rw[z1]
 generalize h1.push { cls:=.type "tuple",data:=.seq #[es[i].key,es[i].val] }=h2 at g2 t2 k2
 unfold Builtin.Dict_items.ownedTupleIsFree
 refine yYX (yYX (wpAny_field g2 rfl (x:=.none) rfl (yYY ?_)))
 simp only[if_true]
 refine yYX (wpAny_field g2 rfl (x:=x) rfl (yYX (wpAny_field g2 rfl (x:=y) rfl (yYX (wpAny_setField_rec g2 (by simp) λh3 g3 b3=>?_)))))
 have g3:IsItemIter h3 I d (i+1) es.size ep es[i].key y:=g3
 refine yYX (wpAny_setField_rec g3 (by simp) λh4 g4 b4=>?_)
 have g4:IsItemIter h4 I d (i+1) es.size ep es[i].key es[i].val:=g4
 refine yYX (wpAny_setField_rec g4 (by simp) λh5 g5 b5=>?_)
 have g5:IsItemIterOut h5 I d (i+1) es.size ep es[i].key es[i].val s.heap.objs.size:=g5
 refine yYX (wpAny_setField_rec g5 (by simp) λh6 g6 b6=>?_)
 have k6:∀b o,b≠I->h2.get? b=some o->h6.get? b=some o:=λb o hb e=>b6.extBut b o hb (b5.extBut b o hb (b4.extBut b o hb (b3.extBut b o hb e)))
 exact yYX (wpAny_letGo (yYY (yYY ⟨_,rfl,yYY (h h6 g6 (k6 _ _ (yZH lI) t2) λb o hb e=>k6 b o hb (k2 b o hb e))⟩)))
theorem Vg {β:Type}{R:β->Shared->Prop}{Q:Option Value->Shared->Prop}(hh:A.handled=none)(h:∀h',(∀b o,s.heap.get? b=some o->h'.get? b=some o)->Q none { s with heap:=h' }):
  wpAny (model prog w) A.in1 (newExc (.type "StopIteration") [] >>= λe=>(raiseNew e:Sem β)) R (λe s'=>wpAny (model prog w) A (isInstance e (.type "StopIteration") >>= λb=>if b=true then pure none else throw e) Q E s') s:=by
 simp only[newExc,newTuple,raiseNew]
 refine yYX (yYX (wpAny_newObj_type (yYX (m:=firstArgMember _ _) (wpAny_of_eq (a:=Value.none) (by first | rfl | (simp only[firstArgMember];rfl)) (wpAny_newObj_type (yYX (wpAny_handled ?_)) (by size_fits)))) (by size_fits)))
 rw[show A.in1.handled=none from hh]
 refine yYX (yYY (wpAny_throw ?_))
 exact yYX (wpAny_isInstance (T := "StopIteration") (b:=true) ⟨_,bg _ rfl,rfl⟩ isSubtype_stop (yYY (h _ λb o e=>yYZ _ (yYZ _ e))))
theorem Cj {i:Nat}{x y:Value}(hh:A.handled=none)(hit:IsItemIter s.heap I d i es.size ep x y)(D:At s.heap d o es ep)(GO:es.size<=i){Q:Option Value->Shared->Prop}
  (h:∀h',Heap.ExtBut I s.heap h'->Q none { s with heap:=h' }):wpAny (model prog w) A (pyNext (.ref I)) Q E s:=by
 have T:s.TypeIs (.ref I) "dict_itemiterator" := ⟨_,hit,rfl⟩
 unfold pyNext
 refine yYX (wpAny_attempt (wpAny_callSpecial?_slot (name:=Yb "__next__") T F.slot_dict_itemiterator_next (wpAny_call_entry F.slot_dict_itemiterator_next T F.entry_dict_itemiterator_next ?_ (F.args_dict_itemiterator_next_1 _))))
 refine yYX (yYY (yYX (yYX (yYX ?_))))
 refine wpAny_typeNameOfWhole_itemiter T (yYY (yYX (wpAny_fieldsOf hit rfl ?_)))
 simp only[sJ,if_true]
 show wpAny _ _ (if (Value.ref d == Value.none)=true then _ else _) _ _ s
 refine wpAny_ite_split (λz=>absurd z cj) λ_=>?_
 refine yYX (yYY (yYX (wpAny_dictEntries D.at' D.data ?_)))
 refine wpAny_ite_split (λz=>absurd z (by simp)) λ_=>?_
 refine yYX (yYY (yYX (wpAny_dictEpoch D.at' D.data ?_)))
 refine wpAny_ite_split (λz=>absurd z (by simp)) λ_=>?_
 refine yYY ?_
 simp only[show¬((i:Int)<0) from by omega,if_false,Int.toNat_natCast,Array.getElem?_eq_none GO]
 refine yYX (yYX (wpAny_typeNameOfWhole_itemiter T (yYY ?_)))
 show wpAny _ _ (setField (.ref I) 2 .none >>= _) _ _ s
 refine yYX (wpAny_setField hit rfl (by simp) ?_)
 exact Vg hh λh' k=>h h' λb o hb e=>k b o ((Heap.SameBut.update ..).extBut b o hb e)
end
end DT
namespace L2
open PySem PySem.Spec PyProof.Rows
theorem Vh:entryFor table "dict_itemiterator.__iter__" = some Builtin.«dict_keyiterator.__iter__»:=entryFor_alias (id' := "dict_keyiterator.__iter__") (by kernel_rfl) rfl (by wtm_at"d") (by kernel_rfl)
end L2
namespace PySem
open PyProof.Rows
section
variable {prog:Program}{w:World}{K:Type}[DecidableEq K]{knd:HeapKind prog w K}{A:Around}
def jK (xs ks:List (K×Addr×Value)):List (K×Addr×Value):=ks.foldl (λacc p=>storedH acc p.1 p.2.1 p.2.2) xs
theorem Vi (xs:List (K×Addr×Value))(k:K)(a:Addr)(v:Value):(storedH xs k a v).length<=xs.length+1:=by
 unfold storedH
 split
 .rw[av];exact Nat.le_succ _
 .rw[bK];exact yZD _
theorem MP:∀(ks xs:List (K×Addr×Value)),(jK xs ks).length<=xs.length+ks.length
 | [],xs=>yZD _
 | p::ks,xs=>by
  have h1:=MP ks (storedH xs p.1 p.2.1 p.2.2)
  have h2:=Vi xs p.1 p.2.1 p.2.2
  show(jK (storedH xs p.1 p.2.1 p.2.2) ks).length<=_
  rw[cP];omega
theorem Vj {ks:List (K×Addr×Value)}{i:Nat}{p:K×Addr×Value}(e:ks[i]? = some p):jK [] (ks.take (i+1))=storedH (jK [] (ks.take i)) p.1 p.2.1 p.2.2:=by
 unfold jK
 rw[c5,e,List.foldl_append];rfl
def iQ (knd:HeapKind prog w K):Prop:=∀(h h':Heap) (k:K) (a:Addr),knd.is h k a->(∀o,h.get? a=some o->h'.get? a=some o)->knd.is h' k a
theorem wD (hs:iQ knd){h h':Heap}{d:Addr}{xs:List (K×Addr×Value)}(D:h.DictOfH knd d xs)(kd:∀o,h.get? d=some o->h'.get? d=some o)(kk:∀x∈xs,∀o,h.get? x.2.1=some o->h'.get? x.2.1=some o):h'.DictOfH knd d xs:=by
 obtain⟨o,es,ep,ho,hc,hd,he,hi,hn⟩:=D
 exact⟨o,es,ep,kd _ ho,hc,hd,he,λx hx=>hs _ _ _ _ (hi x hx) (kk x hx),hn⟩
theorem Vk {ks:List (K×Addr×Value)}:∀{xs:List (K×Addr×Value)},(∀x∈jK xs ks,(∃y∈xs,y.2.1=x.2.1)\/∃y∈ks,y.2.1=x.2.1):=by
 induction ks with
 | nil=>intro xs x hx;exact .inl ⟨x,hx,rfl⟩
 | cons p ks ih=>
  intro xs x hx
  rcases ih x hx with⟨y,hy,e⟩ | ⟨y,hy,e⟩
  .have hy:y∈storedH xs p.1 p.2.1 p.2.2:=hy
   unfold storedH at hy
   split at hy
   .obtain⟨z,hz,rfl⟩:=aZ.mp hy
    refine .inl ⟨z,hz,?_⟩
    rw[<- e]
    unfold putAt
    split <;> rfl
   .rcases fh.mp hy with h | h
    .exact .inl ⟨y,h,e⟩
    .rw[bB.mp h] at e
     exact .inr ⟨p,aW,e⟩
  .exact .inr ⟨y,yYH _ hy,e⟩
theorem Vl {d it:Addr}{fp:List Addr}{ks:List (K×Addr×Value)}{St:Nat->Heap->Prop}{s₀:Shared}(P:eo prog w A.in1 d it fp (ks.map λx=>(.ref x.2.1,x.2.2)) St)(hs:iQ knd)(hu:knd.room A.in1)(hk:∀x∈ks,knd.is s₀.heap x.1 x.2.1/\x.2.1∉fp/\x.2.1≠d/\∃o,s₀.heap.get? x.2.1=some o)(hd:d∉fp)(hz:ks.length<=1000){R:Result->Shared->Prop}
  (hR:∀h' tk,(∀b o,b∉fp->b≠d->s₀.heap.get? b=some o->h'.get? b=some o)->h'.DictOfH knd d (jK [] ks)->R (.ok (.ret .none)) { s₀ with heap:=h',toks:=tk }):
  ∀(m i:Nat) (h:Heap) (tk:Nat),ks.length - i=m->i<=ks.length->St i h->h.DictOfH knd d (jK [] (ks.take i))->(∀b o,b∉fp->b≠d->s₀.heap.get? b=some o->h.get? b=some o)->
   codeAny (model prog w) A (.builtin "dict.update.loop" ⟨[.ref d,.ref it,rawInt i,.none],[]⟩) R { s₀ with heap:=h,toks:=tk }:=by
 have mem:∀(i:Nat),∀x∈jK [] (ks.take i),∃y∈ks,y.2.1=x.2.1:=λi x hx=>by
  rcases Vk x hx with⟨y,hy,_⟩ | ⟨y,hy,e⟩
  .cases hy
  .exact⟨y,Ys hy,e⟩
 have kept:∀(i:Nat) (h h':Heap),h.DictOfH knd d (jK [] (ks.take i))->(∀b o,b∉fp->h.get? b=some o->h'.get? b=some o)->h'.DictOfH knd d (jK [] (ks.take i)):=λi h h' D kp=>
  wD hs D (λo e=>kp d o hd e) λx hx o e=>by
   obtain⟨y,hy,ey⟩:=mem i x hx
   exact kp _ _ (by rw[<- ey];exact(hk y hy).2.1) e
 intro m
 induction m with
 | zero=>
  intro i h tk hm hi st hD keep
  have e:i=ks.length:=by omega
  subst e
  refine codeAny_builtin FD.aV ?_
  rw[Around.under_plainId FD.aC _]
  refine yYX (m:=pyNext (.ref it)) (P.done { s₀ with heap:=h,toks:=tk } _ _ (by rw[av];exact st) λh' fQ kp=>?_)
  have hD:=kept _ h h' hD kp
  rw[dm] at hD
  refine yYX (m:=Builtin.Dict.addKeywords d []) (yYY (yYY ?_))
  exact hR h' fQ (λb o b1 b2 e=>kp b o b1 (keep b o b1 b2 e)) hD
 | succ m ih=>
  intro i h tk hm hi st hD keep
  have bc:i<ks.length:=by omega
  obtain⟨p,ep⟩:∃p,ks[i]? = some p:=⟨_,aH bc⟩
  obtain⟨h1,h2,h3,o1,h4⟩:=hk p (bw ep)
  refine codeAny_builtin FD.aV ?_
  rw[Around.under_plainId FD.aC _]
  refine yYX (m:=pyNext (.ref it)) (P.item i { s₀ with heap:=h,toks:=tk } _ _ (.ref p.2.1) p.2.2 (by rw[bb,ep];rfl) st λT h' fQ n c6 hT kp=>?_)
  obtain⟨oT,hT,F1,t6⟩:=hT
  have fm:Shared.TypeIs { s₀ with heap:=h',toks:=fQ } (.ref T) "tuple" := ⟨_,hT,F1⟩
  have F4:=kept _ h h' hD kp
  have g9:knd.is h' p.1 p.2.1:=hs _ _ _ _ h1 λo e=>kp _ _ h2 (keep _ _ h2 h3 e)
  refine yYX (wpAny_holding ?_)
  refine yYX (wpAny_tryCatch ?_)
  unfold Builtin.Dict.pairItems
  refine yYX (wpAny_typeOf fm ?_)
  rw[if_pos (by decide)]
  refine yYX (wpAny_seqItems hT t6 (yYY ?_))
  refine wpAny_holding (wpAny_dictSet_heap (s:={ s₀ with heap:=h',toks:=fQ }) hu g9 F4 (λiM hD'' sb=>?_) ?_)
  .refine yYY ⟨plainId_quiet FD.aC _,?_⟩
   exact ih (i+1) iM _ (by omega) bc (P.frame _ _ _ c6 sb (by obtain⟨o,_,_,ho,_⟩:=hD'';exact⟨o,ho⟩)) (by rw[Vj ep];exact hD'') λb o b1 b2 e=>(sb.2 b b2).trans (kp b o b1 (keep b o b1 b2 e))
  .have:=MP (ks.take i) ([]:List (K×Addr×Value))
   rw[cJ,gW] at this
   have e:Yc=16777216:=by decide
   omega
theorem Vm {E:Value->Shared->Prop}{s:Shared}{l:Addr}{xs:Array Value}{n:Nat}{ks:List (K×Addr×Value)}{Q:Value->Shared->Prop}(hs:iQ knd)(hu:knd.room A.in1.in1)(hh:A.handled=none)(hl:s.heap.get? l=some { cls:=.type "list",data:=.seq xs n })
  (hp:∀(i:Nat) p,ks[i]? = some p->∃T o m,xs[i]? = some (.ref T)/\s.heap.get? T=some o/\o.cls=.type "tuple" /\ o.data=.seq #[.ref p.2.1,p.2.2] m) (hlen:ks.length=xs.size) (hk:∀x∈ks,knd.is s.heap x.1 x.2.1/\∃o,s.heap.get? x.2.1=some o) (hz:ks.length<=1000)
  (hQ:∀p h' tk,s.heap.objs.size<=p->(∀b o,s.heap.get? b=some o->h'.get? b=some o)->h'.DictOfH knd p (jK [] ks)->Q (.ref p) { s with heap:=h',toks:=tk }):
  wpAny (model prog w) A (call (.type "dict") [.ref l]) Q E s:=by
 refine kB (T := "list") ⟨_,hl,rfl⟩ (by decide) λE'=>?_
 have kd:∀b o,s.heap.get? b=some o->(s.heap.push { cls:=.type "dict",data:=.dict #[] }).get? b=some o:=λb o e=>yYZ _ e
 refine kP (kd _ _ hl) hh λh2 tk2 kp2=>⟨rfl,?_⟩
 have kl:∀b o,s.heap.get? b=some o->h2.get? b=some o:=λb o e=>kp2 _ _ (kd _ _ e)
 have L2:h2.IsList l xs:=⟨_,kl _ _ hl,rfl,n,rfl⟩
 refine wpAny_pyIter_list (s:={ s with heap:=h2,toks:=tk2 }) L2 ?_
 have k3:∀b o,h2.get? b=some o->(h2.push { cls:=.type "list_iterator",data:=.fields #[.ref l,.int 0 0] }).get? b=some o:=λb o e=>yYZ _ e
 have nK:s.heap.objs.size<h2.objs.size:=aG (kp2 _ _ (bg _ rfl))
 have P:eo prog w A.in1.in1 s.heap.objs.size h2.objs.size [h2.objs.size] (ks.map λx=>(.ref x.2.1,x.2.2)) (λi h=>h.IsListIter h2.objs.size l i/\∀b o,s.heap.get? b=some o->h.get? b=some o):=
  {frame:=λi h h' ⟨S,kp⟩ sb _=>⟨S.at λo e=>(sb.2 _ (yZH nK)).trans e,λb o e=>(sb.2 b (yZF (aG e))).trans (kp b o e)⟩
   item:=λi s' Q E k v e ⟨S,kp⟩ hQ=>by
    rw[bb] at e
    obtain⟨p,ep,v8⟩:=YJ.mp e
    cases v8
    obtain⟨T,o,m,ex,ho,hc,hd⟩:=hp i p ep
    refine wpAny_pyNext_list_item S ⟨_,kp _ _ hl,rfl,n,rfl⟩ ex λh' S' sb=>?_
    have nb:∀b o,s.heap.get? b=some o->b≠h2.objs.size:=λb o e=>yZF (Nat.lt_trans (aG e) nK)
    exact hQ T h' s'.toks m ⟨S',λb o e=>(sb.2 b (nb b o e)).trans (kp b o e)⟩ ⟨o,(sb.2 T (nb T o ho)).trans (kp _ _ ho),hc,hd⟩ λb o hb e=>(sb.2 b (λz=>hb (by simp[z]))).trans e
   done:=λs' Q E ⟨S,kp⟩ hQ=>by
    rw[av] at S
    refine wpAny_pyNext_list_end (A:=A.in1.in1) hh S ⟨_,kp _ _ hl,rfl,n,rfl⟩ (by rw[hlen];simp) λh' eb=>?_
    exact hQ h' s'.toks λb o hb e=>eb b o (λz=>hb (by simp[z])) e }
 have BQ:(h2.push { cls:=.type "list_iterator",data:=.fields #[.ref l,.int 0 0] }).DictOfH knd s.heap.objs.size (jK [] (ks.take 0)):=
  wD hs (Heap.DictOfH.new (knd:=knd) s.heap) (λo e=>k3 _ _ (kp2 _ _ e)) λx hx=>nomatch hx
 refine Vl (A:=A.in1) (s₀:={ s with heap:=h2.push { cls:=.type "list_iterator",data:=.fields #[.ref l,.int 0 0] },toks:=tk2 }) P hs hu (λx hx=>?_) (by simp;exact yZF nK) hz (λh' tk kp hD=>⟨rfl,?_⟩) ks.length 0 _ tk2 (by simp) (yZG _) ⟨⟨_,bg _ rfl,rfl,rfl⟩,λb o e=>k3 _ _ (kl _ _ e)⟩ BQ (λ_ _ _ _ e=>e)
 .obtain⟨a1,o,a2⟩:=hk x hx
  have lt:=aG a2
  exact⟨hs _ _ _ _ a1 λo e=>k3 _ _ (kl _ _ e),by simp only[bB];exact yZF (Nat.lt_trans lt nK),yZF lt,o,k3 _ _ (kl _ _ a2)⟩
 .refine hQ _ h' tk (yZD _) (λb o e=>kp b o ?_ (yZF (aG e)) (k3 _ _ (kl b o e))) hD
  simp only[bB]
  exact yZF (Nat.lt_trans (aG e) nK)
end
end PySem
namespace L2
open PySem PySem.Spec PyProof.Rows
section
variable {X:Cx}{zz:List (Addr×Obj)}{σ:St}{H:Hp}{s:Shared}
def mD (H:Hp)(kv:List Key×V)(u:V):Prop:=∃a b,u=.ref a/\H a=some (.tup [.ref b,kv.2])/\H b=some (.tup (kv.1.map kV))
theorem Vn {prog:Program}{w:World}:iQ (tupleKind (xH prog w)):=λh h' k a ⟨o,items,n,ho,hc,hd,hi⟩ kp=>⟨o,items,n,kp o ho,hc,hd,hi⟩
theorem Vo (I:Inv X zz σ H s){kvs:List (List Key×V)}{us:List V}(hp:Paired (mD H) kvs us):∀{its:List Value},Vals us its->∃ks:List (List Key×Addr×Value),
  (∀(i:Nat) p,ks[i]? = some p->∃T o m,its[i]? = some (.ref T)/\s.heap.get? T=some o/\o.cls=.type "tuple" /\ o.data=.seq #[.ref p.2.1,p.2.2] m)/\ks.length=its.length/\KT H kvs ks:=by
 induction hp with
 | nil=>intro its hv;cases hv;exact⟨[],λi p e=>by simp at e,rfl,.nil⟩
 | @cons kv _ _ _ f t ih=>
  intro its hv
  cases hv with
  | cons r t2=>
  obtain⟨ks,h1,h2,h3⟩:=ih t2
  obtain⟨a,b,rfl,ha,hb⟩:=f
  cases r
  obtain⟨z,its,rv,o,ho,hc,m,hd,_⟩:=I.af a _ ha
  obtain⟨u,v,rfl,ru,r6⟩:=vals2 rv
  cases ru
  refine⟨(kv.1,b,v)::ks,λi p e=>?_,by simp[h2],.cons ⟨rfl,hb,r6⟩ h3⟩
  cases i with
  | zero=>cases e;exact⟨a,o,m,rfl,ho,hc,hd⟩
  | succ i=>exact h1 i p e
def bZ (kvs more:List (List Key×V)):List (List Key×V):=more.foldl (λacc kv=>putK acc kv.1 kv.2) kvs
theorem MQ:∀(more kvs:List (List Key×V)),(bZ kvs more).length<=kvs.length+more.length
 | [],kvs=>yZD _
 | p::r,kvs=>by
  have h1:=MQ r (putK kvs p.1 p.2)
  have h2:=yW kvs p.1 p.2
  show(bZ (putK kvs p.1 p.2) r).length<=_
  rw[cP];omega
theorem KT.merge {kvs:List (List Key×V)}{ks:List (List Key×Addr×Value)}(r:KT H kvs ks):∀{acc:List (List Key×V)} {as:List (List Key×Addr×Value)},KT H acc as->KT H (bZ acc kvs) (jK as ks):=by
 induction r with
 | nil=>intro acc as h;exact h
 | @cons p q ps qs h t ih=>
  intro acc as ha
  have z:=KT.put ha p.1 h.2.1 h.2.2
  rw[show storedH as p.1 q.2.1 q.2.2=storedH as q.1 q.2.1 q.2.2 by rw[h.1]] at z
  exact ih z
def Vp:List V->Hp->VK->Prop:=λvs H Q=>∃l us kvs,vs=[.ref l]/\H l=some (.lst us)/\Paired (mD H) kvs us/\kvs.length<=1000/\∀p,H p=none->Q (.ref p) (upd H p (.dT (bZ [] kvs)))
theorem Vq {kvs:List (List Key×V)}{ks:List (List Key×Addr×Value)}(r:KT H kvs ks):∀x∈ks,H x.2.1=some (.tup (x.1.map kV)):=by
 induction r with
 | nil=>intro x hx;cases hx
 | @cons p q _ _ h t ih=>
  intro x hx
  rcases aE.mp hx with rfl | hx
  .rw[<- h.1];exact h.2.1
  .exact ih x hx
theorem Vr (hu:X.A.units+64<cLine)(hc:X.calm=true):aL X (.type "dict") Vp:=by
 intro zz s σ H vs us Q I r h
 obtain⟨l,xs,kvs,rfl,hl,hp,mw,q⟩:=h
 obtain⟨u,rfl,ru⟩:=vals1 r
 cases ru
 obtain⟨z,its,n,rv,hlen,e⟩:=I.lstM hl
 obtain⟨ks,k1,k2,k3⟩:=Vo I hp rv
 have lk:=Paired.length k3
 refine Vm (knd:=tupleKind (xH X.prog X.w)) (ks:=ks) Vn (by show X.A.units+1+1<cLine;omega) (I.ok.hd hc) e (λi p ep=>?_) (by simp[k2]) (λx hx=>?_) (by omega) λp h' tk j3 keep hD=>?_
 .obtain⟨T,o,m,a1,a2⟩:=k1 i p ep
  exact⟨T,o,m,by simpa using a1,a2⟩
 .have hk:=wB I.af (Vq k3 x hx)
  obtain⟨o,_,_,ho,_⟩:=id hk
  exact⟨hk,o,ho⟩
 .have fresh:=I.af.fresh j3
  obtain⟨o,es,ep,h1,h2,h3,h4,_,h6⟩:=hD
  refine⟨.ref p,upd H p (.dT (bZ [] kvs)),I.laid (o:=.dT (bZ [] kvs)) keep j3 ⟨?_,?_,jK [] ks,(KT.merge k3 .nil).keeps (λb ys e=>by rw[qB (qC e fresh)];exact e),o,es,ep,h1,h2,h3,h4,h6⟩,rfl,q p fresh⟩
  .have l1:=MQ kvs []
   have e:Yc=16777216:=by decide
   rw[gW] at l1
   omega
  .have:=I.big
   exact beq_eq_false_iff_ne.mpr (yZH (yZE this j3))
end
end L2
namespace L2
open PySem PySem.Spec PyProof.Rows
def bE {α:Type}(xs:List α)(k:Nat)(y:α):List α:=xs.take k++y::xs.drop k
theorem Vs {α:Type}(xs:List α)(k:Nat)(y:α):(bE xs k y).length=xs.length+1:=by
 unfold bE
 rw[bK,cP,cJ,Yo]
 omega
def Vt:V->List V->Hp->VK->Prop:=λx vs H Q=>∃l xs k y,x=.ref l/\vs=[.int k,y]/\H l=some (.lst xs)/\0<=k/\k<=xs.length/\xs.length<1000000/\Q .non (upd H l (.lst (bE xs k.toNat y)))
theorem Vu {xs:List V}{its:List Value}{y:V}{u:Value}(r:Vals xs its)(k:Nat)(ru:RelV y u):Vals (bE xs k y) (bE its k u):=by
 unfold bE
 induction r generalizing k with
 | nil=>rw[List.take_nil,List.take_nil,List.drop_nil,List.drop_nil];exact .cons ru .nil
 | cons h t ih=>
  cases k with
  | zero=>exact .cons ru (.cons h t)
  | succ k=>exact .cons h (ih k)
variable {X:Cx}
theorem Vv:tW X "list.insert" Vt:=by
 intro zz s σ H x vs v us Q I rx rv h
 obtain⟨l,xs,k,y,rfl,rfl,hH,h0,h1,hz,q⟩:=h
 cases rx
 obtain⟨u1,u2,rfl,Vw,Vx⟩:=vals2 rv
 obtain⟨t,rfl⟩:=Vw
 obtain⟨z,its,n,r,hl,e⟩:=I.lstM hH
 have sl:Yc=16777216:=by decide
 refine call_meets PySem.F.slot_list_insert ⟨_,e,rfl⟩ PySem.F.entry_list_insert (PySem.F.args_list_insert_3 _ _ _)
  (PySem.AutoSeq1.list_insert_list_int_val_1 l its.toArray n k t u2 (by rw[fitsIndex_both (by omega) (by omega)];decide) (by rw[dO];omega)) ⟨e,?_⟩
 refine⟨.non,_,I.lset (its':=bE its k.toNat u2) hH e ?_ (Vu r k.toNat Vx) ?_,rfl,q⟩
 .show((its.toArray.extract 0 (if k<0 then _ else min k.toNat its.toArray.size)).push u2++its.toArray.extract (if k<0 then _ else min k.toNat its.toArray.size))=(bE its k.toNat u2).toArray
  rw[if_neg (by omega),dO,Nat.min_eq_left (by omega)]
  unfold bE
  simp
  exact Yk (by rw[Yo];exact yZD _)
 .rw[Vs]
  omega
end L2
namespace L2
open PySem PySem.Spec PyProof.Rows
structure Dm (P:Program)(w:World)(K:aq)(mg:Str->Option Value)(base:Heap)(C:Addr)(m:Str)(k:Nat)(ps:List Str)(sp:Sp):Prop where
 ex:∃f fd,aT P w K mg base eU k f fd ps sp/\Meth K C m f/\Binds K fd ps []
structure Dk (P:Program)(w:World)(K:aq)(mg:Str->Option Value)(base:Heap)(x:Str)(C:Addr)(k:Nat)(ps:List Str)(sp:Sp):Prop where
 ex:∃f fd,aT P w K mg base eU k f fd ps sp/\Mk K C f/\mg x=some (.ref C)/\Binds K fd ps []
structure Md (K:aq)(C:Addr)(m q:Str)(st:Stmt)(ps:List Str):Prop where
 ex:∃f fd,gC K m q st f fd/\Meth K C m f/\Binds K fd ps []
structure Mi (K:aq)(mg:Str->Option Value)(x:Str)(C:Addr)(q:Str)(st:Stmt)(ps:List Str):Prop where
 ex:∃f fd,gC K "__init__" q st f fd/\Mk K C f/\mg x=some (.ref C)/\Binds K fd ps []
section
variable {P:Program}{w:World}{K:aq}{mg:Str->Option Value}{base:Heap}{x m q:Str}{st:Stmt}{C:Addr}{j k:Nat}{N ps:List Str}{sp:Sp}
theorem Md.ok (F:Md K C m q st ps)(S:xI N ps (xB st))(len:∀vs H Q E,sp vs H Q E->vs.length=ps.length)
  (cC:∀(f:Addr) (zy:Value) (A:Around) (outer:List Env) (s:Shared) (H:Hp) (vs:List V) (Q:VK) (E:XK),aJ k (A.deeper (envOfC q (xB st) s.heap.objs.size f zy))->sp vs H Q E->
   ∃t,dR (aU eU P w K mg base N q (xB st) f zy A outer s H E).lE (xC st) t/\t { nx:=λ_ H'=>Q .non H',rt:=Q } (start N vs) H):Dm P w K mg base C m (k+1) ps sp:=
 let ⟨f,fd,F,a,b⟩:=F.ex
 ⟨f,fd,F.ok S len (cC f),a,b⟩
theorem Mi.ok (F:Mi K mg x C q st ps)(S:xI N ps (xB st))(len:∀vs H Q E,sp vs H Q E->vs.length=ps.length)
  (cC:∀(f:Addr) (zy:Value) (A:Around) (outer:List Env) (s:Shared) (H:Hp) (vs:List V) (Q:VK) (E:XK),aJ k (A.deeper (envOfC q (xB st) s.heap.objs.size f zy))->sp vs H Q E->
   ∃t,dR (aU eU P w K mg base N q (xB st) f zy A outer s H E).lE (xC st) t/\t { nx:=λ_ H'=>Q .non H',rt:=Q } (start N vs) H):Dk P w K mg base x C (k+1) ps sp:=
 let ⟨f,fd,F,a,b,c⟩:=F.ex
 ⟨f,fd,F.ok S len (cC f),a,b,c⟩
end
section
variable {X:Cx}{P:Program}{w:World}{K:aq}{mg:Str->Option Value}{base:Heap}{C:Addr}{j k:Nat}{ps:List Str}{sp:Sp}{x m f:Str}{p pos pos' apos Bo:Pos}{e o value:Expr}{es:List Expr}{ta tv:TE}{t:TA}
theorem yD {pl:Sem Bool}(D:Dm P w K mg base C m j ps sp)(c:fI K C)(he:PE X o ta)(hr:aJ k X.A)(ha:PA X (e::es) t)(oB:j<=k:=by first | decide | omega)
  (h1:X.prog=P:=by rfl) (h2:X.w=w:=by rfl) (h3:X.K=K:=by rfl) (h4:X.mg=mg:=by rfl) (h5:X.base=base:=by rfl)
  (fZ:starEach (e::es) X.env=(false,eval e X.env)::starEach es X.env:=by rfl) (dv:(backTo pos (starEach es X.env)).any (·.1)=false:=by rfl)
  (ht:eval (.Call (.Attribute o m apos) (e::es) [] pos) X.env=(do
   let ov <- eval o X.env
   standAt apos.atName
   let (f,first) <- holding [ov] (getMethod ov m pl)
   callWith pos f first (backTo pos (starEach (e::es) X.env)) (backToKw pos (keywordEach [] X.env))):=by rfl):
  PE X (.Call (.Attribute o m apos) (e::es) [] pos) (qb C m sp [] E0 ta t):=by
 subst h1 h2 h3 h4 h5
 obtain⟨f,fd,F,M,b⟩:=D.ex
 exact QH he c M (F.mono oB) hr b .nil dW ha fZ dv ht
theorem Vy (D:Dk P w K mg base x C j ps sp)(hr:aJ k X.A)(ha:PA X (e::es) t)(oB:j+1<=k:=by first | decide | omega)(hg:Gl X x:=by rfl)
  (h1:X.prog=P:=by rfl) (h2:X.w=w:=by rfl) (h3:X.K=K:=by rfl) (h4:X.mg=mg:=by rfl) (h5:X.base=base:=by rfl)
  (dy:(x == ("__debug__" : Str))=false:=by decide) (he:starEach (e::es) X.env=(false,eval e X.env)::starEach es X.env:=by rfl) (dv:(backTo pos (starEach es X.env)).any (·.1)=false:=by rfl):
  PE X (.Call (.Name x p) (e::es) [] pos) (l8 C sp [] E0 t):=by
 subst h1 h2 h3 h4 h5
 obtain⟨f,fd,F,M,hm,b⟩:=D.ex
 exact QJ M F (hr.mono oB) hg hm b .nil dW ha dy he dv
theorem jN (he:PE X e ta)(hK:X.K=K:=by rfl)(hb:attributeBase e f X.env (eval e X.env)=eval e X.env:=by rfl):PE X (.Attribute e f pos) (oh K ta f):=by
 subst hK
 exact QC he hb
theorem wQ (ha:PE X o ta)(hv:PE X value tv)(hK:X.K=K:=by rfl)(hs:swapsWith value (some (.Attribute o f pos')) pos.line X.env=pure false:=by rfl):PS X (.Assign [.Attribute o f pos'] value pos) (rG K ta tv f):=by
 subst hK
 exact QD ha hv hs
end
end L2
namespace PySem
structure Vz (h:Heap)(z TI TO i1 i2 t l:Addr)(k:Nat):Prop where
 zip:IsZip h z TI TO .none
 its:IsPair h TI (.ref i1) (.ref i2)
 own:∃a b,IsPair h TO a b
 one:h.IsListIter i1 t k
 two:h.IsListIter i2 l k
end PySem
namespace L2
open PySem PySem.Spec PyProof.Rows
def mE (K:aq)(t l:Addr):It:=
 ⟨λi H=>∃xs ys,aj K H t xs/\aj K H l ys/\i<xs.length/\i<ys.length,
   λi H x H'=>∃T vx vy,x=.ref T/\H T=none/\H'=upd H T (.tup [vx,vy])/\(∀xs,aj K H t xs->xs[i]? = some vx)/\∀ys,aj K H l ys->ys[i]? = some vy,
   λi H=>∃xs ys,aj K H t xs/\aj K H l ys/\(xs.length<=i\/ys.length<=i)⟩
theorem VA {P:Program}{w:World}{K:aq}{es:List Expr}{kk:Nat}{tp:Pos}(t l z TI TO i1 i2:Addr)(D:ZipApart z TI TO i1 i2 t l):
  Turn P w K (.Tuple es kk tp) (mE K t l) [z,TI,TO,i1,i2] z (λi h=>Vz h z TI TO i1 i2 t l i) where
 mem:=by simp
 obj:=λi h S b hb=>by
  simp only[aE,Yp,or_false] at hb
  rcases hb with rfl | rfl | rfl | rfl | rfl
  .exact⟨_,S.zip,λv e=>by cases(show Data.fields _=Data.cell v from e)⟩
  .exact⟨_,S.its,λv e=>by cases(show Data.seq _ _=Data.cell v from e)⟩
  .obtain⟨a,b,e⟩:=S.own
   exact⟨_,e,λv e=>by cases(show Data.seq _ _=Data.cell v from e)⟩
  .obtain⟨o,e,c,d⟩:=S.one
   exact⟨o,e,λv q=>by rw[d] at q;cases q⟩
  .obtain⟨o,e,c,d⟩:=S.two
   exact⟨o,e,λv q=>by rw[d] at q;cases q⟩
 keep:=λi h h' S k=>by
  obtain⟨a,b,e⟩:=S.own
  exact⟨k z (by simp) _ S.zip,k TI (by simp) _ S.its,⟨a,b,k TO (by simp) _ e⟩,S.one.at λo e=>k i1 (by simp) o e,S.two.at λo e=>k i2 (by simp) o e⟩
 item:=by
  intro X hP hw hK hc i zz s σ H E I hf S hg
  subst hP hw hK
  obtain⟨xs,ys,hq,qr,hi,hj⟩:=hg
  obtain⟨its,rv,p,_⟩:=I.list hq
  obtain⟨cM,GQ,p2,_⟩:=I.list qr
  have hx:xs[i]? = some (xs[i]'hi):=aH hi
  have hy:ys[i]? = some (ys[i]'hj):=aH hj
  obtain⟨u,hu,ru⟩:=rv.get hx
  obtain⟨v,hv,r6⟩:=GQ.get hy
  obtain⟨a0,b0,e0⟩:=S.own
  refine wpAny_pyNext_zip_item D S.zip S.its e0 S.one S.two p.isList p2.isList (x:=u) (y:=v) (by simpa using hu) (by simpa using hv) λh' a1 b3 a4 a5 a7 b6 a8=>?_
  have a2:=a8 _ _ D.TIz D.TITO D.TIi1 D.TIi2 S.its
  have a3:∃a b,IsPair h' TO a b:=⟨_,_,b3⟩
  generalize eT:s.heap.objs.size=T at a1 a7
  have a6:s.heap.objs.size<=T:=Nat.le_of_eq eT
  refine⟨.ref T,rfl,?_⟩
  have gz:(⟨h',s.gens,s.drawn,s.toks,s.os⟩:Shared).heap.get? z=some { cls:=.type "zip",dict:=none,data:=.fields #[rawInt T,.bool false,.bool false,.ref TI,.ref TO],slots:=#[] }:=a1
  refine wpAny_letOwnedTupleGo_zip (s:={ s with heap:=h' }) a1 λiM GR sb=>?_
  have nT:∀b∈[z,TI,TO,i1,i2],b≠T:=λb hb e=>by
   subst e
   obtain⟨o,e,_⟩:∃o,s.heap.get? b=some o/\True:=by
    simp only[aE,Yp,or_false] at hb
    rcases hb with rfl | rfl | rfl | rfl | rfl
    .exact⟨_,S.zip,trivial⟩
    .exact⟨_,S.its,trivial⟩
    .obtain⟨a,c,e⟩:=S.own;exact⟨_,e,trivial⟩
    .obtain⟨o,e,_⟩:=S.one;exact⟨o,e,trivial⟩
    .obtain⟨o,e,_⟩:=S.two;exact⟨o,e,trivial⟩
   exact absurd (yZE (aG e) a6) (Nat.lt_irrefl _)
  have k2:∀c o,c≠z->h'.get? c=some o->iM.get? c=some o:=λc o c1 e=>sb.extBut _ _ c1 e
  have keep:∀c o,c∉[z,TI,TO,i1,i2]->s.heap.get? c=some o->iM.get? c=some o:=λc o fq e=>by
   simp only[aE,Yp,or_false,not_or] at fq
   exact k2 _ _ fq.1 (a8 c o fq.1 fq.2.2.1 fq.2.2.2.1 fq.2.2.2.2 e)
  have sj:IsPair iM T u v:=k2 _ _ (Ne.symm (nT z (by simp))) a7
  have fresh:H T=none:=I.af.fresh a6
  have lB:∀b o,H b=some o->b∉[z,TI,TO,i1,i2]:=λb o e hb=>by
   have:=(hf b hb).1
   rw[e] at this;cases this
  have I1:Inv X zz σ (upd H T (.tup [xs[i]'hi,ys[i]'hj])) { s with heap:=iM }:=by
   refine I.step (h':=iM) (H':=upd H T (.tup [xs[i]'hi,ys[i]'hj])) (g':=s.gens) (d':=s.drawn) (t':=s.toks) (ch:=[z,TI,TO,i1,i2]) (λb hb=>?_) (λb o _ _ bH e _=>keep b o bH e) (λb o _ _ bH e _=>⟨o.slots,keep b o bH e⟩) (λb o bH e n=>?_)
    (λb o bH e=>⟨o,keep b o bH e⟩) (λb zs e=>?_) (λb o q e=>?_) (λb ps e=>⟨#[],?_⟩) (λm hm=>?_) (λb ob e=>?_) I.bare
   .obtain⟨f0,f1,f2,f3,f4,f5⟩:=hf b hb
    exact⟨f3,f1,f4,f5⟩
   .rw[qB (yZF (yZE (aG e) a6))];exact n
   .rw[qB (qC e fresh)];exact e
   .rw[qB (qC e fresh)];exact e
   .rw[qB (qC e fresh),e];simp
   .obtain⟨o,bC,ep,ho,r⟩:=hm
    exact⟨o,bC,ep,keep _ o (λhb=>(hf _ hb).2.1 rfl) ho,r⟩
   .by_cases hb:b=T
    .subst hb
     rw[qW] at e
     cases e
     refine⟨by show 2<=Yc;decide,[u,v],.cons ru (.cons r6 .nil),⟨_,sj,rfl,0,rfl,rfl⟩⟩
    .rw[qB hb] at e
     refine(I.af b ob e).stay (λc o bH q=>keep c o ?_ q) (λc q=>by rw[qB (qC q fresh)];exact q) λc zs q=>by rw[qB (qC q fresh)];exact q
     rcases bH with rfl | bH
     .exact lB _ _ e
     .exact lB _ _ bH
  refine⟨.ref T,_,I1,rfl,⟨T,_,_,rfl,fresh,rfl,λzs hz=>by rw[I.list_inj hz hq];exact hx,λzs hz=>by rw[I.list_inj hz qr];exact hy⟩,?_,λb hb=>?_⟩
  .obtain⟨a,b,e⟩:=a3
   exact⟨GR,k2 _ _ D.TIz a2,⟨a,b,k2 _ _ D.TOz e⟩,a4.at λo e=>k2 _ _ D.i1z e,a5.at λo e=>k2 _ _ D.i2z e⟩
  .rw[qB (nT b hb)];exact(hf b hb).1
 done:=by
  intro X hP hw hK hc i zz s σ H E I hf S hg
  subst hP hw hK
  obtain⟨xs,ys,hq,qr,hx⟩:=hg
  obtain⟨its,rv,p,_⟩:=I.list hq
  obtain⟨cM,GQ,p2,_⟩:=I.list qr
  obtain⟨a0,b0,e0⟩:=S.own
  have hl:=rv.length
  have Ea:=GQ.length
  refine wpAny_pyNext_zip_end (I.ok.hd hc) D S.zip S.its e0 S.one S.two p.isList p2.isList (by rcases hx with hx | hx;exact .inl (by simp;omega);exact .inr (by simp;omega)) λh' kp=>⟨rfl,?_⟩
  have keep:∀c o,c∉[z,TI,TO,i1,i2]->s.heap.get? c=some o->h'.get? c=some o:=λc o fq e=>by
   simp only[aE,Yp,or_false,not_or] at fq
   exact kp c o fq.1 fq.2.2.1 fq.2.2.2.1 fq.2.2.2.2 e
  have lB:∀b o,H b=some o->b∉[z,TI,TO,i1,i2]:=λb o e hb=>by
   have:=(hf b hb).1
   rw[e] at this;cases this
  have there:∀b∈[z,TI,TO,i1,i2],True:=λ_ _=>trivial
  refine I.step (h':=h') (H':=H) (g':=s.gens) (d':=s.drawn) (t':=s.toks) (ch:=[z,TI,TO,i1,i2]) (λb hb=>?_) (λb o _ _ bH e _=>keep b o bH e) (λb o _ _ bH e _=>⟨o.slots,keep b o bH e⟩) (λ_ _ _ _ n=>n)
   (λb o bH e=>⟨o,keep b o bH e⟩) (λ_ _ e=>e) (λ_ _ _ e=>e) (λb ps e=>⟨#[],by rw[e];simp⟩) (λm hm=>?_) (λb ob e=>?_) I.bare
  .obtain⟨f0,f1,f2,f3,f4,f5⟩:=hf b hb
   exact⟨f3,f1,f4,f5⟩
  .obtain⟨o,bC,ep,ho,r⟩:=hm
   exact⟨o,bC,ep,keep _ o (λhb=>(hf _ hb).2.1 rfl) ho,r⟩
  .refine(I.af b ob e).stay (λc o bH q=>keep c o ?_ q) (λ_ q=>q) λ_ _ q=>q
   rcases bH with rfl | bH
   .exact lB _ _ e
   .exact lB _ _ bH
 self:=λ_ _ _ _ _ S h=>wpAny_pyIter_zip S.zip h
section
variable {X:Cx}{K:aq}
def sL (K:aq)(ta:TA):TI:=λσ H R=>ta σ H λvs H1=>∃t l xs ys,vs=[.ref t,.ref l]/\aj K H1 t xs/\aj K H1 l ys/\R (mE K t l) H1
theorem VB {es:List Expr}{kk:Nat}{tp p pos:Pos}{a b:Expr}{ta:TA}(hg:Gl X "zip")(hm:X.mg "zip" = none)(ha:PA X [a,b] ta)
  (F6:starEach [a,b] X.env=[(false,eval a X.env),(false,eval b X.env)]:=by rfl) (BR:starEach [b] X.env=[(false,eval b X.env)]:=by rfl) (hK:X.K=K:=by rfl):
  PI X (.Tuple es kk tp) (.Call (.Name "zip" p) [a,b] [] pos) (sL K ta):=by
 subst hK
 intro zz s σ H R I h
 refine Call_ (wA I hg hm LW (PyProof.Rows.callWith_type1 (aF (ha pos zz s σ H _ I h) λus s1 ⟨vs,H1,I1,r1,q1⟩=>?_) (by rw[F6,BR]) (by rw[BR];rfl)))
 obtain⟨t,l,xs,ys,rfl,hq,qr,q⟩:=q1
 obtain⟨u,v,rfl,ru,rv⟩:=vals2 r1
 cases ru;cases rv
 obtain⟨its,r2,p2,_⟩:=I1.list hq
 obtain⟨cM,r3,p3,_⟩:=I1.list qr
 have FX:t<s1.heap.objs.size:=by obtain⟨o,n,e,_⟩:=p2;exact aG e
 have FY:l<s1.heap.objs.size:=by obtain⟨o,n,e,_⟩:=p3;exact aG e
 refine call_zip_2 p2.isList p3.isList λh' z1 z2 z3 z4 z5 _ keep=>?_
 have I2:Inv X zz σ H1 { s1 with heap:=h' }:=I1.kept (t':=s1.toks) keep
 refine wpAny_pyIter_zip (s:={ s1 with heap:=h' }) z1 ?_
 have VC:@LT.lt Nat _ t s1.heap.objs.size:=FX
 have VD:@LT.lt Nat _ l s1.heap.objs.size:=FY
 refine⟨_,[s1.heap.objs.size+4,s1.heap.objs.size+2,s1.heap.objs.size+3,s1.heap.objs.size,s1.heap.objs.size+1],_,_,H1,rfl,I2,VA t l _ _ _ _ _ ?_,⟨z1,z2,⟨_,_,z3⟩,z4,z5⟩,λb hb=>?_,q⟩
 .constructor <;> (intro e;have e':@Eq Nat _ _:=e;omega)
 have oH:s1.heap.objs.size<=b:=by
  simp only[aE,Yp,or_false] at hb
  rcases hb with rfl | rfl | rfl | rfl | rfl <;> first | exact Nat.le_add_right _ _ | exact yZD _
 exact I1.fpOk oH (I1.af.fresh oH)
end
theorem VE {K:aq}{t l:Addr}{xs ys:List V}{k:Nat}{js:List Nat}{g:TG}{tt:TT}{te:TE}{σ:St}{H1:Hp}{Q:VK}(hle:ys.length<=xs.length)(Pv:Addr->Nat->List V->Hp->Prop)(h0:∀D,H1 D=none->Pv D 0 [] (upd H1 D (.lst [])))
  (hl:∀D i zs H,i<=ys.length->Pv D i zs H->aj K H t xs/\aj K H l ys)
  (hs:∀D i x y T zs H (N:List V->Hp->Prop),H1 D=none->H D=some (.lst zs)->xs[i]? = some x->ys[i]? = some y->H T=none->Pv D i zs H->(∀zs H',H' D=some (.lst zs)->Pv D (i+1) zs H'->N zs H')->dJ k js g tt te σ D (.ref T) zs (upd H T (.tup [x,y])) N)
  (hd:∀D zs H,H1 D=none->H D=some (.lst zs)->Pv D ys.length zs H->Q (.ref D) H):fM k js g tt te (mE K t l) σ H1 Q:=by
 intro D hD
 refine⟨λi m zs H=>m=ys.length - i/\i<=ys.length/\H D=some (.lst zs)/\Pv D i zs H,⟨ys.length,by simp,yZG _,qW,h0 D hD⟩,?_⟩
 rintro i m zs H ⟨rfl,hi,aD,p⟩
 refine⟨aD,?_⟩
 obtain⟨q1,q2⟩:=hl D i zs H hi p
 by_cases bc:i<ys.length
 .refine .inr ⟨⟨xs,ys,q1,q2,by omega,bc⟩,λx H' y=>?_⟩
  obtain⟨T,vx,vy,rfl,nT,rfl,e1,e2⟩:=y
  exact hs D i vx vy T zs H (λzs H'=>∃m',m'<ys.length - i/\m'=ys.length - (i+1)/\i+1<=ys.length/\H' D=some (.lst zs)/\Pv D (i+1) zs H') hD aD (e1 xs q1) (e2 ys q2) nT p λzs H' e p'=>⟨ys.length - (i+1),by omega,rfl,bc,e,p'⟩
 .have e:i=ys.length:=by omega
  subst e
  exact .inl ⟨⟨xs,ys,q1,q2,.inr (yZD _)⟩,hd D zs H hD aD p⟩
end L2
namespace ST
open PySem PyProof.Rows SI L2
open PySem.SetTable (runEnd leap bits turns)
section
variable {prog:Program}{w:World}{A:Around}{E:Value->Shared->Prop}{s:Shared}
theorem VF {a:Addr}{b:Bool}{xs:List (List Key×Addr)}{o:Obj}{es:Array (Int×Value)}{ep:Nat}{t:SetTable}(X:TS prog w s.heap a b xs o es ep t)(room:A.units<cLine){ks:List Key}{c:Addr}(hk:gV prog w s.heap ks c)
  (hx:∀y∈xs,gV prog w s.heap y.1 y.2) (hn:xs.length+1<=4) {Q:Bool->Shared->Prop} (q1:ks∈xs.map (·.1)->Q false s)
  (q2:∀(h':Heap) (lK:List (List Key×Addr)) (o':Obj) (bC:Array (Int×Value)) (dt:Nat) (t':SetTable),ks∉xs.map (·.1)->Heap.SameBut a s.heap h'->lK.Perm ((ks,c)::xs)->TS prog w h' a b lK o' bC dt t'->Q true { s with heap:=h' }):
  wpAny (model prog w) A (setAddHashed a (.ref c) (hK prog w ks)) Q E s:=by
 have T:=X.tab
 obtain⟨F,VG,hm⟩:=B9 X.mask
 obtain⟨j0,VH,MR⟩:=T.free
 obtain⟨e0,El,MS⟩:=Mu F (hK prog w ks) 0 VH
 rw[Nat.zero_add] at MS
 rw[<- MS] at MR
 have fuel:e0<0+100000:=by
  have:turns t.mask=t.mask+15:=rfl
  omega
 unfold setAddHashed setAddHashedIn
 refine wpAny_holding (yYX (wpAny_setState_of X.at' X.data T.fits ?_))
 dsimp only
 have bs:byScan (.ref c) es=false:=rfl
 rw[bs]
 simp only[bL,if_false]
 unfold setSearch
 refine yYX (MC X room hk hx (λhm=>?_) (λm hm em u5=>?_) MR 100000 0 none rfl (yZG _) fuel λl hl=>absurd hl (Nat.not_lt_zero _))
 .dsimp only
  exact yYY (q1 hm)
 dsimp only
 refine yYX (wpAny_setState_of X.at' X.data T.fits ?_)
 dsimp only
 have sz:=X.size
 have Ck:=X.full
 have Cm:t.fill=xs.length:=by
  show t.place.size+t.dummies.size=_
  rw[T.size,T.j4,sz];rfl
 rw[Cm] at Ck
 have Cn:es.size+1<=t.mask:=by rcases X.mask with h | h | h | h <;> omega
 have T1:=T.put em u5 Cn (.ref c)
 have MT:(SetTable.insertAt es (t.put (pos t.mask (hK prog w ks) m)).2 (hK prog w ks,Value.ref c)).toList.Perm (((ks,c)::xs).map (ent prog w)):=by
  refine(SetTable.insertAt_perm _ _ _).trans ?_
  rw[Array.toList_push,X.ents]
  exact List.perm_append_comm
 obtain⟨GS,GU,qt⟩:=GD MT _ rfl
 have VI:(GS.map (·.1)).Nodup:=by
  refine(GU.map (·.1)).nodup_iff.mpr ?_
  rw[Yl]
  exact List.nodup_cons.mpr ⟨hm,X.nd⟩
 have l1:GS.length=xs.length+1:=by rw[GU.length_eq];rfl
 have o6:(t.put (pos t.mask (hK prog w ks) m)).1.led=t.led:=rfl
 have iR:(t.put (pos t.mask (hK prog w ks) m)).1.mask=t.mask:=rfl
 generalize e1:(t.put (pos t.mask (hK prog w ks) m)).1=t1 at T1 o6 iR ⊢
 generalize e2:SetTable.insertAt es (t.put (pos t.mask (hK prog w ks) m)).2 (hK prog w ks,Value.ref c)=j6 at T1 MT qt ⊢
 have VJ:j6.size=xs.length+1:=by rw[<- eP,qt,av,l1]
 have tail:∀t2:SetTable,Tab t2 j6->t2.led=t.led->t2.mask=t.mask->wpAny (model prog w) A (do
   storeSet a j6 t2
   if (!false && t2.tooFull)=true then do
     setRelay a (SetTable.grown (es.size+1))
     pure true
    else pure true) Q E s:=by
  intro t2 T2 GV qu
  have Co:t2.fill=xs.length+1:=by
   show t2.place.size+t2.dummies.size=_
   rw[T2.size,T2.j4,VJ];rfl
  have sl:∀{n:Nat},n<=1000->n<=Yc:=λ{n} h=>by rw[sizeLine_eq];omega
  refine yYX (wpAny_storeSet_of X.at' X.data ?_ (sl (by omega)))
  have MU:=UG X.at' X.data j6 t2
  have MV:=Heap.SameBut.update s.heap a (Obj.putSet j6 t2)
  generalize s.heap.update a (Obj.putSet j6 t2)=h1 at MU MV ⊢
  simp only[Bool.not_false,Bool.true_and]
  by_cases c:t2.tooFull=true
  .rw[if_pos c]
   have c':t2.mask * 3<=t2.fill * 5:=of_decide_eq_true c
   rw[Co,qu] at c'
   exfalso
   rcases X.mask with h | h | h | h <;> omega
  .rw[if_neg c]
   have c':¬(t2.mask * 3<=t2.fill * 5):=λz=>c (decide_eq_true z)
   exact yYY (q2 h1 GS _ j6 (ep+1) t2 hm MV GU ⟨MU,X.ex,rfl,qt,VI,T2,GV.trans X.led,by omega,by rw[qu];exact X.mask,by omega⟩)
 split
 .refine yYX (UC hk λv=>?_)
  cases v with
  | true=>exact tail t1 T1 o6 iR
  | false=>exact tail { t1 with plain:=false } T1.off o6 iR
 .refine yYX (yYY ?_)
  exact tail t1 T1 o6 iR
end
section
variable {prog:Program}{w:World}{A:Around}{R:Result->Shared->Prop}{I:Addr}{fp wr:List Addr}{G:Array GenState->Array GenState->Prop}{n:Nat}{P:Nat->Value->Prop}{St:Nat->Shared->Prop}
theorem VL (W:WalksS prog w A.in1 I fp wr G n P St)(T:Addr)(hT:T∉fp)(its:List (List Key×Addr))(mr:∀i v,P i v->∃y,its[i]? = some y/\v=.ref y.2)(MW:∀y∈its,y.2∉fp/\y.2≠T)(hn:n=its.length){N:Nat}(hN:∀ys:List (List Key),ys.Nodup->(∀k∈ys,k∈its.map (·.1))->ys.length<=N)(MX:N<=3)(room:A.units+8<cLine){b:Bool}:
  ∀(k i:Nat) (s:Shared),n - i=k->i<=n->St i s->(∀y∈its,gV prog w s.heap y.1 y.2)->(∃xs o es ep t,TS prog w s.heap T b xs o es ep t/\Made its i xs)->
   (∀s',Moved (T::wr) G s s'->(∃xs o es ep t,TS prog w s'.heap T b xs o es ep t/\Made its n xs)->R (.ok (.ret .none)) s')->
   codeAny (model prog w) A (.builtin "set.update.loop" ⟨[.ref T,.ref I],[]⟩) R s:=by
 have MY:T∉wr:=λz=>hT (W.sub _ z)
 have up:∀b∈wr,b∈T::wr:=λb z=>yYH _ z
 have kept:∀{h h':Heap} {xs o es ep t},TS prog w h T b xs o es ep t->(∀o,h.get? T=some o->h'.get? T=some o)->TS prog w h' T b xs o es ep t:=λx k=>⟨k _ x.at',x.ex,x.data,x.ents,x.nd,x.tab,x.led,x.len,x.mask,x.full⟩
 intro k
 induction k with
 | zero=>
  intro i s hk hi st hIs hS hR
  obtain rfl:i=n:=by omega
  refine codeAny_builtin PyProof.Rows.F.entry_set_update_loop ?_
  rw[Around.under_plainId PyProof.Rows.F.plain_set_update_loop _]
  refine yYX (m:=pyNext (.ref I)) (W.done s _ _ st λs' mv=>?_)
  obtain⟨xs,o,es,ep,t,X,M⟩:=hS
  exact yYY (hR s' (mv.mono up) ⟨xs,o,es,ep,t,kept X λo e=>mv.heap T _ MY e,M⟩)
 | succ k ih=>
  intro i s hk hi st hIs hS hR
  have lt:i<n:=by omega
  refine codeAny_builtin PyProof.Rows.F.entry_set_update_loop ?_
  rw[Around.under_plainId PyProof.Rows.F.plain_set_update_loop _]
  refine yYX (m:=pyNext (.ref I)) (W.item i s _ _ lt st λv s' hP c6 mv=>?_)
  obtain⟨y,ey,rfl⟩:=mr i v hP
  have Eo:=bw ey
  obtain⟨xs,o,es,ep,t,X,M⟩:=hS
  have X1:=kept (h':=s'.heap) X λo e=>mv.heap T _ MY e
  have hIs1:∀y∈its,gV prog w s'.heap y.1 y.2:=λy hy=>GF (hIs y hy) λo e=>mv.heap _ _ (λz=>(MW y hy).1 (W.sub _ z)) e
  have mem:∀x∈xs,x∈its:=λx hx=>Ys (M.1 x hx)
  have lx:xs.length<=N:=by
   have:=hN (xs.map (·.1)) X.nd λk hk=>by
    obtain⟨x,hx,rfl⟩:=aZ.mp hk
    exact aZ.mpr ⟨x,mem x hx,rfl⟩
   rw[av] at this
   exact this
  have et:its.take (i+1)=its.take i++[y]:=by rw[c5,ey];rfl
  refine yYX (m:=holding [Value.ref y.2] (setAdd T (.ref y.2))) (wpAny_holding ?_)
  unfold setAdd
  have rm:(A.in1).units<cLine:=by simp only[units_in1];omega
  refine wpAny_holding (yYX (wpAny_pyHash_tuple rm (hIs1 y Eo) ?_))
  have go:∀(h':Heap) (lK:List (List Key×Addr)) (o':Obj) (bC:Array (Int×Value)) (dt:Nat) (t':SetTable) (tk:Nat),s'.toks<=tk->Heap.SameBut T s'.heap h'->TS prog w h' T b lK o' bC dt t'->Made its (i+1) lK->
    codeAny (model prog w) A (.builtin "set.update.loop" ⟨[.ref T,.ref I],[]⟩) R { s' with heap:=h',toks:=tk }:=λh' lK o' bC dt t' tk Bp sb X' M'=>by
   refine ih (i+1) _ (by omega) lt (W.frame _ s' _ _ c6 Bp λb oH o e=>?_) (λy hy=>GF (hIs1 y hy) λo e=>?_) ⟨lK,o',bC,dt,t',X',M'⟩ λrN mv2 Gw=>?_
   .rw[sb.2 b (λz=>hT (z▸oH))];exact e
   .rw[sb.2 _ (MW y hy).2];exact e
   .refine hR rN (Moved.trans W.gtrans ((mv.mono up).then_heap Bp λb o oH e=>?_) mv2) Gw
    rw[sb.2 b (λz=>oH (z▸aW))];exact e
  refine VF (s:={ s' with toks:=s'.toks+(y.1.length+1) }) X1 rm (hIs1 y Eo) (λx hx=>hIs1 x (mem x hx)) (by omega) (λhm=>?_) (λh' lK o' bC dt t' hm sb pm X'=>?_)
  .exact yYY ⟨plainId_quiet PyProof.Rows.F.plain_set_update_loop _,go s'.heap xs o es ep t _ (show s'.toks<=s'.toks+(y.1.length+1) by omega) (Heap.SameBut.refl T s'.heap) X1 ⟨λx hx=>by rw[et];exact Ym _ (M.1 x hx),λz hz=>by
    rw[et] at hz
    rcases fh.mp hz with hz | hz
    .exact M.2 z hz
    .rw[bB.mp hz];exact hm⟩⟩
  .exact yYY ⟨plainId_quiet PyProof.Rows.F.plain_set_update_loop _,go h' lK o' bC dt t' _ (show s'.toks<=s'.toks+(y.1.length+1) by omega) sb X' ⟨λx hx=>by
    rw[et]
    rcases aE.mp (pm.mem_iff.mp hx) with rfl | hx
    .exact fE _ aW
    .exact Ym _ (M.1 x hx),λz hz=>by
    refine(pm.map (·.1)).mem_iff.mpr ?_
    rw[Yl]
    rw[et] at hz
    rcases fh.mp hz with hz | hz
    .exact yYH _ (M.2 z hz)
    .rw[bB.mp hz];exact aW⟩⟩
end
section
variable {prog:Program}{w:World}{A:Around}{E:Value->Shared->Prop}{s:Shared}
theorem fS {l:Addr}{items:Array Value}{its:List (List Key×Addr)}{Q:Value->Shared->Prop}(hh:A.handled=none)(hu:A.units+32<cLine)(hl:s.heap.IsList l items)(hI:items.toList=its.map λy=>Value.ref y.2)(MZ:∀y∈its,gV prog w s.heap y.1 y.2){N:Nat}(hN:∀ys:List (List Key),ys.Nodup->(∀k∈ys,k∈its.map (·.1))->ys.length<=N)(MX:N<=3)
  (fin:∀(h':Heap) (tk:Nat),(∃xs o' bC dt t',TS prog w h' s.heap.objs.size (!au w) xs o' bC dt t'/\Made its its.length xs)->(∀b o,s.heap.get? b=some o->h'.get? b=some o)->Q (.ref s.heap.objs.size) { s with heap:=h',toks:=tk }):
  wpAny (model prog w) A (call (.type "set") [.ref l]) Q E s:=by
 have len:items.size=its.length:=by rw[<- eP,hI,av]
 obtain⟨c0,tl0,m0⟩:=F.called_set.mro
 have m1:=F.called_set.made
 have m2:=F.called_set.sub
 refine wpAny_call (codeAny_of_tree ?_)
 show wpAny _ _ (callAny (.type "set") _) _ _ _
 refine yYY ⟨Code.quiet_builtin _ (by wtm_at"d"),codeAny_builtin F.entry_type_call ?_⟩
 rw[Around.under_plain (weight_type_call_type "set" [.ref l] []) rfl]
 have m3:=F.called_set.notType
 have m4:=F.called_set.canCreate
 have m5:=F.typeCall_set_1 (.ref l)
 repeat (any_goals (first | assumption | wp_step))
 refine codeAny_mono (TR (.ref l) (E:=E) (Q₁:=λobj s₁=>obj=.ref s.heap.objs.size/\s₁={ s with heap:=s.heap.push (bh (!au w)) }) ⟨rfl,rfl⟩) λr s₁ hr=>?_
 cases r with
 | error e=>exact hr
 | ok fl=>
 cases fl with
 | ret obj=>
  obtain⟨rfl,rfl⟩:=hr
  have M0:(s.heap.push (bh (!au w))).get? s.heap.objs.size=some (bh (!au w)):=bg _ rfl
  have VM:Shared.TypeIs { s with heap:=s.heap.push (bh (!au w)) } (.ref s.heap.objs.size) "set" := ⟨_,M0,rfl⟩
  have m6:=F.called_set.init.lookup
  have m7:=F.called_set.init.bind (.ref s.heap.objs.size)
  repeat (any_goals (first | assumption | wp_step))
  refine codeAny_mono (codeAny_call_builtin (R:=wants (λr s₂=>r=.none/\∃h' tk,s₂={ s with heap:=h',toks:=tk }/\(∃xs o' bC dt t',TS prog w h' s.heap.objs.size (!au w) xs o' bC dt t'/\Made its its.length xs)/\(∀b o,s.heap.get? b=some o->h'.get? b=some o)) E)
   F.called_set.init.plain F.entry_set_init (check_set_init_1 VM ?_)) λr₂ s₂ hr₂=>?_
  .obtain⟨⟨oc,od,oda,l9⟩,g,kc,nl,kd⟩:=hl
   simp only at kc kd
   subst kc kd
   have g1:(s.heap.push (bh (!au w))).get? l=some { cls:=.type "list",dict:=od,data:=.seq items nl,slots:=l9 }:=yYZ _ g
   have n1:=F.sub_list_set
   have n2:=F.sub_list_frozenset
   have n3:(Value.type "list" == Value.type "dict")=false:=by decide
   have l1:(s.heap.push (bh (!au w))).IsList l items:=⟨_,g1,rfl,nl,rfl⟩
   unfold Builtin.«set.__init__» noKeywords Builtin.Frozenset.updateFrom
   generalize VN:pyIter=PI
   wp_walk
   subst VN
   refine wpAny_pyIter_list l1 (yYX (wpAny_runValue ?_))
   have lt:l<s.heap.objs.size:=aG g
   have sz:(s.heap.push (bh (!au w))).objs.size=s.heap.objs.size+1:=gj _ _
   have ne1:l≠(s.heap.push (bh (!au w))).objs.size:=by rw[sz];exact yZF (Nat.lt_succ_of_lt lt)
   have out:s.heap.objs.size∉[(s.heap.push (bh (!au w))).objs.size,l]:=by
    rw[sz]
    intro z
    simp only[aE,Yp,or_false] at z
    rcases z with z | z
    .exact absurd z (yZF (Nat.lt_succ_self _))
    .exact absurd z (yZH lt)
   have apart:∀y∈its,y.2∉[(s.heap.push (bh (!au w))).objs.size,l]/\y.2≠s.heap.objs.size:=λy hy=>by
    have GX:=MZ y hy
    obtain⟨o',i',n',e',c',d',_⟩:=GX
    have lt':=aG e'
    refine⟨λz=>?_,yZF lt'⟩
    rw[sz] at z
    simp only[aE,Yp,or_false] at z
    rcases z with z | z
    .exact absurd z (yZF (Nat.lt_succ_of_lt lt'))
    .rw[z,g] at e'
     cases e'
     exact absurd (Value.type.inj c') (by decide)
   refine VL (b:=!au w) ((Walks.list (by simp[hh]) _ l ne1 items).toS) s.heap.objs.size out its (λi v hv=>?val) apart (by rw[len]) hN MX ?room (items.size - 0) 0 _ (by omega) (yZG _) ⟨⟨_,bg _ rfl,rfl,rfl⟩,(l1.push _)⟩ (λy hy=>GF (MZ y hy) λo e=>yYZ _ (yYZ _ e)) ?start ?done
   case val=>
    have e:items.toList[i]? = some v:=by rw[lT];exact hv
    rw[hI,bb] at e
    obtain⟨y,ey,rfl⟩:=YJ.mp e
    exact⟨y,ey,rfl⟩
   case room=>
    simp only[units_in1,units_deeper,Around.mark_units,units_caller]
    omega
   case start=>
    refine⟨[],bh (!au w),#[],0,.fresh 0 0 (!au w),⟨yYZ _ M0,⟨rfl,rfl,rfl⟩,rfl,rfl,.nil,⟨rfl,.nil,qm,(by show(7 % 2 == 0)=false;decide),rfl,(λj hj=>by cases hj),yZG _,(λi j e h1=>by cases h1)⟩,rfl,yZG _,.inl rfl,(by show 0 * 5<7 * 3;decide)⟩,⟨λx hx=>(by cases hx),λy hy=>by cases hy⟩⟩
   case done=>
    intro s' mv sy
    obtain⟨h',g',d',fQ,rL⟩:=s'
    obtain rfl:g'=s.gens:=mv.gens
    obtain rfl:d'=s.drawn:=mv.drawn
    obtain rfl:rL=s.os:=mv.os
    refine yYY ?_
    rw[len] at sy
    refine yYY ⟨rfl,h',fQ,rfl,sy,λb o e=>?_⟩
    have lb:=aG e
    refine mv.heap b o (λz=>?_) (yYZ _ (yYZ _ e))
    simp only[aE,Yp,or_false] at z
    rcases z with z | z
    .exact absurd z (yZF lb)
    .exact absurd z (by rw[sz];exact yZF (Nat.lt_succ_of_lt lb))
  .cases r₂ with
   | error e=>exact hr₂
   | ok fl₂=>
   cases fl₂ with
   | ret r=>
    obtain⟨rfl,h',tk,rfl,sy,keep⟩:=hr₂
    repeat (any_goals (first | assumption | wp_step))
    exact fin _ _ sy keep
   | _=>exact hr₂.elim
 | _=>exact hr.elim
end
end ST
namespace L2
open PySem PySem.Spec PyProof.Rows
def Cp (P:Program)(w:World)(K:aq):List V->Hp->VK->Prop:=λvs H Q=>∃(l:Addr) (us:List V) (ss:List (List Int)),vs=[.ref l]/\aj K H l us/\Paired (L9 H) ss us/\(∀ys:List (List Int),ys.Nodup->(∀k∈ys,k∈ss)->ys.length<=3)/\
 ∀(p:Addr) (xs:List (List Int×Addr)),H p=none->(xs.map (·.1)).Nodup->(∀x∈xs,x.1∈ss/\H x.2=some (.tup (x.1.map V.int)))->(∀k∈ss,k∈xs.map (·.1))->Q (.ref p) (upd H p (ig P w p xs))
section
variable {X:Cx}{P:Program}{w:World}{K:aq}
theorem VO (hc:X.calm=true)(hu:X.A.units+64<cLine)(hP:X.prog=P:=by rfl)(hw:X.w=w:=by rfl)(hK:X.K=K:=by rfl):aL X (.type "set") (Cp P w K):=by
 subst hK hP hw
 intro zz s σ H xs us0 Q I r h
 obtain⟨l,us,ss,rfl,hl,hp,hN,q⟩:=h
 obtain⟨u,rfl,ru⟩:=vals1 r
 cases ru
 obtain⟨its,r1,p1,_⟩:=I.list hl
 have l1:=hp.length
 have sM:=TL hp r1
 obtain⟨zs,GY,VP,M1⟩:∃zs:List (List Int×Addr),zs.map (·.1)=ss/\its=zs.map (λy=>Value.ref y.2)/\∀y∈zs,H y.2=some (.tup (y.1.map V.int)):=by
  subst sM
  clear r1 p1 hl hN q l1
  rename_i hle
  clear hle
  induction hp with
  | nil=>exact⟨[],rfl,rfl,λy hy=>by cases hy⟩
  | cons h _ ih=>
   obtain⟨a,rfl,ea⟩:=h
   obtain⟨zs,h1,h2,h3⟩:=ih
   exact⟨(_,a)::zs,by rw[Yl,h1],by rw[Yl,Yl,h2];rfl,λy hy=>by
    rcases aE.mp hy with rfl | hy
    .exact ea
    .exact h3 y hy⟩
 have VQ:∀y∈zs.map ST.kx,ST.gV X.prog X.w s.heap y.1 y.2:=λy hy=>by
  obtain⟨z,hz,rfl⟩:=aZ.mp hy
  exact wB I.af (by rw[show(ST.kx z).1=ST.ik z.1 from rfl,ST.my];exact M1 z hz)
 refine ST.fS (its:=zs.map ST.kx) (N:=3) (I.ok.hd hc) (by omega) p1.isList (by rw[Yn];show its=_;rw[VP];rfl) VQ (λys nd sub=>?_) (yZD _) λh' tk hS keep=>?_
 .have lift:∀ys:List (List Key),(∀k∈ys,k∈(zs.map ST.kx).map (·.1))->∃ms:List (List Int),ys=ms.map ST.ik/\∀k∈ms,k∈ss:=by
   intro ys
   induction ys with
   | nil=>exact λ_=>⟨[],rfl,λk hk=>by cases hk⟩
   | cons y ys ih=>
    intro sub
    obtain⟨ms,e1,e2⟩:=ih λk hk=>sub k (yYH _ hk)
    have:=sub y aW
    rw[Yn] at this
    obtain⟨z,hz,rfl⟩:=aZ.mp this
    refine⟨z.1::ms,by rw[Yl,e1];rfl,λk hk=>?_⟩
    rcases aE.mp hk with rfl | hk
    .rw[<- GY];exact aZ.mpr ⟨z,hz,rfl⟩
    .exact e2 k hk
  obtain⟨ms,e1,e2⟩:=lift ys sub
  rw[e1,av]
  refine hN ms ?_ e2
  rw[e1] at nd
  exact List.Pairwise.imp (λh e=>h (by rw[e])) (List.pairwise_map.mp nd)
 .obtain⟨xk,o',bC,dt,t',Ep,M⟩:=hS
  unfold ST.Made at M
  rw[Yk (yZD _)] at M
  obtain⟨xs,ex,M3⟩:∃xs:List (List Int×Addr),xk=xs.map ST.kx/\∀x∈xs,x∈zs:=by
   have m1:=M.1
   clear M Ep
   induction xk with
   | nil=>exact⟨[],rfl,λx hx=>by cases hx⟩
   | cons y ys ih=>
    obtain⟨xs,e1,e2⟩:=ih λk hk=>m1 k (yYH _ hk)
    obtain⟨z,hz,rfl⟩:=aZ.mp (m1 y aW)
    refine⟨z::xs,by rw[Yl,e1],λx hx=>?_⟩
    rcases aE.mp hx with rfl | hx
    .exact hz
    .exact e2 x hx
  subst ex
  have nd:(xs.map (·.1)).Nodup:=by
   have:=Ep.nd
   rw[Yn] at this
   exact List.pairwise_map.mpr (List.Pairwise.imp (λh e=>h (by show ST.ik _=ST.ik _;rw[e])) (List.pairwise_map.mp this))
  refine⟨.ref s.heap.objs.size,_,I.laid (t':=tk) (o:=ig X.prog X.w s.heap.objs.size xs) keep (yZD _) ⟨⟨o',bC,dt,t',Ep⟩,⟨o',Ep.at'⟩,?_⟩,rfl,q _ xs (I.af.fresh (yZD _)) nd (λx hx=>⟨?_,M1 x (M3 x hx)⟩) λk hk=>?_⟩
  .rintro h1 h2 ⟨o,es,ep,t,x⟩ k
   exact⟨o,es,ep,t,k _ x.at',x.ex,x.data,x.ents,x.nd,x.tab,x.led,x.len,x.mask,x.full⟩
  .rw[<- GY];exact aZ.mpr ⟨x,M3 x hx,rfl⟩
  .rw[<- GY] at hk
   obtain⟨z,hz,rfl⟩:=aZ.mp hk
   have:=M.2 (ST.kx z) (aZ.mpr ⟨z,hz,rfl⟩)
   rw[Yn] at this
   obtain⟨x,hx,e⟩:=aZ.mp this
   have e:ST.ik x.1=ST.ik z.1:=e
   exact aZ.mpr ⟨x,hx,ST.ie e⟩
end
end L2
namespace TS
open PySem PyProof.Rows PySem.W
section
variable {O:KeyOrd}{g:Nat->O.α}{n:Nat}{s:Shared}{cmp:Nat->Nat->(Bool->Shared->Prop)->Shared->Prop}
def ky (g:Nat->O.α)(p:Array Nat)(i:Nat):O.α:=g (p.getD i 0)
def Up (g:Nat->O.α)(p:Array Nat)(k:Nat):Prop:=∀i j,i<=j->j<k->O.kle (ky g p i) (ky g p j)
def Dw (g:Nat->O.α)(p:Array Nat)(k:Nat):Prop:=∀i j,i<=j->j<k->O.kle (ky g p j) (ky g p i)
structure Pl (n:Nat)(p:Array Nat):Prop where
 size:p.size=n
 perm:p.toList.Perm (List.range n)
def o7 (g:Nat->O.α)(n:Nat)(s:Shared)(cmp:Nat->Nat->(Bool->Shared->Prop)->Shared->Prop):Prop:=
 ∀i j (C:Bool->Shared->Prop),i<n->j<n->C (O.blt (g i) (g j)) s->cmp i j C s
theorem Pl.at {p:Array Nat}(h:Pl n p){i:Nat}(hi:i<n):p.getD i 0<n:=by
 have tZ:i<p.size:=by rw[h.size];exact hi
 have e:p.getD i 0=p[i]:=by simp[Array.getD,tZ]
 rw[e]
 exact List.mem_range.mp (h.perm.mem_iff.mp (Array.getElem_mem_toList tZ))
theorem Pl.of {p q:Array Nat}(h:Pl n p)(e:q.Perm p):Pl n q:=⟨e.size_eq.trans h.size,(Array.perm_iff_toList_perm.mp e).trans h.perm⟩
theorem Pl.start:Pl n (List.toArray (List.range n)):=⟨by simp,by simp⟩
theorem Cq {p q:Array Nat}{i j:Nat}(h:p[i]? = q[j]?):p.getD i 0=q.getD j 0:=by
 rw[Array.getD_eq_getD_getElem?,Array.getD_eq_getD_getElem?,h]
theorem GZ {p:Array Nat}{i j:Nat}(hj:j<=p.size)(k:Nat):ky g (kas_rev p i j) k=if i<=k/\k<j then ky g p (i+j - 1 - k) else ky g p k:=by
 have e:=getElem?_mirror_all (i:=i) hj k
 by_cases h1:i<=k/\k<j
 .rw[if_pos h1] at e ⊢;exact congrArg g (Cq e)
 .rw[if_neg h1] at e ⊢;exact congrArg g (Cq e)
theorem Cr {p:Array Nat}{i j:Nat}(hj:j<=p.size)(he:∀k,i<=k->k<j->ky g p k=ky g p (j - 1))(k:Nat):ky g (kas_rev p i j) k=ky g p k:=by
 rw[GZ hj]
 split
 .rw[he _ (by omega) (by omega),he k (by omega) (by omega)]
 .rfl
theorem M4 {p:Array Nat}{m d:Nat}(hs:m<p.size)(hd:d<=m)(k:Nat):ky g (bubble p m d) k=if k=m - d then ky g p m else if m - d<k/\k<=m then ky g p (k - 1) else ky g p k:=by
 have e:=getElem?_bubble hs d hd k
 by_cases h1:k=m - d
 .rw[if_pos h1] at e ⊢;exact congrArg g (Cq e)
 .rw[if_neg h1] at e ⊢
  by_cases h2:m - d<k/\k<=m
  .rw[if_pos h2] at e ⊢;exact congrArg g (Cq e)
  .rw[if_neg h2] at e ⊢;exact congrArg g (Cq e)
theorem Pl.rev {p:Array Nat}(h:Pl n p)(i j:Nat):Pl n (kas_rev p i j):=h.of (mirror_perm _ _ _ _)
theorem Pl.bub {p:Array Nat}(h:Pl n p)(m d:Nat):Pl n (bubble p m d):=h.of (bubble_perm _ _ _)
theorem Up.one {p:Array Nat}:Up g p 1:=λi j a b=>by
 have:i=j:=by omega
 subst this;exact KeyOrd.kle_refl _
theorem Up.step {p:Array Nat}{a:Nat}(u:Up g p a)(h1:1<=a)(l:O.kle (ky g p (a - 1)) (ky g p a)):Up g p (a+1):=λi j oO hj=>by
 by_cases e:j<a
 .exact u i j oO e
 .have:j=a:=by omega
  subst this
  by_cases e2:i=j
  .subst e2;exact KeyOrd.kle_refl _
  .exact KeyOrd.kle_trans (u i (j - 1) (by omega) (by omega)) l
theorem Dw.step {p:Array Nat}{a:Nat}(u:Dw g p a)(h1:1<=a)(l:O.kle (ky g p a) (ky g p (a - 1))):Dw g p (a+1):=λi j oO hj=>by
 by_cases e:j<a
 .exact u i j oO e
 .have:j=a:=by omega
  subst this
  by_cases e2:i=j
  .subst e2;exact KeyOrd.kle_refl _
  .exact KeyOrd.kle_trans l (u i (j - 1) (by omega) (by omega))
theorem G0 (hC:o7 g n s cmp){p:Array Nat}(hp:Pl n p){Q:Nat->Shared->Prop}:∀(f a:Nat),1<=a->a+f<=n->Up g p a->
  (∀m,a<=m->m<=a+f->Up g p m->(m=a+f\/O.klt (ky g p m) (ky g p (m - 1)))->Q m s)->(kas_asc p f a).kasWp cmp Q s
 | 0,a,_,_,u,h=>h a (yZD _) (yZD _) u (.inl rfl)
 | f+1,a,h1,hn,u,h=>by
  refine hC _ _ _ (hp.at (by omega)) (hp.at (by omega)) ?_
  cases c:O.blt (g (p.getD a 0)) (g (p.getD (a - 1) 0)) with
  | true=>
   simp only[if_true]
   exact h a (yZD _) (by omega) u (.inr c)
  | false=>
   simp only[bL,if_false]
   refine G0 hC hp f (a+1) (by omega) (by omega) (u.step h1 c) λm a1 a2 a3 a4=>h m (by omega) (by omega) a3 ?_
   rcases a4 with a4 | a4
   .exact .inl (by omega)
   .exact .inr a4
theorem M5 (hC:o7 g n s cmp){p:Array Nat}(hp:Pl n p){Q:Nat×Array Nat->Shared->Prop}{a:Nat}(h1:1<=a)(ha:a<=n)(d:Dw g p a)
  (h:∀m q,1<=m->m<=n->Pl n q->Up g q m->Q (m,q) s):(kas_tail3 a n p).kasWp cmp Q s:=by
 unfold kas_tail3
 rw[KasT.kasWp_bind]
 refine G0 hC (hp.rev 0 a) _ a h1 (by omega) (λi j oO hj=>?_) λm a1 a2 a3 _=>h m _ (by omega) (by omega) (hp.rev 0 a) a3
 have z:a<=p.size:=by rw[hp.size];exact ha
 rw[GZ z,GZ z,if_pos (by omega),if_pos (by omega)]
 exact d _ _ (by omega) (by omega)
theorem Er (hC:o7 g n s cmp){Q:Array Nat×Nat×Nat->Shared->Prop}:∀(f:Nat) (p:Array Nat) (a q:Nat),Pl n p->1<=a->a+f<=n->Dw g p a->q+1<=a->(∀i,a - (q+1)<=i->i<a->ky g p i=ky g p (a - 1))->
  (∀p' m q',Pl n p'->a<=m->m<=n->Dw g p' m->q'+1<=m->(∀i,m - (q'+1)<=i->i<m->ky g p' i=ky g p' (m - 1))->Q (p',m,q') s)->(kas_desc f p a q).kasWp cmp Q s
 | 0,p,a,q,hp,h1,hn,d,hq,he,h=>h p a q hp (yZD _) (by omega) d hq he
 | f+1,p,a,q,hp,h1,hn,d,hq,he,h=>by
  have z:a<=p.size:=by rw[hp.size];omega
  refine hC _ _ _ (hp.at (by omega)) (hp.at (by omega)) ?_
  cases c:O.blt (g (p.getD a 0)) (g (p.getD (a - 1) 0)) with
  | true=>
   simp only[if_true]
   have d1:∀p':Array Nat,(∀k,ky g p' k=ky g p k)->Dw g p' (a+1):=λp' e=>by
    refine Dw.step (λi j x y=>by rw[e,e];exact d i j x y) h1 ?_
    rw[e,e];exact KeyOrd.kle_of_klt c
   by_cases q0:q>0
   .rw[if_pos q0]
    exact Er hC f _ (a+1) 0 (hp.rev _ _) (by omega) (by omega) (d1 _ (Cr z he)) (by omega) (λi x y=>by congr 1;omega) λp' m q' a1 a2=>h p' m q' a1 (by omega)
   .rw[if_neg q0]
    exact Er hC f p (a+1) 0 hp (by omega) (by omega) (d1 _ λ_=>rfl) (by omega) (λi x y=>by congr 1;omega) λp' m q' a1 a2=>h p' m q' a1 (by omega)
  | false=>
   simp only[bL,if_false]
   refine hC _ _ _ (hp.at (by omega)) (hp.at (by omega)) ?_
   cases c2:O.blt (g (p.getD (a - 1) 0)) (g (p.getD a 0)) with
   | true=>
    simp only[if_true]
    exact h p a q hp (yZD _) (by omega) d hq he
   | false=>
    simp only[bL,if_false]
    have e:ky g p a=ky g p (a - 1):=KeyOrd.kle_antisymm c2 c
    refine Er hC f p (a+1) (q+1) hp (by omega) (by omega) (d.step h1 c2) (by omega) (λi x y=>?_) λp' m q' a1 a2=>h p' m q' a1 (by omega)
    rw[show a+1 - 1=a by omega]
    by_cases ia:i=a
    .subst ia;rfl
    .rw[e];exact he i (by omega) (by omega)
theorem M6 (hC:o7 g n s cmp){p:Array Nat}(hp:Pl n p){Q:Nat×Array Nat->Shared->Prop}{a:Nat}(ha:a+1<=n)(d:Dw g p (a+1))
  (h:∀m q,1<=m->m<=n->Pl n q->Up g q m->Q (m,q) s):(kas_descPart a n p).kasWp cmp Q s:=by
 unfold kas_descPart
 rw[KasT.kasWp_bind]
 refine Er hC _ p (a+1) 0 hp (by omega) (by omega) d (by omega) (λi x y=>by congr 1;omega) λp' m q' a1 a2 a3 a4 a5 a6=>?_
 dsimp only
 have z:m<=p'.size:=by rw[a1.size];exact a3
 by_cases q0:q'>0
 .rw[if_pos q0]
  exact M5 hC (a1.rev _ _) (by omega) a3 (λi j x y=>by rw[Cr z a6,Cr z a6];exact a4 i j x y) h
 .rw[if_neg q0]
  exact M5 hC a1 (by omega) a3 a4 h
theorem VR (hC:o7 g n s cmp){p:Array Nat}(hp:Pl n p){Q:Nat×Array Nat->Shared->Prop}(h1:1<=n)
  (h:∀m q,1<=m->m<=n->Pl n q->Up g q m->Q (m,q) s):(kas_count n p).kasWp cmp Q s:=by
 unfold kas_count
 rw[KasT.kasWp_bind]
 refine G0 hC hp _ 1 (yZD _) (by omega) Up.one λa a1 a2 u lo=>?_
 by_cases e:a=n
 .rw[if_pos (by simpa using e)]
  exact h a p a1 (by omega) hp u
 rw[if_neg (by simpa using e)]
 have lt:O.klt (ky g p a) (ky g p (a - 1)):=lo.resolve_left (by omega)
 by_cases a0:a>1
 .rw[if_pos a0]
  refine hC _ _ _ (hp.at (by omega)) (hp.at (by omega)) ?_
  cases c:O.blt (g (p.getD 0 0)) (g (p.getD (a - 1) 0)) with
  | true=>
   simp only[if_true]
   exact h a p a1 (by omega) hp u
  | false=>
   simp only[bL,if_false]
   have z:a<=p.size:=by rw[hp.size];omega
   have all:∀k,0<=k->k<a->ky g p k=ky g p (a - 1):=λk _ hk=>KeyOrd.kle_antisymm (u k (a - 1) (by omega) (by omega)) (KeyOrd.kle_trans c (u 0 k (by omega) hk))
   refine M6 hC (hp.rev 0 a) (by omega) (λi j x y=>?_) h
   rw[Cr z all,Cr z all]
   by_cases ja:j<a
   .rw[all i (by omega) (by omega),all j (by omega) ja];exact KeyOrd.kle_refl _
   .have:j=a:=by omega
    subst this
    by_cases ij:i=j
    .subst ij;exact KeyOrd.kle_refl _
    .rw[all i (by omega) (by omega)];exact KeyOrd.kle_of_klt lt
 .rw[if_neg a0]
  have:a=1:=by omega
  subst this
  refine M6 hC hp (by omega) (λi j x y=>?_) h
  by_cases ij:i=j
  .subst ij;exact KeyOrd.kle_refl _
  .have e1:i=0:=by omega
   have e2:j=1:=by omega
   subst e1 e2
   exact KeyOrd.kle_of_klt lt
theorem G' (hC:o7 g n s cmp){p:Array Nat}(hp:Pl n p){k:Nat}(hk:k<n)(u:Up g p k){Q:Nat->Shared->Prop}
  (h:∀l,l<=k->(∀i,i<l->O.kle (ky g p i) (ky g p k))->(∀i,l<=i->i<k->O.klt (ky g p k) (ky g p i))->Q l s):∀(f l r:Nat),l<=r->r<=k->r - l<=f->
  (∀i,i<l->O.kle (ky g p i) (ky g p k))->(∀i,r<=i->i<k->O.klt (ky g p k) (ky g p i))->(kas_place p k f l r).kasWp cmp Q s
 | 0,l,r,a1,a2,a3,a4,a5=>h l (by omega) a4 λi x y=>a5 i (by omega) y
 | f+1,l,r,a1,a2,a3,a4,a5=>by
  show(if l>=r then KasT.ret l else _).kasWp cmp Q s
  by_cases e:l>=r
  .rw[if_pos e]
   exact h l (by omega) a4 λi x y=>a5 i (by omega) y
  rw[if_neg e]
  refine hC _ _ _ (hp.at hk) (hp.at (by omega)) ?_
  cases c:O.blt (g (p.getD k 0)) (g (p.getD ((l+r) / 2) 0)) with
  | true=>
   simp only[if_true]
   exact G' hC hp hk u h f l _ (by omega) (by omega) (by omega) a4 λi x y=>KeyOrd.klt_of_klt_of_kle c (u _ _ x y)
  | false=>
   simp only[bL,if_false]
   exact G' hC hp hk u h f _ r (by omega) a2 (by omega) (λi x=>KeyOrd.kle_trans (u i ((l+r) / 2) (by omega) (by omega)) c) a5
theorem M7 (hC:o7 g n s cmp){Q:Array Nat->Shared->Prop}(h:∀q,Pl n q->Up g q n->Q q s):∀(f:Nat) (p:Array Nat) (k:Nat),Pl n p->k+f=n->Up g p k->(kas_bin f p k).kasWp cmp Q s
 | 0,p,k,hp,e,u=>h p hp (by rw[<- e];exact u)
 | f+1,p,k,hp,e,u=>by
  show((kas_place p k k 0 k).bind _).kasWp cmp Q s
  rw[KasT.kasWp_bind]
  refine G' hC hp (by omega) u (λl lk lo hi=>?_) k 0 k (by omega) (by omega) (by omega) (λi x=>by omega) (λi x y=>by omega)
  refine M7 hC h f _ (k+1) (hp.bub _ _) (by omega) λi j oO hj=>?_
  have z:k<p.size:=by rw[hp.size];omega
  rw[M4 z (by omega),M4 z (by omega),show k - (k - l)=l by omega]
  repeat' split
  all_goals first
   | (exfalso;omega)
   | exact KeyOrd.kle_refl _
   | exact lo _ (by omega)
   | exact KeyOrd.kle_of_klt (hi _ (by omega) (by omega))
   | exact u _ _ (by omega) (by omega)
theorem o8 (hC:o7 g n s cmp){Q:Array Nat->Shared->Prop}(h1:1<=n)(h:∀q,Pl n q->Up g q n->Q q s):(kas_sort n).kasWp cmp Q s:=by
 unfold kas_sort
 rw[KasT.kasWp_bind]
 refine VR hC Pl.start h1 λm q a1 a2 a3 a4=>?_
 dsimp only
 by_cases e:m<n
 .rw[if_pos e]
  exact M7 hC h _ q (max m 1) a3 (by omega) (by rw[show max m 1=m by omega];exact a4)
 .rw[if_neg e]
  have:m=n:=by omega
  subst this
  exact h q a3 a4
end
end TS
namespace TM
open PySem PyProof.Rows PySem.W
section
variable {prog:Program}{w:World}{A:Around}{E:Value->Shared->Prop}{s:Shared}{O:KeyOrd}{key:Value->O.α}{κ:SortKind}{vs:List Value}
theorem VS (S:B2 prog w A s key κ (pairsOf vs)):TS.o7 (O:=O) (λi=>key (vs.getD i Value.none)) vs.length s (kas_ask prog w A κ vs):=λi j C hi hj hc=>by
 have mem:∀i,i<vs.length->(vs.getD i Value.none,vs.getD i Value.none)∈(pairsOf vs).toList:=λi hi=>by
  rw[pairsOf_toList]
  have e:vs.getD i Value.none=vs[i]:=by rw[Yh,aH hi];rfl
  rw[e]
  exact List.mem_iff_getElem?.mpr ⟨i,by rw[List.getElem?_zip_eq_some];exact⟨aH hi,aH hi⟩⟩
 exact S _ _ (mem i hi) (mem j hj) _ _ hc
theorem VT {p:Array Nat}(pl:TS.Pl vs.length p)(up:TS.Up (O:=O) (λi=>key (vs.getD i Value.none)) p vs.length):((List.toArray (p.toList.map λi=>vs.getD i Value.none)).toList.Perm vs)/\(List.toArray (p.toList.map λi=>vs.getD i Value.none)).toList.Pairwise (λx y=>O.kle (key x) (key y)):=by
 have e:(List.range vs.length).map (λi=>vs.getD i Value.none)=vs:=by
  apply List.ext_getElem
  .rw[av,List.length_range]
  .intro i h1 h2
   rw[List.getElem_map,List.getElem_range,Yh,aH h2];rfl
 refine⟨?_,?_⟩
 .have:=pl.perm.map (λi=>vs.getD i Value.none)
  rw[e] at this
  exact this
 .show(p.toList.map _).Pairwise _
  rw[List.pairwise_map,List.pairwise_iff_getElem]
  intro i j hi hj oO
  rw[eP,pl.size] at hi hj
  have g:∀i (h:i<p.toList.length),p.toList[i]=p.getD i 0:=λi h=>by
   rw[eP] at h
   simp[Array.getD,h]
  rw[g,g]
  exact up i j (Nat.le_of_lt oO) hj
theorem Hc {a:Addr}{n:Nat}{h0:Heap}{P:PySem.Fin->Shared->Prop}(S:iO prog w { s with heap:=h0 } key κ vs)(hk:∀b o,h0.get? b=some o->s.heap.get? b=some o)(VU:h0.get? a=none)(ho:s.heap.get? a=some (seqObj "list" vs.toArray n))(sN:vs.length<64)
  (h:∀out:Array Value,out.toList.Perm vs->out.toList.Pairwise (λx y=>O.kle (key x) (key y))->P (.done (.ret .none)) { s with heap:=sortedHeap s.heap a vs out }):
  wpAny (model prog w) A (Builtin.«list.sort» ⟨[.ref a],[]⟩) P E s:=by
 have hz:vs.length<=Yc:=by rw[sizeLine_eq];omega
 rw[list_sort_plain]
 have ha:a<s.heap.objs.size:=aG ho
 have z0:vs.toArray.size=vs.length:=by simp
 refine yYX (listItems_at ho rfl ?_)
 refine yYX (listUpdate_at ho rfl ?_ (by rw[z0];exact hz) (yZG _))
 obtain⟨e1,M8⟩:∃e1,(s.heap.update a (Obj.mapSeq λ_=>#[])).get? a=some (seqObj "list" #[] e1):=⟨_,get?_update_seq ho (λ_=>#[])⟩
 refine yYX (seqEpoch_at M8 rfl ?_)
 refine yYX (wpAny_newTuple ?_ (by show vs.length<=_;exact hz))
 refine yYX (wpAny_newList ?_ (yZG _))
 refine wpAny_holding ?_
 have Es:(((s.heap.update a (Obj.mapSeq λ_=>#[])).push (seqObj "tuple" vs.toArray 0)).push (seqObj "list" #[] 0)).get? a=some (seqObj "list" #[] e1):=by
  rw[Heap.get?_push_ne _ _ _ (by rw[size_push',Heap.size_update];exact yZF (Nat.lt_succ_of_lt ha)),Heap.get?_push_ne _ _ _ (by rw[Heap.size_update];exact yZF ha)]
  exact M8
 have keep:∀b o,h0.get? b=some o->(((s.heap.update a (Obj.mapSeq λ_=>#[])).push (seqObj "tuple" vs.toArray 0)).push (seqObj "list" #[] 0)).get? b=some o:=λb o e=>by
  have e':=hk b o e
  have bc:b<s.heap.objs.size:=aG e'
  have oz:b≠a:=λz=>by rw[z,VU] at e;cases e
  rw[Heap.get?_push_ne _ _ _ (by rw[size_push',Heap.size_update];exact yZF (Nat.lt_succ_of_lt bc)),Heap.get?_push_ne _ _ _ (by rw[Heap.size_update];exact yZF bc),Heap.get?_update_ne _ _ _ _ oz]
  exact e'
 show wpAny (model prog w) A _ P E { s with heap:=((s.heap.update a (Obj.mapSeq λ_=>#[])).push (seqObj "tuple" vs.toArray 0)).push (seqObj "list" #[] 0) }
 dsimp only
 by_cases h2:vs.toArray.size<2
 .rw[if_pos h2,if_pos h2]
  refine yYX (yYY ?_)
  rw[StateT.run_pure]
  refine yYX (yYY ?_)
  dsimp only
  refine yYX (seqEpoch_at Es rfl ?_)
  have pz:((pairsOf vs).map (·.2)).size=vs.length:=by rw[Array.size_map,pairsOf_size]
  have out:=Tw (vs:=vs) (key:=key) (Array.Perm.refl (pairsOf vs)) (Tx (by rw[eP,pairsOf_size];omega))
  refine yYX (listUpdate_at Es rfl ?_ (yZG _) (by show((pairsOf vs).map (·.2)).size<=Yc+1;rw[pz];omega))
  simp only[bne_self_eq_false,bL,if_false]
  exact yYY (h _ out.1 out.2)
 .rw[if_neg h2,if_neg h2]
  refine yYX (S.kind A E _ keep (by omega) _ ?_)
  refine yYX (wpAny_mono (kat_run (ks:=vs) (vs:=vs) (Q:=λc6 s'=>s'={ s with heap:=((s.heap.update a (Obj.mapSeq λ_=>#[])).push (seqObj "tuple" vs.toArray 0)).push (seqObj "list" #[] 0) }/\∃p,arrOf c6=p.map (kas_item (vs.toArray.zip vs.toArray))/\failedOf c6=none/\TS.Pl vs.length p/\TS.Up (O:=O) (λi=>key (vs.getD i Value.none)) p vs.length)
   (G:=λp s'=>s'={ s with heap:=((s.heap.update a (Obj.mapSeq λ_=>#[])).push (seqObj "tuple" vs.toArray 0)).push (seqObj "list" #[] 0) }/\TS.Pl vs.length p/\TS.Up (O:=O) (λi=>key (vs.getD i Value.none)) p vs.length) rfl (by omega) sN (λp c6 s' _ He hf hg=>⟨hg.1,p,He,hf,hg.2⟩) (TS.o8 (O:=O) (VS (S.ask A _ keep)) (by omega) λq a b=>⟨rfl,a,b⟩)) ?_ λ_ _ e=>e)
  rintro⟨⟨⟩,c6⟩ s' ⟨rfl,p,He,hf,pl,up⟩
  have VW:=pl.size
  have out:=VT pl up
  dsimp only
  rw[kat_snds rfl He]
  refine yYX (seqEpoch_at Es rfl ?_)
  refine yYX (listUpdate_at Es rfl ?_ (yZG _) (by show(List.toArray _).size<=Yc+1;rw[dO,av,eP,VW];omega))
  rw[hf]
  simp only[bne_self_eq_false,bL,if_false]
  exact yYY (h _ out.1 out.2)
end
end TM
namespace ST
open PySem PyProof.Rows SI L2 TM
section
variable {prog:Program}{w:World}{A:Around}{E:Value->Shared->Prop}{s:Shared}
theorem gM (hh:A.handled=none){a:Addr}{xs:List (List Int×Addr)}{o:Obj}{es:Array (Int×Value)}{ep:Nat}{t:SetTable}(X:TS prog w s.heap a (!au w) (xs.map kx) o es ep t)(sN:xs.length<64)(hx:∀x∈xs,gI s.heap (.ref x.2) x.1){Q:Value->Shared->Prop}
  (h:∀(p:Addr) (ms:List (List Int×Addr)) (e:Nat) (s':Shared),ms.Perm xs->(ms.map (·.1)).Pairwise (λa b=>HT.lexLt b a=false)->s.heap.objs.size<=p->s'.heap.get? p=some (seqObj "list" (ms.map λx=>Value.ref x.2).toArray e)->(∀b o,s.heap.get? b=some o->s'.heap.get? b=some o)->s'.gens=s.gens->s'.os=s.os->Q (.ref p) s'):
  wpAny (model prog w) A (call (.builtin "sorted") [.ref a]) Q E s:=by
 have T:=X.tab
 have len:=X.len
 rw[av] at len
 have size:=X.size
 rw[av] at size
 have ents:=X.ents
 rw[Yn] at ents
 refine Calls.call_function_entry kind_sorted plain_sorted entry_sorted (args_sorted1 _) ?_
 unfold Builtin.«sorted»
 refine yYX (m:=checkCount "sorted" 1 1 _) (yYY ?_)
 refine yYX (Ul (A:=A.in1) (by simp[hh]) ⟨X.at',X.ex,X.data,T.fits⟩ ⟨X.led,T.j4,T.fw⟩ (by omega) λord s1 pm kp hg oV _ hsz=>?_)
 rw[ents] at pm
 obtain⟨ys,py,ey⟩:=GD pm xs rfl
 subst ey
 have ev:(ys.map (ent prog w∘kx)).map (·.2)=ys.map λx=>Value.ref x.2:=by rw[Yn];rfl
 rw[ev]
 have oP:(ys.map λx=>Value.ref x.2).length=xs.length:=by rw[av,py.length_eq]
 have z1:(ys.map λx=>Value.ref x.2).length<=Yc:=by rw[oP,sizeLine_eq];omega
 have Hf:∀v∈ys.map (λx=>Value.ref x.2),∃ns,gI s1.heap v ns:=λv hv=>by
  obtain⟨x,hm,rfl⟩:=aZ.mp hv
  exact⟨x.1,(hx x (py.mem_iff.mp hm)).kept kp⟩
 refine yYX (wpAny_newList ?_ z1)
 have lD:(s1.heap.push (seqObj "list" (ys.map λx=>Value.ref x.2).toArray 0)).get? s1.heap.objs.size=some (seqObj "list" (ys.map λx=>Value.ref x.2).toArray 0):=bg _ rfl
 refine yYX (wpAny_holding (wpAny_call_entry slot_list_sort ⟨_,lD,rfl⟩ entry_list_sort (Hc (s:={ s1 with heap:=s1.heap.push (seqObj "list" (ys.map λx=>Value.ref x.2).toArray 0) }) (h0:=s1.heap) (TF (s:=s1) Hf) (λb o e=>yYZ _ e) (Heap.get?_none_of_le (yZD _)) lD (by rw[oP];exact sN) λout a1 a2=>⟨_,rfl,?_⟩) (args_list_sort _)))
 refine yYY ⟨_,rfl,?_⟩
 obtain⟨e,he⟩:=sortedHeap_at (out:=out) lD
 obtain⟨ms,VX,em⟩:=GD a1 ys rfl
 have Hg:=VX.trans py
 refine h s1.heap.objs.size ms e _ Hg ?_ hsz (by rw[<- em,Array.toArray_toList];exact he) (λb o q=>?_) hg oV
 .rw[em] at a2
  rw[List.pairwise_map] at a2 ⊢
  refine List.Pairwise.imp_of_mem ?_ a2
  intro x y hxm Eo iS
  have k1:=((hx x (Hg.mem_iff.mp hxm)).kept kp).key
  have k2:=((hx y (Hg.mem_iff.mp Eo)).kept kp).key
  have iS:HT.lexLt (eE s1.heap (.ref y.2)) (eE s1.heap (.ref x.2))=false:=iS
  rw[k1,k2] at iS
  exact iS
 .have q1:=kp b o q
  have lb:=aG q1
  show(sortedHeap _ _ _ _).get? b=some o
  rw[sortedHeap_old (yZF lb) (by rw[gj];exact Nat.lt_succ_of_lt lb)]
  exact yYZ _ q1
end
end ST
namespace L2
open PySem PySem.Spec PyProof.Rows
def sO (P:Program)(w:World):List V->Hp->VK->Prop:=λvs H Q=>∃(p:Addr) (xs:List (List Int×Addr)),vs=[.ref p]/\H p=some (ig P w p xs)/\xs.length<=3/\(∀x∈xs,x.1≠[]/\H x.2=some (.tup (x.1.map V.int)))/\
 ∀(l:Addr) (ms:List (List Int×Addr)),H l=none->ms.Perm xs->(ms.map (·.1)).Pairwise (λa b=>HT.lexLt b a=false)->Q (.ref l) (upd H l (.lst (ms.map λx=>V.ref x.2)))
section
variable {X:Cx}{P:Program}{w:World}{K:aq}
theorem VY (hc:X.calm=true)(hP:X.prog=P:=by rfl)(hw:X.w=w:=by rfl):aL X (.builtin "sorted") (sO P w):=by
 subst hP hw
 intro zz s σ H xs us Q I r h
 obtain⟨p,xs,rfl,hp,sN,hx,q⟩:=h
 obtain⟨u,rfl,ru⟩:=vals1 r
 cases ru
 obtain⟨⟨o,es,ep,t,x⟩,_⟩:=I.af p _ hp
 have len:=x.len
 rw[av] at len
 refine ST.gM (I.ok.hd hc) x (by omega) (λy hy=>?_) λl ms e s' pm so hsz he kp hg oV=>?_
 .obtain⟨cM,r2,⟨o,ho,VZ,n2,hd⟩,_⟩:=I.tuple (aS.of (hx y hy).2)
  exact⟨y.2,o,cM.toArray,n2,rfl,ho,VZ,hd,by simpa using TK r2,(hx y hy).1⟩
 have vv:Vals (ms.map λx=>V.ref x.2) (ms.map λx=>Value.ref x.2):=by
  clear he so pm
  induction ms with
  | nil=>exact .nil
  | cons m ms ih=>exact .cons rfl ih
 refine⟨.ref l,_,I.laidD (o:=.lst (ms.map λx=>V.ref x.2)) kp hsz (show ao X.prog X.w _ s'.heap _ (.lst (ms.map λx=>V.ref x.2)) from⟨?_,_,e,vv,he⟩) hg oV,rfl,q l ms (I.af.fresh hsz) pm so⟩
 rw[av,pm.length_eq,sizeLine_eq];omega
end
end L2
namespace DP
open PySem PyProof.Rows L2
section
variable {prog:Program}{w:World}
variable {A:Around}{E:Value->Shared->Prop}{s:Shared}
theorem V0 {n:Nat}{ks:List Key}{a:Addr}{Q:Bool->Shared->Prop}(hk:IsTupleKey (xH prog w) s.heap ks a)(h:Q true s):wpAny (model prog w) A (eqIsQuiet (n+1) (.ref a)) Q E s:=by
 have hT:=hk.typeIs
 obtain⟨o,items,m,ho,_,hd,hi⟩:=hk
 unfold eqIsQuiet
 refine yYX (wpAny_specialOf hT F.slot_tuple_eq.lookup ?_)
 show wpAny _ _ (isInstance (.ref a) (.type "tuple") >>= _) _ _ s
 refine yYX (wpAny_isInstance hT isSubtype_tuple_tuple ?_)
 simp only[Bool.not_true,bL,if_false]
 refine yYX (wpAny_seqItems ho hd (yYX ?_))
 show wpAny _ _ (forIn items _ _) _ _ s
 rw[<- Array.forIn_toList]
 refine wpAny_forIn_list _ (λrest r s'=>r.1=none/\s'=s/\∀v∈rest,carriedByValue v=true) _ ?_ ?_ _ _ ⟨rfl,rfl,hi.byValue⟩
 .rintro v rest r s' ⟨hr,rfl,hall⟩
  rw[eqIsQuiet_byValue _ (hall v aW)]
  exact yYX (yYY (wpAny_ite_split (λz=>by cases z) λ_=>yYY ⟨rfl,rfl,λu hu'=>hall u (yYH _ hu')⟩))
 .rintro⟨r1,r2⟩ s' ⟨hr,rfl,_⟩
  obtain rfl:r1=none:=hr
  exact yYY h
end
end DP
namespace DP
open PySem PyProof.Rows L2
section
variable {prog:Program}{w:World}
def iq (prog:Program)(w:World)(h:Heap)(iT:List (List Key))(vs:List Value):Prop:=Paired (λks v=>∃t,v=Value.ref t/\IsTupleKey (xH prog w) h ks t) iT vs
def aR (prog:Program)(w:World)(h:Heap)(iT:List (List Key))(a:Addr):Prop:=∃o its n,h.get? a=some o/\o.cls=.type "tuple" /\ o.data=.seq its n/\iq prog w h iT its.toList
def Hh (prog:Program)(w:World)(iT:List (List Key)):Int:=reduceHash (Builtin.Tuple.tupleHashOf (iT.map (tupleKeyHash (xH prog w))))
def b9 (iT:List (List Key)):Nat:=(iT.map λks=>ks.length+1).sum
theorem aR.typeIs {s:Shared}{k:List (List Key)}{a:Addr}(x:aR prog w s.heap k a):s.TypeIs (.ref a) "tuple" := let ⟨o,_,_,ho,hc,_⟩:=x;⟨o,ho,hc⟩
theorem iq.inj {h:Heap}:∀{x y:List (List Key)} {vs:List Value},iq prog w h x vs->iq prog w h y vs->x=y:=by
 intro x y vs hx
 unfold iq at hx
 induction hx generalizing y with
 | nil=>intro hy;cases hy;rfl
 | cons a _ ih=>
  intro hy
  cases hy with
  | cons b hy=>
   obtain⟨t,rfl,h1⟩:=a
   obtain⟨t',e,h2⟩:=b
   cases e
   rw[h1.inj h2,ih hy]
theorem aR.inj {h:Heap}{a:Addr}{x y:List (List Key)}(hx:aR prog w h x a)(hy:aR prog w h y a):x=y:=by
 obtain⟨o,its,n,ho,_,hd,h1⟩:=hx
 obtain⟨o',its',n',dQ,_,dr,V1⟩:=hy
 obtain rfl:o=o':=Option.some.inj (ho.symm.trans dQ)
 rw[hd] at dr
 injection dr with e _
 subst e
 exact h1.inj V1
theorem aR.keeps {h h':Heap}{k:List (List Key)}{a d:Addr}{o:Obj}{es ep}(x:aR prog w h k a)(ho:h.get? d=some o)(hd:o.data=.dict es ep)(hs:Heap.SameBut d h h'):aR prog w h' k a:=by
 obtain⟨o',its,n,dQ,hc,dr,h1⟩:=x
 have oz:a≠d:=by
  intro z
  subst z
  obtain rfl:o'=o:=Option.some.inj (dQ.symm.trans ho)
  rw[hd] at dr;exact nomatch dr
 exact⟨o',its,n,(hs.2 a oz).trans dQ,hc,dr,Paired.mapP h1 λ_ _ ⟨t,e,z⟩=>⟨t,e,z.keeps ho hd hs⟩⟩
variable {A:Around}{E:Value->Shared->Prop}{s:Shared}
theorem V2 {k:List (List Key)}{a:Addr}{Q:Int->Shared->Prop}(hu:A.units+2<cLine)(hk:aR prog w s.heap k a)(h:Q (Hh prog w k) { s with toks:=s.toks+(b9 k+1) }):
  wpAny (model prog w) A (pyHash (.ref a)) Q E s:=by
 have hT:=hk.typeIs
 obtain⟨o,its,n,ho,_,hd,hi⟩:=hk
 unfold pyHash
 first | unfold pyHashByItsType | skip
 first | refine yYX (wpAny_cRoomFor_or (.inr (by omega)) ?_) | skip
 refine yYX (wpAny_specialOf hT F.slot_tuple_hash.lookup ?_)
 show wpAny _ _ (if (some (Value.builtin "tuple.__hash__") == some Value.none)=true then _ else _) Q E s
 rw[if_neg (by rw[beq_builtin_none];exact cj)]
 refine yYX (wpAny_specialOf hT F.slot_tuple_hash.lookup ?_)
 show wpAny _ _ (callSpecialIfBoundUnlessNone? (.ref a) "__hash__" _ >>= _) Q E s
 refine yYX (wpAny_callSpecialIfBoundUnlessNone?_slot hT F.slot_tuple_hash (wpAny_call_entry F.slot_tuple_hash hT F.entry_tuple_hash ?_ (F.args_tuple_hash_1 _)))
 show wpAny _ _ (Builtin.Tuple.tupleItemsOf (.ref a) >>= _) _ _ s
 refine yYX (wpAny_tupleItemsOf ho hd ?_)
 refine yYX ?_
 rw[<- Array.forIn_toList]
 refine wpAny_forIn_list _ (λrest (b:Array Int) s'=>∃past next,past++next=k/\iq prog w s.heap next rest/\b.toList=past.map (tupleKeyHash (xH prog w))/\s'={ s with toks:=s.toks+b9 past }) _ ?_ ?_ _ _ ⟨[],k,rfl,hi,rfl,rfl⟩
 .rintro x rest b s' ⟨past,next,rfl,hl,hb,rfl⟩
  unfold iq at hl
  cases hl with
  | @cons ks _ next' _ h1 lC=>
   obtain⟨t,rfl,ht⟩:=h1
   refine yYX (wpAny_pyHash_tuple (knd:=xH prog w) (s:={ s with toks:=s.toks+b9 past }) (by show A.units+1<cLine;omega) ht ?_)
   have e1:b9 (past++[ks])=b9 past+(ks.length+1):=by unfold b9;rw[cu,List.sum_append];rfl
   have goal:∃mF mG,mF++mG=past++ks::next'/\iq prog w s.heap mG rest/\(b.push (tupleKeyHash (xH prog w) ks)).toList=mF.map (tupleKeyHash (xH prog w))/\({ s with toks:=s.toks+b9 past+(ks.length+1) }:Shared)={ s with toks:=s.toks+b9 mF }:=
    ⟨past++[ks],next',by rw[lS];rfl,lC,by rw[Array.toList_push,hb,cu];rfl,by rw[e1,Nat.add_assoc]⟩
   first
    | exact yYY goal
    | exact yYX (yYY (yYY goal))
 .rintro b s' ⟨past,next,rfl,hl,hb,rfl⟩
  unfold iq at hl
  cases hl
  rw[Yq] at h
  show wpAny _ _ (retInt (Builtin.Tuple.tupleHashOf b.toList)) _ _ _
  refine wpAny_ret_mkInt ?_
  rw[hb]
  unfold Hh reduceHash at h
  generalize Builtin.Tuple.tupleHashOf (past.map (tupleKeyHash (xH prog w)))=z at h ⊢
  show wpAny _ _ (if (decide (-(2:Int) ^ 63<=z) && decide (z<2 ^ 63))=true then _ else _) Q E _
  by_cases hr:(decide (-(2:Int) ^ 63<=z) && decide (z<2 ^ 63))=true
  .rw[if_pos hr]
   rw[if_pos hr] at h
   exact yYY (by rw[<- Nat.add_assoc] at h;exact h)
  .rw[if_neg hr]
   rw[if_neg hr] at h
   exact yYX (wpAny_rule (yYY (by rw[<- Nat.add_assoc] at h;exact h)))
theorem V3 {k:List (List Key)}{a:Addr}{Q:Bool->Shared->Prop}(hk:aR prog w s.heap k a)(h:Q true s):wpAny (model prog w) A (eqIsQuiet 8 (.ref a)) Q E s:=by
 have hT:=hk.typeIs
 obtain⟨o,its,n,ho,_,hd,hi⟩:=hk
 unfold eqIsQuiet
 refine yYX (wpAny_specialOf hT F.slot_tuple_eq.lookup ?_)
 show wpAny _ _ (isInstance (.ref a) (.type "tuple") >>= _) _ _ s
 refine yYX (wpAny_isInstance hT isSubtype_tuple_tuple ?_)
 simp only[Bool.not_true,bL,if_false]
 refine yYX (wpAny_seqItems ho hd ?_)
 refine yYX ?_
 show wpAny _ _ (forIn its _ _) _ _ s
 rw[<- Array.forIn_toList]
 refine wpAny_forIn_list _ (λrest r s'=>r.1=none/\s'=s/\∃iT,iq prog w s.heap iT rest) _ ?_ ?_ _ _ ⟨rfl,rfl,k,hi⟩
 .rintro v rest r s' ⟨hr,rfl,iT,hall⟩
  unfold iq at hall
  cases hall with
  | cons h1 h2=>
   obtain⟨t,rfl,ht⟩:=h1
   exact yYX (V0 (n:=6) ht (wpAny_ite_split (λz=>by cases z) λ_=>yYY ⟨rfl,rfl,_,h2⟩))
 .rintro⟨r1,r2⟩ s' ⟨hr,rfl,_⟩
  obtain rfl:r1=none:=hr
  exact yYY h
theorem V4 {x y:List (List Key)}{a b:Addr}{P:Fin->Shared->Prop}(hu:A.units+1<cLine)(hx:aR prog w s.heap x a)(hy:aR prog w s.heap y b)(h:P (.done (.ret (.bool (decide (x=y))))) s):
  wpAny (model prog w) A (Builtin.«tuple.__eq__» ⟨[.ref a,.ref b],[]⟩) P E s:=by
 have V5:=hy.typeIs
 obtain⟨oa,xs,na,V6,_,V7,h1⟩:=hx
 obtain⟨ob,ys,nb,V8,_,dy,h2⟩:=hy
 show wpAny _ _ (isInstance (.ref b) (.type "tuple") >>= _) _ _ s
 refine yYX (wpAny_isInstance V5 isSubtype_tuple_tuple ?_)
 simp only[Bool.not_true,bL,if_false]
 refine yYX (wpAny_tupleItemsOf V6 V7 ?_)
 refine yYX (wpAny_tupleItemsOf V8 dy ?_)
 refine yYX ?_
 refine wpAny_forIn_list _ (λrest r s'=>r.1=none/\s'=s/\∃p q us vs,rest=us.zip vs/\iq prog w s.heap p us/\iq prog w s.heap q vs/\(p=q↔x=y)/\(us.length=vs.length↔xs.size=ys.size)) _ ?_ ?_ _ _ ⟨rfl,rfl,x,y,xs.toList,ys.toList,rfl,h1,h2,Iff.rfl,by simp⟩
 .rintro⟨u,v⟩ rest r s' ⟨hr,rfl,p,q,us,vs,hz,hp,hq,o9,hlen⟩
  unfold iq at hp hq
  cases hp with
  | nil=>rw[List.zip_nil_left] at hz;cases hz
  | @cons k1 u1 p1 V9 a1 b1=>
   cases hq with
   | nil=>rw[List.zip_nil_right] at hz;cases hz
   | @cons k2 v1 q1 Cs a2 b2=>
    rw[List.zip_cons_cons] at hz
    injection hz with e1 e2
    injection e1 with e3 e4
    subst e3 e4 e2
    obtain⟨t1,rfl,g1⟩:=a1
    obtain⟨t2,rfl,g2⟩:=a2
    refine yYX (wpAny_eqBool_tuple (knd:=xH prog w) (by omega) g1 g2 ?_)
    by_cases c:k1=k2
    .rw[decide_eq_true c]
     refine wpAny_ite_split (λz=>by cases z) λ_=>yYY ⟨rfl,rfl,p1,q1,V9,Cs,rfl,b1,b2,?_,?_⟩
     .rw[<- o9,c]
      exact⟨λz=>by rw[z],λz=>(List.cons.inj z).2⟩
     .rw[<- hlen,cP,cP]
      omega
    .rw[decide_eq_false c]
     rw[decide_eq_false (λz=>c (List.cons.inj (o9.mpr z)).1)] at h
     exact wpAny_ite_split (λ_=>yYX (yYY (yYY (yYY h)))) λz=>absurd rfl z
 .rintro⟨r1,r2⟩ s' ⟨hr,rfl,p,q,us,vs,hz,hp,hq,o9,hlen⟩
  obtain rfl:r1=none:=hr
  refine yYY ?_
  have fin:(xs.size == ys.size)=decide (x=y):=by
   rw[YI,beq_iff_eq,decide_eq_true_iff,<- hlen,<- o9]
   have lp:=hp.length
   have lq:=hq.length
   have:us=[]\/vs=[]:=by
    cases us with
    | nil=>exact .inl rfl
    | cons _ _=>
     cases vs with
     | nil=>exact .inr rfl
     | cons _ _=>rw[List.zip_cons_cons] at hz;cases hz
   constructor
   .intro e
    have e0:us.length=0:=by
     rcases this with z | z
     .rw[z];rfl
     .rw[e,z];rfl
    have p0:p=[]:=List.length_eq_zero_iff.mp (by omega)
    have q0:q=[]:=List.length_eq_zero_iff.mp (by omega)
    rw[p0,q0]
   .intro e
    rw[<- lp,<- lq,e]
  show P (.done (.ret (.bool (xs.size == ys.size)))) s'
  rw[fin]
  exact h
theorem V' {x y:List (List Key)}{a b:Addr}{Q:Bool->Shared->Prop}(hu:A.units+2<cLine)(hx:aR prog w s.heap x a)(hy:aR prog w s.heap y b)(h:Q (decide (x=y)) s):wpAny (model prog w) A (eqBool (.ref a) (.ref b)) Q E s:=by
 unfold eqBool
 try with_reducible refine wpAny_holding ?_
 show wpAny _ _ (if (Value.ref a == Value.ref b)=true then _ else _) Q E s
 by_cases qj:(Value.ref a == Value.ref b)=true
 .rw[if_pos qj]
  have e:a=b:=by have:=eq_of_beq qj;injection this
  subst e
  obtain rfl:=hx.inj hy
  exact yYX (wpAny_rule (yYY (by simpa using h)))
 .rw[if_neg qj]
  exact yYX (wpAny_richCompare_same_room (op:=.Eq) hx.typeIs hy.typeIs F.slot_tuple_eq
   (wpAny_call_entry F.slot_tuple_eq hx.typeIs F.entry_tuple_eq (V4 (by show A.units+1+1<cLine;omega) hx hy ⟨_,rfl,(λe=>nomatch e),wpAny_truthy_bool h⟩) (F.args_tuple_eq_2 _ _)) (by omega))
def cE (prog:Program)(w:World):HeapKind prog w (List (List Key)) where
 is:=aR prog w
 hash:=Hh prog w
 draws:=λk=>b9 k+1
 room:=λA=>A.units+2<cLine
 inj:=λhx hy=>hx.inj hy
 keeps:=λx ho hd hs=>x.keeps ho hd hs
 pyHash:=λhu hk h=>V2 hu hk h
 eqBool:=λhu hx hy h=>V' hu hx hy h
 quiet:=λhk h=>V3 hk h
end
end DP
namespace L2
open PySem PySem.Spec PyProof.Rows
abbrev fA:=List (List Key)
def ph (x:fA×Addr×V)(y:fA×Addr×Value):Prop:=x.1=y.1/\x.2.1=y.2.1/\RelV x.2.2 y.2.2
def nM (P:Program)(w:World)(a:Addr)(xs:List (fA×Addr×V)):HO:=.ext λh=>xs.length<=Yc/\(a == sysModules)=false/\∃vs:List (fA×Addr×Value),Paired ph xs vs/\
 ∃o es ep,h.get? a=some o/\o.ExactDict/\o.data=.dict es ep/\es.toList=vs.map (entryOfKey (DP.cE P w))/\(vs.map (·.1)).Nodup
def bQ (H:Hp)(k:fA)(b:Addr):Prop:=∃ts:List Addr,H b=some (.tup (ts.map V.ref))/\Paired (λks t=>H t=some (.tup (ks.map kV))) k ts
def eV (xs:List (fA×Addr×V))(k:fA):Option V:=(xs.find? λx=>decide (x.1=k)).map (·.2.2)
section
variable {P:Program}{w:World}{H:Hp}{h:Heap}{a b:Addr}{k:fA}{xs:List (fA×Addr×V)}{vs:List (fA×Addr×Value)}
theorem M9 (ok:ck P w H h)(e:bQ H k b):(DP.cE P w).is h k b:=by
 obtain⟨ts,e1,e2⟩:=e
 obtain⟨_,its,r,o,h1,h2,n,h3,_⟩:=(show ao P w H h b (.tup (ts.map V.ref)) from ok b _ e1)
 refine⟨o,_,n,h1,h2,h3,?_⟩
 have all:∀{iT:List (List Key)} {ts:List Addr} {us:List Value},Paired (λks t=>H t=some (.tup (ks.map kV))) iT ts->Vals (ts.map V.ref) us->DP.iq P w h iT us:=by
  intro iT ts us p
  induction p generalizing us with
  | nil=>intro r;cases r;exact .nil
  | cons q _ ih=>
   intro r
   cases r with
   | cons r1 r2=>
    cases r1
    exact .cons ⟨_,rfl,wB (P:=P) (w:=w) ok q⟩ (ih r2)
 simpa using all e2 r
theorem Wa (r:Paired ph xs vs)(k:fA):bU (eV xs k) ((atKey vs k).map (·.2)):=by
 unfold eV atKey
 induction r with
 | nil=>exact trivial
 | @cons x y xs vs h t ih=>
  rw[List.find?_cons,List.find?_cons]
  obtain⟨h1,h2,h3⟩:=h
  by_cases e:x.1=k
  .rw[decide_eq_true e,decide_eq_true (h1.symm.trans e)]
   exact h3
  .rw[decide_eq_false e,decide_eq_false (λz=>e (h1.trans z))]
   exact ih
theorem Na (ok:ck P w H h)(e:H a=some (nM P w a xs))(ks:∀x∈xs,bQ H x.1 x.2.1):xs.length<=Yc/\(a == sysModules)=false/\∃vs,Paired ph xs vs/\h.DictOfH (DP.cE P w) a vs:=by
 obtain⟨⟨z,y,vs,r,o,es,ep,h1,h2,h3,h4,h5⟩,_⟩:=(show ao P w H h a (nM P w a xs) from ok a _ e)
 refine⟨z,y,vs,r,o,es,ep,h1,h2,h3,h4,λx hx=>?_,h5⟩
 have all:∀{l:List (fA×Addr×V)} {m:List (fA×Addr×Value)},Paired ph l m->(∀x∈l,bQ H x.1 x.2.1)->∀x∈m,(DP.cE P w).is h x.1 x.2.1:=by
  intro l m q
  induction q with
  | nil=>intro _ x hx;exact nomatch hx
  | @cons p q ps qs hq t ih=>
   intro hp x hx
   rcases aE.mp hx with e | hx
   .subst e
    have:=M9 (P:=P) (w:=w) ok (hp p aW)
    rw[hq.1,hq.2.1] at this
    exact this
   .exact ih (λy hy=>hp y (yYH _ hy)) x hx
 exact all r ks x hx
end
section
variable {X:Cx}{zz:List (Addr×Obj)}{σ:St}{H:Hp}{s:Shared}{a b:Addr}{k:fA}{v:V}{r:Value}{xs:List (fA×Addr×V)}{A:Around}{E:Value->Shared->Prop}
theorem Wb (h:Heap)(hb:sysModules<h.objs.size):ao X.prog X.w H (h.push { cls:=.type "dict",data:=.dict #[] }) h.objs.size (nM X.prog X.w h.objs.size []):=by
 refine⟨⟨yZG _,beq_eq_false_iff_ne.mpr (Ne.symm (yZF hb)),[],.nil,_,#[],0,bg _ rfl,⟨rfl,rfl,rfl⟩,rfl,rfl,List.nodup_nil⟩,⟨_,bg _ rfl⟩,?_⟩
 rintro h1 h2' ⟨z1,z2,Cs,r1,o1,j6,Hi,g1,g2,g3,g4,g5⟩ kp
 exact⟨z1,z2,Cs,r1,o1,j6,Hi,kp o1 g1,g2,g3,g4,g5⟩
end
def Wc (P:Program)(w:World)(H:Hp)(x y:V)(a:Addr)(b:Addr)(k:fA)(xs:List (fA×Addr×V)):Prop:=x=.ref a/\y=.ref b/\H a=some (nM P w a xs)/\(∀z∈xs,bQ H z.1 z.2.1)/\bQ H k b
def sP (P:Program)(w:World):TE:=λ_ H Q=>∀p,H p=none->Q (.ref p) (upd H p (nM P w p []))
section
variable {X:Cx}{P:Program}{w:World}{o i value:Expr}{pos pos':Pos}{td ty tv:TE}
theorem We (hP:X.prog=P:=by rfl)(hw:X.w=w:=by rfl):PE X (.Dict [] [] pos) (sP P w):=by
 subst hP hw
 exact λzz s σ H Q I h=>wpAny_Dict_empty ⟨.ref s.heap.objs.size,_,I.laid (a:=s.heap.objs.size) (o:=nM X.prog X.w s.heap.objs.size []) (t':=s.toks) (λ_ _ q=>yYZ _ q) (yZD _) (Wb s.heap I.big),rfl,h _ (I.af.fresh (yZD _))⟩
end
end L2
namespace L2
open PySem PySem.Spec PyProof.Rows
section
variable {prog:Program}{w:World}{A:Around}{E:Value->Shared->Prop}{s:Shared}{KK:Type}[DecidableEq KK]{kn:HeapKind prog w KK}
theorem Wf {d a:Addr}{xs:List (KK×Addr×Value)}{k:KK}{y:Value}{R:Value->Shared->Prop}(hr:kn.room A)(hk:kn.is s.heap k a)(hm:s.heap.DictOfH kn d xs)(hz:xs.length<=Yc)
  (old:∀p,atKey xs k=some p->R p.2 { s with toks:=s.toks+kn.draws k }) (new:atKey xs k=none->∀h',h'.DictOfH kn d (storedH xs k a y)->Heap.SameBut d s.heap h'->R y { s with heap:=h',toks:=s.toks+kn.draws k }):
  wpAny (model prog w) A (dictSetDefault d (.ref a) y) R E s:=by
 obtain⟨o,es,ep,ho,hc,hd,he,ks,nd⟩:=hm
 unfold dictSetDefault
 try with_reducible refine wpAny_holding ?_
 refine yYX (kn.pyHash hr hk (yYX (wpAny_dictFind_heap (s:={ s with toks:=s.toks+kn.draws k }) hr hk ho hd he ks nd (λno=>?_) λj p hj=>?_)))
 .have nk:k∉xs.map (·.1):=not_mem_keys_of_get no
  have e0:=atKey_none_of_get no
  refine yYX (wpAny_rule (yYX (wpAny_updateDictKeys (hz:=by have e:=size_of_entries he;omega) (s:={ s with toks:=s.toks+kn.draws k }) ho hd (yYY (new e0 _ ⟨_,_,ep+1,Heap.get?_update_self _ ho (Obj.isFreed_of_dict (Obj.data_mapDictKeys hd _)),hc.mapDictKeys _,Obj.data_mapDictKeys hd _,?_,?_,?_⟩ (Heap.SameBut.update ..))))))
  .rw[storedH_new e0]
   simp[he,entryOfKey]
  .rw[storedH_new e0]
   intro z hz
   have qv:kn.is s.heap z.1 z.2.1:=by
    rcases fh.mp hz with hz | hz
    .exact ks z hz
    .rw[bB.mp hz];exact hk
   exact kn.keeps qv ho hd (Heap.SameBut.update ..)
  .rw[storedH_new e0,cu,rh]
   exact⟨nd,by simp,λz hz q hq e=>nk (by
    have:q=k:=by simpa using hq
    rw[<- this,<- e];exact hz)⟩
 .have e1:=atKey_of_get nd hj
  refine yYX (wpAny_dictEntries (s:={ s with toks:=s.toks+kn.draws k }) ho hd ?_)
  rw[entry_at he j,hj]
  exact yYX (wpAny_rule (yYY (old _ e1)))
theorem Wg (kn:HeapKind prog w KK)(d a:Addr)(hs:(d == sysModules)=false)(y:Value):
  MeetsIn prog w (Builtin.«dict.setdefault» ⟨[.ref d,.ref a,y],[]⟩) (λA R s=>kn.room A.in1/\∃k xs,kn.is s.heap k a/\s.heap.DictOfH kn d xs/\xs.length<=Yc/\(∀p,atKey xs k=some p->R (.ok (.ret p.2)) { s with toks:=s.toks+kn.draws k })/\
   (atKey xs k=none->∀h',h'.DictOfH kn d (storedH xs k a y)->Heap.SameBut d s.heap h'->R (.ok (.ret y)) { s with heap:=h',toks:=s.toks+kn.draws k })):=
 .of_wp λA R s ⟨hr,k,xs,hk,hm,hz,old,new⟩=>by
  unfold Builtin.«dict.setdefault» Builtin.Dict.keyAndDefault
  refine yYX (yYX (wpAny_notOrdered_dict hm.typeIs (yYY ?_)))
  show wpAny _ _ (if (d == sysModules)=true then _ else _) _ _ s
  rw[hs,if_neg cj]
  exact yYX (Wf hr hk hm hz (λp e=>yYY ⟨p.2,rfl,old p e⟩) λe h' dd sb=>yYY ⟨y,rfl,new e h' dd sb⟩)
end
section
variable {X:Cx}{P:Program}{w:World}{o e f:Expr}{apos ay:Pos}{td ty tx:TE}
def Ct (P:Program)(w:World)(td ty tx:TE):TE:=λσ H Q=>td σ H λx H1=>∃a,x=.ref a/\(∃xs,H1 a=some (nM P w a xs)/\∀z∈xs,bQ H1 z.1 z.2.1)/\ty σ H1 λy H2=>tx σ H2 λv H3=>∃b k xs,Wc P w H3 (.ref a) y a b k xs/\xs.length<Yc/\
 (∀u,eV xs k=some u->Q u H3)/\(eV xs k=none->Q v (upd H3 a (nM P w a (xs++[(k,b,v)]))))
theorem Wh (hu:X.A.units+3<cLine)(ho:PE X o td)(he:PE X e ty)(hf:PE X f tx)(m:M2 X o "setdefault" apos e f ay)(hP:X.prog=P:=by rfl)(hw:X.w=w:=by rfl):PE X (.Call (.Attribute o "setdefault" apos) [e,f] [] ay) (Ct P w td ty tx):=by
 subst hP hw
 intro zz s σ H Q I h
 refine wpAny_Call_method m.base m.gR m.line PySem.F.plainAttrs_dict PySem.F.slot_dict_setdefault PySem.F.type_dict_setdefault (aF (ho zz s σ H _ I h) λu s1 ⟨x,H1,I1,rx,a,ex,⟨xs,d,ks⟩,q1⟩=>?_)
 subst ex
 obtain rfl:u=Value.ref a:=rx
 obtain⟨_,hd,vs,_,dd⟩:=Na I1.af d ks
 refine⟨dd.typeIs,?_,?_⟩
 .obtain⟨o,_,_,h1,h2,_⟩:=dd
  exact λb q=>by cases q;exact⟨o,h1,h2.2.1⟩
 rw[m.trees]
 refine Calls.callWith_builtin rfl (Calls.evalArgs_plain (Calls.spliced_cons (aF (he zz s1 σ H1 _ I1 q1) λiv s2 ⟨y,H2,I2,ry,q2⟩=>
  Calls.spliced_cons (aF (hf zz s2 σ H2 _ I2 q2) λfv s3 ⟨z,H3,I3,rz,b,k,xs,⟨_,ey,e3,Wi,kb⟩,hl,q3,q4⟩=>Calls.spliced_nil ?_))))
 subst ey
 obtain rfl:iv=Value.ref b:=ry
 obtain⟨z3,Cu,Nc,rel,Nd⟩:=Na I3.af e3 Wi
 have hz:Nc.length<=Yc:=by rw[<- Paired.length rel];exact z3
 have gk:=Wa rel k
 refine call_meetsIn PySem.F.slot_dict_setdefault Nd.typeIs PySem.F.entry_dict_setdefault (PySem.F.args_dict_setdefault_3 _ _ _) (Wg (DP.cE X.prog X.w) a b Cu fv) ⟨show X.A.in1.units+2<cLine by have:X.A.in1.units=X.A.units+1:=rfl;omega,k,Nc,M9 I3.af kb,Nd,hz,λp ep=>?_,λen h' hW hs=>?_⟩
 .rw[ep] at gk
  cases g:eV xs k with
  | none=>rw[g] at gk;exact gk.elim
  | some u=>rw[g] at gk;exact⟨u,H3,I3.tok _,gk,q3 u g⟩
 .rw[en] at gk
  cases g:eV xs k with
  | some u=>rw[g] at gk;exact gk.elim
  | none=>
   refine⟨z,_,?_,rz,q4 g⟩
   obtain⟨q,es,ep,hq,h2,h3,h4,_,h5⟩:=hW
   rw[storedH_new en] at h4 h5
   refine Bv I3 (by rw[e3];exact True.intro) hs ⟨q,hq⟩ ⟨⟨by rw[bK];exact hl,Cu,_,Paired.snoc rel ⟨rfl,rfl,rz⟩,q,es,ep,hq,h2,h3,h4,h5⟩,⟨q,hq⟩,?_⟩
   rintro h1 h2' ⟨z1,z2,Cs,r1,o1,j6,Hi,g1,g2,g3,g4,g5⟩ kp
   exact⟨z1,z2,Cs,r1,o1,j6,Hi,kp o1 g1,g2,g3,g4,g5⟩
end
end L2
namespace L2
open PySem PySem.Spec PyProof.Rows
theorem Wj:bootBuiltins "sum" = some (.builtin "sum"):=by wtm_at"d"
def Hj (K:aq):List V->Hp->VK->Prop:=λxs H Q=>∃(l:Addr) (ns:List Int),xs=[.ref l]/\aj K H l (ns.map V.int)/\Q (.int ns.sum) H
theorem Wk (ns:List Int):∀j,preSum (λi=>ns.getD i 0) j=(ns.take j).sum:=by
 intro j
 induction j with
 | zero=>rfl
 | succ j ih=>
  show preSum _ j+ns.getD j 0=_
  rw[ih,c5,Yh]
  cases ns[j]? with
  | none=>simp
  | some x=>simp
theorem Wl {X:Cx}{K:aq}(hc:X.calm=true)(hK:X.K=K:=by rfl):aL X (.builtin "sum") (Hj K):=by
 subst hK
 intro zz s σ H xs us Q I r h
 obtain⟨l,ns,rfl,hl,q⟩:=h
 obtain⟨u,rfl,ru⟩:=vals1 r
 cases ru
 obtain⟨its,r1,p1,_⟩:=I.list hl
 have len:=r1.length
 rw[av] at len
 have sz:its.toArray.size=ns.length:=by simp[len]
 refine call_sum_walkAnyS (wpAny_pyIter_list p1.isList ?_)
 have ol:l<s.heap.objs.size:=by
  obtain⟨o,n,e,_⟩:=p1
  exact aG e
 refine⟨_,_,_,_,_,_,_,λi=>ns.getD i 0,rfl,(Walks.list (by show X.A.handled=none;exact I.ok.hd hc) s.heap.objs.size l (yZF ol) its.toArray).toS,⟨⟨_,bg _ rfl,rfl,rfl⟩,?_⟩,λb hb=>?_,λi v hv=>?_,λs' t' mv=>?_⟩
 .obtain⟨o,n,e,c,d,k⟩:=p1
  exact⟨o,yYZ _ e,c,n,k⟩
 .show b<(s.heap.push _).objs.size
  rw[gj]
  have:b=s.heap.objs.size\/b=l:=by simpa using hb
  rcases this with e | e
  .rw[e];exact Nat.lt_succ_self _
  .rw[e];exact Nat.lt_succ_of_lt ol
 .have hv:its.toArray[i]? = some v:=hv
  have hi:i<ns.length:=by
   have:=(Array.getElem?_eq_some_iff.mp hv).1
   omega
  have e0:(ns.map V.int)[i]? = some (.int ns[i]):=by rw[bb,aH hi];rfl
  obtain⟨u,e1,q1⟩:=r1.get e0
  have:its.toArray[i]? = some u:=by simpa using e1
  rw[this] at hv
  cases hv
  obtain⟨t,rfl⟩:=q1
  exact⟨t,by show Value.int _ t=Value.int (ns.getD i 0) t;rw[Yh,aH hi];rfl⟩
 .have ep:preSum (λi=>ns.getD i 0) its.toArray.size=ns.sum:=by rw[sz,Wk,dm]
  rw[ep]
  refine⟨.int ns.sum,H,?_,⟨t',rfl⟩,q⟩
  have I2:=I.kept (h':=s'.heap) (t':=s'.toks) λb o e=>mv.heap b o (λz=>by
   have z:b=s.heap.objs.size:=by simpa using z
   exact absurd (aG e) (by rw[z];exact Nat.lt_irrefl _)) (yYZ _ e)
  have e1:s'={ s with heap:=s'.heap,toks:=s'.toks }:=by
   have g:=mv.gens
   have d:=mv.drawn
   have o:=mv.os
   cases s'
   cases s
   simp_all
  rw[e1]
  exact I2
end L2
namespace TM
open PySem PyProof.Rows PySem.W
section
variable {prog:Program}{w:World}{A:Around}{E:Value->Shared->Prop}{s:Shared}{O:KeyOrd}{key:Value->O.α}{κ:SortKind}{vs:List Value}
theorem Wm {l:Addr}{Q:Value->Shared->Prop}(S:iO prog w s key κ vs)(hl:s.heap.IsList l vs.toArray)(sN:vs.length<64)
  (h:∀out:Array Value,out.toList.Perm vs->out.toList.Pairwise (λx y=>O.kle (key x) (key y))->Q (.ref (s.heap.objs.size+1)) { s with heap:=sortedAll s.heap vs out }):
  wpAny (model prog w) A (call (.builtin "sorted") [.ref l]) Q E s:=by
 have hz:vs.length<=Yc:=by rw[sizeLine_eq];omega
 refine Calls.call_function_entry kind_sorted plain_sorted entry_sorted (args_sorted1 _) ?_
 unfold Builtin.«sorted»
 refine yYX (m:=checkCount "sorted" 1 1 _) (yYY ?_)
 refine yYX (collect_list hl ?_ hz)
 refine yYX (wpAny_newList ?_ hz)
 have hsz:((s.heap.push (seqObj "list" #[] 0)).update s.heap.objs.size (Obj.mapSeq (·++vs.toArray))).objs.size=s.heap.objs.size+1:=by
  rw[Heap.size_update,size_push']
 have lD:(((s.heap.push (seqObj "list" #[] 0)).update s.heap.objs.size (Obj.mapSeq (·++vs.toArray))).push (seqObj "list" vs.toArray 0)).get? (s.heap.objs.size+1)=some (seqObj "list" vs.toArray 0):=by
  rw[<- hsz];exact bg _ rfl
 have keep:∀b o,s.heap.get? b=some o->(((s.heap.push (seqObj "list" #[] 0)).update s.heap.objs.size (Obj.mapSeq (·++vs.toArray))).push (seqObj "list" vs.toArray 0)).get? b=some o:=λb o q=>by
  have bc:b<s.heap.objs.size:=aG q
  rw[Heap.get?_push_ne _ _ _ (by rw[hsz];exact yZF (Nat.lt_succ_of_lt bc)),Heap.get?_update_ne _ _ _ _ (yZF bc),Heap.get?_push_ne _ _ _ (yZF bc)]
  exact q
 show wpAny _ _ _ _ _ { s with heap:=((s.heap.push (seqObj "list" #[] 0)).update s.heap.objs.size (Obj.mapSeq (·++vs.toArray))).push (seqObj "list" vs.toArray 0) }
 rw[hsz]
 refine yYX (wpAny_holding (wpAny_call_entry slot_list_sort ⟨_,lD,rfl⟩ entry_list_sort (Hc (h0:=s.heap) S keep (Heap.get?_none_of_le (Nat.le_succ _)) lD sN λout a1 a2=>⟨_,rfl,?_⟩) (args_list_sort _)))
 exact yYY ⟨_,rfl,h out a1 a2⟩
end
end TM
namespace SI
open PySem PyProof.Rows PySem.W TM
section
variable {prog:Program}{w:World}{A:Around}{E:Value->Shared->Prop}{s:Shared}
def cN (h:Heap)(v:Value)(k:Int)(r:Value):Prop:=∃a o t n,v=.ref a/\h.get? a=some o/\o.cls=.type "tuple" /\ o.data=.seq #[.int k t,r] n
theorem cN.kept {h h':Heap}{v:Value}{k:Int}{r:Value}(x:cN h v k r)(kp:∀b o,h.get? b=some o->h'.get? b=some o):cN h' v k r:=let ⟨a,o,t,n,e1,e2,q⟩:=x;⟨a,o,t,n,e1,kp _ _ e2,q⟩
theorem cN.key {h:Heap}{v:Value}{k:Int}{r:Value}(x:cN h v k r):bY h v=k:=by
 obtain⟨a,o,t,n,rfl,e,_,d⟩:=x
 unfold bY
 dsimp only
 rw[e]
 dsimp only
 rw[d]
 rfl
theorem gN {vs:List Value}(ht:∀v∈vs,∃k r,cN s.heap v k r)(inj:∀v∈vs,∀v'∈vs,∀k r r',cN s.heap v k r->cN s.heap v' k r'->r=r'):
  iO (O:=Gx) prog w s (bY s.heap) (tuples' (Value.type "int" != Value.type "tuple")) vs:=by
 refine⟨λA E h' keep h2 Q hq=>?_,λA h' keep x y hx hy E Q hq=>?_⟩
 .have:∃fs:List Value,KatTups h' vs fs/\fs.length=vs.length/\∀f∈fs,∃n t,f=.int n t:=by
   clear h2 hq inj
   induction vs with
   | nil=>exact⟨[],.nil,rfl,λf hf=>by cases hf⟩
   | cons v vs ih=>
    obtain⟨fs,k,l,hf⟩:=ih λv hv=>ht v (yYH _ hv)
    obtain⟨m,r,t⟩:=ht v aW
    obtain⟨a,o,tk,n,rfl,e,c,d⟩:=t.kept keep
    exact⟨_::fs,KatTups.cons e c d (show(#[Value.int m tk,r]:Array Value)[0]? = some (.int m tk) from rfl) k,by rw[cP,cP,l],λf hm=>by
     rcases aE.mp hm with rfl | hm
     .exact⟨_,_,rfl⟩
     .exact hf f hm⟩
  obtain⟨fs,k,l,hf⟩:=this
  refine kat_kind (T:=.type "int") k (by omega) (λv hv=>?_) rfl hq
  obtain⟨n,t,rfl⟩:=hf v hv
  exact .now
 .have mem:∀p:Keyed,p∈(pairsOf vs).toList->p.1∈vs:=λp hp=>by
   rw[pairsOf_toList] at hp
   exact(List.of_mem_zip hp).1
  obtain⟨n,r,t1⟩:=ht _ (mem x hx)
  obtain⟨m,r',t2⟩:=ht _ (mem y hy)
  have same:n=m->r=r':=λe=>by subst e;exact inj _ (mem x hx) _ (mem y hy) _ _ _ t1 t2
  have k1:=t1.key
  have k2:=t2.key
  obtain⟨a,o,tk,i,e1,e2,c,d⟩:=t1.kept keep
  obtain⟨a',o',fQ,i',oJ,de,c',d'⟩:=t2.kept keep
  rw[k1,k2] at hq
  have hq:Q (decide (n<m)) { s with heap:=h' }:=hq
  rw[e1,oJ]
  refine kat_lt e2 d de d' ?_
  show KatLex prog w A _ _ Q [(Value.int n tk,Value.int m fQ),(r,r')] 0 _
  refine kat_cons (wpAny_eqBool_int ?_)
  by_cases c:n=m
  .have er:=same c
   subst c er
   rw[beq_self_eq_true]
   refine kat_yes (kat_cons (SeqAt.EqAt.same r prog w _ _ (kat_yes ?_)))
   show Q (decide (2<2)) _
   rw[show decide (2<2)=false from rfl]
   rw[decide_eq_false (Int.lt_irrefl n)] at hq
   exact hq
  .rw[show(n == m)=false from beq_eq_false_iff_ne.mpr c]
   refine kat_no ?_
   exact oneLt_int hq
theorem eW (hh:A.handled=none){r d:Addr}{kvs:List (L2.Key×Value)}(hv:s.heap.IsItemsView r d)(hm:s.heap.DictOf (L2.xH prog w) d kvs)(hk:∀p∈kvs,∃(k:Int) (b:Value),p=(Sum.inl k,b))(nd:(kvs.map (·.1)).Nodup)(ne:kvs≠[])(hn:kvs.length<64){Q:Value->Shared->Prop}
  (h:∀(p:Addr) (ps:List (Int×Value×Addr)) (e:Nat) (s':Shared),(ps.map λx=>((Sum.inl x.1:L2.Key),x.2.1)).Perm kvs->(ps.map (·.1)).Pairwise (·<=·)->(∀x∈ps,s.heap.objs.size<=x.2.2/\x.2.2≠p/\∃t,s'.heap.get? x.2.2=some { cls:=.type "tuple",data:=.seq #[.int x.1 t,x.2.1] })->
   s.heap.objs.size<=p->s'.heap.get? p=some (seqObj "list" (ps.map λx=>Value.ref x.2.2).toArray e)->(∀b o,s.heap.get? b=some o->s'.heap.get? b=some o)->s'.gens=s.gens->s'.os=s.os->Q (.ref p) s'):
  wpAny (model prog w) A (call (.builtin "sorted") [.ref r]) Q E s:=by
 obtain⟨ep,hm⟩:=hm.dictAt
 refine Calls.call_function_entry kind_sorted plain_sorted entry_sorted (args_sorted1 _) ?_
 unfold Builtin.«sorted»
 refine yYX (m:=checkCount "sorted" 1 1 _) (yYY ?_)
 refine yYX (kdx_collect (A:=A.in1) (by simp[hh]) hv hm (by rw[sizeLine_eq];omega) λh' tk as keep Hk G=>?_)
 have hj:∀j,j<as.length->∃x:Int×Value×Addr,as[j]? = some x.2.2/\kvs[j]? = some ((Sum.inl x.1:L2.Key),x.2.1)/\∃t,h'.get? x.2.2=some { cls:=.type "tuple",data:=.seq #[.int x.1 t,x.2.1] }:=λj lj=>by
  obtain⟨key,k,x,ek,is,e⟩:=G.pairs j as[j] (aH lj)
  obtain⟨k',b,ep⟩:=hk _ (bw ek)
  obtain⟨rfl,rfl⟩:=Prod.mk.inj ep
  rcases L2.zY (k:=Sum.inl k') (v:=key) is with⟨i,t,e1,rfl⟩ | ⟨y,t,e1,_⟩
  .cases e1
   exact⟨(k',x,as[j]),aH lj,ek,t,e⟩
  .cases e1
 obtain⟨fT,l0,p0⟩:=Us hj
 have Wn:as.map Value.ref=fT.map λx=>Value.ref x.2.2:=by
  refine List.ext_getElem? λj=>?_
  rw[bb,bb]
  cases e:fT[j]? with
  | none=>rw[List.getElem?_eq_none (by rw[<- l0];exact List.getElem?_eq_none_iff.mp e)];rfl
  | some x=>rw[(p0 j x e).1];rfl
 have v8:(fT.map λx=>((Sum.inl x.1:L2.Key),x.2.1))=kvs:=by
  refine List.ext_getElem? λj=>?_
  rw[bb]
  cases e:fT[j]? with
  | none=>rw[List.getElem?_eq_none (by rw[<- Hk,<- l0];exact List.getElem?_eq_none_iff.mp e)];rfl
  | some x=>rw[(p0 j x e).2.1];rfl
 have tup:∀x∈fT,∃t,h'.get? x.2.2=some { cls:=.type "tuple",data:=.seq #[.int x.1 t,x.2.1] }:=λx hx=>by
  obtain⟨j,ej⟩:=List.mem_iff_getElem?.mp hx
  exact(p0 j x ej).2.2
 have Nf:∀x∈fT,s.heap.objs.size<x.2.2:=λx hx=>by
  obtain⟨j,ej⟩:=List.mem_iff_getElem?.mp hx
  exact G.above _ (bw (p0 j x ej).1)
 have Cv:∀x∈fT,cN h' (.ref x.2.2) x.1 x.2.1:=λx hx=>by
  obtain⟨t,e⟩:=tup x hx
  exact⟨_,_,t,_,rfl,e,rfl,rfl⟩
 have one:∀(v:Value) (k k':Int) (r r':Value),cN h' v k r->cN h' v k' r'->k=k'/\r=r':=λv k k' r r' h1 h2=>by
  obtain⟨a,o,t,n,e1,e2,_,d⟩:=h1
  obtain⟨a',o',t',n',oJ,de,_,d'⟩:=h2
  rw[e1] at oJ
  cases oJ
  rw[e2] at de
  cases de
  rw[d] at d'
  cases d'
  exact⟨rfl,rfl⟩
 have Wo:(fT.map (·.1)).Nodup:=by
  have e:kvs.map (·.1)=(fT.map (·.1)).map (Sum.inl:Int->L2.Key):=by rw[<- v8,Yn,Yn];rfl
  rw[e] at nd
  exact dg nd
 rw[Wn]
 have z1:(fT.map λx=>Value.ref x.2.2).length<=Yc:=by rw[av,l0,Hk,sizeLine_eq];omega
 refine yYX (wpAny_newList ?_ z1)
 have lD:(h'.push (seqObj "list" (fT.map λx=>Value.ref x.2.2).toArray 0)).get? h'.objs.size=some (seqObj "list" (fT.map λx=>Value.ref x.2.2).toArray 0):=bg _ rfl
 have Hl:∀v∈fT.map (λx=>Value.ref x.2.2),∃x∈fT,v=.ref x.2.2:=λv hv=>by
  obtain⟨x,hx,rfl⟩:=aZ.mp hv
  exact⟨x,hx,rfl⟩
 refine yYX (wpAny_holding (wpAny_call_entry slot_list_sort ⟨_,lD,rfl⟩ entry_list_sort (Hc (s:={ s with heap:=h'.push (seqObj "list" (fT.map λx=>Value.ref x.2.2).toArray 0),toks:=tk }) (h0:=h')
  (gN (s:={ s with heap:=h',toks:=tk }) (λv hv=>?_) (λv hv v' tS k r r' h1 h2=>?_)) (λb o e=>yYZ _ e) (Heap.get?_none_of_le (yZD _)) lD (by rw[av,l0,Hk];exact hn) λout a1 a2=>⟨_,rfl,?_⟩) (args_list_sort _)))
 .obtain⟨x,hx,rfl⟩:=Hl v hv
  exact⟨x.1,x.2.1,Cv x hx⟩
 .obtain⟨x,hx,rfl⟩:=Hl v hv
  obtain⟨y,hy,rfl⟩:=Hl v' tS
  obtain⟨e1,e2⟩:=one _ _ _ _ _ (Cv x hx) h1
  obtain⟨e3,e4⟩:=one _ _ _ _ _ (Cv y hy) h2
  have:x=y:=cI Wo hx hy (by rw[e1,e3])
  subst this
  exact e2.symm.trans e4
 refine yYY ⟨_,rfl,?_⟩
 obtain⟨e,he⟩:=sortedHeap_at (out:=out) lD
 obtain⟨ps,pp,pe⟩:=L2.jB (f:=λx:Int×Value×Addr=>Value.ref x.2.2) a1
 have old:∀b o,h'.get? b=some o->(sortedHeap (h'.push (seqObj "list" (fT.map λx=>Value.ref x.2.2).toArray 0)) h'.objs.size (fT.map λx=>Value.ref x.2.2) out).get? b=some o:=λb o q1=>by
  have lb:=aG q1
  rw[sortedHeap_old (yZF lb) (by rw[gj];exact Nat.lt_succ_of_lt lb)]
  exact yYZ _ q1
 have hsz:s.heap.objs.size<=h'.objs.size:=by
  cases e0:fT with
  | nil=>rw[e0] at v8;exact absurd v8.symm ne
  | cons x r=>
   have hx:x∈fT:=by rw[e0];exact aW
   obtain⟨t,et⟩:=tup x hx
   exact Nat.le_of_lt (Nat.lt_trans (Nf x hx) (aG et))
 refine h h'.objs.size ps e _ ?_ ?_ (λx hx=>?_) hsz (by rw[<- pe,Array.toArray_toList];exact he) (λb o q=>old b o (keep b o q)) rfl rfl
 .rw[<- v8];exact pp.map _
 .rw[pe,List.pairwise_map] at a2
  rw[List.pairwise_map]
  refine List.Pairwise.imp_of_mem (λ{x y} hx hy iS=>?_) a2
  have iS:decide (bY h' (.ref y.2.2)<bY h' (.ref x.2.2))=false:=iS
  rw[(Cv x (pp.mem_iff.mp hx)).key,(Cv y (pp.mem_iff.mp hy)).key] at iS
  have:=of_decide_eq_false iS
  omega
 .have Ng:=pp.mem_iff.mp hx
  obtain⟨t,et⟩:=tup x Ng
  exact⟨Nat.le_of_lt (Nf x Ng),yZF (aG et),t,old _ _ et⟩
end
end SI
namespace L2
open PySem PySem.Spec PyProof.Rows
def dM (H:Hp)(p:Int×V)(u:V):Prop:=∃a,u=.ref a/\H a=some (.tup [.int p.1,p.2])
def Wq:List V->Hp->VK->Prop:=λxs H Q=>∃(v d:Addr) (ps:List (Int×V)),xs=[.ref v]/\H v=some (dB v d)/\H d=some (.dK (ps.map λp=>((Sum.inl p.1:Key),p.2)))/\ps≠[]/\ps.length<64/\
 ∀(l:Addr) (qs:List (Int×V)) (us:List V) (H':Hp),H l=none->aa H H'->H' l=some (.lst us)->Paired (dM H') qs us->qs.Perm ps->(qs.map (·.1)).Pairwise (·<=·)->Q (.ref l) H'
section
open TM
variable {X:Cx}{zz:List (Addr×Obj)}{σ:St}{H H':Hp}{s:Shared}
theorem kF {α β:Type}{F:α->β->Prop}:∀{a:List α} {b:List β},a.length=b.length->(∀(j:Nat) x y,a[j]? = some x->b[j]? = some y->F x y)->Paired F a b
 | [],[],_,_=>.nil
 | x::a,y::b,h,q=>.cons (q 0 x y rfl rfl) (kF (Nat.succ.inj h) λj u v e1 e2=>q (j+1) u v e1 e2)
 | [],_::_,h,_=>by cases h
 | _::_,[],h,_=>by cases h
theorem Wr {ps:List (Int×V)}{ws:List (Key×Value)}(h:KV (ps.map λp=>((Sum.inl p.1:Key),p.2)) ws):∃zs:List ((Int×V)×Value),zs.map (·.1)=ps/\ws=zs.map (λz=>((Sum.inl z.1.1:Key),z.2))/\∀z∈zs,RelV z.1.2 z.2:=by
 induction ps generalizing ws with
 | nil=>cases h;exact⟨[],rfl,rfl,λz hz=>nomatch hz⟩
 | cons p ps ih=>
  cases h with
  | @cons _ q _ _ h t=>
   obtain⟨h1,h2⟩:=h
   obtain⟨zs,e1,e2,e3⟩:=ih t
   obtain⟨q1,q2⟩:=q
   have h1:(Sum.inl p.1:Key)=q1:=h1
   refine⟨(p,q2)::zs,by rw[Yl,e1],by rw[Yl,<- e2,h1],λz hz=>?_⟩
   rcases aE.mp hz with rfl | hz
   .exact h2
   .exact e3 z hz
theorem Ws (hc:X.calm=true):aL X (.builtin "sorted") Wq:=by
 intro zz s σ H xs us Q I r h
 obtain⟨v,d,ps,rfl,hv,hd,ne,hn,q⟩:=h
 obtain⟨u,rfl,ru⟩:=vals1 r
 cases ru
 obtain⟨hV,_⟩:=I.af v _ hv
 obtain⟨z,hsm,ws,rel,dd⟩:=Bu I.af hd
 obtain⟨zs,Wt,rfl,Wu⟩:=Wr rel
 subst Wt
 obtain⟨_,_,_,_,_,_,_,_,nd⟩:=id dd
 rw[av] at hn
 refine SI.eW (I.ok.hd hc) hV dd (λp hp=>?_) nd (λe=>ne (by rw[List.map_eq_nil_iff.mp e];rfl)) (by rw[av];exact hn) λl qs e s' pm so tups hsz he kp hg oV=>?_
 .obtain⟨x,_,rfl⟩:=aZ.mp hp
  exact⟨_,_,rfl⟩
 obtain⟨L,pL,eL⟩:=jB (f:=λz:(Int×V)×Value=>((Sum.inl z.1.1:Key),z.2)) pm
 have lL:L.length=qs.length:=by have:=congrArg List.length eL;rw[av,av] at this;exact this.symm
 have Nh:(L.map λz=>z.1.1).Nodup:=by
  have e:((zs.map λz=>((Sum.inl z.1.1:Key),z.2)).map (·.1))=(zs.map λz=>z.1.1).map (Sum.inl:Int->Key):=by rw[Yn,Yn];rfl
  rw[e] at nd
  exact(pL.map _).nodup_iff.mpr (SI.dg nd)
 have at':∀(j:Nat) x,qs[j]? = some x->∃z∈L,L[j]? = some z/\z.1.1=x.1/\z.2=x.2.1/\RelV z.1.2 x.2.1:=λj x ex=>by
  have hj:=(aN.mp ex).1
  obtain⟨z,ez⟩:∃z,L[j]? = some z:=⟨_,aH (by omega)⟩
  have e1:=congrArg (·[j]?) eL
  simp only[bb,ex,ez,nV] at e1
  have e2:=Option.some.inj e1
  have e3:x.1=z.1.1:=Sum.inl.inj (congrArg Prod.fst e2)
  have e4:x.2.1=z.2:=congrArg Prod.snd e2
  have hz:=bw ez
  exact⟨z,hz,ez,e3.symm,e4.symm,by rw[e4];exact Wu z (pL.mem_iff.mp hz)⟩
 have mem:∀x∈qs,∃z∈L,z.1.1=x.1/\RelV z.1.2 x.2.1:=λx hx=>by
  obtain⟨j,ej⟩:=List.mem_iff_getElem?.mp hx
  obtain⟨z,hz,_,h1,_,h2⟩:=at' j x ej
  exact⟨z,hz,h1,h2⟩
 have one:∀x∈qs,∀y∈qs,y.2.2=x.2.2->y.1=x.1:=λx hx y hy Wv=>by
  obtain⟨_,_,t,et⟩:=tups x hx
  obtain⟨_,_,t',Ni⟩:=tups y hy
  rw[Wv,et] at Ni
  have:=Option.some.inj Ni
  injection this with _ _ h3
  injection h3 with h4
  have h5:[Value.int x.1 t,x.2.1]=[Value.int y.1 t',y.2.1]:=congrArg Array.toList h4
  injection h5 with h6 h7
  injection h6 with h8
  exact h8.symm
 let tup:Int->Option HO:=λk=>(L.find? λz=>z.1.1 == k).map λz=>.tup [.int z.1.1,z.1.2]
 have tk:∀z∈L,tup z.1.1=some (.tup [.int z.1.1,z.1.2]):=λz hz=>by
  show(L.find? λz'=>z'.1.1 == z.1.1).map _=_
  cases ef:L.find? λz'=>z'.1.1 == z.1.1 with
  | none=>exact absurd (List.find?_eq_none.mp ef z hz) (by simp)
  | some z'=>
   have e1:z'.1.1=z.1.1:=by simpa using List.find?_some ef
   have:z'=z:=SI.cI (f:=λz:(Int×V)×Value=>z.1.1) Nh (List.mem_of_find?_eq_some ef) hz e1
   rw[this];rfl
 let H1:Hp:=λb=>if b=l then some (.lst (qs.map λx=>V.ref x.2.2)) else match qs.find? (λy=>y.2.2 == b) with
  | some y=>tup y.1
  | none=>H b
 have hl:H l=none:=I.af.fresh hsz
 have e0:H1 l=some (.lst (qs.map λx=>V.ref x.2.2)):=if_pos rfl
 have e1:∀x∈qs,H1 x.2.2=tup x.1:=λx hx=>by
  show(if x.2.2=l then _ else _)=_
  rw[if_neg (tups x hx).2.1]
  cases ef:qs.find? (λy=>y.2.2 == x.2.2) with
  | none=>exact absurd (List.find?_eq_none.mp ef x hx) (by simp)
  | some y=>
   show tup y.1=tup x.1
   rw[one x hx y (List.mem_of_find?_eq_some ef) (by simpa using List.find?_some ef)]
 have sQ:∀b o,H b=some o->H1 b=some o:=λb o eb=>by
  have lb:b<s.heap.objs.size:=(I.af b o eb).lt
  show(if b=l then _ else _)=_
  rw[if_neg (yZF (yZE lb hsz))]
  have:qs.find? (λy=>y.2.2 == b)=none:=by
   refine List.find?_eq_none.mpr λy hy=>?_
   have:=yZH (yZE lb (tups y hy).1)
   simpa using this
  rw[this]
  exact eb
 have Hm:∀b o,H1 b=some o->H b=some o\/(s.heap.objs.size<=b/\ao X.prog X.w H1 s'.heap b o):=λb o eb=>by
  by_cases c:b=l
  .subst c
   rw[e0] at eb
   cases eb
   refine .inr ⟨hsz,?_,qs.map λx=>Value.ref x.2.2,e,?_,he⟩
   .have:=pL.length_eq
    rw[av,sizeLine_eq];omega
   .clear pm so tups he mem one H1 e0 e1 sQ tk tup Nh at' lL eL pL
    induction qs with
    | nil=>exact .nil
    | cons x t ih=>exact .cons rfl ih
  .cases ef:qs.find? (λy=>y.2.2 == b) with
   | none=>
    have:H1 b=H b:=by
     show(if b=l then _ else _)=_
     rw[if_neg c,ef]
    rw[this] at eb
    exact .inl eb
   | some y=>
    have hy:=List.mem_of_find?_eq_some ef
    have ey:y.2.2=b:=by simpa using List.find?_some ef
    subst ey
    obtain⟨z',qv,k1,k2⟩:=mem y hy
    rw[e1 y hy,<- k1,tk z' qv] at eb
    cases eb
    obtain⟨t1,t2,t,et⟩:=tups y hy
    exact .inr ⟨t1,by rw[sizeLine_eq];show 2<=16777216;decide,[.int y.1 t,y.2.1],.cons ⟨t,by rw[k1]⟩ (.cons k2 .nil),_,et,rfl,_,rfl,rfl⟩
 refine⟨.ref l,H1,I.laidG kp sQ Hm hg oV,rfl,q l (L.map (·.1)) (qs.map λx=>V.ref x.2.2) H1 hl sQ e0 ?_ (pL.map _) ?_⟩
 .refine kF (by rw[av,av];exact lL) λj x u ex eu=>?_
  rw[bb] at ex eu
  obtain⟨y,ey,rfl⟩:=YJ.mp eu
  obtain⟨z',qv,Hn,k1,_⟩:=at' j y ey
  rw[Hn] at ex
  cases ex
  exact⟨_,rfl,by rw[e1 y (bw ey),<- k1,tk z' qv]⟩
 .have:(L.map (·.1)).map (·.1)=qs.map (·.1):=by
   refine List.ext_getElem? λj=>?_
   rw[Yn,bb,bb]
   cases ex:qs[j]? with
   | none=>rw[List.getElem?_eq_none (by rw[lL];exact List.getElem?_eq_none_iff.mp ex)];rfl
   | some x=>
    obtain⟨z',qv,Hn,k1,_⟩:=at' j x ex
    rw[Hn]
    show some z'.1.1=some x.1
    rw[k1]
  rw[this]
  exact so
def Ww (K:aq):List V->Hp->VK->Prop:=λxs H Q=>∃(l:Addr) (us:List V) (ps:List (Int×V)),xs=[.ref l]/\aj K H l us/\Paired (dM H) ps us/\(ps.map (·.1)).Nodup/\ps.length<64/\
 ∀(l':Addr) (zs:List ((Int×V)×V)),H l'=none->zs.Perm (ps.zip us)->(zs.map λz=>z.1.1).Pairwise (·<=·)->Q (.ref l') (upd H l' (.lst (zs.map (·.2))))
theorem Wx {ps:List (Int×V)}{us:List V}{its:List Value}(p:Paired (dM H) ps us)(v:Vals us its):its=us.map gJ:=by
 induction p generalizing its with
 | nil=>cases v;rfl
 | cons h t ih=>
  cases v with
  | cons r v=>
   obtain⟨a,rfl,_⟩:=h
   cases r
   rw[ih v];rfl
theorem Wy {K:aq}(hK:X.K=K:=by rfl):aL X (.builtin "sorted") (Ww K):=by
 subst hK
 intro zz s σ H xs us0 Q I r h
 obtain⟨l,us,ss,rfl,hl,hp,nd,sN,q⟩:=h
 obtain⟨u,rfl,ru⟩:=vals1 r
 cases ru
 obtain⟨its,r1,p1,hz⟩:=I.list hl
 have len:=r1.length
 have l1:=hp.length
 have sM:=Wx hp r1
 have each:∀(n:Int×V) (u:V),(n,u)∈ss.zip us->(∃y,SI.cN s.heap (gJ u) n.1 y)/\∃a,u=.ref a:=λn u hm=>by
  obtain⟨i,hi,e⟩:=List.getElem_of_mem hm
  rw[List.getElem_zip] at e
  rw[List.length_zip] at hi
  have en:ss[i]? = some n:=by rw[aH (by omega)];exact congrArg some (Prod.ext_iff.mp e).1
  have eu:us[i]? = some u:=by rw[aH (by omega)];exact congrArg some (Prod.ext_iff.mp e).2
  obtain⟨a,rfl,ea⟩:=xV hp en eu
  obtain⟨cM,r2,⟨o,ho,hc,n2,hd⟩,_⟩:=I.tuple (aS.of ea)
  obtain⟨v1,v2,rfl,⟨t,rfl⟩,w2⟩:=vals2 r2
  exact⟨⟨v2,a,o,t,n2,rfl,ho,hc,hd⟩,a,rfl⟩
 have zu:(ss.zip us).map (·.2)=us:=List.map_snd_zip (by omega)
 have vz:its=(ss.zip us).map (λp=>gJ p.2):=by rw[sM,<- zu,Yn,zu];rfl
 have Hf:∀v∈its,∃k y,SI.cN s.heap v k y:=λv hv=>by
  rw[vz] at hv
  obtain⟨⟨n,u⟩,hm,rfl⟩:=aZ.mp hv
  obtain⟨y,hy⟩:=(each n u hm).1
  exact⟨_,y,hy⟩
 have one:∀(v:Value) (k k':Int) (y y':Value),SI.cN s.heap v k y->SI.cN s.heap v k' y'->k=k'/\y=y':=λv k k' y y' h1 h2=>by
  obtain⟨a,o,t,n,e1,e2,_,d⟩:=h1
  obtain⟨a',o',t',n',oJ,de,_,d'⟩:=h2
  rw[e1] at oJ
  cases oJ
  rw[e2] at de
  cases de
  rw[d] at d'
  cases d'
  exact⟨rfl,rfl⟩
 have Wz:((ss.zip us).map λp=>p.1.1).Nodup:=by
  have e:((ss.zip us).map (·.1)).map (·.1)=ss.map (·.1):=by rw[List.map_fst_zip (by omega)]
  rw[Yn] at e
  rw[<- e] at nd
  exact nd
 refine Wm (SI.gN Hf λv hv v' tS k y y' h1 h2=>?_) p1.isList (by omega) λout o1 o2=>?_
 .rw[vz] at hv tS
  obtain⟨p,hm,rfl⟩:=aZ.mp hv
  obtain⟨p',v9,rfl⟩:=aZ.mp tS
  obtain⟨z,hz⟩:=(each p.1 p.2 hm).1
  obtain⟨z',qv⟩:=(each p'.1 p'.2 v9).1
  have e1:=(one _ _ _ _ _ h1 hz).1
  have e2:=(one _ _ _ _ _ h2 qv).1
  have:p=p':=SI.cI (f:=λp:(Int×V)×V=>p.1.1) Wz hm v9 (by show p.1.1=p'.1.1;rw[<- e1,<- e2])
  subst this
  exact(one _ _ _ _ _ h1 h2).2
 rw[vz] at o1
 obtain⟨zs,pp,pe⟩:=jB o1
 obtain⟨e,he⟩:=sortedAll_at s.heap its out
 have po:∀p∈zs,(∃y,SI.cN s.heap (gJ p.2) p.1.1 y)/\∃a,p.2=.ref a:=λp hm=>each p.1 p.2 (pp.mem_iff.mp hm)
 have WA:Vals (zs.map (·.2)) out.toList:=by
  rw[pe]
  have:=TN (us:=zs.map (·.2)) λu hu=>by
   obtain⟨p,hm,rfl⟩:=aZ.mp hu
   exact(po p hm).2
  rw[Yn] at this
  exact this
 refine⟨.ref (s.heap.objs.size+1),_,I.laid (t':=s.toks) (o:=.lst (zs.map (·.2))) (λb o=>sortedAll_old) (Nat.le_succ _) (show ao X.prog X.w _ (sortedAll s.heap its out) _ (.lst (zs.map (·.2))) from⟨?_,out.toList,e,WA,by rw[Array.toArray_toList];exact he⟩),rfl,q _ zs (I.af.fresh (Nat.le_succ _)) pp ?_⟩
 .have:=pp.length_eq
  rw[List.length_zip] at this
  rw[av,this]
  omega
 .rw[pe,List.pairwise_map] at o2
  rw[List.pairwise_map]
  refine List.Pairwise.imp_of_mem (λ{x y} hx hy iS=>?_) o2
  have iS:decide (SI.bY s.heap (gJ y.2)<SI.bY s.heap (gJ x.2))=false:=iS
  obtain⟨_,mq⟩:=(po x hx).1
  obtain⟨_,GX⟩:=(po y hy).1
  rw[mq.key,GX.key] at iS
  have:=of_decide_eq_false iS
  omega
end
end L2
namespace L2
open PySem PySem.Spec PyProof.Rows
theorem Nj {P:Program}{w:World}{H:Hp}{h:Heap}{d:Addr}{o:Obj}{kvs:List (Key×V)}{es:Array DictEntry}{ep:Nat}(hd:o.data=.dict es ep)(x:ao P w H h d (.frz o (.dK kvs))):
  DT.At h d o es ep/\es.size=kvs.length/\∀(i:Nat) (k:Key) (v:V),kvs[i]? = some (k,v)->∃(a u:Value),(∃hh:Int,es.toList[i]? = some (DictEntry.mk hh a u))/\RelV (kV k) a/\RelV v u:=by
 obtain⟨vs,r,o',bC,e,c,dr,ok,pp,nd⟩:=En hd x
 obtain⟨e0,_⟩:=x
 rw[e0] at e
 cases e
 rw[hd] at dr
 cases dr
 have lv:=Paired.length r
 have lp:=pp.length
 refine⟨⟨e0,c,hd⟩,by rw[eP] at lp;omega,λi k v hk=>?_⟩
 have hi:=(aN.mp hk).1
 obtain⟨q,eq⟩:∃q,vs[i]? = some q:=⟨_,aH (by omega)⟩
 obtain⟨p1,p2⟩:=xV r hk eq
 obtain⟨en,Nk⟩:∃en,es.toList[i]? = some en:=⟨_,aH (by omega)⟩
 obtain⟨ia,ev⟩:=pp.get? Nk (show vs[i]? = some (q.1,q.2) from eq)
 refine⟨en.key,q.2,⟨en.hash,?_⟩,ML (by rw[show k=q.1 from p1];exact ia),p2⟩
 rw[Nk,<- ev]
section
variable {X:Cx}
theorem Nl {zz:List (Addr×Obj)}{σ:St}{H:Hp}{s:Shared}{d:Addr}{kvs:List (Key×V)}{G:Obj->Hp->Prop}(I:Inv X zz σ H s)
  (q:(H d=some (.dK kvs)/\∀o,G o (upd H d (.frz o (.dK kvs))))\/∃o,H d=some (.frz o (.dK kvs))/\G o H):
  ∃o H2 es ep,o.data=.dict es ep/\(d == sysModules)=false/\DT.At s.heap d o es ep/\Inv X zz σ H2 s/\H2 d=some (.frz o (.dK kvs))/\G o H2:=by
 rcases q with⟨hk,q⟩ | ⟨o,hk,q⟩
 .have ok:=I.af d _ hk
  obtain⟨z,hs,vs,r,o,es,ep,e,c,dd,k⟩:=id ok
  have I2:Inv X zz σ (upd H d (.frz o (.dK kvs))) s:=I.write (t':=s.toks) (x:=d) (e:=d) (by rw[hk];exact trivial) (.inl rfl) (λb u hb hu=>hu) ⟨_,e⟩ ⟨e,z,hs,vs,r,o,es,ep,e,c,dd,k⟩
  exact⟨o,_,es,ep,dd,hs,⟨e,c,dd⟩,I2,qW,q o⟩
 .obtain⟨e,z,hs,vs,r,o',es,ep,e',c,dd,k⟩:=(show ao X.prog X.w H s.heap d (.frz o (.dK kvs)) from I.af d _ hk)
  rw[e] at e'
  cases e'
  exact⟨o,H,es,ep,dd,hs,⟨e,c,dd⟩,I,hk,q⟩
def Nm:V->List V->Hp->VK->Prop:=λx vs H Q=>∃(d:Addr) (kvs:List (Key×V)),x=.ref d/\vs=[]/\Rd H d (.dK kvs)/\∀v,H v=none->Q (.ref v) (upd H v (dB v d))
theorem WB:tW X "dict.items" Nm:=by
 intro zz s σ H x vs v us Q I rx rv h
 obtain⟨d,kvs,rfl,rfl,hH,q⟩:=h
 cases rx
 have B4:=rv.zero
 subst B4
 obtain⟨_,hs,ws,_,dd⟩:=nH I.af hH
 refine call_meetsIn PySem.F.slot_dict_items dd.typeIs PySem.F.entry_dict_items (PySem.F.args_dict_items_1 _) (meets_dict_items (xH X.prog X.w) d hs) ⟨⟨ws,dd⟩,?_⟩
 have hv:(s.heap.push { cls:=.type "dict_items",data:=.fields #[.ref d] }).IsItemsView s.heap.objs.size d:=⟨_,bg _ rfl,rfl,rfl⟩
 refine⟨.ref s.heap.objs.size,_,I.laid (t':=s.toks) (o:=dB s.heap.objs.size d) (λb u e=>yYZ _ e) (yZD _) ⟨hv,⟨_,bg _ rfl⟩,?_⟩,rfl,q _ (I.af.fresh (yZD _))⟩
 rintro h1 h2 ⟨o,e,r⟩ k
 exact⟨o,k o e,r⟩
def WD (to:TE):TE:=λσ H Q=>to σ H λx H1=>Nm x [] H1 Q
theorem Nn {o:Expr}{to:TE}{apos ay:Pos}(ho:PE X o to)(c8:attributeBase o "items" X.env (eval o X.env)=eval o X.env:=by rfl)(c9:(apos.endLine == ay.line)=true:=by rfl):
  PE X (.Call (.Attribute o "items" apos) [] [] ay) (WD to):=by
 intro zz s σ H Q I h
 refine wpAny_Call_method0_late c8 c9 (aF (ho zz s σ H _ I h) λv s1 ⟨x,H1,I1,r1,q1⟩=>?_)
 obtain⟨d,kvs,rfl,e0,hH,q⟩:=id q1
 cases r1
 obtain⟨_,_,ws,_,o,_,_,e,c,_⟩:=nH I1.af hH
 refine⟨"dict","dict.items",PySem.F.plainAttrs_dict,PySem.F.slot_dict_items,PySem.F.type_dict_items,⟨o,e,c.1⟩,λa ea=>?_,Calls.callWith_builtin rfl (PySem.evalArgs_none (WB zz s1 σ H1 (.ref d) [] (.ref d) [] Q I1 rfl .nil q1))⟩
 cases ea
 exact⟨o,e,c.2.1⟩
def sR (tl:TE):TI:=λσ H R=>tl σ H λx H1=>∃d kvs,x=.ref d/\((H1 d=some (.dK kvs)/\∀o,R (Em d o kvs) (upd H1 d (.frz o (.dK kvs))))\/∃o,H1 d=some (.frz o (.dK kvs))/\R (Em d o kvs) H1)
theorem Np {tg l:Expr}{tl:TE}(hl:PE X l tl):PI X tg l (sR tl):=by
 intro zz s σ H R I h
 refine aF (hl zz s σ H _ I h) λv s1 ⟨x,H1,I1,r1,q1⟩=>?_
 obtain⟨d,kvs,e,q⟩:=q1
 subst e
 cases r1
 obtain⟨o,H2,es,ep,dd,hs,D,I2,hH,q⟩:=Nl I1 q
 obtain⟨vs,r,da⟩:=En dd (I2.af d _ hH)
 have lv:=Paired.length r
 refine wpAny_pyIter_dict (knd:=xH X.prog X.w) hs da ?_
 rw[<- lv]
 refine⟨s1.heap.objs.size,[s1.heap.objs.size],_,_,H2,rfl,I2.kept (t':=s1.toks) λb o e=>yYZ _ e,Vc _ d o kvs es ep dd,⟨_,bg _ rfl,rfl,rfl⟩,λb hb=>?_,q⟩
 have e:b=s1.heap.objs.size:=by simpa using hb
 subst e
 exact I2.fpOk (yZD _) (I2.af.fresh (yZD _))
end
def ir (d:Addr)(o:Obj)(kvs:List (Key×V)):It:=
 ⟨λi H=>i<kvs.length/\H d=some (.frz o (.dK kvs)),λi H x H'=>∃T k v,x=.ref T/\H T=none/\H'=upd H T (.tup [kV k,v])/\kvs[i]? = some (k,v),λi H=>kvs.length<=i/\H d=some (.frz o (.dK kvs))⟩
theorem WE {P:Program}{w:World}{K:aq}{el:List Expr}{kk:Nat}{tp:Pos}(it d:Addr)(o:Obj)(kvs:List (Key×V))(es:Array DictEntry)(ep:Nat)(hd:o.data=.dict es ep):
  Turn P w K (.Tuple el kk tp) (ir d o kvs) [it] it (λi h=>∃x y,IsItemIter h it d i es.size ep x y) where
 mem:=by simp
 obj:=λi h st b hb=>by
  have e:b=it:=by simpa using hb
  subst e
  obtain⟨x,y,e⟩:=st
  exact⟨_,e,λv z=>by cases z⟩
 keep:=λi h h' ⟨x,y,st⟩ k=>⟨x,y,k it (by simp) _ st⟩
 item:=by
  intro X hP hw hK hc i zz s σ H E I hf st hg
  subst hP hw hK
  obtain⟨hi,hH⟩:=hg
  obtain⟨x,y,st⟩:=st
  obtain⟨f0,f1,f2,f3,f4,f5⟩:=hf it (by simp)
  obtain⟨D,sz,at_⟩:=Nj hd (I.af d _ hH)
  obtain⟨⟨k,v⟩,ek⟩:∃q,kvs[i]? = some q:=⟨_,aH hi⟩
  obtain⟨a,u,⟨hh,ee⟩,ra,ru⟩:=at_ i k v ek
  have qq:i<es.size:=by omega
  rw[lT,Array.getElem?_eq_getElem qq] at ee
  have ee:=Option.some.inj ee
  have lit:it<s.heap.objs.size:=aG st
  refine DT.Ci st D qq λh' c6 t' kp=>?_
  rw[ee] at c6 t'
  refine⟨_,rfl,wpAny_letOwnedTupleGo_items (s:={ s with heap:=h' }) c6 λh2 Fq sb=>?_⟩
  have keep:∀c o,c≠it->s.heap.get? c=some o->h2.get? c=some o:=λc o fq q=>sb.extBut _ _ fq (kp c o fq q)
  have hT:=sb.extBut _ _ (yZH lit) t'
  have fresh:H s.heap.objs.size=none:=I.af.fresh (yZD _)
  have lB:∀b o,H b=some o->b≠it:=λb o q z=>by rw[z,f0] at q;cases q
  have I1:Inv X zz σ (upd H s.heap.objs.size (.tup [kV k,v])) { s with heap:=h2 }:=by
   refine I.step (h':=h2) (H':=upd H s.heap.objs.size (.tup [kV k,v])) (g':=s.gens) (d':=s.drawn) (t':=s.toks) (ch:=[it]) (λb hb=>?_) (λb o _ _ bH q _=>keep b o (by simpa using bH) q) (λb o _ _ bH q _=>⟨o.slots,keep b o (by simpa using bH) q⟩) (λb o bH q n=>?_)
    (λb o bH q=>⟨o,keep b o (by simpa using bH) q⟩) (λb zs q=>?_) (λb o q' q=>?_) (λb ps q=>⟨#[],?_⟩) (λm hm=>?_) (λb ob q=>?_) I.bare
   .have e:b=it:=by simpa using hb
    subst e
    exact⟨f3,f1,f4,f5⟩
   .rw[qB (yZF (aG q))];exact n
   .rw[qB (qC q fresh)];exact q
   .rw[qB (qC q fresh)];exact q
   .rw[qB (qC q fresh),q];simp
   .obtain⟨o,bC,ep,ho,r⟩:=hm
    exact⟨o,bC,ep,keep _ o (Ne.symm f1) ho,r⟩
   .by_cases hb:b=s.heap.objs.size
    .subst hb
     rw[qW] at q
     cases q
     exact⟨by show 2<=Yc;decide,[a,u],.cons ra (.cons ru .nil),⟨_,hT,rfl,0,rfl,rfl⟩⟩
    .rw[qB hb] at q
     refine(I.af b ob q).stay (λc o bH q'=>keep c o ?_ q') (λc q'=>by rw[qB (qC q' fresh)];exact q') λc zs q'=>by rw[qB (qC q' fresh)];exact q'
     rcases bH with rfl | bH
     .exact lB _ _ q
     .exact lB _ _ bH
  refine⟨.ref s.heap.objs.size,_,I1,rfl,⟨_,k,v,rfl,fresh,rfl,ek⟩,⟨_,_,Fq⟩,λb hb=>?_⟩
  have e:b=it:=by simpa using hb
  subst e
  rw[qB (yZF lit)];exact f0
 done:=by
  intro X hP hw hK hc i zz s σ H E I hf st hg
  subst hP hw hK
  obtain⟨hi,hH⟩:=hg
  obtain⟨x,y,st⟩:=st
  obtain⟨f0,f1,f2,f3,f4,f5⟩:=hf it (by simp)
  obtain⟨D,sz,_⟩:=Nj hd (I.af d _ hH)
  exact DT.Cj (I.ok.hd hc) st D (by omega) λh' eb=>⟨rfl,I.turned (t':=s.toks) (λb o hb e=>eb b o hb e) f0 f1 f3 f4 f5⟩
 self:=λ_ _ _ _ _ st h=>by
  obtain⟨x,y,st⟩:=st
  exact wpAny_pyIter_slot ⟨_,st,rfl⟩ F.slot_dict_itemiterator_iter (wpAny_call_entry F.slot_dict_itemiterator_iter ⟨_,st,rfl⟩ Vh (yYY ⟨_,rfl,"dict_itemiterator",_,⟨_,st,rfl⟩,F.slot_dict_itemiterator_next.lookup,h⟩) (F.args_dict_itemiterator_iter_1 _))
section
variable {X:Cx}{el:List Expr}{kk:Nat}{tp:Pos}
def WG (tl:TE):TI:=λσ H R=>tl σ H λx H1=>∃v d kvs,x=.ref v/\H1 v=some (dB v d)/\((H1 d=some (.dK kvs)/\∀o,R (ir d o kvs) (upd H1 d (.frz o (.dK kvs))))\/∃o,H1 d=some (.frz o (.dK kvs))/\R (ir d o kvs) H1)
theorem Nq {l:Expr}{tl:TE}(hl:PE X l tl):PI X (.Tuple el kk tp) l (WG tl):=by
 intro zz s σ H R I h
 refine aF (hl zz s σ H _ I h) λv s1 ⟨x,H1,I1,r1,q1⟩=>?_
 obtain⟨vw,d,kvs,e,hv,q⟩:=q1
 subst e
 cases r1
 obtain⟨iv,_⟩:=I1.af vw _ hv
 obtain⟨o,H2,es,ep,dd,hs,D,I2,hH,q⟩:=Nl I1 q
 refine DT.Cg iv D λh' hi kp=>?_
 refine⟨s1.heap.objs.size,[s1.heap.objs.size],_,_,H2,rfl,I2.kept (t':=s1.toks) kp,WE _ d o kvs es ep dd,⟨_,_,hi⟩,λb hb=>?_,q⟩
 have e:b=s1.heap.objs.size:=by simpa using hb
 subst e
 exact I2.fpOk (yZD _) (I2.af.fresh (yZD _))
end
section
variable {k:Nat}{js:List Nat}{g:TG}{tt:TT}{te:TE}{σ:St}{H1:Hp}{Q:VK}
theorem WH {d:Addr}{o:Obj}{kvs:List (Key×V)}(Pv:Addr->Nat->List V->Hp->Prop)(h0:∀D,H1 D=none->Pv D 0 [] (upd H1 D (.lst [])))
  (hl:∀D i ys H,i<=kvs.length->Pv D i ys H->H d=some (.frz o (.dK kvs)))
  (hs:∀D i q v T ys H (N:List V->Hp->Prop),H1 D=none->H D=some (.lst ys)->kvs[i]? = some (q,v)->H T=none->Pv D i ys H->(∀zs H',H' D=some (.lst zs)->Pv D (i+1) zs H'->N zs H')->dJ k js g tt te σ D (.ref T) ys (upd H T (.tup [kV q,v])) N)
  (hd:∀D ys H,H1 D=none->H D=some (.lst ys)->Pv D kvs.length ys H->Q (.ref D) H):fM k js g tt te (ir d o kvs) σ H1 Q:=by
 intro D hD
 refine⟨λi m ys H=>m=kvs.length - i/\i<=kvs.length/\H D=some (.lst ys)/\Pv D i ys H,⟨kvs.length,by simp,yZG _,qW,h0 D hD⟩,?_⟩
 rintro i m ys H ⟨rfl,hi,aD,p⟩
 refine⟨aD,?_⟩
 have z:=hl D i ys H hi p
 by_cases bc:i<kvs.length
 .refine .inr ⟨⟨bc,z⟩,λx H' y=>?_⟩
  obtain⟨T,q,v,rfl,nT,rfl,ec⟩:=y
  exact hs D i q v T ys _ (λzs H'=>∃m',m'<kvs.length - i/\m'=kvs.length - (i+1)/\i+1<=kvs.length/\H' D=some (.lst zs)/\Pv D (i+1) zs H') hD aD ec nT p λzs H' e p'=>⟨kvs.length - (i+1),by omega,rfl,bc,e,p'⟩
 .have e:i=kvs.length:=by omega
  subst e
  exact .inl ⟨⟨yZD _,z⟩,hd D ys H hD aD p⟩
end
end L2
namespace L2
open PySem PySem.Spec PyProof.Rows
def mH (kvs:List (Int×V)):List (Key×V):=kvs.map λp=>((Sum.inl p.1:Key),p.2)
section
variable {X:Cx}{zz:List (Addr×Obj)}{σ:St}{H:Hp}{s:Shared}
theorem WI (I:Inv X zz σ H s):∀{kvs:List (Int×V)} {us:List V} {its:List Value},Paired (dM H) kvs us->Vals us its->∃(vv:List (Value×Value)) (ks:List (Key×Value)),
  (∀(i:Nat) p,vv[i]? = some p->∃T o m,its[i]? = some (.ref T)/\s.heap.get? T=some o/\o.cls=.type "tuple" /\ o.data=.seq #[p.1,p.2] m)/\vv.length=its.length/\Keyed (xH X.prog X.w) ks vv/\KV (mH kvs) ks/\ks.length=kvs.length:=by
 intro kvs us its hp
 induction hp generalizing its with
 | nil=>
  intro hv
  cases hv
  exact⟨[],[],λi p e=>by simp at e,rfl,.nil,.nil,rfl⟩
 | @cons kv _ _ _ f t ih=>
  intro hv
  cases hv with
  | cons r t2=>
  obtain⟨n,x⟩:=kv
  obtain⟨vv,ks,h1,h2,h3,h4,h5⟩:=ih t2
  obtain⟨a,rfl,ha⟩:=f
  cases r
  obtain⟨z,its,rv,o,ho,hc,m,hd,_⟩:=I.af a _ ha
  obtain⟨u,v,rfl,ru,r6⟩:=vals2 rv
  obtain⟨tk,rfl⟩:=ru
  refine⟨(.int n tk,v)::vv,(Sum.inl n,v)::ks,λi p e=>?_,by simp[h2],.cons ⟨KH _ _ n tk,rfl⟩ h3,.cons ⟨rfl,r6⟩ h4,by simp[h5]⟩
  cases i with
  | zero=>
   simp at e
   subst e
   exact⟨a,o,m,rfl,ho,hc,hd⟩
  | succ i=>exact h1 i p (by simpa using e)
theorem WJ (hc:X.calm=true):aL X (.type "dict") (λvs H Q=>∃l us kvs,vs=[.ref l]/\H l=some (.lst us)/\Paired (dM H) kvs us/\kvs.length<=1000/\∀p,H p=none->Q (.ref p) (upd H p (.dK (az [] (mH kvs))))):=by
 intro zz s σ H vs us Q I r h
 obtain⟨l,xs,kvs,rfl,hl,hp,mw,q⟩:=h
 obtain⟨u,rfl,ru⟩:=vals1 r
 cases ru
 obtain⟨z,its,n,rv,hlen,e⟩:=I.lstM hl
 obtain⟨vv,ks,k1,k2,k3,k4,k5⟩:=WI I hp rv
 refine kS (knd:=xH X.prog X.w) (ks:=ks) (kvs:=vv) (I.ok.hd hc) e (λi p ep=>?_) (by simp[k2]) k3 (by omega) λp h' tk j3 keep hD=>I.newDict j3 keep k4 (by omega) hD (q p (I.af.fresh j3))
 obtain⟨T,o,m,a1,a2⟩:=k1 i p ep
 exact⟨T,o,m,by simpa using a1,a2⟩
end
end L2
namespace L2
open PySem PySem.Spec PyProof.Rows
theorem Nr:∀(l:List (Str×NameKind)) (n:Nat) (acc:List (Str×Addr)) (h:Heap),(l.filter λy=>y.2 == .cell)=[]->cellsFrom n l acc=acc/\pushCells h l=h
 | [],_,_,_,_=>⟨rfl,rfl⟩
 | (a,k)::l,n,acc,h,e=>by
  cases c:k == NameKind.cell with
  | true=>rw[List.filter_cons,if_pos (show((a,k).2 == NameKind.cell)=true from c)] at e;cases e
  | false=>
   rw[List.filter_cons,if_neg (show¬((a,k).2 == NameKind.cell)=true by rw[show((a,k).2 == NameKind.cell)=false from c];exact cj)] at e
   obtain⟨h1,h2⟩:=Nr l n acc h e
   unfold cellsFrom pushCells
   rw[c,if_neg cj,if_neg cj]
   exact⟨h1,h2⟩
theorem Nt {x:Str}:∀(l:List (Str×NameKind)) (n:Nat) (acc:List (Str×Addr)) (h:Heap),(l.filter λy=>y.2 == .cell)=[(x,.cell)]->cellsFrom n l acc=(x,n)::acc/\pushCells h l=h.push { cls:=.type "cell",data:=.cell none }
 | [],_,_,_,e=>by cases e
 | (a,k)::l,n,acc,h,e=>by
  cases c:k == NameKind.cell with
  | true=>
   rw[List.filter_cons,if_pos (show((a,k).2 == NameKind.cell)=true from c)] at e
   injection e with e1 e2
   injection e1 with e3 _
   subst e3
   obtain⟨h1,h2⟩:=Nr l (n+1) ((a,n)::acc) (h.push { cls:=.type "cell",data:=.cell none }) e2
   unfold cellsFrom pushCells
   rw[c,if_pos rfl,if_pos rfl]
   exact⟨h1,h2⟩
  | false=>
   rw[List.filter_cons,if_neg (show¬((a,k).2 == NameKind.cell)=true by rw[show((a,k).2 == NameKind.cell)=false from c];exact cj)] at e
   obtain⟨h1,h2⟩:=Nt l n acc h e
   unfold cellsFrom pushCells
   rw[c,if_neg cj,if_neg cj]
   exact⟨h1,h2⟩
theorem WK {M:Model}{A:Around}{E:Value->Shared->Prop}{s:Shared}{scope:Scope}{gl:Addr}{cl:List (Str×Addr)}{qual:Str}{env:Env}{x:Str}{Q:Env->Shared->Prop}(one:(scope.names.filter λy=>y.2 == .cell)=[(x,.cell)])
  (h:∀h',h'.Ns s.heap.objs.size (λ_=>none)->h'.IsCell (s.heap.objs.size+1) none->(∀b o,s.heap.get? b=some o->h'.get? b=some o)->Q (newEnv scope s.heap.objs.size gl ((x,s.heap.objs.size+1)::cl) qual none .none (some env) builtinsNs) { s with heap:=h' }):
  wpAny M A (newFunctionEnv scope gl cl [] qual none .none (some env)) Q E s:=by
 simp only[newFunctionEnv,Option.isSome_some,if_true]
 refine yYX (wpAny_alloc ?_)
 refine yYX (wpAny_layCells _ (λname kind cells=>by cases WL:kind == NameKind.cell <;> simp[WL]) _ _ _ _ ?_)
 obtain⟨h1,h2⟩:=Nt scope.names (s.heap.push { cls:=.type "dict",data:=.dict #[] }).objs.size cl (s.heap.push { cls:=.type "dict",data:=.dict #[] }) one
 show wpAny M A (do forIn _ _ _;pure _) Q E { s with heap:=pushCells (s.heap.push { cls:=.type "dict",data:=.dict #[] }) scope.names }
 rw[h2]
 dsimp only
 rw[h1,List.forIn_nil]
 refine yYX (yYY (yYY ?_))
 have z:(s.heap.push { cls:=.type "dict",data:=.dict #[] }).objs.size=s.heap.objs.size+1:=gj _ _
 rw[z]
 refine h _ ((Heap.Ns.new s.heap (.type "dict")).keeps λb o e=>yYZ _ e) ?_ λb o e=>yYZ _ (yYZ _ e)
 rw[<- z]
 exact⟨_,bg _ rfl,rfl⟩
def vH (scope:Scope)(cl:List (Str×Addr))(x:Str)(C:Addr)(env:Env):Env:={ compEnvC scope cl C env with cells:=(x,C+1)::cl }
def lQ (X:Cx)(scope:Scope)(cl:List (Str×Addr))(x:Str)(N:List Str)(fp:List Addr)(s:Shared)(H:Hp):Cx:={ gS X scope cl N fp s H with env:=vH scope cl x s.heap.objs.size X.env,fn:=λy=>y == x }
structure Et (sc:Scope)(N0:List Str)(scope:Scope)(N:List Str)(k:Nat)(js:List Nat)(x:Str):Prop where
 kind:scope.kind=.function
 one:(scope.names.filter λy=>y.2 == .cell)=[(x,.cell)]
 own:scope.names.lookup x=some .cell
 names:∀y∈scope.names,y.2=.local->scope.names.lookup y.1=some .local
 free:∀p∈scope.names,p.2=.free->sc.names.lookup p.1=some .cell\/sc.names.lookup p.1=some .free
 fn:∀x∈N.drop k,scope.names.lookup x=some .free
 at':js.map (λj=>N0[j]?)=(N.drop k).map some
 le:k<=N.length
 nd:N.Nodup
theorem jP {x y:Str}{L c:Addr}{cl:List (Str×Addr)}(e:List.lookup y ((x,L)::cl)=some c):(y=x/\c=L)\/(y≠x/\cl.lookup y=some c):=by
 by_cases h:y=x
 .subst h
  rw[jS] at e
  exact .inl ⟨rfl,(Option.some.inj e).symm⟩
 .rw[jY _ _ (by simpa using h)] at e
  exact .inr ⟨h,e⟩
section
variable {X:Cx}{elt tg iter:Expr}{ifs:List Expr}{scope:Scope}{ay:Pos}{N:List Str}{k:Nat}{js:List Nat}{cl:List (Str×Addr)}{x:Str}{g:TG}{tt:TT}{te:TE}
theorem WM {zz:List (Addr×Obj)}{σ:St}{H:Hp}{s:Shared}{fp:List Addr}{h₁:Heap}{t':Nat}{m:Str->Option Value}(C:Et X.env.scope X.N scope N k js x)
  (bM:∀y c,cl.lookup y=some c->X.env.cells.lookup y=some c) (hcl2:∀p∈scope.names,p.2=.free->∃c,cl.lookup p.1=some c)
  (I:Inv X zz σ H s) (f2:∀b∈fp,cL X zz H b) (flt:∀b∈fp,b<s.heap.objs.size) (tY:h₁.Ns s.heap.objs.size m) (hcl₁:h₁.IsCell (s.heap.objs.size+1) none) (keep:∀b o,s.heap.get? b=some o->h₁.get? b=some o):
  Inv (lQ X scope cl x N fp s H) [] (stC k js σ) H { s with heap:=h₁,toks:=t' }:=by
 have mh:∀y,(lQ X scope cl x N fp s H).env.kindOf y=(scope.names.lookup y).map λk=>if (k == NameKind.free && X.env.scope.kind == .function && X.env.kindOf y == some .cell) then NameKind.cell else k:=λy=>yF scope.names
 have fN:∀y,((lQ X scope cl x N fp s H).env.kindOf y=some .cell\/(lQ X scope cl x N fp s H).env.kindOf y=some .free)->y=x\/scope.names.lookup y=some .free:=λy hx=>by
  rw[mh y] at hx
  cases e:scope.names.lookup y with
  | none=>rw[e] at hx;rcases hx with hx | hx <;> cases hx
  | some kd=>
   rw[e] at hx
   by_cases hk:kd=.free
   .exact .inr (by rw[hk])
   .have FK:(kd == NameKind.free)=false:=by simpa using hk
    rw[nV,FK,Bool.false_and,Bool.false_and,if_neg cj] at hx
    rcases hx with hx | hx
    .have hc:kd=.cell:=Option.some.inj hx
     subst hc
     have hm:(y,NameKind.cell)∈scope.names.filter (λy=>y.2 == .cell):=tO.mpr ⟨zS e,rfl⟩
     rw[C.one] at hm
     exact .inl (congrArg Prod.fst (bB.mp hm))
    .exact absurd (Option.some.inj hx) hk
 have FL:∀x c,cl.lookup x=some c->c<s.heap.objs.size:=λx c e=>by
  obtain⟨v,z⟩:=I.cell x c (bM x c e)
  exact z.lt
 have ok:(lQ X scope cl x N fp s H).Ok:=
  {mod:=I.ok.mod
   kind:=by show(relabel scope X.env).kind=_;exact C.kind
   glob:=I.ok.glob
   blt:=I.ok.blt
   above:=yZD _
   inj:=λy z c e1 e2=>by
    rcases jP e1 with⟨p1,q1⟩ | ⟨p1,q1⟩ <;> rcases jP e2 with⟨p2,q2⟩ | ⟨p2,q2⟩
    .rw[p1,p2]
    .have:=FL z c q2
     rw[q1] at this
     exact absurd this (Nat.not_lt_of_le (Nat.le_succ _))
    .have:=FL y c q1
     rw[q2] at this
     exact absurd this (Nat.not_lt_of_le (Nat.le_succ _))
    .exact I.ok.inj y z c (bM y c q1) (bM z c q2)
   has:=λy hy=>by
    by_cases c:y=x
    .exact⟨s.heap.objs.size+1,by rw[c];exact jS _ _ _⟩
    .rcases fN y hy with z | z
     .exact absurd z c
     .obtain⟨d,hd⟩:=hcl2 (y,.free) (zS z) rfl
      exact⟨d,by show List.lookup y ((x,s.heap.objs.size+1)::cl)=_;rw[jY _ _ (by simpa using c)];exact hd⟩
   nX:=λy c z e=>by
    have z:(y == x)=true:=z
    rcases jP e with⟨_,q⟩ | ⟨p,_⟩
    .rw[q];exact Nat.le_succ _
    .exact absurd (eq_of_beq z) p
   hd:=I.ok.hd
   frames:=I.ok.frames
   nB:=.inl rfl
   A3:=λb hb=>⟨yZF (flt b hb),λy c e=>by
    rcases jP e with⟨_,q⟩ | ⟨_,q⟩
    .rw[q];exact yZH (Nat.lt_succ_of_lt (flt b hb))
    .exact(f2 b hb).2.2.2.2.1 y c (bM y c q)⟩
   bs:=λb o e=>I.bs b o e
   lA:=yZJ I.ok.lA I.sz
   fH:=λb o e hb=>by
    rcases(f2 b hb).2.2.2.1 with z | z
    .exact I.ok.fH b o e z
    .exact absurd (yZE (aG (I.ok.bs b o e).1) z) (Nat.lt_irrefl _)
   gY:=λb hb z=>by
    rcases aE.mp (I.stkSub b z) with q | q
    .exact(f2 b hb).2.1 q
    .exact(f2 b hb).2.2.1 q
   cX:=I.stack
   nE:=I.bV }
 have hlen:(stC k js σ).length=N.length:=by
  have q:=congrArg List.length C.at'
  rw[av,av,Yo] at q
  have:=C.le
  show(Yg k none++frees js σ).length=N.length
  rw[bK,Yj,frees,av]
  omega
 refine⟨ok,rfl,I.bare,Un.kept keep,⟨m,tY,λi y v e1 e2 e3=>?_⟩,λy c e=>?_,I.af.fresh (yZD _),λy c e=>?_,λp hp=>absurd (show p∈([]:List (Addr×Obj)) from hp) (by simp),I.af.kept keep,hlen⟩
 .have e1:N[i]? = some y:=e1
  have BA:k<=i:=by
   by_cases BA:k<=i
   .exact BA
   .have de:(Yg k (none:Option V)++frees js σ)[i]? = some (some v):=e2
    rw[Yr (by rw[Yj];omega),List.getElem?_replicate] at de
    split at de <;> cases de
  obtain⟨d,rfl⟩:∃d,i=k+d:=⟨i - k,by omega⟩
  have de:(Yg k (none:Option V)++frees js σ)[k+d]? = some (some v):=e2
  rw[Yi (by rw[Yj];omega),Yj,Nat.add_sub_cancel_left,frees,bb] at de
  have ed:(N.drop k)[d]? = some y:=by rw[List.getElem?_drop];exact e1
  cases ej:js[d]? with
  | none=>rw[ej] at de;cases de
  | some j=>
   rw[ej] at de
   have ev:σ.getD j none=some v:=Option.some.inj de
   have FN:X.N[j]? = some y:=by
    have q:=congrArg (λl=>l[d]?) C.at'
    simp only[bb,ej,ed,nV] at q
    exact Option.some.inj q
   have eσ:σ[j]? = some (some v):=by
    rw[Yh] at ev
    cases z:σ[j]? with
    | none=>rw[z] at ev;cases ev
    | some w=>rw[z] at ev;exact congrArg some ev
   have ox:scope.names.lookup y=some .free:=C.fn y (bw ed)
   have hX:X.env.scope.names.lookup y=some .cell\/X.env.scope.names.lookup y=some .free:=C.free (y,.free) (zS ox) rfl
   have WN:y≠x:=λz=>by rw[z,C.own] at ox;cases ox
   obtain⟨mX,_,lX⟩:=I.loc
   obtain⟨u,ru,lu⟩:=lX j y v FN eσ (hX.elim (λz=>.inr (.inl z)) λz=>.inr (.inr z))
   refine⟨u,ru,.inr ⟨?_,?_⟩⟩
   .rw[mh y,ox]
    show some (if _ then _ else _)=_\/some (if _ then _ else _)=_
    split
    .exact .inl rfl
    .exact .inr rfl
   .rcases lu with⟨z,_⟩ | ⟨_,c,ec,ic⟩
    .have z:X.env.scope.names.lookup y=some .local:=z
     rcases hX with q | q <;> rw[q] at z <;> cases z
    .obtain⟨c',BB⟩:=hcl2 (y,.free) (zS ox) rfl
     have:c'=c:=Option.some.inj ((bM y c' BB).symm.trans ec)
     subst this
     obtain⟨o,ho,hd⟩:=ic
     exact⟨c',by show List.lookup y ((x,s.heap.objs.size+1)::cl)=_;rw[jY _ _ (by simpa using WN)];exact BB,o,keep _ _ ho,hd⟩
 .rcases jP e with⟨_,q⟩ | ⟨_,q⟩
  .rw[q];exact⟨none,hcl₁⟩
  .obtain⟨v,o,ho,hd⟩:=I.cell y c (bM y c q)
   exact⟨v,o,keep _ _ ho,hd⟩
 .rcases jP e with⟨_,q⟩ | ⟨_,q⟩
  .rw[q];exact I.af.fresh (Nat.le_succ _)
  .exact I.bq y c (bM y c q)
theorem WO {zz:List (Addr×Obj)}{σ:St}{H2:Hp}{s2:Shared}{E:Value->Shared->Prop}{it:Addr}{fp:List Addr}{tn:Nat->Heap->Prop}{J:It}{Q:VK}{RR:Value->Addr->Result->Shared->Prop}
  (hc:X.calm=true) (C:Et X.env.scope X.N scope N k js x) (bM:∀y c,cl.lookup y=some c->X.env.cells.lookup y=some c) (hcl2:∀p∈scope.names,p.2=.free->∃c,cl.lookup p.1=some c)
  (hg:∀fp s H,PG (lQ X scope cl x N fp s H) tg g) (ht:∀fp s H,rW (lQ X scope cl x N fp s H) ifs tt) (he:∀fp s H,PE (lQ X scope cl x N fp s H) elt te)
  (I:Inv X zz σ H2 s2) (T:Turn X.prog X.w X.K tg J fp it tn) (st:tn 0 s2.heap) (f2:∀b∈fp,cL X zz H2 b) (rd:fM k js g tt te J σ H2 Q)
  (fin:∀D L H' s',Inv X zz σ H' s'->cL X zz H' L->(∃m,s'.heap.Ns L m)->Q (.ref D) H'->RR (.ref D) L (.ok .next) s'):
  wpAny (model X.prog X.w) X.A (newList []) (λacc s₃=>wpAny (model X.prog X.w) X.A (newFunctionEnv scope X.env.globals cl [] X.env.qual none .none (some X.env)) (λmj s₄=>
   codeAny (model X.prog X.w) X.A (.compStart (.ListComp elt [⟨tg,iter,ifs,0⟩] scope ay) 0 (.ref it) acc { mj with scope:=relabel scope X.env }) (RR acc mj.locals) s₄) E s₃) E s2:=by
 refine wpAny_newObj_type (WK C.one λh₁ hns₁ hc₁ keep=>?_)
 dsimp only at hns₁ hc₁ keep ⊢
 have hD:H2 s2.heap.objs.size=none:=I.af.fresh (yZD _)
 have Id:Inv X zz σ (upd H2 s2.heap.objs.size (.lst [])) { s2 with heap:=s2.heap.push { cls:=.type "list",dict:=none,data:=.seq ([]:List Value).toArray } }:=
  I.laid (t':=s2.toks) (λb u e=>yYZ _ e) (yZD _) ⟨yZG _,[],0,.nil,bg _ rfl⟩
 have kD:∀b o,s2.heap.get? b=some o->(s2.heap.push { cls:=.type "list",dict:=none,data:=.seq ([]:List Value).toArray }).get? b=some o:=λb o e=>yYZ _ e
 generalize FO:s2.heap.push { cls:=.type "list",dict:=none,data:=.seq ([]:List Value).toArray }=Hd at hns₁ hc₁ keep Id kD ⊢
 have Ry:Hd.objs.size=s2.heap.objs.size+1:=by rw[<- FO,gj]
 have gE:∀b∈fp,b<s2.heap.objs.size:=λb hb=>by
  obtain⟨o,e,_⟩:=T.obj _ _ st b hb
  exact aG e
 have fd:∀b∈fp,cL X zz (upd H2 s2.heap.objs.size (.lst [])) b:=λb hb=>
  ⟨by rw[qB (yZF (gE b hb))];exact(f2 b hb).1,(f2 b hb).2⟩
 obtain⟨W,⟨m0,w0⟩,turn⟩:=rd _ hD
 generalize hY:lQ X scope cl x N fp { s2 with heap:=Hd } (upd H2 s2.heap.objs.size (.lst []))=Y
 have hg:=hg fp { s2 with heap:=Hd } (upd H2 s2.heap.objs.size (.lst []))
 have ht:=ht fp { s2 with heap:=Hd } (upd H2 s2.heap.objs.size (.lst []))
 have he:=he fp { s2 with heap:=Hd } (upd H2 s2.heap.objs.size (.lst []))
 have loop:∀s₃:Shared,s₃={ s2 with heap:=h₁,toks:=s2.toks }->
   codeAny (model X.prog X.w) X.A (.compLoop (.ListComp elt [⟨tg,iter,ifs,0⟩] scope ay) 0 (.ref it) (.ref s2.heap.objs.size) (vH scope cl x Hd.objs.size X.env))
    (RR (.ref s2.heap.objs.size) Hd.objs.size) s₃:=by
  rintro s₃ rfl
  have IY:Inv Y [] (stC k js σ) (upd H2 s2.heap.objs.size (.lst [])) { s2 with heap:=h₁,toks:=s2.toks }:=by
   rw[<- hY]
   exact WM (t':=s2.toks) C bM hcl2 Id fd (λb hb=>yZE (gE b hb) (by show s2.heap.objs.size<=Hd.objs.size;omega)) hns₁ hc₁ keep
  rw[hY] at hg ht he
  have df:Y.prog=X.prog:=by rw[<- hY];rfl
  have yw:Y.w=X.w:=by rw[<- hY];rfl
  have yK:Y.K=X.K:=by rw[<- hY];rfl
  have yA:Y.A=X.A:=by rw[<- hY];rfl
  have yc:Y.calm=true:=by rw[<- hY];exact hc
  have dX:Y.env=vH scope cl x Hd.objs.size X.env:=by rw[<- hY];rfl
  have FQ:Y.xe=λ_ _=>False:=by rw[<- hY];rfl
  have mm:∀{pn σ' H' s'},Inv Y pn σ' H' s'->Un (bG X.stack) fp (upd H2 s2.heap.objs.size (.lst [])) H' Hd s'.heap/\s'.os=s2.os:=λ{pn σ' H' s'} J=>by
   have u:=J.base
   have o:=J.os
   rw[<- hY] at u o
   exact⟨u,o⟩
  have dY:∀{H':Hp},(∀b∈fp,H' b=none)->∀b∈fp,cL Y [] H' b:=λ{H'} hn b hb=>by
   rw[<- hY]
   refine⟨hn b hb,yZF (yZE (gE b hb) (by show s2.heap.objs.size<=Hd.objs.size;omega)),?_,.inl hb,λy c e=>?_,λp hp=>absurd (show p∈([]:List (Addr×Obj)) from hp) (by simp)⟩
   rotate_left
   .rcases jP e with⟨_,rfl⟩ | ⟨_,e⟩
    .have:=gE b hb
     exact yZH (yZE this (by show s2.heap.objs.size<=Hd.objs.size+1;omega))
    .exact(f2 b hb).2.2.2.2.1 y c (bM y c e)
   intro z
   rcases aE.mp (I.stkSub b z) with q | q
   .exact(f2 b hb).2.1 q
   .exact(f2 b hb).2.2.1 q
  have st₁:tn 0 h₁:=T.keep _ _ _ st λb hb o e=>keep b o (kD b o e)
  refine codeAny_loop rfl (λn s'=>∃i ys H',Inv Y [] (stC k js σ) H' s'/\tn i s'.heap/\(∀b∈fp,H' b=none)/\W i n ys H') ?_ m0 ⟨0,[],_,IY,st₁,λb hb=>(fd b hb).1,w0⟩
  rintro n s3 ⟨i,ys,H3,I3,p7,p8,w3⟩
  show wpAny _ X.A ((compTurn (.ListComp elt [⟨tg,iter,ifs,0⟩] scope ay) 0 (.ref it) (.ref s2.heap.objs.size) (vH scope cl x Hd.objs.size X.env)).onRaise (λxe=>do noteFrame xe (vH scope cl x Hd.objs.size X.env);theTreesLotGoes xe)) _ _ s3
  refine wpAny_noted ?_
  rw[compTurn_list]
  obtain⟨Rz,tr⟩:=turn i n ys H3 w3
  have oy:∀{α:Type} {t:Sem α} {R R':α->Shared->Prop} {E':Value->Shared->Prop} {s:Shared},wpAny (model Y.prog Y.w) Y.A t R Y.xe s->(∀a s,R a s->R' a s)->wpAny (model X.prog X.w) X.A t R' E' s:=λ{α t R R' E' s} h hQ=>by
   rw[df,yw,yA,FQ] at h
   exact wpAny_mono h hQ λ_ _ z=>z.elim
  rcases tr with⟨stop,qn⟩ | ⟨go,step⟩
  .refine yYX (wpAny_standAt (yYX ?_))
   have dn:=T.done Y df yw yK yc i [] s3 (stC k js σ) H3 (λ_ _=>False) I3 (dY p8) p7 stop
   rw[yA] at dn
   refine wpAny_mono dn (λr s4 ⟨hr,I4⟩=>?_) λ_ _ z=>z.elim
   subst hr
   obtain⟨u4,o4⟩:=mm I4
   refine yYY (fin _ _ H3 s4 ?_ ?_ ?_ qn)
   .refine I.call' (ch:=fp) o4 ((Un.laid (λb o e=>kD b o e) (yZD _) hD).trans u4) (by have:=I4.af;rw[df,yw] at this;exact this) I4.bare λb hb=>?_
    obtain⟨_,q1,q2,q3,q4,q5⟩:=f2 b hb
    exact⟨q3,q1,q4,q5⟩
   .refine I.fpOk (by show s2.heap.objs.size<=Hd.objs.size;omega) ?_
    have:=I4.free
    rw[dX] at this
    exact this
   .obtain⟨m,hn,_⟩:=I4.loc
    rw[dX] at hn
    exact⟨m,hn⟩
  .refine yYX (wpAny_standAt (yYX ?_))
   have BC:=T.item Y df yw yK yc i [] s3 (stC k js σ) H3 (λ_ _=>False) I3 (dY p8) p7 go
   rw[yA] at BC
   refine wpAny_mono BC (λr s4 ⟨u,hr,h4⟩=>?_) λ_ _ z=>z.elim
   subst hr
   refine yYX (wpAny_mono h4 (λ_ s5 ⟨x,H5,I5,r5,y5,l4,Bh⟩=>?_) λ_ _ z=>z.elim)
   have Bi:=I5.pinned (dY Bh) (T.obj _ _ l4)
   have as:=hg _ s5 (stC k js σ) H5 x u _ Bi r5 (step x H5 y5)
   rw[dX] at as
   refine yYX (oy as λ_ s6 ⟨σ6,H6,I6,⟨ow,BD,e6⟩,q6⟩=>?_)
   have again:∀{H7:Hp} {s7:Shared} {zs:List V},Inv Y ([]++cw fp s5.heap) σ6 H7 s7->(∃m',m'<n/\W (i+1) m' zs H7)->
     ∃m,m<n/\∃i ys H',Inv Y [] (stC k js σ) H' s7/\tn i s7.heap/\(∀b∈fp,H' b=none)/\W i m ys H':=λ{H7 s7 zs} I7 ⟨m',hm,w7⟩=>by
    have J7:Inv Y ([]++cw fp s5.heap) (stC k js σ) H7 s7:=by
     refine I7.weak ?_ λj v e=>?_
     .rw[e6]
      show(Yg k none++frees js σ).length=_
      rw[bK,bK,Yj,BD]
     .have e:(Yg k (none:Option V)++frees js σ)[j]? = some (some v):=e
      rw[e6]
      by_cases hj:j<k
      .rw[Yr (by rw[Yj];exact hj),List.getElem?_replicate] at e
       split at e <;> cases e
      .rw[Yi (by rw[Yj];omega),Yj] at e
       rw[Yi (by omega),BD]
       exact e
    refine⟨m',hm,i+1,zs,H7,J7.cy,T.keep _ _ _ l4 λb hb o e=>(I7.pin (b,o) (fE _ (fE _ (yJ hb e)))).1,λb hb=>?_,w7⟩
    obtain⟨o,e,d⟩:=T.obj _ _ l4 b hb
    exact(I7.pin (b,o) (fE _ (fE _ (yJ hb e)))).2.1
   have BE:=ht _ s6 σ6 H6 _ I6 q6
   rw[dX] at BE
   refine yYX (oy BE λb s7 ⟨H7,I7,q7⟩=>?_)
   cases b with
   | false=>exact yYY ⟨rfl,again I7 q7⟩
   | true=>
    have ev:=he _ s7 σ6 H7 _ I7 q7
    rw[dX] at ev
    refine yYX (yYX (oy ev λv s8 ⟨y,H8,I8,r8,q8,z8,w8⟩=>?_))
    refine yYX (oy (zR (X:=Y) _ s8 σ6 H8 (.ref s2.heap.objs.size) [y] (.ref s2.heap.objs.size) [v] (λ_ H9=>H9=upd H8 s2.heap.objs.size (.lst (ys++[y]))) I8 rfl (.cons r8 .nil) ⟨_,ys,y,rfl,rfl,q8,z8,rfl⟩) λ_ s9 ⟨_,H9,I9,_,e9⟩=>?_)
    subst e9
    exact yYY (yYY ⟨rfl,again I9 w8⟩)
 exact codeAny_compStart_list (loop _ rfl) (T.self _ 0 _ _ _ (T.keep _ _ _ st λb hb o e=>keep b o (kD b o e)) (loop _ rfl))
theorem WQ {wi:TI}{sc:Scope}{N0:List Str}(hc:X.calm=true)(C:Et sc N0 scope N k js x)(hi:PI X tg iter wi)
  (hg:∀cl fp s H,PG (lQ X scope cl x N fp s H) tg g) (ht:∀cl fp s H,rW (lQ X scope cl x N fp s H) ifs tt) (he:∀cl fp s H,PE (lQ X scope cl x N fp s H) elt te)
  (hs:∀v,foldedSetIterable iter X.env v=pure v:=by intro _;rfl) (BF:X.env.scope=sc:=by rfl) (BG:X.N=N0:=by rfl):PE X (.ListComp elt [⟨tg,iter,ifs,0⟩] scope ay) (iL k js wi g tt te):=by
 subst BF BG
 intro zz s σ H Q I h
 obtain⟨cl,e,h1,h2⟩:=wK (λp hp hf=>I.ok.has p.1 (C.free p hp hf))
 rw[eval_ListComp]
 refine wpAny_comprehension_free (use:=none) rfl hs e C.kind C.names (aF (hi zz s σ H _ I h) λv s1 q=>aF q λBe s2 q2=>?_)
 obtain⟨it,fp,tn,J,H2,rfl,I2,T,st,f2,rd⟩:=q2
 refine WO (RR:=λacc L=>compPost (model X.prog X.w) X.A X.xe none (EP X zz σ Q) acc L) hc C h1 h2 (hg cl) (ht cl) (he cl) I2 T st f2 rd ?_
 intro D L H' s' I' ⟨f0,f1,_,f3,f4,f5⟩ ⟨m,hn⟩ q
 refine⟨m,hn,λh' sb=>⟨.ref D,H',?_,rfl,q⟩⟩
 exact I'.turned (t':=s'.toks) (λb o hb e=>(sb.2 b hb).trans e) f0 f1 f3 f4 f5
end
end L2
local macro_rules | `(tactic| wtm_at "zh")=>`(tactic| first | assumption | exact L2.qW | (refine L2.qV (by assumption) _ _ _ ?_;wtm_at "zh") | (refine(show L2.aa _ _ by assumption) _ _ ?_;wtm_at "zh"))
local macro_rules | `(tactic| wtm_at "zs")=>`(tactic| first | assumption | exact L2.aS.of (by wtm_at "zh") | exact L2.aj.of (by wtm_at "zh") | (refine L2.aa.seq (by assumption) ?_;wtm_at "zs"))
local macro_rules | `(tactic| wtm_at "zo")=>`(tactic| first | exact Or.inl rfl | exact Or.inr rfl)
local macro_rules | `(tactic| wtm_at "zat")=>`(tactic| first | rfl | assumption | exact L2.RG _ _ | exact FP.at_int (by assumption) | exact L2.kC (by assumption))
local macro_rules | `(tactic| wtm_at"z")=>`(tactic| repeat first
 | (with_reducible first | apply L2.Sz | apply L2.SH | apply L2.Si | apply L2.SJ | apply L2.F9 | apply L2.Ga | apply L2.So | apply L2.Sq | apply L2.Gd | apply L2.Ta | apply L2.w_not | apply L2.w_or | apply L2.Ss | apply L2.Su | apply L2.Sw | apply L2.Ge | apply L2.SG | apply L2.SD | apply L2.SE | apply L2.Sx | apply L2.SQ | apply L2.SO | apply L2.SU | apply L2.Gf | apply L2.SR | apply L2.SS | apply L2.SV | apply L2.Gg | apply L2.Gh | apply L2.SW | apply L2.S8 | apply L2.SK | apply L2.SM | apply L2.Td | apply L2.Te | apply L2.Tf | apply L2.wE | apply L2.Tb | apply L2.Tc)
 | ((with_reducible show L2.eS _ _ _ _);refine L2.w_var rfl ?_)
 | ((with_reducible show L2.Ft _ _ _ _);refine L2.w_eq rfl ?_)
 | ((with_reducible show L2.Fu _ _ _ _);refine L2.Gb rfl ?_)
 | ((with_reducible show L2.oo _ _ _ _ _);refine L2.Sm (by wtm_at "zs") (by wtm_at "zat") ?_)
 | ((with_reducible show L2.om _ _ _ _ _);refine L2.Sk (by wtm_at "zs") (by wtm_at "zat") ?_)
 | ((with_reducible show L2.gZ _ _ _ _ _ _ _);refine L2.SN (by wtm_at "zs") rfl ?_)
 | ((with_reducible show L2.sf _ _ _ _);refine L2.BX (by first | exact .inl (by wtm_at "zs") | exact .inr (by wtm_at "zs")) ?_)
 | apply L2.Ti (FP.yU _)
 | refine L2.Eg (FP.xW (by assumption)) ?_
 | refine L2.Eg (FP.xW (by wtm_at"d")) ?_
 | (with_reducible first | apply L2.bz | apply L2.bO | apply L2.BZ | apply L2.B0))
local macro_rules | `(tactic| wtm_at "zf")=>`(tactic| wtm_at"z";(with_reducible first | apply L2.Tj | apply L2.L0);wtm_at"z")
set_option tactic.hygienic false
namespace FP
open PySem L2
structure Bl (mg:Str->Option Value):Prop where
 dC:mg "len" = none
 range':mg "range" = none
 WR:mg "min" = none
 ar:mg "isinstance" = none
 Nu:mg "list" = none
 wd:mg "reversed" = none
 tuple':mg "tuple" = none
 Ho:mg "int" = none
 Cw:mg "bool" = none
 gO:mg "dict" = none
 Cy:mg "zip" = none
structure iu (K:aq)(mg:Str->Option Value)(x:Str)(f:Addr)(fd:FuncData)(ps:List Str):Prop where
 mg:mg x=some (.ref f)
 kp:PySem.W.keepIn K (.ref f)=true
 bd:Binds K fd ps []
section
seal L2.PE L2.PA L2.PS L2.dR
variable {P:Program}{w:World}{K:aq}{mg:Str->Option Value}{base:Heap}
theorem zF {K:aq}{a:Addr}{xs:List V}{g:TG}{tb:TS}{D:Ends}{σ:St}{H:Hp}(Pv:Nat->St->Hp->Prop)(h0:Pv 0 σ H)(hl:∀i σ H,i<=xs.length->Pv i σ H->aj K H a xs)
  (hs:∀(N:St->Hp->Prop) (rt:VK) (bk:St->Hp->Prop) i x σ H,xs[i]? = some x->Pv i σ H->(∀σ H,Pv (i+1) σ H->N σ H)->g x σ H λσ2 H2=>tb ⟨N,rt,bk,N⟩ σ2 H2) (hd:∀σ H,Pv xs.length σ H->D.nx σ H):
  ∃W:Nat->Nat->St->Hp->Prop,(∃m,W 0 m σ H)/\∀i m σ H,W i m σ H->
   ((i6 K a).stop i H/\D.nx σ H)\/((i6 K a).go i H/\∃N:St->Hp->Prop,(∀σ' H',N σ' H'->∃m',m'<m/\W (i+1) m' σ' H')/\∀x H',(i6 K a).lY i H x H'->g x σ H' λσ2 H2=>tb { D with nx:=N,ct:=N,bk:=D.nx } σ2 H2):=
 Fs Pv h0 hl (λi x σ H e p=>hs _ _ _ i x σ H e p λ_ _ z=>z) hd
theorem WS {lo:Int}{n:Nat}{g:TG}{tb:TS}{D:Ends}{σ:St}{H:Hp}(Pv:Nat->St->Hp->Prop)(h0:Pv 0 σ H)
  (hs:∀(N:St->Hp->Prop) (rt:VK) (bk:St->Hp->Prop) i σ H,i<n->Pv i σ H->(∀σ H,Pv (i+1) σ H->N σ H)->g (.int (lo+i)) σ H λσ2 H2=>tb ⟨N,rt,bk,N⟩ σ2 H2) (hd:∀σ H,Pv n σ H->D.nx σ H):
  ∃W:Nat->Nat->St->Hp->Prop,(∃m,W 0 m σ H)/\∀i m σ H,W i m σ H->
   ((lG lo n).stop i H/\D.nx σ H)\/((lG lo n).go i H/\∃N:St->Hp->Prop,(∀σ' H',N σ' H'->∃m',m'<m/\W (i+1) m' σ' H')/\∀x H',(lG lo n).lY i H x H'->g x σ H' λσ2 H2=>tb { D with nx:=N,ct:=N,bk:=D.nx } σ2 H2):=
 Ql Pv h0 (λi σ H e p=>hs _ _ _ i σ H e p λ_ _ z=>z) hd
theorem laid {H H':Hp}{p:Addr}{o:HO}(n:H p=none)(h:upd H p o=H'):aa H H'/\H' p=some o:=by
 subst h
 exact⟨qV n o,qW⟩
theorem pj:0<=Yc:=by decide
theorem iw:1<=Yc:=by decide
theorem dD:2<=Yc:=by decide
theorem sS:3<=Yc:=by decide
theorem Hq:4<=Yc:=by decide
theorem WT:5<=Yc:=by decide
def mI:List Str:=["not","and","yes"]
def cF (H:Hp)(b:Str×Int)(u:V):Prop:=∃a,u=.ref a/\H a=some (.tup [.str b.1,.int b.2])
structure Named (ws:List Str):Prop where
 nd:ws.Nodup
 no:∀x∈ws,x∉mI
theorem cF.mono {H H':Hp}(h:bD H H'){b:Str×Int}{u:V}(x:cF H b u):cF H' b u:=let ⟨a,e,q⟩:=x;⟨a,e,h _ _ q⟩
theorem xK {H H':Hp}(h:bD H H'){bs:List (Str×Int)}{us:List V}(p:Paired (cF H) bs us):Paired (cF H') bs us:=Paired.mapP p λ_ _ x=>x.mono h
def dh (ws:List Str):Th->Prop
 | .num n=>0<=n/\n<10
 | .box x=>x∈ws
 | .nul _=>False
 | .un _ _=>False
 | .bin k a b=>(k = "plus" \/ k = "less")/\dh ws a/\dh ws b
theorem Nv:Th.Op "plus" := ⟨by wtm_at"d",by wtm_at"d"⟩
theorem Nw:Th.Op "less" := ⟨by wtm_at"d",by wtm_at"d"⟩
def di (ws:List Str):Th->Prop
 | .num _=>False
 | .box _=>False
 | .nul k=>k = "yes"
 | .un k a=>k = "not" /\ di ws a
 | .bin k a b=>((k = "same" \/ k = "under")/\dh ws a/\dh ws b)\/(k = "both" /\ di ws a/\di ws b)
def Th.worth (ρ:Str->Int):Th->Int
 | .num n=>n
 | .box x=>ρ x
 | .nul _=>0
 | .un _ _=>0
 | .bin k a b=>if k = "plus" then a.worth ρ+b.worth ρ else a.worth ρ - b.worth ρ
def sT (kvs:List (Key×V))(ws:List Str)(ρ:Str->Int):Prop:=∀x∈ws,ai kvs (Sum.inr x)=some (.int (ρ x))/\0<=ρ x/\ρ x<10
theorem kZ:xI ["expression","values","kind","one","other"] ["expression","values"] (xB (top 4)):=by constructor <;> first | rfl | wtm_at"d"
def jW (n:Nat):Sp:=λvs H Q _=>∃(t:Th) (v:V) (d:Addr) (kvs:List (Key×V)) (ws:List Str) (ρ:Str->Int),vs=[v,.ref d]/\t.At H v/\dh ws t/\t.dep<=n/\H d=some (.dK kvs)/\sT kvs ws ρ/\Q (.int (t.worth ρ)) H
theorem WU {f:Addr}{fd:FuncData}:aT P w K mg base eU 1 f fd ["expression","values"] (jW 0):=by
 have no:∀vs H Q E,¬jW 0 vs H Q E:=λvs H Q E h=>by
  obtain⟨t,_,_,_,_,_,_,_,_,h1,_⟩:=h
  have:=t.iN
  omega
 exact⟨λvs H Q E h=>absurd h (no vs H Q E),λA outer s H args us vs Q E _ _ _ _ h=>absurd h (no vs H Q E)⟩
theorem WV {n:Nat}{f:Addr}{fd:FuncData}(F:gC K "worth_by" "worth_by" (top 4) f fd)(ko:aT P w K mg base eU (n+1) f fd ["expression","values"] (jW n))(je:iu K mg "worth_by" f fd ["expression","values"]):
  aT P w K mg base eU (n+2) f fd ["expression","values"] (jW (n+1)):=by
 refine F.ok kZ (λvs H Q E h=>?_) (λzy A outer s H vs Q E hr h=>?_)
 .obtain⟨_,_,_,_,_,_,rfl,_⟩:=h
  rfl
 obtain⟨t,v,d,kvs,ws,ρ,rfl,at',ex,hn,hd,env,q⟩:=h
 have hu:=nJ hr
 refine⟨_,(qZ (xG (i:=2) kZ.nd rfl (xN (qT (K:=K)) (pv 0) qG))
  (qZ (yV (qS l6 (pv 2) qH (xE _)) (qJ (qP (xN (qT (K:=K)) (pv 0) qG))) qY)
  (qZ (yV (qS l6 (pv 2) qH (xE _)) (qJ (qP (vX hu (pv 1) (xN (qT (K:=K)) (pv 0) qG) (λ_ _=>rfl)))) qY)
  (qZ (xG (i:=3) kZ.nd rfl (wX ko hr rfl je.mg je.kp je.bd .nil dW (qQ (xN (qT (K:=K)) (pv 0) qG) (qQ (pv 1) qX))))
  (qZ (xG (i:=4) kZ.nd rfl (wX ko hr rfl je.mg je.kp je.bd .nil dW (qQ (xN (qT (K:=K)) (pv 0) qG) (qQ (pv 1) qX))))
  (qJ (qP (Fo (qS l6 (pv 2) qH (xE _)) (xX vF (pv 3) (pv 4)) (xX Qm (pv 3) (pv 4)))))))))),?_⟩
 cases t with
 | nul _=>exact False.elim ex
 | un _ _=>exact False.elim ex
 | num n=>
  obtain⟨a,ev,ea⟩:=at'
  subst ev
  refine⟨_,rfl,a,_,0,.str "number",rfl,rfl,aS.of ea,rfl,?_⟩
  refine⟨_,rfl,rfl,_,rfl,?_⟩
  rw[yU]
  refine bz ?_
  exact⟨_,rfl,a,_,1,.int n,rfl,rfl,aS.of ea,rfl,q⟩
 | box x=>
  obtain⟨a,ev,ea⟩:=at'
  subst ev
  refine⟨_,rfl,a,_,0,.str "box",rfl,rfl,aS.of ea,rfl,?_⟩
  refine⟨_,rfl,rfl,_,rfl,?_⟩
  rw[xW (Ne.symm Se)]
  refine bO ?_
  refine⟨_,rfl,rfl,_,rfl,?_⟩
  rw[yU]
  refine bz ?_
  refine⟨_,rfl,_,rfl,a,_,1,.str x,rfl,rfl,aS.of ea,rfl,d,.int (ρ x),rfl,?_,q⟩
  rw[<- (env x ex).1]
  exact cm.k (k:=Sum.inr x) hd
 | bin k t1 t2=>
  obtain⟨a,u1,u2,ev,ea,a1,a2⟩:=at'
  obtain⟨hk,x1,x2⟩:=ex
  subst ev
  have DY:max t1.dep t2.dep+1<=n+1:=hn
  have k1:k ≠ "number" := by rcases hk with rfl | rfl;exact Nv.2;exact Nw.2
  have k2:k ≠ "box" := by rcases hk with rfl | rfl;exact Nv.1;exact Nw.1
  refine⟨_,rfl,a,_,0,.str k,rfl,rfl,aS.of ea,rfl,?_⟩
  refine⟨_,rfl,rfl,_,rfl,?_⟩
  rw[xW k1]
  refine bO ?_
  refine⟨_,rfl,rfl,_,rfl,?_⟩
  rw[xW k2]
  refine bO ?_
  refine⟨_,rfl,a,_,1,u1,rfl,rfl,aS.of ea,rfl,_,rfl,t1,u1,d,kvs,ws,ρ,rfl,a1,x1,by omega,hd,env,?_⟩
  refine⟨_,rfl,a,_,2,u2,rfl,rfl,aS.of ea,rfl,_,rfl,t2,u2,d,kvs,ws,ρ,rfl,a2,x2,by omega,hd,env,?_⟩
  refine⟨_,rfl,rfl,_,rfl,?_⟩
  have q':Q (.int (if k = "plus" then t1.worth ρ+t2.worth ρ else t1.worth ρ - t2.worth ρ)) H:=q
  refine i8 (λc=>?_) (λc=>?_)
  .have c':k = "plus" := by
    have z:=of_decide_eq_true c
    cases z
    rfl
   rw[if_pos c'] at q'
   exact⟨_,rfl,_,rfl,_,_,rfl,rfl,q'⟩
  .have c':k ≠ "plus" := λz=>c (by rw[z,yU])
   rw[if_neg c'] at q'
   exact⟨_,rfl,_,rfl,_,_,rfl,rfl,q'⟩
theorem Nx {f:Addr}{fd:FuncData}(F:gC K "worth_by" "worth_by" (top 4) f fd)(je:iu K mg "worth_by" f fd ["expression","values"]):∀n:Nat,aT P w K mg base eU (n+1) f fd ["expression","values"] (jW n)
 | 0=>WU
 | n+1=>WV F (Nx F je n) je
theorem Ny {x:Str}:∀(kvs:List (Str×V)) (acc:List (Key×V)),((ai acc (Sum.inr x)).isSome=true\/x∈kvs.map (·.1))->(ai (az acc (cR kvs)) (Sum.inr x)).isSome=true
 | [],acc,h=>by rcases h with h | h;exact h;cases h
 | (n,v)::kvs,acc,h=>by
  show(ai (az (putK acc (Sum.inr n) v) (cR kvs)) (Sum.inr x)).isSome=true
  refine Ny kvs _ ?_
  rw[kM]
  by_cases e:x=n
  .left;subst e;rw[if_pos rfl];rfl
  .rw[if_neg (λz=>e (Sum.inr.inj z))]
   rcases h with h | h
   .exact .inl h
   .rcases aE.mp h with h | h
    .exact absurd h e
    .exact .inr h
theorem Nz {Pr:V->Prop}:∀(kvs:List (Str×V)) (acc:List (Key×V)),(∀kv∈kvs,Pr kv.2)->(∀k v,ai acc k=some v->Pr v)->∀k v,ai (az acc (cR kvs)) k=some v->Pr v
 | [],acc,_,h=>h
 | (n,v)::kvs,acc,hk,h=>by
  show∀k v',ai (az (putK acc (Sum.inr n) v) (cR kvs)) k=some v'->Pr v'
  refine Nz kvs _ (λkv hkv=>hk kv (yYH _ hkv)) λk v' e=>?_
  rw[kM] at e
  by_cases c:k=Sum.inr n
  .rw[if_pos c] at e;cases e;exact hk (n,v) aW
  .rw[if_neg c] at e;exact h k v' e
def envOf (kvs:List (Key×V))(x:Str):Int:=match ai kvs (Sum.inr x) with
 | some (.int i)=>i
 | _=>0
abbrev kvsOf (bs:List (Str×Int))(vals:List Int):List (Key×V):=az [] (i9 (bs.map (·.1)) (ae vals))
def iy (bs:List (Str×Int))(vals:List Int):Prop:=vals.length=bs.length/\∀v∈vals,0<=v/\v<10
theorem Hr {bs:List (Str×Int)}{vals:List Int}(h:iy bs vals):sT (kvsOf bs vals) (bs.map (·.1)) (envOf (kvsOf bs vals)):=λx hx=>by
 have s1:(ai (kvsOf bs vals) (Sum.inr x)).isSome=true:=Ny (x:=x) ((bs.map (λb:Str×Int=>b.1)).zip (ae vals)) [] (.inr (by
  rw[List.map_fst_zip]
  .exact hx
  .rw[av,yB,h.1];exact yZD _))
 have s2:=Nz (Pr:=λv=>∃i:Int,v=.int i/\0<=i/\i<10) ((bs.map (λb:Str×Int=>b.1)).zip (ae vals)) [] (λkv hkv=>by
  obtain⟨a,b⟩:=kv
  obtain⟨i,hi,e⟩:=aZ.mp (List.of_mem_zip hkv).2
  exact⟨i,e.symm,h.2 i hi⟩) (λk v e=>by cases e) (Sum.inr x)
 cases e:ai (kvsOf bs vals) (Sum.inr x) with
 | none=>rw[e] at s1;cases s1
 | some v=>
  obtain⟨i,rfl,h0,h1⟩:=s2 v e
  have e2:envOf (kvsOf bs vals) x=i:=by unfold envOf;rw[e]
  rw[e2]
  exact⟨rfl,h0,h1⟩
def Fits (bs:List (Str×Int))(vals:List Int):Prop:=vals.length=bs.length/\∀(i:Nat) b v,bs[i]? = some b->vals[i]? = some v->0<=v/\v<b.2
theorem Fits.stands {bs:List (Str×Int)}{vals:List Int}(f:Fits bs vals)(sU:∀b∈bs,2<=b.2/\b.2<=5):iy bs vals:=⟨f.1,λv hv=>by
 obtain⟨i,hi⟩:=List.mem_iff_getElem?.mp hv
 have hl:i<bs.length:=by rw[<- f.1];exact(aN.mp hi).1
 have:=f.2 i _ v (aH hl) hi
 have:=sU _ (List.getElem_mem hl)
 omega⟩
theorem vS:xI ["boxes","standing"] ["boxes","standing"] (xB (top 3)):=by constructor <;> first | rfl | wtm_at"d"
theorem jO:aA (xB (top 3)) ["boxes","standing"] (LO (qg (qg (rX (FR (xC (top 3)) 0)) 0) 0)) ["name","size"] 2 []:=
 by constructor <;> wtm_at"d"
structure iz (H:Hp)(bx st:Addr)(bs:List (Str×Int))(vals:List Int):Prop where
 dj:∃us,H bx=some (.lst us)/\Paired (cF H) bs us
 fy:H st=some (.tup (ae vals))
 ok:iy bs vals
 le:bs.length<=100
def wH:Sp:=λvs H Q _=>∃(bx st:Addr) (bs:List (Str×Int)) (vals:List Int),vs=[.ref bx,.ref st]/\iz H bx st bs vals/\
 ∀(p:Addr) (H':Hp),aa H H'->H' p=some (.dK (kvsOf bs vals))->Q (.ref p) H'
theorem NA {f:Addr}{fd:FuncData}(F:gC K "values_by_name" "values_by_name" (top 3) f fd)(B:Bl mg):aT P w K mg base eU 1 f fd ["boxes","standing"] wH:=by
 refine F.ok vS (λvs H Q E h=>?_) (λzy A outer s H vs Q E hr h=>?_)
 .obtain⟨_,_,_,_,rfl,_⟩:=h
  rfl
 obtain⟨bx,st,bs,vals,rfl,W,q⟩:=h
 obtain⟨us,e1,p1⟩:=W.dj
 refine⟨_,qJ (qP (R5 rfl rfl B.gO rfl B.Cy (qQ (jZ rfl jO (K0 (pv 0))
  (λcl fp s H=>show PG _ _ (gZ K 2 (dI (br 0) (dI (br 1) lV))) from KW rfl (qM (qI (i:=0) jO.nd rfl (Or.inl rfl) (.inr rfl)) (qM (qI (i:=1) jO.nd rfl (Or.inl rfl) (.inr rfl)) qN)))
  (λcl fp s H=>zH) (λcl fp s H=>pv 0)) (qQ (pv 1) qX)))),?_⟩
 refine⟨_,rfl,bx,rfl,⟨us,aj.of e1⟩,?_⟩
 refine jU (xs:=us) (λD i ys H'=>ys=gH ((bs.take i).map (·.1))/\∀b o,H b=some o->H' b=some o) (λD hD=>⟨rfl,qV hD _⟩)
  (λD i ys H' _ hP=>(show aa H H' from hP.2).seq (aj.of e1)) (λD i x ys H' N hD aD ex hP hN=>?_) (λD ys H2 hD aD hP=>?_)
 .obtain⟨rfl,hk⟩:=hP
  obtain⟨b,eb⟩:∃b,bs[i]? = some b:=⟨_,aH (by rw[p1.length];exact(aN.mp ex).1)⟩
  obtain⟨ba,rfl,Cz⟩:=xV p1 eb ex
  refine⟨ba,_,rfl,aS.of (hk _ _ Cz),rfl,_,_,rfl,_,_,rfl,rfl,⟨[some (.str b.1),some (.int b.2)],rfl,rfl⟩,?_⟩
  have NB:=W.le
  refine⟨_,rfl,aD,?_,hN _ _ qW ⟨?_,λb o e=>?_⟩⟩
  .rw[xA,av,cJ];exact small (by omega)
  .rw[c5,eb,cu,Sg];rfl
  .rw[qB (qC e hD)];exact hk _ _ e
 obtain⟨rfl,u0⟩:=hP
 have lb:us.length=bs.length:=p1.length.symm
 rw[lb,dm] at aD
 have NB:=W.le
 refine⟨_,rfl,D,st,bs.map (·.1),ae vals,rfl,aj.of aD,aS.of (u0 _ _ W.fy),?_,?_,λp hp=>?_⟩
 .rw[av,yB,W.ok.1]
 .rw[av];omega
 .exact q p _ ((show aa H H2 from u0).trans (qV hp _)) qW
theorem WW:xI ["expression","boxes","standing"] ["expression","boxes","standing"] (xB (top 1)):=by constructor <;> first | rfl | wtm_at"d"
def NC:Sp:=λvs H Q _=>∃(t:Th) (v:V) (bx st:Addr) (bs:List (Str×Int)) (vals:List Int),vs=[v,.ref bx,.ref st]/\t.At H v/\dh (bs.map (·.1)) t/\t.dep<=12/\iz H bx st bs vals/\
 ∀H',aa H H'->Q (.int (t.worth (envOf (kvsOf bs vals)))) H'
theorem WX {f g h:Addr}{fd gd hd:FuncData}(F:gC K "worth" "worth" (top 1) f fd)(ko:aT P w K mg base eU 13 g gd ["expression","values"] (jW 12))(je:iu K mg "worth_by" g gd ["expression","values"])
  (ym:aT P w K mg base eU 13 h hd ["boxes","standing"] wH) (jo:iu K mg "values_by_name" h hd ["boxes","standing"]):aT P w K mg base eU 14 f fd ["expression","boxes","standing"] NC:=by
 refine F.ok WW (λvs H Q E h=>?_) (λzy A outer s H vs Q E hr h=>?_)
 .obtain⟨_,_,_,_,_,_,rfl,_⟩:=h
  rfl
 obtain⟨t,v,bx,st,bs,vals,rfl,at',ex,dp,W,q⟩:=h
 refine⟨_,(qJ (qP (wX ko hr rfl je.mg je.kp je.bd .nil dW (qQ (pv 0) (qQ (wX ym hr rfl jo.mg jo.kp jo.bd .nil dW (qQ (pv 1) (qQ (pv 2) qX))) qX))))),?_⟩
 refine⟨_,rfl,_,rfl,_,rfl,bx,st,bs,vals,rfl,W,λp H' S e=>?_⟩
 exact⟨t,v,p,_,_,_,rfl,at'.mono (qD S),ex,dp,e,Hr W.ok,q H' S⟩
def Th.truth (ρ:Str->Int):Th->Bool
 | .num _=>false
 | .box _=>false
 | .nul _=>true
 | .un _ a=>!a.truth ρ
 | .bin k a b=>if k = "both" then a.truth ρ && b.truth ρ else if k = "same" then decide (a.worth ρ=b.worth ρ) else decide (a.worth ρ<b.worth ρ)
theorem WY {ρ:Str->Int}{a b:Th}:(Th.bin "both" a b).truth ρ=(a.truth ρ && b.truth ρ):=by
 show(if ("both" : Str) = "both" then _ else _)=_
 rw[if_pos rfl]
theorem WZ:("same" : Str) ≠ "both" := by wtm_at"d"
theorem W0:("under" : Str) ≠ "both" := by wtm_at"d"
theorem W2:("under" : Str) ≠ "same" := by wtm_at"d"
theorem W3 {ρ:Str->Int}{a b:Th}:(Th.bin "same" a b).truth ρ=decide (a.worth ρ=b.worth ρ):=by
 show(if ("same" : Str) = "both" then _ else if ("same" : Str) = "same" then _ else _)=_
 rw[if_neg WZ,if_pos rfl]
theorem W4 {ρ:Str->Int}{a b:Th}:(Th.bin "under" a b).truth ρ=decide (a.worth ρ<b.worth ρ):=by
 show(if ("under" : Str) = "both" then _ else if ("under" : Str) = "same" then _ else _)=_
 rw[if_neg W0,if_neg W2]
theorem kJ:xI ["condition","values","kind","one","other"] ["condition","values"] (xB (top 5)):=by constructor <;> first | rfl | wtm_at"d"
def vV (n:Nat):Sp:=λvs H Q _=>∃(t:Th) (v:V) (d:Addr) (kvs:List (Key×V)) (ws:List Str) (ρ:Str->Int),vs=[v,.ref d]/\t.At H v/\di ws t/\t.dep<=n/\t.dep<=12/\H d=some (.dK kvs)/\sT kvs ws ρ/\Q (.bl (t.truth ρ)) H
theorem W6 {n:Nat}(F:Fd K mg "holds_by" (top 5) ["condition","values"])(jr:Dn P w K mg base "holds_by" (n+13) ["condition","values"] (vV n))(jj:Dn P w K mg base "worth_by" 13 ["expression","values"] (jW 12)):
  Dn P w K mg base "holds_by" (n+14) ["condition","values"] (vV (n+1)):=by
 refine F.ok kJ (λvs H Q E h=>?_) (λf zy A outer s H vs Q E hr h=>?_)
 .obtain⟨_,_,_,_,_,_,rfl,_⟩:=h
  rfl
 obtain⟨t,v,d,kvs,ws,ρ,rfl,at',cx,hn,we,hd,env,q⟩:=h
 refine⟨_,(qZ (xG (i:=2) kJ.nd rfl (xN (qT (K:=K)) (pv 0) qG))
  (qZ (yV (qS l6 (pv 2) qH (xE _)) (qJ (qP rA)) qY)
  (qZ (yV (qS l6 (pv 2) qH (xE _)) (qJ (qP (Fn (qE jr hr (qQ (xN (qT (K:=K)) (pv 0) qG) (qQ (pv 1) qX)))))) qY)
  (qZ (yV (qS l6 (pv 2) qH (xE _)) (qJ (qP (A9 (qE jr hr (qQ (xN (qT (K:=K)) (pv 0) qG) (qQ (pv 1) qX))) (A8 (qE jr hr (qQ (xN (qT (K:=K)) (pv 0) qG) (qQ (pv 1) qX))))))) qY)
  (qZ (xG (i:=3) kJ.nd rfl (qE jj hr (qQ (xN (qT (K:=K)) (pv 0) qG) (qQ (pv 1) qX))))
  (qZ (xG (i:=4) kJ.nd rfl (qE jj hr (qQ (xN (qT (K:=K)) (pv 0) qG) (qQ (pv 1) qX))))
  (qJ (qP (Fo (qS l6 (pv 2) qH (xE _)) (Bn l6 (pv 3) (pv 4) (xE _)) (Bn D4 (pv 3) (pv 4) (xE _))))))))))),?_⟩
 match t,at',cx,hn,we,q with
 | .nul k,⟨a,ev,ea⟩,cx,hn,we,q=>
  cases(show k = "yes" from cx)
  subst ev
  wtm_at"z"
  exact q
 | .un k t1,⟨a,u,ev,ea,a1⟩,⟨hk,c1⟩,hn,we,q=>
  cases hk
  subst ev
  have DY:t1.dep+1<=n+1:=hn
  have Hs:t1.dep+1<=12:=we
  wtm_at"z"
  refine⟨t1,u,d,kvs,ws,ρ,rfl,a1,c1,by omega,by omega,hd,env,?_⟩
  wtm_at"z"
  exact q
 | .bin k t1 t2,⟨a,u1,u2,ev,ea,a1,a2⟩,cx,hn,we,q=>
  subst ev
  have DY:max t1.dep t2.dep+1<=n+1:=hn
  have Hs:max t1.dep t2.dep+1<=12:=we
  rcases cx with⟨hk,x1,x2⟩ | ⟨hk,c1,c2⟩
  .have n1:k ≠ "yes" := by rcases hk with rfl | rfl <;> wtm_at"d"
   have n2:k ≠ "not" := by rcases hk with rfl | rfl <;> wtm_at"d"
   have n3:k ≠ "both" := by rcases hk with rfl | rfl <;> wtm_at"d"
   wtm_at"z"
   refine⟨t1,u1,d,kvs,ws,ρ,rfl,a1,x1,by omega,hd,env,?_⟩
   wtm_at"z"
   refine⟨t2,u2,d,kvs,ws,ρ,rfl,a2,x2,by omega,hd,env,?_⟩
   rcases hk with rfl | rfl
   .rw[W3] at q
    wtm_at"z"
    have e:decide (V.int (t1.worth ρ)=V.int (t2.worth ρ))=decide (t1.worth ρ=t2.worth ρ):=decide_eq_decide.mpr ⟨λz=>by injection z,λz=>by rw[z]⟩
    rw[e]
    exact q
   .rw[W4] at q
    wtm_at"z"
    exact q
  .cases hk
   rw[WY] at q
   wtm_at"z"
   refine⟨t1,u1,d,kvs,ws,ρ,rfl,a1,c1,by omega,by omega,hd,env,?_⟩
   wtm_at"z"
   cases e1:t1.truth ρ with
   | false=>
    rw[e1,Bool.false_and] at q
    refine bO ?_
    exact q
   | true=>
    rw[e1,Bool.true_and] at q
    refine bz ?_
    wtm_at"z"
    exact⟨t2,u2,d,kvs,ws,ρ,rfl,a2,c2,by omega,by omega,hd,env,q⟩
theorem ND (F:Fd K mg "holds_by" (top 5) ["condition","values"])(jj:Dn P w K mg base "worth_by" 13 ["expression","values"] (jW 12)):∀n:Nat,Dn P w K mg base "holds_by" (n+13) ["condition","values"] (vV n)
 | 0=>F.never λvs H Q E h=>by
  obtain⟨t,_,_,_,_,_,_,_,_,h1,_⟩:=h
  have:=t.iN
  omega
 | n+1=>W6 F (ND F jj n) jj
theorem W7:xI ["condition","boxes","standing"] ["condition","boxes","standing"] (xB (top 2)):=by constructor <;> first | rfl | wtm_at"d"
def Ht:Sp:=λvs H Q _=>∃(t:Th) (v:V) (bx st:Addr) (bs:List (Str×Int)) (vals:List Int),vs=[v,.ref bx,.ref st]/\t.At H v/\di (bs.map (·.1)) t/\t.dep<=12/\iz H bx st bs vals/\
 ∀H',aa H H'->Q (.bl (t.truth (envOf (kvsOf bs vals)))) H'
theorem W8 (F:Fd K mg "holds" (top 2) ["condition","boxes","standing"])(jr:Dn P w K mg base "holds_by" 25 ["condition","values"] (vV 12))(jp:Dn P w K mg base "values_by_name" 1 ["boxes","standing"] wH):
  Dn P w K mg base "holds" 26 ["condition","boxes","standing"] Ht:=by
 refine F.ok W7 (λvs H Q E h=>?_) (λf zy A outer s H vs Q E hr h=>?_)
 .obtain⟨_,_,_,_,_,_,rfl,_⟩:=h
  rfl
 obtain⟨t,v,bx,st,bs,vals,rfl,at',cx,dp,W,q⟩:=h
 refine⟨_,(qJ (qP (qE jr hr (qQ (pv 0) (qQ (qE jp hr (qQ (pv 1) (qQ (pv 2) qX))) qX))))),?_⟩
 wtm_at"z"
 refine⟨bx,st,bs,vals,rfl,W,λp H' S e=>?_⟩
 wtm_at"z"
 exact⟨t,v,p,_,_,_,rfl,at'.mono (qD S),cx,dp,dp,e,Hr W.ok,q H' S⟩
theorem mJ {n:Nat}(h:n<=100000):n<Yc:=pS h (by decide)
theorem W9 {n:Nat}(h:n<=100000):n<=Yc:=Nat.le_of_lt (mJ h)
def bj (acc:List (List Int))(n:Nat):List (List Int):=acc.flatMap λr=>(List.range n).map λv=>r++[((v:Nat):Int)]
def ag (bs:List (Str×Int)):List (List Int):=(bs.map λb=>b.2.toNat).foldl bj [[]]
theorem kI {bs:List (Str×Int)}{i:Nat}{b:Str×Int}(h:bs[i]? = some b):ag (bs.take (i+1))=bj (ag (bs.take i)) b.2.toNat:=by
 unfold ag
 rw[c5,h,cu,List.foldl_append]
 rfl
theorem W' {acc:List (List Int)}{n j:Nat}{r:List Int}(h:acc[j]? = some r):bj (acc.take (j+1)) n=bj (acc.take j) n++(List.range n).map λv=>r++[((v:Nat):Int)]:=by
 unfold bj
 rw[c5,h,List.flatMap_append]
 simp
theorem vT (n:Nat):∀acc:List (List Int),(bj acc n).length=acc.length * n
 | []=>by simp[bj]
 | r::acc=>by
  have:=vT n acc
  unfold bj at this ⊢
  rw[List.flatMap_cons,bK,this,av,List.length_range,cP,Nat.succ_mul]
  omega
theorem Xa (acc:List (List Int))(n j:Nat):(bj (acc.take j) n).length<=acc.length * n:=by
 rw[vT,cJ]
 exact Nat.mul_le_mul_right _ (Nat.min_le_right _ _)
theorem wO {bs:List (Str×Int)}(h:∀b∈bs,2<=b.2/\b.2<=5):∀i:Nat,i<=bs.length->(ag (bs.take i)).length<=5 ^ i
 | 0,_=>by simp[ag]
 | i+1,hi=>by
  have hb:bs[i]? = some (bs[i]'(by omega)):=aH (by omega)
  rw[kI hb,vT,Nat.pow_succ]
  have:=h _ (List.getElem_mem (h:=(by omega:i<bs.length)))
  exact Nat.mul_le_mul (wO h i (by omega)) (by omega)
theorem Xb {n k:Nat}{acc:List (List Int)}(h:∀r∈acc,r.length=k):∀r∈bj acc n,r.length=k+1:=λr hr=>by
 obtain⟨x,hx,hr⟩:=List.mem_flatMap.mp hr
 obtain⟨v,_,rfl⟩:=aZ.mp hr
 rw[bK,h x hx];rfl
theorem NF (bs:List (Str×Int)):∀i:Nat,i<=bs.length->∀r∈ag (bs.take i),r.length=i
 | 0,_=>λr hr=>by simp[ag] at hr;subst hr;rfl
 | i+1,hi=>by
  have hb:bs[i]? = some (bs[i]'(by omega)):=aH (by omega)
  rw[kI hb]
  exact Xb (NF bs i (by omega))
theorem qw {i:Nat}(h:i<=6):5 ^ i<=15625:=yZJ (YF (by decide) h) (by decide)
theorem Xc {bs:List (Str×Int)}{i:Nat}{b:Str×Int}{r:List Int}{v:Nat}(hb:bs[i]? = some b)(h:Fits (bs.take i) r)(hv:(v:Int)<b.2):Fits (bs.take (i+1)) (r++[((v:Nat):Int)]):=by
 have hl:=h.1
 have hib:i<bs.length:=(aN.mp hb).1
 have lt:(bs.take i).length=i:=by rw[cJ];omega
 refine⟨by rw[c5,hb,bK,bK,hl];rfl,λj c x ec ex=>?_⟩
 rw[c5,hb] at ec
 by_cases hj:j<i
 .rw[Yr (by omega)] at ec ex
  exact h.2 j c x ec ex
 .have Xd:j=i:=by
   have:=(aN.mp ex).1
   rw[bK,List.length_singleton] at this
   omega
  subst Xd
  rw[Yi (by omega)] at ec ex
  have e1:j - (bs.take j).length=0:=by omega
  have e2:j - r.length=0:=by omega
  rw[e1] at ec
  rw[e2] at ex
  cases ec;cases ex
  exact⟨by omega,hv⟩
theorem NG {bs:List (Str×Int)}:∀i:Nat,i<=bs.length->∀r∈ag (bs.take i),Fits (bs.take i) r
 | 0,_=>λr hr=>by
  simp[ag] at hr
  subst hr
  exact⟨rfl,λj b v e=>by simp at e⟩
 | i+1,hi=>λr hr=>by
  have hb:bs[i]? = some (bs[i]'(by omega)):=aH (by omega)
  rw[kI hb] at hr
  obtain⟨x,hx,hr⟩:=List.mem_flatMap.mp hr
  obtain⟨v,hv,rfl⟩:=aZ.mp hr
  have hv:=List.mem_range.mp hv
  exact Xc hb (NG i (by omega) x hx) (by omega)
theorem wV {bs:List (Str×Int)}{r:List Int}(h:r∈ag bs):Fits bs r:=by
 have:=NG (bs:=bs) bs.length (yZD _) r
 rw[dm] at this
 exact this h
def aK (H:Hp)(vals:List Int)(u:V):Prop:=∃a,u=.ref a/\H a=some (.tup (ae vals))
theorem xY {H H':Hp}(h:bD H H'){rs:List (List Int)}{us:List V}(p:Paired (aK H) rs us):Paired (aK H') rs us:=Paired.mapP p λ_ _ x=>let ⟨a,e,q⟩:=x;⟨a,e,h _ _ q⟩
theorem Xe {σ:St}{H:Hp}{Q:VK}{j:Nat}{ra:Addr}{r:List Int}{n:Nat}(era:H ra=some (.tup (ae r)))(hj:σ.getD j none=some (.ref ra))(hr:r.length<=100)(hn:n<=1000)
  (q:∀(D:Addr) (us:List V) (H':Hp),H D=none->aa H H'->H' D=some (.lst us)->Paired (aK H') ((List.range n).map λv=>r++[((v:Nat):Int)]) us->Q (.ref D) H'):
  fM 1 [j] (br 0) gD (rD (qi K) (eS 1) (rJ (l7 (eS 0) rH))) (lG 0 n) σ H Q:=by
 have fr:frees [j] σ=[some (.ref ra)]:=by show [σ.getD j none]=_;rw[hj]
 refine RE (λD i ys H'=>Paired (aK H') ((List.range i).map λv=>r++[((v:Nat):Int)]) ys/\aa H H') (λD hD=>⟨.nil,qV hD _⟩) (λD i ys H' N hD aD hi hP hN=>?_) (λD ys H2 hD aD hP=>?_)
 .obtain⟨hp,hk⟩:=hP
  have lp:=hp.length
  rw[av,List.length_range] at lp
  have e0:(0:Int)+(i:Int)=(i:Int):=Int.zero_add _
  rw[e0]
  refine⟨⟨[some (.int (i:Int))],rfl,rfl⟩,?_⟩
  refine⟨.ref ra,(by show(([some (V.int (i:Int))]:St)++frees [j] σ)[1]? = _;rw[fr];rfl),_,rfl,iw,λt ht=>?_⟩
  have Dt:D≠t:=qC aD ht
  have fin:∀(a:Addr) (H3:Hp),aa H' H3->H3 a=some (.tup (ae (r++[((i:Nat):Int)])))->H3 D=some (.lst ys)/\ys.length<Yc/\N (ys++[.ref a]) (upd H3 D (.lst (ys++[.ref a]))):=λa H3 S3 ea=>by
   have eD:=S3 _ _ aD
   refine⟨eD,small (by omega),hN _ _ qW ⟨?_,λb o e=>?_⟩⟩
   .have T1:bD H' (upd H3 D (.lst (ys++[.ref a]))):=λb xs e=>by rw[qB (jC e aD (by intro z;cases z))];exact S3 _ _ e
    rw[Yw,cu]
    exact Paired.snoc (xY T1 hp) ⟨a,rfl,by rw[qB (jC ea eD (by intro z;cases z))];exact ea⟩
   .rw[qB (qC e hD)];exact S3 _ _ (hk _ _ e)
  refine⟨ra,t,_,_,rfl,rfl,aS.of (qV ht _ _ _ (hk _ _ era)),aS.of qW,by simp,?_,λz=>?_,λz p j3=>?_⟩
  .rw[yB];exact r9 (by show r.length+1<=_;omega)
  .have z':r=[]:=List.map_eq_nil_iff.mp z
   subst z'
   exact fin t _ (qV ht _) qW
  .refine fin p _ ((qV ht _).trans (qV j3 _)) ?_
   rw[LY];exact qW
 .exact q D ys H2 hD hP.2 aD hP.1
def NH:Sp:=λvs H Q _=>∃(bx:Addr) (bs:List (Str×Int)) (us:List V),vs=[.ref bx]/\H bx=some (.lst us)/\Paired (cF H) bs us/\bs.length<=6/\(∀b∈bs,2<=b.2/\b.2<=5)/\
 ∀(r:Addr) (ss:List V) (H':Hp),H r=none->aa H H'->H' r=some (.lst ss)->Paired (aK H') (ag bs) ss->Q (.ref r) H'
theorem xM:xI ["boxes","rows","name","size","longer","row"] ["boxes"] (xB (top 21)):=by constructor <;> first | rfl | wtm_at"d"
theorem jF:aA (xB (top 21)) ["boxes","rows","name","size","longer","row"] (bP (xC (top 21)) [1,1,0] [1]) ["value","row"] 1 [5]:=
 by constructor <;> wtm_at"d"
theorem Xf (F:Fd K mg "standings_of_boxes" (top 21) ["boxes"])(B:Bl mg):Dn P w K mg base "standings_of_boxes" 1 ["boxes"] NH:=by
 refine F.ok xM (λvs H Q E h=>?_) (λf zy A outer s H vs Q E hr h=>?_)
 .obtain⟨_,_,_,rfl,_⟩:=h
  rfl
 obtain⟨bx,bs,us,rfl,gP,pb,h6,sU,q⟩:=h
 have lb:us.length=bs.length:=pb.length.symm
 refine⟨_,(qZ (xG (i:=1) xM.nd rfl (zE (qQ (xR qX) qX)))
  (qZ (jE PassesOwn.never rfl (xQ (K:=K) (pv 0)) (zI (K:=K) (n:=2) rfl (qM (qI (i:=2) xM.nd rfl (by wtm_at "zo")) (qM (qI (i:=3) xM.nd rfl (by wtm_at "zo")) qN))) (qZ (xG (i:=4) xM.nd rfl (zE qX))
  (qZ (jE PassesOwn.never rfl (xQ (K:=K) (pv 1)) (qI (i:=5) xM.nd rfl (by wtm_at "zo")) (qJ (qR (yR (K:=K) Yx PySem.F.slot_list_extend PySem.F.type_list_extend Lw (pv 4) (qQ (jZ rfl jF (K1 rfl B.range' (qQ (pv 3) qX)) (λcl fp s H=>(qI (i:=0) jF.nd rfl (Or.inl rfl) (.inr rfl))) (λcl fp s H=>zH) (λcl fp s H=>(xX (L4 (K:=K)) (pv 1) (xR (qQ (pv 0) qX))))) qX)))))
  (qJ (xG (i:=1) xM.nd rfl (pv 4))))))
  (qJ (qP (pv 1))))),?_⟩
 wtm_at"z"
 refine⟨pj,λt0 ht0=>?_⟩
 wtm_at"z"
 refine⟨iw,λr0 Hu=>?_⟩
 wtm_at"z"
 have S0:aa H (upd (upd H t0 (.tup [])) r0 (.lst [.ref t0])):=(qV ht0 _).trans (qV Hu _)
 refine⟨_,rfl,bx,rfl,⟨us,aj.of (S0 _ _ gP)⟩,?_⟩
 refine zF (xs:=us) (λi σ' H'=>∃(ro:Addr) (ss:List V) (z2 z3 z4 z5:Option V),σ'=[some (.ref bx),some (.ref ro),z2,z3,z4,z5]/\aa H H'/\H ro=none/\H' ro=some (.lst ss)/\Paired (aK H') (ag (bs.take i)) ss)
  ⟨r0,[.ref t0],none,none,none,none,rfl,S0,(qV ht0 _).free Hu,qW,.cons ⟨t0,rfl,qV Hu _ _ _ qW⟩ .nil⟩
  (λi σ' H' _ hP=>?_) (λN rt bk i x σ' H' ex hP hN=>?_) (λσ' H' hP=>?_)
 .obtain⟨ro,ss,z2,z3,z4,z5,rfl,S1,_⟩:=hP
  exact aj.of (S1 _ _ gP)
 .obtain⟨ro,ss,z2,z3,z4,z5,rfl,S1,NI,Eu,CA⟩:=hP
  have hi:i<bs.length:=by rw[<- lb];exact(aN.mp ex).1
  obtain⟨b,eb⟩:∃b,bs[i]? = some b:=⟨_,aH hi⟩
  obtain⟨ba,rfl,Cz⟩:=xV pb eb ex
  have Hv:=sU b (bw eb)
  have rl:=wO sU i (by omega)
  have p5:=qw (i:=i) (by omega)
  refine⟨ba,_,rfl,aS.of (S1 _ _ Cz),rfl,_,_,rfl,_,_,rfl,rfl,?_⟩
  wtm_at"z"
  refine⟨pj,λlo qf=>?_⟩
  wtm_at"z"
  have lr:=CA.length
  refine⟨_,rfl,ro,rfl,⟨ss,aj.of (qV qf _ _ _ Eu)⟩,?_⟩
  refine zF (xs:=ss) (λj σ'' bT=>∃(ls:List V) (z5:Option V),σ''=[some (.ref bx),some (.ref ro),some (.str b.1),some (.int b.2),some (.ref lo),z5]/\(∀c o,H' c=some o->bT c=some o)/\bT lo=some (.lst ls)/\Paired (aK bT) (bj ((ag (bs.take i)).take j) b.2.toNat) ls)
   ⟨[],z5,rfl,qV qf _,qW,.nil⟩ (λj σ'' bT _ hP=>?_) (λN2 rt2 bk2 j x σ'' bT Ew hP hN2=>?_) (λσ'' bT hP=>?_)
  .obtain⟨ls,z5,rfl,k2,_⟩:=hP
   exact aj.of (k2 _ _ Eu)
  .obtain⟨ls,z5,rfl,k2,wg,CB⟩:=hP
   have hj:j<(ag (bs.take i)).length:=by rw[lr];exact(aN.mp Ew).1
   obtain⟨row,cY⟩:∃row,(ag (bs.take i))[j]? = some row:=⟨_,aH hj⟩
   obtain⟨ra,rfl,wj⟩:=xV CA cY Ew
   have Ey:=NF bs i (by omega) row (bw cY)
   have ll:=CB.length
   have lm:=Xa (ag (bs.take i)) b.2.toNat j
   have l5:(ag (bs.take i)).length * b.2.toNat<=15625 * 5:=Nat.mul_le_mul (by omega) (by omega)
   wtm_at"z"
   refine⟨.inl ⟨rfl,_,aj.of wg⟩,?_⟩
   wtm_at"z"
   refine⟨_,rfl,b.2,rfl,by omega,by omega,Xe (k2 _ _ wj) rfl (by omega) (by omega) λD zs H3 nD S3 eD pz=>?_⟩
   have lz:=pz.length
   rw[av,List.length_range] at lz
   have CC:=S3 _ _ wg
   refine⟨lo,D,ls,zs,rfl,rfl,CC,eD,by rw[<- ll,<- lz];exact W9 (by omega),?_⟩
   have T3:bD H3 (upd H3 lo (.lst (ls++zs))):=λc xs e=>by rw[qB (jC e CC (by intro z;cases z))];exact e
   refine hN2 _ _ ⟨ls++zs,_,rfl,λc o e=>?_,qW,?_⟩
   .rw[qB (qC e qf)];exact S3 _ _ (k2 _ _ e)
   .rw[W' cY]
    exact kN (xY T3 (xY (qD S3) CB)) (xY T3 pz)
  .obtain⟨ls,z5,rfl,k2,wg,CB⟩:=hP
   rw[<- lr,dm,<- kI eb] at CB
   wtm_at"z"
   exact hN _ _ ⟨lo,ls,_,_,_,_,rfl,S1.trans k2,S1.free qf,wg,CB⟩
 .obtain⟨ro,ss,z2,z3,z4,z5,rfl,S1,NI,Eu,CA⟩:=hP
  rw[lb,dm] at CA
  wtm_at"z"
  exact q ro ss H' NI S1 Eu CA
def vM (H:Hp)(c:Str×Th)(u:V):Prop:=∃a v,u=.ref a/\H a=some (.tup [.str c.1,v])/\c.2.At H v
def cU (H:Hp)(wy:List (Str×Th))(u:V):Prop:=∃a us,u=.ref a/\H a=some (.lst us)/\Paired (vM H) wy us
structure aO where
 name:Str
 aP:Int
 need:Th
 bF:List (List (Str×Th))
def cZ (H:Hp)(d:aO)(u:V):Prop:=∃a nv wa us,u=.ref a/\H a=some (.tup [.str d.name,.int d.aP,nv,.ref wa])/\d.need.At H nv/\H wa=some (.lst us)/\Paired (cU H) d.bF us
structure Look where
 name:Str
 aP:Int
 part:Th
def dE (H:Hp)(l:Look)(u:V):Prop:=∃a v,u=.ref a/\H a=some (.tup [.str l.name,.int l.aP,v])/\l.part.At H v
structure iU (ws:List Str)(wy:List (Str×Th)):Prop where
 nd:(wy.map (·.1)).Nodup
 le:wy.length<=100
 ok:∀c∈wy,c.1∈ws/\dh ws c.2/\c.2.dep<=12
structure sV (ws:List Str)(d:aO):Prop where
 aP:1<=d.aP
 need:di ws d.need
 dep:d.need.dep<=12
 ne:d.bF≠[]
 le:d.bF.length<=100
 bF:∀wy∈d.bF,iU ws wy
structure sW (ws:List Str)(l:Look):Prop where
 aP:1<=l.aP
 part:dh ws l.part
 dep:l.part.dep<=12
section
variable {H H':Hp}
theorem vM.same (s:aa H H'){c:Str×Th}{u:V}(x:vM H c u):vM H' c u:=let ⟨a,v,e,q,r⟩:=x;⟨a,v,e,s _ _ q,r.mono (qD s)⟩
theorem cU.same (s:aa H H'){c:List (Str×Th)}{u:V}(x:cU H c u):cU H' c u:=let ⟨a,us,e,q,r⟩:=x;⟨a,us,e,s _ _ q,Paired.mapP r λ_ _ y=>y.same s⟩
theorem cZ.same (s:aa H H'){c:aO}{u:V}(x:cZ H c u):cZ H' c u:=let ⟨a,nv,wa,us,e,q,r,q2,p⟩:=x;⟨a,nv,wa,us,e,s _ _ q,r.mono (qD s),s _ _ q2,Paired.mapP p λ_ _ y=>y.same s⟩
theorem dE.same (s:aa H H'){c:Look}{u:V}(x:dE H c u):dE H' c u:=let ⟨a,v,e,q,r⟩:=x;⟨a,v,e,s _ _ q,r.mono (qD s)⟩
end
structure Wd where
 bs:List (Str×Int)
 ds:List aO
 ls:List Look
 bt:Th
 gt:Th
abbrev Wd.ws (W:Wd):List Str:=W.bs.map (·.1)
structure qx (H:Hp)(W:Wd)(bx dx lx:Addr)(bv gv:V):Prop where
 dj:∃us,H bx=some (.lst us)/\Paired (cF H) W.bs us
 cV:∃us,H dx=some (.lst us)/\Paired (cZ H) W.ds us
 eF:∃us,H lx=some (.lst us)/\Paired (dE H) W.ls us
 Ez:W.bt.At H bv
 goal:W.gt.At H gv
structure CG (W:Wd):Prop where
 b1:1<=W.bs.length
 b6:W.bs.length<=6
 j7:∀b∈W.bs,2<=b.2/\b.2<=5
 Xg:(W.bs.map (·.2)).foldl (· * ·) 1<=200
 named:Named W.ws
 dl:W.ds.length<=100
 ll:W.ls.length<=100
 nd:(W.ds.map aO.name++W.ls.map Look.name).Nodup
 cV:∀d∈W.ds,sV W.ws d
 eF:∀l∈W.ls,sW W.ws l
 Ez:di W.ws W.bt
 Hw:W.bt.dep<=12
 goal:di W.ws W.gt
 CH:W.gt.dep<=12
 NJ:∃vals∈ag W.bs,W.bt.truth (envOf (kvsOf W.bs vals))=true
theorem qx.same {H H':Hp}{W:Wd}{bx dx lx:Addr}{bv gv:V}(s:aa H H')(x:qx H W bx dx lx bv gv):qx H' W bx dx lx bv gv:=by
 obtain⟨u1,e1,p1⟩:=x.dj
 obtain⟨u2,e2,p2⟩:=x.cV
 obtain⟨u3,e3,p3⟩:=x.eF
 exact⟨⟨u1,s _ _ e1,xK (qD s) p1⟩,⟨u2,s _ _ e2,Paired.mapP p2 λ_ _ y=>y.same s⟩,⟨u3,s _ _ e3,Paired.mapP p3 λ_ _ y=>y.same s⟩,x.Ez.mono (qD s),x.goal.mono (qD s)⟩
theorem NK {H:Hp}{ds:List aO}{us:List V}(p:Paired (cZ H) ds us):Paired (λx u=>∃a ys,u=.ref a/\H a=some (.tup (.str x::ys))) (ds.map aO.name) us:=by
 induction p with
 | nil=>exact .nil
 | cons h _ ih=>
  obtain⟨a,_,_,_,e,q,_⟩:=h
  exact .cons ⟨a,_,e,q⟩ ih
theorem Xh {H:Hp}{ds:List Look}{us:List V}(p:Paired (dE H) ds us):Paired (λx u=>∃a ys,u=.ref a/\H a=some (.tup (.str x::ys))) (ds.map Look.name) us:=by
 induction p with
 | nil=>exact .nil
 | cons h _ ih=>
  obtain⟨a,_,e,q,_⟩:=h
  exact .cons ⟨a,_,e,q⟩ ih
theorem NL:xI ["things","name","kind","thing"] ["things","name","kind"] (xB (top 20)):=by constructor <;> first | rfl | wtm_at"d"
def EA:Sp:=λvs H Q _=>∃(la:Addr) (us:List V) (xs:List Str) (x:Str) (k:V),vs=[.ref la,.str x,k]/\H la=some (.lst us)/\Paired (λx u=>∃a ys,u=.ref a/\H a=some (.tup (.str x::ys))) xs us/\xs.Nodup/\
 ∃i:Nat,xs[i]? = some x/\∀u,us[i]? = some u->Q u H
theorem Xi (F:Fd K mg "named" (top 20) ["things","name","kind"]):Dn P w K mg base "named" 1 ["things","name","kind"] EA:=by
 refine F.ok NL (λvs H Q E h=>?_) (λf zy A outer s H vs Q E hr h=>?_)
 .obtain⟨_,_,_,_,_,rfl,_⟩:=h
  rfl
 obtain⟨la,us,xs,x,k,rfl,CI,px,nd,i0,Hx,q⟩:=h
 refine⟨_,(qZ (jE PassesOwn.never rfl (xQ (K:=K) (pv 0)) (qI (i:=3) NL.nd rfl (by wtm_at "zo")) (qJ (yV (qS l6 (xN (qT (K:=K)) (pv 3) qG) (pv 1) (xE _)) (qJ (qP (pv 3))) qY)))
  (qJ kY)),?_⟩
 wtm_at "zf"
 refine⟨la,rfl,⟨us,aj.of CI⟩,?_⟩
 refine Fs (xs:=us) (λi σ' H'=>∃z:Option V,σ'=[some (.ref la),some (.str x),some k,z]/\H'=H/\i<=i0) ⟨none,rfl,rfl,yZG _⟩ (λi σ' H' _ hP=>?_) (λi u σ' H' ex hP=>?_) (λσ' H' hP=>?_)
 .obtain⟨_,rfl,rfl,_⟩:=hP
  exact aj.of CI
 .obtain⟨z,rfl,rfl,hi⟩:=hP
  obtain⟨y,ey⟩:∃b,xs[i]? = some b:=⟨_,aH (by rw[px.length];exact(aN.mp ex).1)⟩
  obtain⟨a,ys,rfl,ea⟩:=xV px ey ex
  wtm_at"z"
  by_cases e:y=x
  .subst e
   rw[yU]
   refine bz ?_
   have:i=i0:=by
    obtain⟨h1,g1⟩:=aN.mp ey
    obtain⟨h2,g2⟩:=aN.mp Hx
    exact(List.getElem_inj nd).mp (g1.trans g2.symm)
   subst this
   wtm_at"z"
   exact q _ ex
  .rw[xW e]
   refine bO ?_
   refine⟨_,rfl,rfl,?_⟩
   by_cases h:i=i0
   .subst h;rw[Hx] at ey;cases ey;exact absurd rfl e
   .omega
 .obtain⟨z,rfl,rfl,hi⟩:=hP
  have:=(aN.mp Hx).1
  rw[px.length] at this
  omega
theorem Xj:xI ["world","name","standing"] ["world","name","standing"] (xB (top 19)):=by constructor <;> first | rfl | wtm_at"d"
def NM:Sp:=λvs H Q _=>∃(W:Wd) (p bx dx lx:Addr) (bv gv:V) (st:Addr) (vals:List Int) (l:Look),vs=[.ref p,.str l.name,.ref st]/\H p=some (.tup [.ref bx,.ref dx,.ref lx,bv,gv])/\qx H W bx dx lx bv gv/\CG W/\
 H st=some (.tup (ae vals))/\Fits W.bs vals/\l∈W.ls/\∀H',aa H H'->Q (.int (l.part.worth (envOf (kvsOf W.bs vals)))) H'
theorem Xk (F:Fd K mg "shown" (top 19) ["world","name","standing"])(jn:Dn P w K mg base "named" 1 ["things","name","kind"] EA)(uI:Dn P w K mg base "worth" 14 ["expression","boxes","standing"] NC):Dn P w K mg base "shown" 15 ["world","name","standing"] NM:=by
 refine F.ok Xj (λvs H Q E h=>?_) (λf zy A outer s H vs Q E hr h=>?_)
 .obtain⟨_,_,_,_,_,_,_,_,_,_,rfl,_⟩:=h
  rfl
 obtain⟨W,p,bx,dx,lx,bv,gv,st,vals,l,rfl,ep,A0,ok,lP,fits,hl,q⟩:=h
 obtain⟨us,gP,pb⟩:=A0.dj
 obtain⟨lu,EB,pl⟩:=A0.eF
 have b6:=ok.b6
 obtain⟨i,ei⟩:=List.mem_iff_getElem?.mp hl
 refine⟨_,(qJ (qP (qE uI hr (qQ (xN (qT (K:=K)) (qE jn hr (qQ (xN (qT (K:=K)) (pv 0) qG) (qQ (pv 1) (qQ qH qX)))) qG) (qQ (xN (qT (K:=K)) (pv 0) qG) (qQ (pv 2) qX)))))),?_⟩
 wtm_at"z"
 refine⟨lx,lu,W.ls.map Look.name,l.name,.str "look",rfl,EB,Xh pl,(rh.mp ok.nd).2.1,i,by rw[bb,ei];rfl,λu eu=>?_⟩
 obtain⟨a,v,rfl,ea,va⟩:=xV pl ei eu
 have NN:=ok.eF l hl
 wtm_at"z"
 exact⟨l.part,v,bx,st,W.bs,vals,rfl,va,NN.part,NN.dep,⟨⟨us,gP,pb⟩,lP,fits.stands ok.j7,by omega⟩,q⟩
def aQ (bs:List (Str×Int))(x:Str):Int:=match bs.lookup x with
 | some z=>z
 | none=>1
def zA (bs:List (Str×Int))(wy:List (Str×Th))(vals:List Int):List Int:=(bs.zip vals).map λp=>match wy.lookup p.1.1 with
 | some t=>t.worth (envOf (kvsOf bs vals)) % p.1.2
 | none=>p.2
def dk (bs:List (Str×Int))(ρ:Str->Int)(acc:List (Key×V))(wy:List (Str×Th)):List (Key×V):=wy.foldl (λa c=>putK a (Sum.inr c.1) (.int (c.2.worth ρ % aQ bs c.1))) acc
theorem Xl {bs:List (Str×Int)}{ρ:Str->Int}{acc:List (Key×V)}{wy:List (Str×Th)}{i:Nat}{c:Str×Th}(h:wy[i]? = some c):dk bs ρ acc (wy.take (i+1))=putK (dk bs ρ acc (wy.take i)) (Sum.inr c.1) (.int (c.2.worth ρ % aQ bs c.1)):=by
 unfold dk
 rw[c5,h,List.foldl_append]
 rfl
theorem NO {bs:List (Str×Int)}{ρ:Str->Int}{x:Str}:∀(wy:List (Str×Th)) (acc:List (Key×V)),(wy.map (·.1)).Nodup->ai (dk bs ρ acc wy) (Sum.inr x)=(match wy.lookup x with | some t=>some (.int (t.worth ρ % aQ bs x)) | none=>ai acc (Sum.inr x))
 | [],acc,_=>rfl
 | (n,t)::wy,acc,nd=>by
  have bI:=List.nodup_cons.mp nd
  show ai (dk bs ρ (putK acc (Sum.inr n) (.int (t.worth ρ % aQ bs n))) wy) (Sum.inr x)=_
  rw[NO wy _ bI.2]
  by_cases e:x=n
  .subst e
   rw[Gn bI.1,jS]
   show ai (putK acc (Sum.inr x) _) (Sum.inr x)=_
   rw[kM,if_pos rfl]
  .rw[jY t wy (by simpa using e)]
   cases wy.lookup x with
   | some u=>rfl
   | none=>
    show ai (putK acc (Sum.inr n) _) (Sum.inr x)=ai acc (Sum.inr x)
    rw[kM,if_neg (λz=>e (Sum.inr.inj z))]
theorem Xm {kvs:List (Key×V)}{k:Key}{v:V}:(putK kvs k v).length<=kvs.length+1:=by
 unfold putK
 split
 .rw[av];omega
 .rw[bK];show kvs.length+1<=_;omega
theorem NP {bs:List (Str×Int)}{ρ:Str->Int}:∀(wy:List (Str×Th)) (acc:List (Key×V)),(dk bs ρ acc wy).length<=acc.length+wy.length
 | [],acc=>yZD _
 | c::wy,acc=>by
  have h1:=NP (bs:=bs) (ρ:=ρ) wy (putK acc (Sum.inr c.1) (.int (c.2.worth ρ % aQ bs c.1)))
  have h2:=Xm (kvs:=acc) (k:=Sum.inr c.1) (v:=.int (c.2.worth ρ % aQ bs c.1))
  show(dk bs ρ (putK acc (Sum.inr c.1) (.int (c.2.worth ρ % aQ bs c.1))) wy).length<=acc.length+(wy.length+1)
  omega
theorem Xn (bs:List (Str×Int))(vals:List Int):(kvsOf bs vals).length<=bs.length:=by
 have:=yZ (i9 (bs.map (·.1)) (ae vals)) []
 unfold i9 at this
 rw[av,List.length_zip,av,gW] at this
 unfold kvsOf i9
 omega
theorem Xo {bs:List (Str×Int)}{vals:List Int}{i:Nat}{b:Str×Int}{v:Int}(nd:(bs.map (·.1)).Nodup)(hl:vals.length=bs.length)(eb:bs[i]? = some b)(ev:vals[i]? = some v):ai (kvsOf bs vals) (Sum.inr b.1)=some (.int v):=by
 have e:((bs.map (λb:Str×Int=>b.1)).zip (ae vals)).map (·.1)=bs.map (·.1):=List.map_fst_zip (by rw[av,yB,hl];exact yZD _)
 show ai (az [] (cR ((bs.map (λb:Str×Int=>b.1)).zip (ae vals)))) (Sum.inr b.1)=_
 rw[Gq _ _ (by rw[e];exact nd)]
 have ez:((bs.map (λb:Str×Int=>b.1)).zip (ae vals))[i]? = some (b.1,.int v):=List.getElem?_zip_eq_some.mpr ⟨by rw[bb,eb];rfl,by rw[bb,ev];rfl⟩
 rw[Eh (by rw[e];exact nd) ez]
theorem NQ {bs:List (Str×Int)}{i:Nat}{b:Str×Int}(nd:(bs.map (·.1)).Nodup)(eb:bs[i]? = some b):aQ bs b.1=b.2:=by
 unfold aQ
 rw[Eh (v:=b.2) nd eb]
theorem NR {bs:List (Str×Int)}{wy:List (Str×Th)}{vals:List Int}{i:Nat}{b:Str×Int}{v:Int}(eb:bs[i]? = some b)(ev:vals[i]? = some v):
  (zA bs wy vals)[i]? = some (match wy.lookup b.1 with | some t=>t.worth (envOf (kvsOf bs vals)) % b.2 | none=>v):=by
 unfold zA
 have ez:(bs.zip vals)[i]? = some (b,v):=List.getElem?_zip_eq_some.mpr ⟨eb,ev⟩
 rw[bb,ez]
 rfl
theorem NS {bs:List (Str×Int)}{wy:List (Str×Th)}{vals:List Int}(hl:vals.length=bs.length):(zA bs wy vals).length=bs.length:=by
 unfold zA
 rw[av,List.length_zip,hl,Nat.min_self]
theorem Xp {H:Hp}{bs:List (Str×Int)}{us:List V}(p:Paired (cF H) bs us):Paired (ib H) (bs.map λb=>(b.1,V.int b.2)) us:=by
 induction p with
 | nil=>exact .nil
 | cons h _ ih=>
  obtain⟨a,e,q⟩:=h
  exact .cons ⟨a,e,q⟩ ih
def NT:Sp:=λvs H Q _=>∃(bx wa st:Addr) (bs:List (Str×Int)) (wy:List (Str×Th)) (vals:List Int) (us cs:List V),vs=[.ref bx,.ref wa,.ref st]/\H bx=some (.lst us)/\Paired (cF H) bs us/\(bs.map (·.1)).Nodup/\bs.length<=100/\
 (∀b∈bs,2<=b.2/\b.2<=5)/\H wa=some (.lst cs)/\Paired (vM H) wy cs/\iU (bs.map (·.1)) wy/\H st=some (.tup (ae vals))/\Fits bs vals/\∀(r:Addr) (H':Hp),aa H H'->H' r=some (.tup (ae (zA bs wy vals)))->Q (.ref r) H'
theorem zU:xI ["boxes","way","standing","sizes","ahead","behind","name","expression"] ["boxes","way","standing"] (xB (top 22)):=by constructor <;> first | rfl | wtm_at"d"
theorem yG:aA (xB (top 22)) ["boxes","way","standing","sizes","ahead","behind","name","expression"] (bP (xC (top 22)) [4] [1]) ["name","size","behind"] 2 [5]:=
 by constructor <;> wtm_at"d"
theorem Xq (F:Fd K mg "behind_way" (top 22) ["boxes","way","standing"])(B:Bl mg)(jp:Dn P w K mg base "values_by_name" 1 ["boxes","standing"] wH)(jj:Dn P w K mg base "worth_by" 13 ["expression","values"] (jW 12)):
  Dn P w K mg base "behind_way" 14 ["boxes","way","standing"] NT:=by
 refine F.ok zU (λvs H Q E h=>?_) (λf zy A outer s H vs Q E hr h=>?_)
 .obtain⟨_,_,_,_,_,_,_,_,rfl,_⟩:=h
  rfl
 obtain⟨bx,wa,st,bs,wy,vals,us,cs,rfl,gP,pb,nd,Xr,sU,dS,pc,Hy,lP,fits,q⟩:=h
 have hu:=nJ hr
 have fs:=fits.stands sU
 have env:=Hr fs
 refine⟨_,(qZ (xG (i:=3) zU.nd rfl (xZ (R9 rfl) rfl B.gO BI (qQ (pv 0) qX)))
  (qZ (xG (i:=4) zU.nd rfl (qE jp hr (qQ (pv 0) (qQ (pv 2) qX))))
  (qZ (xG (i:=5) zU.nd rfl (xZ Tr rfl B.gO BI (qQ (pv 4) qX)))
  (qZ (jE PassesOwn.never rfl (xQ (K:=K) (pv 1)) (zI (K:=K) (n:=2) rfl (qM (qI (i:=6) zU.nd rfl (by wtm_at "zo")) (qM (qI (i:=7) zU.nd rfl (by wtm_at "zo")) qN))) (qJ (Ec hu (pv 5) (pv 6) (xX kG (qE jj hr (qQ (pv 7) (qQ (pv 4) qX))) (vX hu (pv 3) (pv 6) (λ_ _=>rfl))) rfl)))
  (qJ (qP (xZ (kA (K:=K)) rfl B.tuple' wN (qQ (jZ rfl yG (xQ (K:=K) (pv 0)) (λcl fp s H=>(zI (K:=K) (n:=2) rfl (qM (qI (i:=0) yG.nd rfl (Or.inl rfl) (.inr rfl)) (qM (qI (i:=1) yG.nd rfl (Or.inl rfl) (.inr rfl)) qN)))) (λcl fp s H=>zH) (λcl fp s H=>(vX hu (pv 2) (pv 0) (λ_ _=>rfl)))) qX)))))))),?_⟩
 wtm_at"z"
 refine⟨bx,us,_,rfl,gP,Xp pb,by rw[av];omega,λsz hsz=>?_⟩
 generalize eQ:upd H sz _=H1
 obtain⟨S1,NU⟩:=laid hsz eQ
 wtm_at"z"
 refine⟨bx,st,bs,vals,rfl,⟨⟨us,S1 _ _ gP,xK (qD S1) pb⟩,S1 _ _ lP,fs,Xr⟩,λah H2 S2 Hz=>?_⟩
 wtm_at"z"
 refine⟨ah,_,rfl,Hz,λbe lh=>?_⟩
 have S3:aa H1 (upd H2 be (.dK (kvsOf bs vals))):=S2.trans (qV lh _)
 have nN:=S1.trans S3
 have HF:upd H2 be (.dK (kvsOf bs vals)) be=some (.dK (kvsOf bs vals)):=qW
 have CJ:=qV lh (.dK (kvsOf bs vals)) _ _ Hz
 have HG:H1 be=none:=S2.free lh
 have HH:ah≠be:=qC Hz lh
 generalize upd H2 be (.dK (kvsOf bs vals))=H3 at S3 nN HF CJ
 wtm_at "zf"
 refine⟨wa,rfl,⟨cs,aj.of (nN _ _ dS)⟩,?_⟩
 have lc:=pc.length
 have NB:=Hy.le
 have kl:=Xn bs vals
 have Xs:wa≠be:=qC (S1 _ _ dS) HG
 refine zF (xs:=cs) (λi σ' H'=>∃z6 z7:Option V,σ'=[some (.ref bx),some (.ref wa),some (.ref st),some (.ref sz),some (.ref ah),some (.ref be),z6,z7]/\mn be H3 H'/\H' be=some (.dK (dk bs (envOf (kvsOf bs vals)) (kvsOf bs vals) (wy.take i))))
  ⟨none,none,rfl,mn.refl _,HF⟩ (λi σ' H' _ hP=>?_) (λN rt bk i x σ' H' ex hP hN=>?_) (λσ' H' hP=>?_)
 .obtain⟨_,_,rfl,hb,_⟩:=hP
  exact aj.of (hb _ _ Xs (nN _ _ dS))
 .obtain⟨z6,z7,rfl,hb,pA⟩:=hP
  have hi:i<wy.length:=by rw[lc];exact(aN.mp ex).1
  obtain⟨c,ec⟩:∃b,wy[i]? = some b:=⟨_,aH hi⟩
  obtain⟨ca,cv,rfl,HI,cat⟩:=xV pc ec ex
  obtain⟨o1,o2,o3⟩:=Hy.ok c (bw ec)
  have T3:bD H H':=(qD nN).trans λb ys e=>hb _ _ (jC e HF (by intro z;cases z)) e
  have Xu:=T3 _ _ HI
  obtain⟨b,NV,EC⟩:=aZ.mp o1
  obtain⟨k,ek⟩:=List.mem_iff_getElem?.mp NV
  have Hv:=sU b NV
  have zs:=NQ nd ek
  wtm_at"z"
  refine⟨c.2,cv,ah,_,_,envOf (kvsOf bs vals),rfl,cat.mono T3,o2,o3,hb _ _ HH CJ,env,?_⟩
  wtm_at"z"
  refine⟨sz,.int (aQ bs c.1),rfl,?_,?_⟩
  .have hv:ai (az [] (cR (bs.map λb=>(b.1,V.int b.2)))) (Sum.inr c.1)=some (.int (aQ bs c.1)):=by
    have e2:(bs.map λb=>(b.1,V.int b.2)).map (·.1)=bs.map (·.1):=by rw[Yn];rfl
    rw[Gq _ _ (by rw[e2];exact nd),<- EC,Eh (v:=.int b.2) (i:=k) (by rw[e2];exact nd) (by rw[bb,ek];rfl),zs]
   rw[<- hv]
   exact cm.k (k:=Sum.inr c.1) (hb _ _ (qC NU HG) (S3 _ _ NU))
  refine Sj (show 0<aQ bs c.1 by rw[<- EC,zs];omega) ?_
  wtm_at"z"
  have pl:=NP (bs:=bs) (ρ:=envOf (kvsOf bs vals)) (wy.take i) (kvsOf bs vals)
  rw[cJ] at pl
  refine⟨be,_,rfl,fK.k (k:=Sum.inr c.1) pA (small (by omega)),?_⟩
  refine hN _ _ ⟨_,_,rfl,hb.trans mn.upd,?_⟩
  rw[qW,Xl ec]
 obtain⟨z6,z7,rfl,hb,pA⟩:=hP
 rw[<- lc,dm] at pA
 have K3:∀b o,H b=some o->H' b=some o:=λb o e=>hb _ _ (qC (S1 _ _ e) HG) (nN _ _ e)
 have S4:aa H H':=K3
 have lb:=pb.length
 wtm_at"z"
 refine⟨_,rfl,bx,rfl,⟨us,aj.of (S4 _ _ gP)⟩,?_⟩
 refine jU (xs:=us) (λD i ys bT=>ys=ae ((zA bs wy vals).take i)/\∀b o,H' b=some o->bT b=some o) (λD hD=>⟨rfl,qV hD _⟩)
  (λD i ys bT _ hP=>aj.of (hP.2 _ _ (S4 _ _ gP))) (λD i x ys bT N hD aD ex hP hN=>?_) (λD ys H5 hD aD hP=>?_)
 .obtain⟨rfl,hk⟩:=hP
  have hi:i<bs.length:=by rw[lb];exact(aN.mp ex).1
  obtain⟨b,eb⟩:∃b,bs[i]? = some b:=⟨_,aH hi⟩
  obtain⟨v,ev⟩:∃v,vals[i]? = some v:=⟨_,aH (by rw[fits.1];exact hi)⟩
  obtain⟨ba,rfl,Cz⟩:=xV pb eb ex
  have Xv:=NR (wy:=wy) eb ev
  have hv:ai (dk bs (envOf (kvsOf bs vals)) (kvsOf bs vals) wy) (Sum.inr b.1)=some (.int (match wy.lookup b.1 with | some t=>t.worth (envOf (kvsOf bs vals)) % b.2 | none=>v)):=by
   rw[NO _ _ Hy.nd,NQ nd eb,Xo nd fits.1 eb ev]
   cases wy.lookup b.1 <;> rfl
  refine⟨ba,_,rfl,aS.of (hk _ _ (S4 _ _ Cz)),rfl,_,_,rfl,_,_,rfl,rfl,⟨[some (.str b.1),some (.int b.2)],rfl,rfl⟩,?_⟩
  refine⟨_,rfl,_,rfl,be,_,rfl,(by rw[<- hv];exact cm.k (k:=Sum.inr b.1) (hk _ _ pA)),aD,?_,hN _ _ qW ⟨?_,λb o e=>?_⟩⟩
  .rw[yB,cJ];exact small (by omega)
  .rw[c5,Xv,<- LY];rfl
  .rw[qB (qC e hD)];exact hk _ _ e
 obtain⟨rfl,hk⟩:=hP
 rw[<- lb,Yk (by rw[NS fits.1];exact yZD _)] at aD
 wtm_at"z"
 refine⟨D,_,rfl,aj.of aD,λr CK=>?_⟩
 exact q r _ (S4.trans ((show aa H' H5 from hk).trans (qV CK _))) qW
theorem Xw {σ:St}{H:Hp}{Q:VK}{js:List Nat}{te:TE}{wa:Addr}{wu:List V}{wys:List (List (Str×Th))}{bs:List (Str×Int)}{vals:List Int}(dS:H wa=some (.lst wu))(pw:Paired (cU H) wys wu)(hl:wys.length<=100)
  (sX:∀(u:V) (wy:List (Str×Th)) (H':Hp) (R:VK),wy∈wys->cU H' wy u->aa H H'->(∀(r:Addr) (bT:Hp),aa H' bT->bT r=some (.tup (ae (zA bs wy vals)))->R (.ref r) bT)->te ([some u]++frees js σ) H' R)
  (q:∀(D:Addr) (ys:List V) (H':Hp),H D=none->aa H H'->H' D=some (.lst ys)->Paired (aK H') (wys.map λwy=>zA bs wy vals) ys->Q (.ref D) H'):
  fM 1 js (br 0) gD te (i6 K wa) σ H Q:=by
 have lw:=pw.length
 refine jU (xs:=wu) (λD i ys H'=>Paired (aK H') ((wys.take i).map λwy=>zA bs wy vals) ys/\∀b o,H b=some o->H' b=some o) (λD hD=>⟨.nil,qV hD _⟩)
  (λD i ys H' _ hP=>aj.of (hP.2 _ _ dS)) (λD i x ys H' N hD aD ex hP hN=>?_) (λD ys H5 hD aD hP=>?_)
 .obtain⟨pl,hk⟩:=hP
  have hi:i<wys.length:=by rw[lw];exact(aN.mp ex).1
  obtain⟨wy,nO⟩:∃b,wys[i]? = some b:=⟨_,aH hi⟩
  have wi:=(xV pw nO ex).same hk
  have ll:=pl.length
  rw[av,cJ] at ll
  refine⟨⟨[some x],rfl,rfl⟩,?_⟩
  refine sX x wy H' _ (bw nO) wi hk λr H4 S4 er=>?_
  have eD:=S4 _ _ aD
  refine⟨eD,small (by omega),hN _ _ qW ⟨?_,λb o e=>?_⟩⟩
  .have T4:bD H4 (upd H4 D (.lst (ys++[.ref r]))):=λb xs e=>by rw[qB (jC e eD (by intro z;cases z))];exact e
   rw[c5,nO,cu]
   exact Paired.snoc (xY T4 (xY (qD S4) pl)) ⟨r,rfl,T4 _ _ er⟩
  .rw[qB (qC e hD)];exact S4 _ _ (hk _ _ e)
 obtain⟨pl,hk⟩:=hP
 rw[<- lw,dm] at pl
 exact q D ys H5 hD hk aD pl
def mK (bs:List (Str×Int))(t:Th):List (List Int):=(ag bs).filter λvals=>t.truth (envOf (kvsOf bs vals))
theorem Xx {α:Type}{p:α->Bool}{l:List α}{i:Nat}{x:α}(h:l[i]? = some x):(l.take (i+1)).filter p=(l.take i).filter p++(if p x then [x] else []):=by
 rw[c5,h,List.filter_append]
 congr 1
 cases e:p x <;> simp[e]
theorem HJ {n:Nat}(h:n<=1000000):n<=Yc:=by rw[show Yc=16777216 by decide];omega
theorem ED {vals:List Int}{i:Nat}(h:i<vals.length):vals[i]? = some (vals.getD i 0):=by
 rw[Yh,aH h];rfl
theorem NW {bs:List (Str×Int)}:∀i:Nat,i<=bs.length->∀r,Fits (bs.take i) r->r∈ag (bs.take i)
 | 0,_=>λr f=>by
  have:r=[]:=List.length_eq_zero_iff.mp (by rw[f.1];rfl)
  subst this
  exact bB.mpr rfl
 | i+1,hi=>λr f=>by
  have hb:bs[i]? = some (bs[i]'(by omega)):=aH (by omega)
  have lr:r.length=i+1:=by rw[f.1,cJ];omega
  have er:r=r.take i++[r.getD i 0]:=by
   have e:=ED (vals:=r) (i:=i) (by omega)
   have:r.take (i+1)=r.take i++[r.getD i 0]:=by rw[c5,e];rfl
   rw[<- this,Yk (by omega)]
  have ft:Fits (bs.take i) (r.take i):=by
   refine⟨by rw[cJ,cJ];omega,λj b v eb ev=>?_⟩
   have hj:j<i:=by
    have:=(aN.mp ev).1
    rw[cJ] at this
    omega
   rw[List.getElem?_take_of_lt hj] at eb ev
   exact f.2 j b v (by rw[List.getElem?_take_of_lt (by omega)];exact eb) ev
  have fi:=f.2 i (bs[i]'(by omega)) (r.getD i 0) (by rw[List.getElem?_take_of_lt (by omega)];exact hb) (ED (by omega))
  rw[kI hb]
  unfold bj
  refine List.mem_flatMap.mpr ⟨r.take i,NW i (by omega) _ ft,aZ.mpr ⟨(r.getD i 0).toNat,List.mem_range.mpr (by omega),?_⟩⟩
  rw[Int.toNat_of_nonneg fi.1]
  exact er.symm
theorem NX {bs:List (Str×Int)}{r:List Int}(f:Fits bs r):r∈ag bs:=by
 have:=NW bs.length (yZD _) r
 rw[dm] at this
 exact this f
theorem vJ {bs:List (Str×Int)}{wy:List (Str×Th)}{vals:List Int}(f:Fits bs vals)(h:∀b∈bs,2<=b.2):Fits bs (zA bs wy vals):=by
 refine⟨NS f.1,λi b v eb ev=>?_⟩
 have hi:i<vals.length:=by rw[f.1];exact(aN.mp eb).1
 rw[NR eb (ED hi)] at ev
 have fb:=f.2 i b _ eb (ED hi)
 have b2:=h b (bw eb)
 generalize wy.lookup b.1=o at ev
 cases o with
 | none=>cases ev;exact fb
 | some x=>cases ev;exact⟨YH _ (by omega),YG _ (by omega)⟩
theorem Xy:xI ["world"] ["world"] (xB (top 18)):=by constructor <;> first | rfl | wtm_at"d"
def vP:Sp:=λvs H Q _=>∃(W:Wd) (p bx dx lx:Addr) (bv gv:V),vs=[.ref p]/\H p=some (.tup [.ref bx,.ref dx,.ref lx,bv,gv])/\qx H W bx dx lx bv gv/\CG W/\
 ∀(r:Addr) (ss:List V) (H':Hp),H r=none->aa H H'->H' r=some (.lst ss)->Paired (aK H') (ag W.bs) ss->Q (.ref r) H'
theorem Xz (F:Fd K mg "standings" (top 18) ["world"])(vm:Dn P w K mg base "standings_of_boxes" 1 ["boxes"] NH):Dn P w K mg base "standings" 2 ["world"] vP:=by
 refine F.ok Xy (λvs H Q E h=>?_) (λf zy A outer s H vs Q E hr h=>?_)
 .obtain⟨_,_,_,_,_,_,_,rfl,_⟩:=h
  rfl
 obtain⟨W,p,bx,dx,lx,bv,gv,rfl,ep,A0,ok,q⟩:=h
 obtain⟨us,gP,pb⟩:=A0.dj
 refine⟨_,(qJ (qP (qE vm hr (qQ (xN (qT (K:=K)) (pv 0) qG) qX)))),?_⟩
 wtm_at"z"
 exact⟨bx,W.bs,us,rfl,gP,pb,ok.b6,ok.j7,q⟩
theorem XA {σ:St}{H:Hp}{Q:VK}{js:List Nat}{tt:TT}{a:Addr}{us:List V}{rows:List (List Int)}{p:List Int->Bool}(ea:H a=some (.lst us))(pr:Paired (aK H) rows us)(hl:rows.length<=100000)
  (HK:∀(ra:Addr) (row:List Int) (H':Hp) (R:Bool->Hp->Prop),row∈rows->H' ra=some (.tup (ae row))->aa H H'->(∀bT,aa H' bT->R (p row) bT)->tt ([some (.ref ra)]++frees js σ) H' R)
  (q:∀(D:Addr) (ys:List V) (H':Hp),H D=none->aa H H'->H' D=some (.lst ys)->Paired (aK H') (rows.filter p) ys->Q (.ref D) H'):
  fM 1 js (br 0) tt (eS 0) (i6 K a) σ H Q:=by
 have lr:=pr.length
 refine jU (xs:=us) (λD i ys H'=>Paired (aK H') ((rows.take i).filter p) ys/\∀b o,H b=some o->H' b=some o) (λD hD=>⟨.nil,qV hD _⟩)
  (λD i ys H' _ hP=>aj.of (hP.2 _ _ ea)) (λD i x ys H' N hD aD ex hP hN=>?_) (λD ys H5 hD aD hP=>?_)
 .obtain⟨pl,hk⟩:=hP
  have hi:i<rows.length:=by rw[lr];exact(aN.mp ex).1
  obtain⟨row,cY⟩:∃b,rows[i]? = some b:=⟨_,aH hi⟩
  obtain⟨ra,rfl,wj⟩:=xV pr cY ex
  have ll:=pl.length
  have lf:((rows.take i).filter p).length<=i:=yZJ (List.length_filter_le _ _) (by rw[cJ];omega)
  refine⟨⟨[some (.ref ra)],rfl,rfl⟩,?_⟩
  refine HK ra row H' _ (bw cY) (hk _ _ wj) hk λH4 S4=>?_
  have eD:=S4 _ _ aD
  have fs:=Xx (p:=p) cY
  cases e:p row with
  | false=>
   refine bO (hN _ _ eD ⟨?_,λb o z=>S4 _ _ (hk _ _ z)⟩)
   rw[fs,e,if_neg cj,Yq]
   exact xY (qD S4) pl
  | true=>
   refine bz ⟨_,rfl,eD,mJ (by omega),hN _ _ qW ⟨?_,λb o z=>?_⟩⟩
   .have T4:bD H' (upd H4 D (.lst (ys++[.ref ra]))):=λb xs z=>by rw[qB (jC z aD (by intro z;cases z))];exact S4 _ _ z
    rw[fs,e,if_pos rfl]
    exact Paired.snoc (xY T4 pl) ⟨ra,rfl,T4 _ _ (hk _ _ wj)⟩
   .rw[qB (qC z hD)];exact S4 _ _ (hk _ _ z)
 obtain⟨pl,hk⟩:=hP
 rw[<- lr,dm] at pl
 exact q D ys H5 hD hk aD pl
theorem XB:xI ["world"] ["world"] (xB (top 25)):=by constructor <;> first | rfl | wtm_at"d"
theorem kH:aA (xB (top 25)) ["world"] (bP (xC (top 25)) [0] []) ["standing","world"] 1 [0]:=
 by constructor <;> wtm_at"d"
def HL:Sp:=λvs H Q _=>∃(W:Wd) (p bx dx lx:Addr) (bv gv:V),vs=[.ref p]/\H p=some (.tup [.ref bx,.ref dx,.ref lx,bv,gv])/\qx H W bx dx lx bv gv/\CG W/\
 ∀(r:Addr) (ss:List V) (H':Hp),H r=none->aa H H'->H' r=some (.lst ss)->Paired (aK H') (mK W.bs W.bt) ss->Q (.ref r) H'
theorem XC (F:Fd K mg "first_known" (top 25) ["world"])(vd:Dn P w K mg base "standings" 2 ["world"] vP)(kr:Dn P w K mg base "holds" 26 ["condition","boxes","standing"] Ht):Dn P w K mg base "first_known" 27 ["world"] HL:=by
 refine F.ok XB (λvs H Q E h=>?_) (λf zy A outer s H vs Q E hr h=>?_)
 .obtain⟨_,_,_,_,_,_,_,rfl,_⟩:=h
  rfl
 obtain⟨W,p,bx,dx,lx,bv,gv,rfl,ep,A0,ok,q⟩:=h
 have b6:=ok.b6
 have XD:=wO ok.j7 W.bs.length (yZD _)
 rw[dm] at XD
 have p5:=qw ok.b6
 refine⟨_,(qJ (qP (jZ rfl kH (xQ (K:=K) (qE vd hr (qQ (pv 0) qX))) (λcl fp s H=>(qI (i:=0) kH.nd rfl (Or.inl rfl) (.inr rfl))) (λcl fp s H=>(LK (yY (qE kr hr (qQ (xN (qT (K:=K)) (pv 1) qG) (qQ (xN (qT (K:=K)) (pv 1) qG) (qQ (pv 0) qX))))))) (λcl fp s H=>(pv 0))))),?_⟩
 wtm_at "zf"
 refine⟨W,p,bx,dx,lx,bv,gv,rfl,ep,A0,ok,λal ss H1 nal S1 eal pal=>?_⟩
 refine kU (aj.of eal) ?_
 refine XA (p:=λvals=>W.bt.truth (envOf (kvsOf W.bs vals))) eal pal (by omega) (λra row H' R hrow era S2 hR=>?_) λD ys H' nD S2 eD py=>q D ys H' (S1.free nD) (S1.trans S2) eD py
 have A2:=A0.same (S1.trans S2)
 have ep2:=S2 _ _ (S1 _ _ ep)
 have fits:=wV hrow
 wtm_at"z"
 refine⟨W.bt,bv,bx,ra,W.bs,row,rfl,A2.Ez,ok.Ez,ok.Hw,⟨A2.dj,era,fits.stands ok.j7,by omega⟩,λH3 S3=>?_⟩
 wtm_at"z"
 exact hR H3 S3
theorem kE:xI ["condition","boxes","known","standing"] ["condition","boxes","known"] (xB (top 29)):=by constructor <;> first | rfl | wtm_at"d"
def iA:Sp:=λvs H Q _=>∃(t:Th) (v:V) (bx ka:Addr) (bs:List (Str×Int)) (rows:List (List Int)) (ss:List V),vs=[v,.ref bx,.ref ka]/\t.At H v/\di (bs.map (·.1)) t/\t.dep<=12/\(∃us,H bx=some (.lst us)/\Paired (cF H) bs us)/\bs.length<=6/\(∀b∈bs,2<=b.2/\b.2<=5)/\
 H ka=some (.lst ss)/\Paired (aK H) rows ss/\(∀row∈rows,Fits bs row)/\∀H',aa H H'->Q (.bl (rows.all λr=>t.truth (envOf (kvsOf bs r)))) H'
theorem XF {α:Type}{p:α->Bool}{l:List α}{i:Nat}{x:α}(h:l[i]? = some x)(a:(l.take i).all p=true)(b:p x=true):(l.take (i+1)).all p=true:=by
 rw[c5,h,List.all_append,a]
 simp[b]
theorem XG (F:Fd K mg "holds_at_each" (top 29) ["condition","boxes","known"])(kr:Dn P w K mg base "holds" 26 ["condition","boxes","standing"] Ht):Dn P w K mg base "holds_at_each" 27 ["condition","boxes","known"] iA:=by
 refine F.ok kE (λvs H Q E h=>?_) (λf zy A outer s H vs Q E hr h=>?_)
 .obtain⟨_,_,_,_,_,_,_,rfl,_⟩:=h
  rfl
 obtain⟨t,v,bx,ka,bs,rows,ss,rfl,at',cx,dp,hb,b6,j7,iV,pr,hf,q⟩:=h
 have lr:=pr.length
 refine⟨_,(qZ (jE PassesOwn.never rfl (xQ (K:=K) (pv 2)) (qI (i:=3) kE.nd rfl (by wtm_at "zo")) (qJ (yV (D0 (yY (qE kr hr (qQ (pv 0) (qQ (pv 1) (qQ (pv 3) qX)))))) (qJ (qP rA)) qY)))
  (qJ (qP rA))),?_⟩
 wtm_at "zf"
 refine kU (aj.of iV) ?_
 refine Fs (xs:=ss) (λi σ' H'=>∃z3:Option V,σ'=[some v,some (.ref bx),some (.ref ka),z3]/\aa H H'/\((rows.take i).all λr=>t.truth (envOf (kvsOf bs r)))=true) ⟨none,rfl,aa.refl _,rfl⟩
  (λi σ' H' _ hP=>?_) (λi x σ' H' ex hP=>?_) (λσ' H' hP=>?_)
 .obtain⟨_,rfl,S1,_⟩:=hP
  exact aj.of (S1 _ _ iV)
 .obtain⟨z3,rfl,S1,ha⟩:=hP
  have hi:i<rows.length:=by rw[lr];exact(aN.mp ex).1
  obtain⟨row,cY⟩:∃b,rows[i]? = some b:=⟨_,aH hi⟩
  have hm:=bw cY
  obtain⟨ra,rfl,wj⟩:=xV pr cY ex
  obtain⟨us,gP,pb⟩:=hb
  wtm_at"z"
  refine⟨t,v,bx,ra,bs,row,rfl,at'.mono (qD S1),cx,dp,⟨⟨us,S1 _ _ gP,xK (qD S1) pb⟩,S1 _ _ wj,(hf row hm).stands j7,by omega⟩,λH3 S3=>?_⟩
  wtm_at"z"
  cases e:t.truth (envOf (kvsOf bs row)) with
  | true=>
   wtm_at"z"
   exact⟨_,rfl,S1.trans S3,XF cY ha e⟩
  | false=>
   have z:(rows.all λr=>t.truth (envOf (kvsOf bs r)))=false:=Bool.eq_false_iff.mpr λy=>by
    have:=List.all_eq_true.mp y row hm
    rw[e] at this
    cases this
   rw[z] at q
   wtm_at"z"
   exact q H3 (S1.trans S3)
 .obtain⟨z3,rfl,S1,ha⟩:=hP
  rw[<- lr,dm] at ha
  rw[ha] at q
  wtm_at"z"
  exact q H' S1
structure NY (ms S:List (List Int)):Prop where
 up:ms.Pairwise λa b=>HT.lexLt a b=true
 mem:∀k,k∈ms↔k∈S
theorem XH (a:List Int):HT.lexLt a a=false:=TM.lex_irrefl a
theorem XI {ms:List (List Int)}(h:ms.Pairwise λa b=>HT.lexLt b a=false)(nd:ms.Nodup):ms.Pairwise λa b=>HT.lexLt a b=true:=by
 refine(List.Pairwise.and h nd).imp λ{a b} ⟨h1,h2⟩=>?_
 cases c:HT.lexLt a b with
 | true=>rfl
 | false=>exact absurd (TM.fu a b c h1) h2
theorem NZ {ws xs:List (List Int)}(nd:ws.Nodup)(h:∀x∈ws,x∈xs):ws.length<=xs.length:=ST.iP ws xs nd h
def jD (bs:List (Str×Int))(wys:List (List (Str×Th)))(rows:List (List Int)):List (List Int):=rows.flatMap λr=>wys.map λwy=>zA bs wy r
theorem XJ {bs:List (Str×Int)}{wys:List (List (Str×Th))}{rows:List (List Int)}{i:Nat}{r:List Int}(h:rows[i]? = some r):jD bs wys (rows.take (i+1))=jD bs wys (rows.take i)++wys.map λwy=>zA bs wy r:=by
 unfold jD
 rw[c5,h,List.flatMap_append]
 show _++(_++[])=_
 rw[Yq]
theorem N3 (bs:List (Str×Int))(wys:List (List (Str×Th))):∀rows:List (List Int),(jD bs wys rows).length=rows.length * wys.length
 | []=>by rw[gW,Nat.zero_mul];rfl
 | r::rows=>by
  show((wys.map λwy=>zA bs wy r)++jD bs wys rows).length=_
  rw[bK,av,N3 bs wys rows,cP,Nat.succ_mul]
  omega
theorem XM {bs:List (Str×Int)}{wys:List (List (Str×Th))}{rows:List (List Int)}(h:∀r∈rows,Fits bs r)(h2:∀b∈bs,2<=b.2):∀k∈jD bs wys rows,Fits bs k:=λk hk=>by
 obtain⟨r,hr,hk⟩:=List.mem_flatMap.mp hk
 obtain⟨wy,_,rfl⟩:=aZ.mp hk
 exact vJ (h r hr) h2
theorem XN:xI ["world","known","name"] ["world","known","name"] (xB (top 27)):=by constructor <;> first | rfl | wtm_at"d"
structure Ask (H:Hp)(W:Wd)(p ka:Addr)(rows:List (List Int)):Prop where
 at':∃(bx dx lx:Addr) (bv gv:V),H p=some (.tup [.ref bx,.ref dx,.ref lx,bv,gv])/\qx H W bx dx lx bv gv
 ok:CG W
 b3:W.bs.length<=3
 known:∃ss,H ka=some (.lst ss)/\Paired (aK H) rows ss
 fits:∀r∈rows,Fits W.bs r
 gR:rows.length<=200
def qy:Sp:=λvs H Q _=>∃(W:Wd) (p ka:Addr) (rows:List (List Int)) (d:aO),vs=[.ref p,.ref ka,.str d.name]/\Ask H W p ka rows/\d∈W.ds/\∀H',aa H H'->Q (.bl (rows.all λr=>d.need.truth (envOf (kvsOf W.bs r)))) H'
theorem XO (F:Fd K mg "may_do" (top 27) ["world","known","name"])(jn:Dn P w K mg base "named" 1 ["things","name","kind"] EA)(jt:Dn P w K mg base "holds_at_each" 27 ["condition","boxes","known"] iA):Dn P w K mg base "may_do" 28 ["world","known","name"] qy:=by
 refine F.ok XN (λvs H Q E h=>?_) (λf zy A outer s H vs Q E hr h=>?_)
 .obtain⟨_,_,_,_,_,rfl,_⟩:=h
  rfl
 obtain⟨W,p,ka,rows,d,rfl,x,hd,q⟩:=h
 obtain⟨bx,dx,lx,bv,gv,ep,A0⟩:=x.at'
 obtain⟨ss,iV,iB⟩:=x.known
 have ok:=x.ok
 obtain⟨du,lR,pd⟩:=A0.cV
 obtain⟨i,ei⟩:=List.mem_iff_getElem?.mp hd
 have CM:=ok.cV d hd
 refine⟨_,(qJ (qP (qE jt hr (qQ (xN (qT (K:=K)) (qE jn hr (qQ (xN (qT (K:=K)) (pv 0) qG) (qQ (pv 2) (qQ qH qX)))) qG) (qQ (xN (qT (K:=K)) (pv 0) qG) (qQ (pv 1) qX)))))),?_⟩
 wtm_at"z"
 refine⟨dx,du,W.ds.map aO.name,d.name,.str "deed",rfl,lR,NK pd,(rh.mp ok.nd).1,i,by rw[bb,ei];rfl,λu eu=>?_⟩
 obtain⟨a,nv,wa,wu,rfl,ea,nat,dS,pw⟩:=xV pd ei eu
 wtm_at"z"
 exact⟨d.need,nv,bx,ka,W.bs,rows,ss,rfl,nat,CM.need,CM.dep,A0.dj,ok.b6,ok.j7,iV,iB,x.fits,q⟩
theorem vA:xI ["world","known","name","ways","coming","standing"] ["world","known","name"] (xB (top 28)):=by constructor <;> first | rfl | wtm_at"d"
theorem N4:aA (xB (top 28)) ["world","known","name","ways","coming","standing"] (bP (xC (top 28)) [2,0] [1]) ["way","standing","world"] 1 [5,0]:=
 by constructor <;> wtm_at"d"
def N5:Sp:=λvs H Q _=>∃(W:Wd) (p ka:Addr) (rows:List (List Int)) (d:aO),vs=[.ref p,.ref ka,.str d.name]/\Ask H W p ka rows/\d∈W.ds/\d.bF.length<=100/\(jD W.bs d.bF rows).length<=3/\
 ∀(r:Addr) (us:List V) (ms:List (List Int)) (H':Hp),H r=none->aa H H'->H' r=some (.lst us)->Paired (aK H') ms us->NY ms (jD W.bs d.bF rows)->Q (.ref r) H'
theorem XQ (F:Fd K mg "behind" (top 28) ["world","known","name"])(B:Bl mg)(uq:mg "set" = none)(jk:mg "sorted" = none)(jn:Dn P w K mg base "named" 1 ["things","name","kind"] EA)(uU:Dn P w K mg base "behind_way" 14 ["boxes","way","standing"] NT):Dn P w K mg base "behind" 15 ["world","known","name"] N5:=by
 refine F.ok vA (λvs H Q E h=>?_) (λf zy A outer s H vs Q E hr h=>?_)
 .obtain⟨_,_,_,_,_,rfl,_⟩:=h
  rfl
 obtain⟨W,p,ka,rows,d,rfl,x,hd,dl,N6,q⟩:=h
 obtain⟨bx,dx,lx,bv,gv,ep,A0⟩:=x.at'
 obtain⟨ss,iV,iB⟩:=x.known
 have ok:=x.ok
 have gR:=x.gR
 have b6:=ok.b6
 obtain⟨us,gP,pb⟩:=A0.dj
 obtain⟨du,lR,pd⟩:=A0.cV
 obtain⟨i0,ei⟩:=List.mem_iff_getElem?.mp hd
 have CM:=ok.cV d hd
 have N7:=iB.length
 refine⟨_,(qZ (xG (i:=3) vA.nd rfl (xN (qT (K:=K)) (qE jn hr (qQ (xN (qT (K:=K)) (pv 0) qG) (qQ (pv 2) (qQ qH qX)))) qG))
  (qZ (xG (i:=4) vA.nd rfl (zE qX))
  (qZ (jE PassesOwn.never rfl (xQ (K:=K) (pv 1)) (qI (i:=5) vA.nd rfl (by wtm_at "zo")) (qJ (qR (yR (K:=K) Yx PySem.F.slot_list_extend PySem.F.type_list_extend Lw (pv 4) (qQ (jZ rfl N4 (xQ (K:=K) (pv 3)) (λcl fp s H=>(qI (i:=0) N4.nd rfl (Or.inl rfl) (.inr rfl))) (λcl fp s H=>zH) (λcl fp s H=>(qE uU hr (qQ (xN (qT (K:=K)) (pv 2) qG) (qQ (pv 0) (qQ (pv 1) qX)))))) qX)))))
  (qJ (qP (xJ (VY (P:=P) (w:=w) rfl) rfl jk Gk (qQ (xZ (VO (P:=P) (w:=w) (K:=K) rfl hr.units) rfl uq To (qQ (pv 4) qX)) qX))))))),?_⟩
 wtm_at"z"
 refine⟨dx,du,W.ds.map aO.name,d.name,.str "deed",rfl,lR,NK pd,(rh.mp ok.nd).1,i0,by rw[bb,ei];rfl,λu eu=>?_⟩
 obtain⟨a,nv,wa,wu,rfl,ea,nat,dS,pw⟩:=xV pd ei eu
 wtm_at"z"
 refine⟨pj,λcg hcg=>?_⟩
 generalize eQ:upd H cg _=H1
 obtain⟨S1,XR⟩:=laid hcg eQ
 wtm_at "zf"
 refine⟨ka,rfl,⟨ss,aj.of (S1 _ _ iV)⟩,?_⟩
 refine zF (xs:=ss) (λi σ' H'=>∃(z:Option V) (ys:List V),σ'=[some (.ref p),some (.ref ka),some (.str d.name),some (.ref wa),some (.ref cg),z]/\H' cg=some (.lst ys)/\Paired (aK H') (jD W.bs d.bF (rows.take i)) ys/\aa H H') ⟨none,[],rfl,XR,.nil,S1⟩
  (λi σ' H' _ hP=>?_) (λN rt bk i u σ' H' ex hP hN=>?_) (λσ' H' hP=>?_)
 .obtain⟨_,_,_,_,_,S⟩:=hP
  exact aj.of (S _ _ iV)
 .obtain⟨z,ys,rfl,mL,py,S'⟩:=hP
  have hi:i<rows.length:=by rw[N7];exact(aN.mp ex).1
  obtain⟨row,cY⟩:∃b,rows[i]? = some b:=⟨_,aH hi⟩
  obtain⟨st,rfl,lP⟩:=xV iB cY ex
  have fits:=x.fits row (bw cY)
  have ly:=py.length
  rw[N3,cJ] at ly
  have lb:(min i rows.length) * d.bF.length<=200 * 100:=Nat.mul_le_mul (by omega) dl
  wtm_at"z"
  refine wF (aj.of mL) ?_
  wtm_at"z"
  refine L0 ?_
  wtm_at"z"
  refine⟨wa,rfl,⟨wu,aj.of (S' _ _ dS)⟩,?_⟩
  refine Xw (bs:=W.bs) (vals:=row) (S' _ _ dS) (Paired.mapP pw λ_ _ y=>y.same S') CM.le (λu wy H2 R XS wi S2 hR=>?_) λD zs H2 nD S2 eD pz=>?_
  .obtain⟨ya,cs,rfl,XT,pc⟩:=wi
   have S3:=S'.trans S2
   refine⟨_,rfl,p,_,0,.ref bx,rfl,rfl,aS.of (S3 _ _ ep),rfl,_,rfl,_,rfl,bx,ya,st,W.bs,wy,row,us,cs,rfl,S3 _ _ gP,xK (qD S3) pb,ok.named.nd,by omega,ok.j7,XT,pc,CM.bF wy XS,S3 _ _ lP,fits,hR⟩
  .have lz:=pz.length
   rw[av] at lz
   wtm_at"z"
   refine⟨cg,D,ys,zs,rfl,rfl,S2 _ _ mL,eD,HJ (by omega),?_⟩
   have T:bD H2 (upd H2 cg (.lst (ys++zs))):=λb xs e=>by rw[qB (jC e (S2 _ _ mL) (by intro z;cases z))];exact e
   refine hN _ _ ⟨_,ys++zs,rfl,qW,?_,λb o e=>by rw[qB (qC e hcg)];exact(S'.trans S2) _ _ e⟩
   rw[XJ cY]
   exact kN (xY ((qD S2).trans T) py) (xY T pz)
 obtain⟨z,ys,rfl,mL,py,S'⟩:=hP
 rw[<- N7,dm] at py
 have cf:=XM (wys:=d.bF) x.fits λb hb=>(ok.j7 b hb).1
 have al:=wO ok.j7 W.bs.length (yZD _)
 rw[dm] at al
 have XU:5 ^ W.bs.length<=5 ^ 3:=YF (by decide) x.b3
 wtm_at"z"
 refine⟨cg,ys,jD W.bs d.bF rows,rfl,aj.of mL,py,λzs nd sub=>yZJ (NZ nd sub) N6,λsp xs nsp ndx hx hall=>?_⟩
 have S2:=qV nsp (ig P w sp xs)
 have N8:upd H' sp (ig P w sp xs) sp=some (ig P w sp xs):=qW
 generalize upd H' sp (ig P w sp xs)=H2 at S2 N8 ⊢
 wtm_at"z"
 refine⟨sp,xs,rfl,N8,yZJ (by have:=NZ ndx λk hk=>(by obtain⟨y,hy,rfl⟩:=aZ.mp hk;exact(hx y hy).1);rw[av] at this;exact this) N6,λy hy=>⟨λz=>?_,S2 _ _ (hx y hy).2⟩,λL ms nL pm so=>?_⟩
 .have f1:=(cf y.1 (hx y hy).1).1
  rw[z] at f1
  have:=ok.b1
  rw[gW] at f1
  omega
 have S3:=S2.trans (qV nL (.lst (ms.map λx=>V.ref x.2)))
 have S4:=S'.trans S3
 refine q L (ms.map λx=>V.ref x.2) (ms.map (·.1)) _ ((S'.trans S2).free nL) S4 qW ?_ ⟨XI so ((pm.map (·.1)).nodup_iff.mpr ndx),λk=>?_⟩
 .have all:∀y∈ms,H' y.2=some (.tup (ae y.1)):=λy hy=>(hx y (pm.mem_iff.mp hy)).2
  have:∀l:List (List Int×Addr),(∀y∈l,H' y.2=some (.tup (ae y.1)))->Paired (aK (upd H2 L (.lst (ms.map λx=>V.ref x.2)))) (l.map (·.1)) (l.map λx=>V.ref x.2):=by
   intro l
   induction l with
   | nil=>intro _;exact .nil
   | cons y l ih=>intro h;exact .cons ⟨y.2,rfl,S3 _ _ (h y aW)⟩ (ih λz hz=>h z (yYH _ hz))
  exact this ms all
 .rw[(pm.map (·.1)).mem_iff]
  constructor
  .intro hk
   obtain⟨y,hy,rfl⟩:=aZ.mp hk
   exact(hx y hy).1
  .exact hall k
structure Kind (K:aq)(C:Addr)(fs:List Str):Prop where
 cls:fI K C
 no:∀f∈fs,cA K C f
theorem yM {a C dx:Addr}{fs:List (Str×V)}{ns:List Str}{v:V}{f:Str}{i:Nat}{σ:St}{H:Hp}{Q:VK}(hv:σ[i]? = some (some (.ref a)))(ha:H a=some (.ins C dx fs))(kd:Kind K C ns)(hf:f∈ns)(l:fs.lookup f=some v)(q:Q v H):oh K (eS i) f σ H Q:=
 ⟨_,hv,a,C,dx,fs,v,rfl,ha,kd.cls,kd.no f hf,l,q⟩
theorem HM {H:Hp}{a:Addr}{r:List Int}(h:H a=some (.tup (ae r))):H a=some (.tup ((ST.ik r).map kV)):=by rw[ST.my];exact h
theorem XW:xI ["world","known"] ["world","known"] (xB (top 26)):=by constructor <;> first | rfl | wtm_at"d"
def N9:Sp:=λvs H Q _=>∃(W:Wd) (p ka:Addr) (rows:List (List Int)),vs=[.ref p,.ref ka]/\Ask H W p ka rows/\∀H',aa H H'->Q (.bl (rows.all λr=>W.gt.truth (envOf (kvsOf W.bs r)))) H'
theorem XX (F:Fd K mg "at_goal" (top 26) ["world","known"])(jt:Dn P w K mg base "holds_at_each" 27 ["condition","boxes","known"] iA):Dn P w K mg base "at_goal" 28 ["world","known"] N9:=by
 refine F.ok XW (λvs H Q E h=>?_) (λf zy A outer s H vs Q E hr h=>?_)
 .obtain⟨_,_,_,_,rfl,_⟩:=h
  rfl
 obtain⟨W,p,ka,rows,rfl,x,q⟩:=h
 obtain⟨bx,dx,lx,bv,gv,ep,A0⟩:=x.at'
 obtain⟨ss,iV,iB⟩:=x.known
 have ok:=x.ok
 refine⟨_,(qJ (qP (qE jt hr (qQ (xN (qT (K:=K)) (pv 0) qG) (qQ (xN (qT (K:=K)) (pv 0) qG) (qQ (pv 1) qX)))))),?_⟩
 wtm_at"z"
 exact⟨W.gt,gv,bx,ka,W.bs,rows,ss,rfl,A0.goal,ok.goal,ok.CH,A0.dj,ok.b6,ok.j7,iV,iB,x.fits,q⟩
def dN (d:Addr)(H H':Hp):Prop:=∀b o,b≠d->H b=some o->H' b=some o
def pB (H:Hp)(W:Wd)(p:Addr):Prop:=∃(bx dx lx:Addr) (bv gv:V),H p=some (.tup [.ref bx,.ref dx,.ref lx,bv,gv])/\qx H W bx dx lx bv gv
theorem pB.same {H H':Hp}{W:Wd}{p:Addr}(x:pB H W p)(s:aa H H'):pB H' W p:=let ⟨bx,dx,lx,bv,gv,e,a⟩:=x;⟨bx,dx,lx,bv,gv,s _ _ e,a.same s⟩
theorem _root_.L2.aJ.units3 {k:Nat}{A:Around}(r:aJ k A):A.units+3<cLine:=by have:=r.units;omega
theorem Oa {K:aq}{a:Addr}{xs:List V}{g:TG}{tb:TS}{D:Ends}{σ:St}{H:Hp}(Pv:Nat->St->Hp->Prop)(h0:Pv 0 σ H)(hl:∀i σ H,i<=xs.length->Pv i σ H->aS K H a xs)
  (hs:∀(N:St->Hp->Prop) (rt:VK) (bk:St->Hp->Prop) i x σ H,xs[i]? = some x->Pv i σ H->(∀σ H,Pv (i+1) σ H->N σ H)->g x σ H λσ2 H2=>tb ⟨N,rt,bk,N⟩ σ2 H2) (hd:∀σ H,Pv xs.length σ H->D.nx σ H):
  ∃W:Nat->Nat->St->Hp->Prop,(∃m,W 0 m σ H)/\∀i m σ H,W i m σ H->
   ((lF K a).stop i H/\D.nx σ H)\/((lF K a).go i H/\∃N:St->Hp->Prop,(∀σ' H',N σ' H'->∃m',m'<m/\W (i+1) m' σ' H')/\∀x H',(lF K a).lY i H x H'->g x σ H' λσ2 H2=>tb { D with nx:=N,ct:=N,bk:=D.nx } σ2 H2):=
 Qk Pv h0 hl (λi x σ H e p=>hs _ _ _ i x σ H e p λ_ _ z=>z) hd
abbrev Rw:=List (Int×Int)
def rk (r:Rw):fA:=r.map λp=>[Sum.inl p.1,Sum.inl p.2]
theorem HN:∀{r r':Rw},rk r=rk r'->r=r'
 | [],[],_=>rfl
 | [],_::_,h=>by cases h
 | _::_,[],h=>by cases h
 | (a,b)::r,(c,d)::r',h=>by
  have h':[(Sum.inl a:Key),Sum.inl b]::rk r=[(Sum.inl c:Key),Sum.inl d]::rk r':=h
  injection h' with h1 h2
  injection h1 with h3 h4
  injection h3 with h3
  injection h4 with h4
  injection h4 with h4
  rw[h3,h4,HN h2]
def bu:List Rw->List Addr->Nat->List (fA×Addr×V)
 | r::L,a::as,n=>(rk r,a,.int (n:Int))::bu L as (n+1)
 | _,_,_=>[]
theorem Ob:∀{L:List Rw} {as:List Addr} {n:Nat},L.length=as.length->(bu L as n).length=L.length
 | [],[],_,_=>rfl
 | _::L,_::as,n,h=>by
  show(bu L as (n+1)).length+1=L.length+1
  rw[Ob (Nat.succ.inj h)]
 | [],_::_,_,h=>by cases h
 | _::_,[],_,h=>by cases h
theorem Oc {r:Rw}{b:Addr}:∀{L:List Rw} {as:List Addr} {n:Nat},L.length=as.length->bu (L++[r]) (as++[b]) n=bu L as n++[(rk r,b,.int ((n+L.length:Nat):Int))]
 | [],[],n,_=>rfl
 | x::L,_::as,n,h=>by
  show _::bu (L++[r]) (as++[b]) (n+1)=_::(bu L as (n+1)++_)
  rw[Oc (Nat.succ.inj h),cP,show n+1+L.length=n+(L.length+1) by omega]
 | [],_::_,_,h=>by cases h
 | _::_,[],_,h=>by cases h
theorem Od {r:Rw}:∀{L:List Rw} {as:List Addr} {n:Nat},L.length=as.length->(r∉L->eV (bu L as n) (rk r)=none)/\(r∈L->∃i:Nat,L[i]? = some r/\eV (bu L as n) (rk r)=some (.int ((n+i:Nat):Int)))
 | [],[],n,_=>⟨λ_=>rfl,λh=>by cases h⟩
 | x::L,a::as,n,h=>by
  have ih:=Od (r:=r) (n:=n+1) (Nat.succ.inj h)
  have e:eV (bu (x::L) (a::as) n) (rk r)=if rk x=rk r then some (.int (n:Int)) else eV (bu L as (n+1)) (rk r):=by
   show Option.map _ (List.find? _ ((rk x,a,V.int (n:Int))::bu L as (n+1)))=_
   rw[List.find?_cons]
   by_cases c:rk x=rk r
   .rw[if_pos c];simp[c]
   .rw[if_neg c];simp[c];rfl
  rw[e]
  refine⟨λnm=>?_,λhm=>?_⟩
  .rw[if_neg (λz=>nm (by rw[HN z];exact aW))]
   exact ih.1 λz=>nm (yYH _ z)
  .by_cases c:x=r
   .exact⟨0,by rw[c];rfl,by rw[c,if_pos rfl];rfl⟩
   .have v9:r∈L:=(aE.mp hm).resolve_left λz=>c z.symm
    obtain⟨i,h1,h2⟩:=ih.2 v9
    exact⟨i+1,h1,by rw[if_neg (λz=>c (HN z)),h2,show n+1+i=n+(i+1) by omega]⟩
 | [],_::_,_,h=>by cases h
 | _::_,[],_,h=>by cases h
theorem wZ:∀{L:List Rw} {as:List Addr} {n:Nat} {H:Hp},Paired (λr b=>bQ H (rk r) b) L as->∀z∈bu L as n,bQ H z.1 z.2.1
 | _,_,n,H,.nil,z,hz=>by cases hz
 | _,_,n,H,.cons h t,z,hz=>by
  rcases aE.mp hz with rfl | hz
  .exact h
  .exact wZ t z hz
structure Nb (P:Program)(w:World)(H:Hp)(rl nd:Addr)(L:List Rw):Prop where
 ex:∃as:List Addr,H rl=some (.lst (as.map V.ref))/\H nd=some (nM P w nd (bu L as 0))/\Paired (λr b=>bQ H (rk r) b) L as
 nd:L.Nodup
def aw (a b:Addr)(H H':Hp):Prop:=∀c o,c≠a->c≠b->H c=some o->H' c=some o
theorem aw.refl (a b:Addr)(H:Hp):aw a b H H:=λ_ _ _ _ e=>e
theorem aw.trans {a b:Addr}{H H1 H2:Hp}(x:aw a b H H1)(y:aw a b H1 H2):aw a b H H2:=λc o h1 h2 e=>y c o h1 h2 (x c o h1 h2 e)
theorem aw.of {a b:Addr}{H H1:Hp}(x:aa H H1):aw a b H H1:=λc o _ _ e=>x c o e
theorem kW {H H':Hp}{k:fA}{b:Addr}(t:bD H H')(h:bQ H k b):bQ H' k b:=let ⟨ts,e,p⟩:=h;⟨ts,t _ _ e,Paired.mapP p λ_ _ q=>t _ _ q⟩
theorem Oe {P:Program}{w:World}{H:Hp}{rl nd:Addr}{L:List Rw}(x:Nb P w H rl nd L):rl≠nd:=λz=>by
 obtain⟨as,e1,e2,_⟩:=x.ex
 rw[z,e2] at e1
 cases e1
theorem Nb.same {P:Program}{w:World}{H H':Hp}{rl nd:Addr}{L:List Rw}(s:aa H H')(x:Nb P w H rl nd L):Nb P w H' rl nd L:=let ⟨as,e1,e2,p⟩:=x.ex;⟨⟨as,s _ _ e1,s _ _ e2,Paired.mapP p λ_ _ q=>kW (qD s) q⟩,x.nd⟩
theorem aw.tups {P:Program}{w:World}{H H':Hp}{rl nd:Addr}{L:List Rw}(x:Nb P w H rl nd L)(k:aw rl nd H H'):bD H H':=λc xs e=>by
 obtain⟨as,e1,e2,_⟩:=x.ex
 exact k c _ (λz=>by rw[z,e1] at e;cases e) (λz=>by rw[z,e2] at e;cases e) e
def jV:List Str:=["places","goal","deeds","looks","rows","numbers"]
theorem fU:Yb "places" ∈ jV/\Yb "goal" ∈ jV/\Yb "deeds" ∈ jV/\Yb "looks" ∈ jV/\Yb "rows" ∈ jV/\Yb "numbers" ∈ jV:=by wtm_at"d"
structure WC where
 x:Addr
 dx:Addr
 pd:Addr
 gl:Addr
 dl:Addr
 ll:Addr
 rl:Addr
 nd:Addr
abbrev WC.fs (c:WC):List (Str×V):=[(Yb "places",.ref c.pd),(Yb "goal",.ref c.gl),(Yb "deeds",.ref c.dl),(Yb "looks",.ref c.ll),(Yb "rows",.ref c.rl),(Yb "numbers",.ref c.nd)]
theorem jX:xI ["self","row","number"] ["self","row"] (xB (bp 31 2)):=by constructor <;> first | rfl | wtm_at"d"
def mM (P:Program)(w:World)(K:aq)(C:Addr):Sp:=λvs H Q _=>∃(c:WC) (b:Addr) (r:Rw) (L:List Rw),vs=[.ref c.x,.ref b]/\H c.x=some (.ins C c.dx c.fs)/\Kind K C jV/\Nb P w H c.rl c.nd L/\L.length<=5000/\bQ H (rk r) b/\
 ∀(i:Nat) (L':List Rw) (H':Hp),aw c.rl c.nd H H'->Nb P w H' c.rl c.nd L'->((L'=L/\L[i]? = some r)\/(L'=L++[r]/\i=L.length/\r∉L))->Q (.int (i:Int)) H'
theorem XY {C:Addr}(F:Md K C "number_of" "WeightedChart.number_of" (bp 31 2) ["self","row"])(B:Bl mg):Dm P w K mg base C "number_of" 1 ["self","row"] (mM P w K C):=by
 refine F.ok jX (λvs H Q E h=>?_) (λf zy A outer s H vs Q E hr h=>?_)
 .obtain⟨_,_,_,_,rfl,_⟩:=h
  rfl
 obtain⟨c,b,r,L,rfl,ex,kd,nb,l5,rb,q⟩:=h
 obtain⟨as,wm,gQ,pa⟩:=nb.ex
 have la:=pa.length
 have ln:=Ob (n:=0) la
 have gn:=Od (r:=r) (n:=0) la
 have Of:=Oe nb
 refine⟨_,(qZ (xG (i:=2) jX.nd rfl (Wh (P:=P) (w:=w) hr.units3 (jN (K:=K) (pv 0)) (pv 1) (xJ (zT (K:=K)) rfl B.dC kQ (qQ (jN (K:=K) (pv 0)) qX)) ⟨rfl,rfl,rfl,rfl⟩))
  (qZ (yV (qS l6 (pv 2) (xJ (zT (K:=K)) rfl B.dC kQ (qQ (jN (K:=K) (pv 0)) qX)) (xE _)) (qJ (qR (yR (K:=K) Yx Yy Yz zR (jN (K:=K) (pv 0)) (qQ (pv 1) qX)))) qY)
  (qJ (qP (pv 2))))),?_⟩
 wtm_at"z"
 refine yM rfl ex kd fU.2.2.2.2.2 rfl ?_
 refine⟨c.nd,rfl,⟨_,gQ,wZ pa⟩,?_⟩
 wtm_at"z"
 refine yM rfl ex kd fU.2.2.2.2.1 rfl ?_
 wtm_at"z"
 refine⟨b,rk r,bu L as 0,⟨rfl,rfl,gQ,wZ pa,rb⟩,small (by omega),λu gu=>?_,λgu=>?_⟩
 .have hm:r∈L:=Classical.byContradiction λz=>by rw[gn.1 z] at gu;cases gu
  obtain⟨i,hi,gi⟩:=gn.2 hm
  rw[gi,Nat.zero_add] at gu
  cases gu
  have il:=(aN.mp hi).1
  wtm_at"z"
  refine yM rfl ex kd fU.2.2.2.2.1 rfl ?_
  wtm_at"z"
  have ne:decide (V.int (i:Int)=V.int (((as.map V.ref).length:Nat):Int))=false:=decide_eq_false λz=>by
   have:=V.int.inj z
   rw[av] at this
   omega
  rw[ne]
  refine bO ?_
  wtm_at"z"
  exact q i L H (aw.refl _ _ _) nb (.inl ⟨rfl,hi⟩)
 .have hm:r∉L:=λz=>by
   obtain⟨i,_,gi⟩:=gn.2 z
   rw[gi] at gu
   cases gu
  rw[av]
  generalize eN:upd H c.nd _=H1
  have s1:∀b o,b≠c.nd->H b=some o->H1 b=some o:=λb o hb e=>by rw[<- eN,qB hb];exact e
  have HP:H1 c.nd=some (nM P w c.nd (bu L as 0++[(rk r,b,V.int (as.length:Int))])):=by rw[<- eN];exact qW
  have nx:c.x≠c.nd:=jC ex gQ (by intro z;cases z)
  have qt:=s1 _ _ nx ex
  have CN:=s1 _ _ Of wm
  dsimp only
  wtm_at"z"
  refine yM rfl qt kd fU.2.2.2.2.1 rfl ?_
  wtm_at"z"
  have ee:decide (V.int (as.length:Int)=V.int (((as.map V.ref).length:Nat):Int))=true:=decide_eq_true (by rw[av])
  rw[ee]
  refine bz ?_
  wtm_at"z"
  refine yM rfl qt kd fU.2.2.2.2.1 rfl ?_
  refine wF (aj.of CN) ?_
  wtm_at"z"
  refine kX CN (small (by rw[av];omega)) ?_
  wtm_at"z"
  generalize eM:upd H1 c.rl _=H2
  have s2:∀b o,b≠c.rl->H1 b=some o->H2 b=some o:=λb o hb e=>by rw[<- eM,qB hb];exact e
  have HQ:H2 c.rl=some (.lst ((as++[b]).map V.ref)):=by rw[<- eM,qW,cu];rfl
  have k2:aw c.rl c.nd H H2:=λa o h1 h2 e=>s2 _ _ h1 (s1 _ _ h2 e)
  have tp:=k2.tups nb
  rw[<- la]
  refine q L.length (L++[r]) H2 k2 ⟨⟨as++[b],HQ,?_,Paired.snoc (Paired.mapP pa λ_ _ z=>kW tp z) (kW tp rb)⟩,rh.mpr ⟨nb.nd,by simp,λx hx y hy e=>hm (by rw[<- bB.mp hy,<- e];exact hx)⟩⟩ (.inr ⟨rfl,rfl,hm⟩)
  rw[Oc la,Nat.zero_add,la]
  exact s2 _ _ Of.symm HP
def addW:List (Int×Int)->Int->Int->List (Int×Int)
 | [],k,v=>[(k,v)]
 | (a,x)::t,k,v=>if a=k then (a,x+v)::t else (a,x)::addW t k v
def toK (d:List (Int×Int)):List (Key×V):=d.map λp=>((Sum.inl p.1:Key),V.int p.2)
def eX (d:List (Int×Int))(k:Int):Int:=(d.lookup k).getD 0
theorem XZ (d:List (Int×Int))(k:Int):ai (toK d) (Sum.inl k)=(d.lookup k).map V.int:=by
 induction d with
 | nil=>rfl
 | cons p d ih=>
  obtain⟨a,x⟩:=p
  show ai (((Sum.inl a:Key),V.int x)::toK d) (Sum.inl k)=_
  rw[List.lookup_cons]
  by_cases c:a=k
  .rw[zN (by rw[c]),c,beq_self_eq_true];rfl
  .rw[zO (λz=>c (Sum.inl.inj z)),ih,show(k == a)=false from beq_eq_false_iff_ne.mpr (Ne.symm c)]
theorem X0 (d:List (Int×Int))(k:Int):((d.lookup k).map V.int).getD (V.int 0)=V.int (eX d k):=by
 unfold eX
 cases d.lookup k <;> rfl
theorem X2 (d:List (Int×Int))(nd:(d.map (·.1)).Nodup)(k v:Int):putK (toK d) (Sum.inl k) (.int (eX d k+v))=toK (addW d k v):=by
 have key:∀d:List (Int×Int),(d.map (·.1)).Nodup->((toK d).any λkv=>decide (kv.1=Sum.inl k))=decide (k∈d.map (·.1))/\(k∉d.map (·.1)->addW d k v=d++[(k,v)]/\d.lookup k=none)/\(k∈d.map (·.1)->toK (addW d k v)=(toK d).map λkv=>if kv.1=Sum.inl k then (kv.1,V.int (eX d k+v)) else kv):=by
  intro d
  induction d with
  | nil=>exact λ_=>⟨rfl,λ_=>⟨rfl,rfl⟩,λh=>by cases h⟩
  | cons p d ih=>
   obtain⟨a,x⟩:=p
   intro nd
   have bI:=List.nodup_cons.mp nd
   obtain⟨i1,i2,i3⟩:=ih bI.2
   refine⟨?_,λnm=>?_,λhm=>?_⟩
   .show(decide ((Sum.inl a:Key)=Sum.inl k) || (toK d).any _)=_
    rw[i1]
    by_cases c:a=k
    .rw[decide_eq_true (show(Sum.inl a:Key)=Sum.inl k by rw[c]),decide_eq_true (show k∈((a,x)::d).map (·.1) by rw[<- c];exact aW)];rfl
    .rw[decide_eq_false (λz=>c (Sum.inl.inj z)),Bool.false_or]
     exact decide_eq_decide.mpr ⟨yYH _,λz=>(aE.mp z).resolve_left (Ne.symm c)⟩
   .have ne:a≠k:=λz=>nm (by rw[<- z];exact aW)
    obtain⟨j1,j2⟩:=i2 λz=>nm (yYH _ z)
    refine⟨?_,?_⟩
    .show(if a=k then _ else (a,x)::addW d k v)=_
     rw[if_neg ne,j1];rfl
    .rw[List.lookup_cons,show(k == a)=false from beq_eq_false_iff_ne.mpr (Ne.symm ne)];exact j2
   .by_cases c:a=k
    .have g:eX ((a,x)::d) k=x:=by
      unfold eX
      rw[List.lookup_cons,c,beq_self_eq_true];rfl
     rw[g]
     show toK (if a=k then (a,x+v)::d else _)=(if (Sum.inl a:Key)=Sum.inl k then _ else _)::_
     rw[if_pos c,if_pos (by rw[c])]
     show(_::toK d)=_
     have nk:k∉d.map (·.1):=by rw[<- c];exact bI.1
     congr 1
     symm
     refine(List.map_congr_left (g:=id) λkv hk=>?_).trans (List.map_id _)
     obtain⟨q,hq,rfl⟩:=aZ.mp hk
     exact if_neg λz=>nk (aZ.mpr ⟨q,hq,Sum.inl.inj z⟩)
    .have g:eX ((a,x)::d) k=eX d k:=by
      unfold eX
      rw[List.lookup_cons,show(k == a)=false from beq_eq_false_iff_ne.mpr (Ne.symm c)]
     rw[g]
     show toK (if a=k then _ else (a,x)::addW d k v)=(if (Sum.inl a:Key)=Sum.inl k then _ else _)::_
     rw[if_neg c,if_neg (λz=>c (Sum.inl.inj z))]
     show _::toK (addW d k v)=_
     rw[i3 ((aE.mp hm).resolve_left (Ne.symm c))];rfl
 obtain⟨h1,h2,h3⟩:=key d nd
 unfold putK
 rw[h1]
 by_cases c:k∈d.map (·.1)
 .rw[if_pos (decide_eq_true c),h3 c]
 .rw[if_neg (by rw[decide_eq_false c];decide)]
  obtain⟨j1,j2⟩:=h2 c
  rw[j1]
  unfold eX toK
  rw[j2,cu]
  show _++[(_,V.int (0+v))]=_
  rw[Int.zero_add];rfl
theorem HR (d:List (Int×Int))(k v a:Int):a∈(addW d k v).map (·.1)↔a∈d.map (·.1)\/a=k:=by
 induction d with
 | nil=>simp[addW]
 | cons p d ih=>
  obtain⟨b,x⟩:=p
  show a∈(if b=k then (b,x+v)::d else (b,x)::addW d k v).map (·.1)↔_
  by_cases c:b=k
  .rw[if_pos c];simp;intro z;left;rw[z,c]
  .rw[if_neg c];simp only[Yl,aE,ih];constructor
   .rintro(h | h | h)
    .exact .inl (.inl h)
    .exact .inl (.inr h)
    .exact .inr h
   .rintro((h | h) | h)
    .exact .inl h
    .exact .inr (.inl h)
    .exact .inr (.inr h)
theorem X3 (d:List (Int×Int))(nd:(d.map (·.1)).Nodup)(k v:Int):((addW d k v).map (·.1)).Nodup:=by
 induction d with
 | nil=>simp[addW]
 | cons p d ih=>
  obtain⟨b,x⟩:=p
  have bI:=List.nodup_cons.mp nd
  show((if b=k then (b,x+v)::d else (b,x)::addW d k v).map (·.1)).Nodup
  by_cases c:b=k
  .rw[if_pos c];exact nd
  .rw[if_neg c,Yl]
   exact List.nodup_cons.mpr ⟨λz=>((HR d k v b).mp z).elim bI.1 c,ih bI.2⟩
theorem X4 (d:List (Int×Int))(k v:Int):(addW d k v).length<=d.length+1:=by
 induction d with
 | nil=>exact yZD _
 | cons p d ih=>
  obtain⟨b,x⟩:=p
  show(if b=k then (b,x+v)::d else (b,x)::addW d k v).length<=_
  by_cases c:b=k
  .rw[if_pos c];exact Nat.le_succ _
  .rw[if_neg c];exact Nat.succ_le_succ ih
def cp (T:List Int)(r:Rw):List (Int×Int):=r.foldl (λd p=>addW d (T.getD p.1.toNat 0) p.2) []
theorem Og (T:List Int)(r:Rw)(p:Int×Int):cp T (r++[p])=addW (cp T r) (T.getD p.1.toNat 0) p.2:=by unfold cp;rw[List.foldl_append];rfl
theorem Oh (T:List Int)(r:Rw):((cp T r).map (·.1)).Nodup:=by
 have:∀(r:Rw) (d:List (Int×Int)),(d.map (·.1)).Nodup->((r.foldl (λd p=>addW d (T.getD p.1.toNat 0) p.2) d).map (·.1)).Nodup:=by
  intro r
  induction r with
  | nil=>exact λd h=>h
  | cons p r ih=>exact λd h=>ih _ (X3 d h _ _)
 exact this r [] List.nodup_nil
theorem Oi (T:List Int)(r:Rw):(cp T r).length<=r.length:=by
 have:∀(r:Rw) (d:List (Int×Int)),(r.foldl (λd p=>addW d (T.getD p.1.toNat 0) p.2) d).length<=d.length+r.length:=by
  intro r
  induction r with
  | nil=>exact λd=>yZD _
  | cons p r ih=>
   intro d
   have h1:=ih (addW d (T.getD p.1.toNat 0) p.2)
   have h2:=X4 d (T.getD p.1.toNat 0) p.2
   rw[List.foldl_cons,cP];omega
 have:=this r []
 rw[gW,Nat.zero_add] at this
 exact this
structure Mv (T:List Int)(r r':Rw):Prop where
 pm:r'.Perm (cp T r)
 up:(r'.map (·.1)).Pairwise (·<·)
theorem vW:xI ["row","targets","weights","place","weight","target"] ["row","targets"] (xB (top 32)):=by constructor <;> first | rfl | wtm_at"d"
def Oj:Sp:=λvs H Q _=>∃(b ta:Addr) (r:Rw) (T:List Int),vs=[.ref b,.ref ta]/\bQ H (rk r) b/\H ta=some (.lst (ae T))/\r≠[]/\r.length<=60/\(∀p∈r,0<=p.1/\p.1.toNat<T.length)/\
 ∀(b':Addr) (r':Rw) (H':Hp),aa H H'->bQ H' (rk r') b'->Mv T r r'->Q (.ref b') H'
def P2 (H:Hp)(p:Int×Int)(t:Addr):Prop:=H t=some (.tup [.int p.1,.int p.2])
theorem wM {H:Hp}{r:Rw}{b:Addr}(h:bQ H (rk r) b):∃ts:List Addr,H b=some (.tup (ts.map V.ref))/\Paired (P2 H) r ts:=by
 obtain⟨ts,e,p⟩:=h
 refine⟨ts,e,?_⟩
 clear e
 induction r generalizing ts with
 | nil=>cases p;exact .nil
 | cons q r ih=>
  cases p with
  | cons h t=>exact .cons h (ih _ t)
theorem Ol {H:Hp}{r:Rw}{us:List V}(p:Paired (dM H) (r.map λp=>(p.1,V.int p.2)) us):∃ts:List Addr,us=ts.map V.ref/\Paired (λks t=>H t=some (.tup (ks.map kV))) (rk r) ts:=by
 induction r generalizing us with
 | nil=>cases p;exact⟨[],rfl,.nil⟩
 | cons q r ih=>
  cases p with
  | cons h t=>
   obtain⟨a,rfl,ea⟩:=h
   obtain⟨ts,rfl,pt⟩:=ih t
   exact⟨a::ts,rfl,.cons ea pt⟩
theorem X5 (F:Fd K mg "moved" (top 32) ["row","targets"])(B:Bl mg)(jk:mg "sorted" = none):Dn P w K mg base "moved" 1 ["row","targets"] Oj:=by
 refine F.ok vW (λvs H Q E h=>?_) (λf zy A outer s H vs Q E hr h=>?_)
 .obtain⟨_,_,_,_,rfl,_⟩:=h
  rfl
 obtain⟨b,ta,r,T,rfl,rb,eta,X6,j8,X7,q⟩:=h
 obtain⟨ts,eb,pt⟩:=wM rb
 have lt:=pt.length
 have hu:=nJ hr
 refine⟨_,(qZ (xG (i:=2) vW.nd rfl vD)
  (qZ (jE PassesOwn.never rfl (BU (K:=K) (pv 0)) (zI (K:=K) (n:=2) rfl (qM (qI (i:=3) vW.nd rfl (by wtm_at "zo")) (qM (qI (i:=4) vW.nd rfl (by wtm_at "zo")) qN))) (qZ (xG (i:=5) vW.nd rfl (xN (qU (K:=K)) (pv 1) (pv 3)))
  (qJ (Ec hu (pv 2) (pv 5) (xX vF (Rl hu (pv 2) (pv 5) qG ⟨rfl,rfl,rfl,rfl⟩) (pv 4)) rfl))))
  (qJ (qP (xZ (kA (K:=K)) rfl B.tuple' wN (qQ (xJ (Ws rfl) rfl jk Gk (qQ (Sh (K:=K) PySem.F.plainAttrs_dict PySem.F.slot_dict_items PySem.F.type_dict_items Ur (pv 2)) qX)) qX)))))),?_⟩
 wtm_at"z"
 intro d hd
 generalize eQ:upd H d _=H1
 obtain⟨Sd,ed⟩:=laid hd eQ
 wtm_at "zf"
 refine BY (aS.of (Sd _ _ eb)) ?_
 refine Oa (xs:=ts.map V.ref) (λi σ' H'=>∃z3 z4 z5:Option V,σ'=[some (.ref b),some (.ref ta),some (.ref d),z3,z4,z5]/\aa H H'/\H' d=some (.dK (toK (cp T (r.take i))))) ⟨none,none,none,rfl,Sd,ed⟩ (λi σ' H' _ hP=>?_) ?_ ?_
 .obtain⟨_,_,_,rfl,S',_⟩:=hP
  exact aS.of (S' _ _ eb)
 .rintro N rt bk i u σ' H' eu ⟨z3,z4,z5,rfl,S',iC⟩ hN
  rw[bb] at eu
  obtain⟨t,et,rfl⟩:=YJ.mp eu
  obtain⟨p,ep⟩:∃p,r[i]? = some p:=⟨_,aH (by rw[lt];exact(aN.mp et).1)⟩
  have CO:H' t=some (.tup [.int p.1,.int p.2]):=S' _ _ (show P2 H p t from xV pt ep et)
  have pm:=bw ep
  obtain⟨p0,pl⟩:=X7 p pm
  have ix:gA (ae T) p.1=some (.int (T.getD p.1.toNat 0)):=by
   rw[show p.1=((p.1.toNat:Nat):Int) by omega]
   refine kC ?_
   unfold ae
   rw[bb,aH pl,Yh,show((p.1.toNat:Nat):Int).toNat=p.1.toNat by omega,aH pl]
   rfl
  have X8:=S' _ _ eta
  wtm_at"z"
  refine⟨_,rfl,d,rfl,.inl ⟨_,.inl iC⟩,?_⟩
  wtm_at"z"
  refine⟨_,cm.k (k:=Sum.inl (T.getD p.1.toNat 0)) iC,?_⟩
  rw[XZ,X0]
  dsimp only
  wtm_at"z"
  have la:=Oi T (r.take i)
  rw[cJ] at la
  refine⟨d,_,rfl,fK.k (k:=Sum.inl (T.getD p.1.toNat 0)) iC (small (by unfold toK;rw[av];omega)),?_⟩
  rw[X2 _ (Oh T _)]
  refine hN _ _ ⟨_,_,_,rfl,S'.set hd,?_⟩
  rw[qW,c5,ep]
  show _=some (HO.dK (toK (cp T (r.take i++[p]))))
  rw[Og]
 .rintro σ' H' ⟨z3,z4,z5,rfl,S',iC⟩
  rw[av,<- lt,dm] at iC
  have la:=Oi T r
  have nz:cp T r≠[]:=λz=>by
   have:∀(r:Rw),r≠[]->cp T r≠[]:=λr h=>by
    obtain⟨r0,p,rfl⟩:∃r0 p,r=r0++[p]:=⟨_,_,(List.dropLast_concat_getLast h).symm⟩
    rw[Og]
    intro z
    have:=(HR (cp T r0) (T.getD p.1.toNat 0) p.2 (T.getD p.1.toNat 0)).mpr (.inr rfl)
    rw[z] at this
    cases this
   exact this r X6 z
  dsimp only
  wtm_at"z"
  refine⟨.inr (.inr (.inl ⟨rfl,.inl ⟨_,iC⟩⟩)),d,_,rfl,rfl,iC,λv hv=>?_⟩
  generalize eQ:upd H' v _=H2
  obtain⟨Sv,ev⟩:=laid hv eQ
  wtm_at"z"
  refine⟨v,d,(cp T r).map λp=>(p.1,V.int p.2),rfl,ev,?_,λz=>nz (List.map_eq_nil_iff.mp z),by rw[av];omega,λl qs us H3 hl S3 el pq pm so=>?_⟩
  .rw[Yn];exact Sv _ _ iC
  wtm_at"z"
  refine⟨l,us,rfl,aj.of el,λt ht=>?_⟩
  generalize eQ:upd H3 t _=H4
  obtain⟨St,et⟩:=laid ht eQ
  obtain⟨r',pr,rfl⟩:=jB pm
  have S4:=S'.trans (Sv.trans (S3.trans St))
  refine q t r' H4 S4 ?_ ⟨pr,?_⟩
  .obtain⟨GG,rfl,HS⟩:=Ol pq
   exact⟨GG,et,Paired.mapP HS λ_ _ z=>St _ _ z⟩
  .rw[Yn] at so
   have nd:=(pr.map (·.1)).nodup_iff.mpr (Oh T r)
   exact List.Pairwise.imp₂ (λ_ _ h1 h2=>by omega) so nd
section
variable {β:Type}
def eG:List (Int×Addr×List β)->Int->Addr->β->List (Int×Addr×List β)
 | [],k,a,x=>[(k,a,[x])]
 | e::t,k,a,x=>if e.1=k then (e.1,e.2.1,e.2.2++[x])::t else e::eG t k a x
def bA:List (Int×List β)->Int->β->List (Int×List β)
 | [],k,x=>[(k,[x])]
 | e::t,k,x=>if e.1=k then (e.1,e.2++[x])::t else e::bA t k x
theorem X9 (g:List (Int×Addr×List β))(k:Int)(a:Addr)(x:β):(eG g k a x).map (λe=>(e.1,e.2.2))=bA (g.map λe=>(e.1,e.2.2)) k x:=by
 induction g with
 | nil=>rfl
 | cons e t ih=>
  show(if e.1=k then _ else _:List (Int×Addr×List β)).map _=(if e.1=k then _ else _:List (Int×List β))
  by_cases c:e.1=k
  .rw[if_pos c,if_pos c];rfl
  .rw[if_neg c,if_neg c,Yl,ih]
theorem Om (g:List (Int×List β))(k:Int)(x:β)(j:Int):j∈(bA g k x).map (·.1)↔j∈g.map (·.1)\/j=k:=by
 induction g with
 | nil=>simp[bA]
 | cons e t ih=>
  show j∈(if e.1=k then _ else _:List (Int×List β)).map (·.1)↔_
  by_cases c:e.1=k
  .rw[if_pos c,Yl,Yl,aE]
   exact⟨.inl,λh=>h.elim id λz=>.inl (by rw[z,c])⟩
  .rw[if_neg c,Yl,Yl,aE,aE,ih,or_assoc]
theorem Oo (g:List (Int×List β))(nd:(g.map (·.1)).Nodup)(k:Int)(x:β):((bA g k x).map (·.1)).Nodup:=by
 induction g with
 | nil=>simp[bA]
 | cons e t ih=>
  have bI:=List.nodup_cons.mp nd
  show((if e.1=k then _ else _:List (Int×List β)).map (·.1)).Nodup
  by_cases c:e.1=k
  .rw[if_pos c];exact nd
  .rw[if_neg c,Yl]
   exact List.nodup_cons.mpr ⟨λz=>((Om t k x e.1).mp z).elim bI.1 c,ih bI.2⟩
theorem YL (g:List (Int×List β))(k:Int)(x:β):(bA g k x).length<=g.length+1:=by
 induction g with
 | nil=>exact yZD _
 | cons e t ih=>
  show(if e.1=k then _ else _:List (Int×List β)).length<=_
  by_cases c:e.1=k
  .rw[if_pos c];exact Nat.le_succ _
  .rw[if_neg c];exact Nat.succ_le_succ ih
def iD (f:β->Int)(l:List β):List (Int×List β):=l.foldl (λg x=>bA g (f x) x) []
theorem YM (f:β->Int)(l:List β)(x:β):iD f (l++[x])=bA (iD f l) (f x) x:=by unfold iD;rw[List.foldl_append];rfl
theorem YN (f:β->Int)(l:List β):((iD f l).map (·.1)).Nodup:=by
 have:∀(l:List β) (g:List (Int×List β)),(g.map (·.1)).Nodup->((l.foldl (λg x=>bA g (f x) x) g).map (·.1)).Nodup:=by
  intro l
  induction l with
  | nil=>exact λg h=>h
  | cons x l ih=>exact λg h=>ih _ (Oo g h _ _)
 exact this l [] List.nodup_nil
theorem HU (f:β->Int)(l:List β):(iD f l).length<=l.length:=by
 have:∀(l:List β) (g:List (Int×List β)),(l.foldl (λg x=>bA g (f x) x) g).length<=g.length+l.length:=by
  intro l
  induction l with
  | nil=>exact λg=>yZD _
  | cons x l ih=>
   intro g
   have h1:=ih (bA g (f x) x)
   have h2:=YL g (f x) x
   rw[List.foldl_cons,cP];omega
 have:=this l []
 rw[gW,Nat.zero_add] at this
 exact this
theorem YO (f:β->Int)(l:List β):∀e∈iD f l,e.2.length<=l.length:=by
 have one:∀(g:List (Int×List β)) (n:Nat) (k:Int) (x:β),(∀e∈g,e.2.length<=n)->∀e∈bA g k x,e.2.length<=n+1:=by
  intro g
  induction g with
  | nil=>intro n k x _ e he;rw[bB.mp he];exact Nat.le_add_left 1 n
  | cons a t ih=>
   intro n k x h e he
   have he:e∈(if a.1=k then _ else _:List (Int×List β)):=he
   by_cases c:a.1=k
   .rw[if_pos c] at he
    rcases aE.mp he with rfl | he
    .show(a.2++[x]).length<=n+1
     rw[bK]
     exact Nat.succ_le_succ (h a aW)
    .exact Nat.le_succ_of_le (h e (yYH _ he))
   .rw[if_neg c] at he
    rcases aE.mp he with rfl | he
    .exact Nat.le_succ_of_le (h e aW)
    .exact ih n k x (λe he=>h e (yYH _ he)) e he
 have all:∀(l:List β) (g:List (Int×List β)) (n:Nat),(∀e∈g,e.2.length<=n)->∀e∈l.foldl (λg x=>bA g (f x) x) g,e.2.length<=n+l.length:=by
  intro l
  induction l with
  | nil=>exact λg n h=>h
  | cons x l ih=>
   intro g n h e he
   have:=ih _ (n+1) (one g n (f x) x h) e he
   rw[cP];omega
 intro e he
 have:=all l [] 0 (λe he=>nomatch he) e he
 omega
theorem YQ (f:β->Int)(l:List β):∀e∈iD f l,∀x∈e.2,x∈l:=by
 have one:∀(g:List (Int×List β)) (k:Int) (x:β) (e:Int×List β),e∈bA g k x->∀y∈e.2,y=x\/∃e'∈g,y∈e'.2:=by
  intro g
  induction g with
  | nil=>
   intro k x e he y hy
   rw[bB.mp he] at hy
   exact .inl (bB.mp hy)
  | cons a t ih=>
   intro k x e he y hy
   have he:e∈(if a.1=k then _ else _:List (Int×List β)):=he
   by_cases c:a.1=k
   .rw[if_pos c] at he
    rcases aE.mp he with rfl | he
    .rcases fh.mp (show y∈a.2++[x] from hy) with h | h
     .exact .inr ⟨a,aW,h⟩
     .exact .inl (bB.mp h)
    .exact .inr ⟨e,yYH _ he,hy⟩
   .rw[if_neg c] at he
    rcases aE.mp he with rfl | he
    .exact .inr ⟨e,aW,hy⟩
    .exact(ih k x e he y hy).imp id λ⟨e',h1,h2⟩=>⟨e',yYH _ h1,h2⟩
 have all:∀(l:List β) (g:List (Int×List β)),∀e∈l.foldl (λg x=>bA g (f x) x) g,∀y∈e.2,y∈l\/∃e'∈g,y∈e'.2:=by
  intro l
  induction l with
  | nil=>exact λg e he y hy=>.inr ⟨e,he,hy⟩
  | cons x l ih=>
   intro g e he y hy
   rcases ih _ e he y hy with h | ⟨e',h1,h2⟩
   .exact .inl (yYH _ h)
   .rcases one g (f x) x e' h1 y h2 with h | h
    .exact .inl (by rw[h];exact aW)
    .exact .inr h
 intro e he y hy
 rcases all l [] e he y hy with h | ⟨e',h,_⟩
 .exact h
 .cases h
theorem YR {γ:Type}(h:β->γ)(g:List (Int×List β))(k:Int)(x:β):(bA g k x).map (λe=>(e.1,e.2.map h))=bA (g.map λe=>(e.1,e.2.map h)) k (h x):=by
 induction g with
 | nil=>rfl
 | cons e t ih=>
  show(if e.1=k then _ else _:List (Int×List β)).map _=(if e.1=k then _ else _:List (Int×List γ))
  by_cases c:e.1=k
  .rw[if_pos c,if_pos c,Yl,cu];rfl
  .rw[if_neg c,if_neg c,Yl,ih]
theorem Oq {γ:Type}(h:β->γ)(f:γ->Int)(l:List β):(iD (λx=>f (h x)) l).map (λe=>(e.1,e.2.map h))=iD f (l.map h):=by
 have:∀(l:List β) (g:List (Int×List β)),(l.foldl (λg x=>bA g (f (h x)) x) g).map (λe=>(e.1,e.2.map h))=(l.map h).foldl (λg x=>bA g (f x) x) (g.map λe=>(e.1,e.2.map h)):=by
  intro l
  induction l with
  | nil=>exact λg=>rfl
  | cons x l ih=>
   intro g
   rw[List.foldl_cons,Yl,List.foldl_cons,ih,YR]
 exact this l []
end
abbrev Gp:=List (Int×Addr×List ((Int×Int)×Addr))
def gK (g:Gp):List (Key×V):=g.map λe=>((Sum.inl e.1:Key),V.ref e.2.1)
structure YS (H0 H:Hp)(d:Addr)(g:Gp):Prop where
 kd:(g.map (·.1)).Nodup
 ad:(g.map λe=>e.2.1).Nodup
 at':∀e∈g,H e.2.1=some (.lst (e.2.2.map λx=>V.ref x.2))/\H0 e.2.1=none/\e.2.1≠d
theorem Ot (g:Gp)(k:Int):ai (gK g) (Sum.inl k)=((g.find? λe=>decide (e.1=k)).map λe=>V.ref e.2.1):=by
 induction g with
 | nil=>rfl
 | cons e g ih=>
  show ai (((Sum.inl e.1:Key),V.ref e.2.1)::gK g) (Sum.inl k)=_
  rw[List.find?_cons]
  by_cases c:e.1=k
  .rw[zN (by rw[c]),decide_eq_true c];rfl
  .rw[zO (λz=>c (Sum.inl.inj z)),ih,decide_eq_false c]
theorem YT {g:Gp}{k:Int}{e:Int×Addr×List ((Int×Int)×Addr)}(a:Addr)(x:(Int×Int)×Addr)(nd:(g.map (·.1)).Nodup)(h:(g.find? λe=>decide (e.1=k))=some e):
  e∈g/\e.1=k/\gK (eG g k a x)=gK g/\(eG g k a x).map (λe=>e.2.1)=g.map (λe=>e.2.1)/\∀f∈eG g k a x,(f=(e.1,e.2.1,e.2.2++[x]))\/(f∈g/\f.1≠k):=by
 induction g with
 | nil=>cases h
 | cons f g ih=>
  have bI:=List.nodup_cons.mp nd
  rw[List.find?_cons] at h
  show _/\_/\gK (if f.1=k then _ else _)=_/\(if f.1=k then _ else _:Gp).map (λe=>e.2.1)=_/\∀f'∈(if f.1=k then _ else _:Gp),_
  by_cases c:f.1=k
  .rw[decide_eq_true c] at h
   cases h
   rw[if_pos c]
   refine⟨aW,c,rfl,rfl,λf' hf=>?_⟩
   rcases aE.mp hf with z | z
   .exact .inl z
   .exact .inr ⟨yYH _ z,λy=>bI.1 (aZ.mpr ⟨f',z,by show f'.1=_;rw[y];exact c.symm⟩)⟩
  .rw[decide_eq_false c] at h
   obtain⟨h1,h2,h3,h5,h4⟩:=ih bI.2 h
   rw[if_neg c]
   refine⟨yYH _ h1,h2,by show _::gK (eG g k a x)=_;rw[h3];rfl,by rw[Yl,Yl,h5],λf' hf=>?_⟩
   rcases aE.mp hf with z | z
   .exact .inr ⟨by rw[z];exact aW,by rw[z];exact c⟩
   .exact(h4 f' z).imp id λ⟨y1,y2⟩=>⟨yYH _ y1,y2⟩
theorem YU {g:Gp}{k:Int}(a:Addr)(x:(Int×Int)×Addr)(h:(g.find? λe=>decide (e.1=k))=none):eG g k a x=g++[(k,a,[x])]/\k∉g.map (·.1):=by
 have no:∀e∈g,e.1≠k:=λe he z=>absurd (List.find?_eq_none.mp h e he) (by simp[z])
 clear h
 induction g with
 | nil=>exact⟨rfl,λz=>by cases z⟩
 | cons f g ih=>
  obtain⟨h1,h2⟩:=ih λe he=>no e (yYH _ he)
  have c:=no f aW
  refine⟨?_,λz=>?_⟩
  .show(if f.1=k then _ else _:Gp)=_
   rw[if_neg c,h1];rfl
  .rcases aE.mp z with z | z
   .exact c z.symm
   .exact h2 z
theorem vB {kvs:List (Key×V)}{k:Key}{v:V}(h:ai kvs k=none):putK kvs k v=kvs++[(k,v)]:=by
 unfold putK
 rw[if_neg]
 intro z
 obtain⟨kv,h1,h2⟩:=List.any_eq_true.mp z
 unfold ai at h
 have:=List.find?_eq_none.mp (Option.map_eq_none_iff.mp h) kv h1
 exact this h2
theorem HV:xI ["row","shows","shares","placed"] ["row","shows"] (xB (top 33)):=by constructor <;> first | rfl | wtm_at"d"
theorem wY:aA (xB (top 33)) ["row","shows","shares","placed"] (bP (xC (top 33)) [2] [1]) ["worth","share"] 2 []:=
 by constructor <;> wtm_at"d"
def HW (H:Hp)(g:Int×Rw)(u:V):Prop:=∃a b,u=.ref a/\H a=some (.tup [.int g.1,.ref b])/\bQ H (rk g.2) b
def pC (S:List Int)(r:Rw):List (Int×Rw):=iD (λp:Int×Int=>S.getD p.1.toNat 0) r
structure Pt (S:List Int)(r:Rw)(gs:List (Int×Rw)):Prop where
 pm:gs.Perm (pC S r)
 up:(gs.map (·.1)).Pairwise (·<·)
def Ou:Sp:=λvs H Q _=>∃(b sa:Addr) (r:Rw) (S:List Int),vs=[.ref b,.ref sa]/\bQ H (rk r) b/\H sa=some (.lst (ae S))/\r.length<=60/\(∀p∈r,0<=p.1/\p.1.toNat<S.length)/\
 ∀(l:Addr) (us:List V) (gs:List (Int×Rw)) (H':Hp),H l=none->aa H H'->H' l=some (.lst us)->Paired (HW H') gs us->Pt S r gs->Q (.ref l) H'
def CP (H:Hp)(e:Int×Addr×List ((Int×Int)×Addr))(u:V):Prop:=∃a b,u=.ref a/\H a=some (.tup [.int e.1,.ref b])/\H b=some (.tup (e.2.2.map λx=>V.ref x.2))
theorem YV {H:Hp}{g:Gp}{ys:List V}(p:Paired (CP H) g ys):∃ws:List ((Int×Addr×List ((Int×Int)×Addr))×Addr×V),ws.map (·.1)=g/\ws.map (λx=>x.2.2)=ys/\∀x∈ws,∃a,x.2.2=.ref a/\H a=some (.tup [.int x.1.1,.ref x.2.1])/\H x.2.1=some (.tup (x.1.2.2.map λy=>V.ref y.2)):=by
 induction p with
 | nil=>exact⟨[],rfl,rfl,λx hx=>nomatch hx⟩
 | @cons e u g ys h t ih=>
  obtain⟨ws,h1,h2,h3⟩:=ih
  obtain⟨a,b,e1,e2,e3⟩:=h
  refine⟨(e,b,u)::ws,by rw[Yl,h1],by rw[Yl,h2],λx hx=>?_⟩
  rcases aE.mp hx with rfl | hx
  .exact⟨a,e1,e2,e3⟩
  .exact h3 x hx
theorem YW (F:Fd K mg "parted" (top 33) ["row","shows"])(B:Bl mg)(jk:mg "sorted" = none):Dn P w K mg base "parted" 1 ["row","shows"] Ou:=by
 refine F.ok HV (λvs H Q E h=>?_) (λf zy A outer s H vs Q E hr h=>?_)
 .obtain⟨_,_,_,_,rfl,_⟩:=h
  rfl
 obtain⟨b,sa,r,S,rfl,rb,EE,j8,YX,q⟩:=h
 obtain⟨ts,eb,pt⟩:=wM rb
 have lt:=pt.length
 have hu:=nJ hr
 let z:=r.zip ts
 let kf:(Int×Int)×Addr->Int:=λx=>S.getD x.1.1.toNat 0
 have lz:z.length=ts.length:=by show(r.zip ts).length=_;rw[List.length_zip];omega
 refine⟨_,(qZ (xG (i:=2) HV.nd rfl vD)
  (qZ (jE PassesOwn.never rfl (BU (K:=K) (pv 0)) (qI (i:=3) HV.nd rfl (by wtm_at "zo")) (qJ (qR (yR (K:=K) Yx Yy Yz zR (yR (K:=K) PySem.F.plainAttrs_dict PySem.F.slot_dict_setdefault PySem.F.type_dict_setdefault Uq (pv 2) (qQ (xN (qU (K:=K)) (pv 1) (xN (qT (K:=K)) (pv 3) qG)) (qQ (zE qX) qX))) (qQ (pv 3) qX)))))
  (qJ (qP (xJ (Wy (K:=K)) rfl jk Gk (qQ (jZ rfl wY (Nq (Nn (pv 2))) (λcl fp s H=>(zI (K:=K) (n:=2) rfl (qM (qI (i:=0) wY.nd rfl (Or.inl rfl) (.inr rfl)) (qM (qI (i:=1) wY.nd rfl (Or.inl rfl) (.inr rfl)) qN)))) (λcl fp s H=>zH) (λcl fp s H=>(xR (qQ (pv 0) (qQ (xZ (kA (K:=K)) rfl B.tuple' wN (qQ (pv 1) qX)) qX))))) qX)))))),?_⟩
 wtm_at"z"
 intro d hd
 generalize eQ:upd H d _=H1
 obtain⟨Sd,ed⟩:=laid hd eQ
 wtm_at "zf"
 refine BY (aS.of (Sd _ _ eb)) ?_
 refine Oa (xs:=ts.map V.ref) (λi σ' H'=>∃(z3:Option V) (g:Gp),σ'=[some (.ref b),some (.ref sa),some (.ref d),z3]/\aa H H'/\H' d=some (.dK (gK g))/\YS H H' d g/\g.map (λe=>(e.1,e.2.2))=iD kf (z.take i)) ⟨none,[],rfl,Sd,ed,⟨List.nodup_nil,List.nodup_nil,λe he=>nomatch he⟩,rfl⟩ (λi σ' H' _ hP=>?_) ?_ ?_
 .obtain⟨_,_,rfl,S',_⟩:=hP
  exact aS.of (S' _ _ eb)
 .rintro N rt bk i u σ' H' eu ⟨z3,g,rfl,S',iC,ga,eg⟩ hN
  rw[bb] at eu
  obtain⟨t,et,rfl⟩:=YJ.mp eu
  obtain⟨p,ep⟩:∃p,r[i]? = some p:=⟨_,aH (by rw[lt];exact(aN.mp et).1)⟩
  have CO:H' t=some (.tup [.int p.1,.int p.2]):=S' _ _ (show P2 H p t from xV pt ep et)
  have ez:z[i]? = some (p,t):=List.getElem?_zip_eq_some.mpr ⟨ep,et⟩
  obtain⟨p0,pl⟩:=YX p (bw ep)
  have ix:gA (ae S) p.1=some (.int (S.getD p.1.toNat 0)):=by
   rw[show p.1=((p.1.toNat:Nat):Int) by omega]
   refine kC ?_
   unfold ae
   rw[bb,aH pl,Yh,show((p.1.toNat:Nat):Int).toNat=p.1.toNat by omega,aH pl]
   rfl
  have YY:=S' _ _ EE
  have lg:g.length<=60:=by
   have h1:=congrArg List.length eg
   have h2:=HU kf (z.take i)
   rw[av] at h1
   rw[cJ] at h2
   omega
  wtm_at"z"
  refine⟨.inr (.inr (.inl ⟨rfl,.inl ⟨_,iC⟩⟩)),?_⟩
  wtm_at"z"
  refine⟨pj,λa ha=>?_⟩
  generalize eQ:upd H' a _=H2
  obtain⟨Sa,ea⟩:=laid ha eQ
  have qz:=Sa _ _ iC
  have S2:=S'.trans Sa
  have HZ:(eG g (S.getD p.1.toNat 0) a (p,t)).map (λe=>(e.1,e.2.2))=iD kf (z.take (i+1)):=by
   rw[X9,eg,c5,ez]
   exact(YM kf (z.take i) (p,t)).symm
  have Ov:((eG g (S.getD p.1.toNat 0) a (p,t)).map (·.1)).Nodup:=by
   have h1:=YN kf (z.take (i+1))
   rw[<- HZ,Yn] at h1
   exact h1
  refine⟨d,gK g,Sum.inl (S.getD p.1.toNat 0),.ref a,rfl,rfl,qz,small (by unfold gK;rw[av];omega),λv hv=>?_,λhv=>?_⟩
  .rw[Ot] at hv
   obtain⟨e,fe,rfl⟩:=YJ.mp hv
   obtain⟨he,hk,hK,hA,hall⟩:=YT a (p,t) ga.kd fe
   obtain⟨ee,fr,nd⟩:=ga.at' e he
   have Ow:=Sa _ _ ee
   have el2:e.2.2.length<=100:=by
    have h1:=YO kf (z.take i) (e.1,e.2.2) (by rw[<- eg];exact aZ.mpr ⟨e,he,rfl⟩)
    rw[cJ] at h1
    have h1:e.2.2.length<=_:=h1
    omega
   refine wF (aj.of Ow) ?_
   wtm_at"z"
   refine kX Ow (small (by rw[av];omega)) ?_
   refine hN _ _ ⟨_,eG g (S.getD p.1.toNat 0) a (p,t),rfl,S2.set fr,?_,⟨Ov,by rw[hA];exact ga.ad,λf hf=>?_⟩,HZ⟩
   .rw[qB (Ne.symm nd),hK];exact qz
   .rcases hall f hf with rfl | ⟨hf,nk⟩
    .refine⟨?_,fr,nd⟩
     rw[qW,cu];rfl
    .obtain⟨f1,f2,f3⟩:=ga.at' f hf
     have ne:f.2.1≠e.2.1:=λy=>nk (by rw[SI.cI (f:=λe:Int×Addr×List ((Int×Int)×Addr)=>e.2.1) ga.ad hf he y];exact hk)
     exact⟨by rw[qB ne];exact Sa _ _ f1,f2,f3⟩
  .have fn:(g.find? λe=>decide (e.1=S.getD p.1.toNat 0))=none:=by
    rw[Ot] at hv
    exact Option.map_eq_none_iff.mp hv
   obtain⟨hL,hk⟩:=YU a (p,t) fn
   have Ia:a≠d:=λy=>by rw[y,iC] at ha;cases ha
   rw[vB hv]
   generalize eQ:upd H2 d _=H3
   have s3:∀c o,c≠d->H2 c=some o->H3 c=some o:=λc o hc e=>by rw[<- eQ,qB hc];exact e
   have wo:H3 d=some (.dK (gK g++[(Sum.inl (S.getD p.1.toNat 0),V.ref a)])):=by rw[<- eQ];exact qW
   have S3:aa H H3:=λc o e=>s3 c o (qC e hd) (S2 _ _ e)
   have Ox:=s3 _ _ Ia ea
   have fa:H a=none:=S'.free ha
   refine wF (aj.of Ox) ?_
   wtm_at"z"
   refine kX Ox (by decide) ?_
   refine hN _ _ ⟨_,eG g (S.getD p.1.toNat 0) a (p,t),rfl,S3.set fa,?_,⟨Ov,?_,λf hf=>?_⟩,HZ⟩
   .rw[qB (Ne.symm Ia),wo,hL]
    unfold gK
    rw[cu];rfl
   .rw[hL,cu]
    refine rh.mpr ⟨ga.ad,by simp,λx hx y hy e=>?_⟩
    obtain⟨f,hf,rfl⟩:=aZ.mp hx
    have ya:y=a:=by simpa using hy
    have h1:=(ga.at' f hf).1
    rw[show f.2.1=a from(show f.2.1=y from e).trans ya,ha] at h1
    cases h1
   .rw[hL] at hf
    rcases fh.mp hf with hf | hf
    .obtain⟨f1,f2,f3⟩:=ga.at' f hf
     have ne:f.2.1≠a:=λy=>by rw[y,ha] at f1;cases f1
     exact⟨by rw[qB ne];exact s3 _ _ f3 (Sa _ _ f1),f2,f3⟩
    .rw[bB.mp hf]
     exact⟨by rw[qW];rfl,fa,Ia⟩
 .rintro σ' H' ⟨z3,g,rfl,S',iC,ga,eg⟩
  rw[av,<- lz,dm] at eg
  have lg:g.length<=60:=by
   have h1:=congrArg List.length eg
   have h2:=HU kf z
   rw[av] at h1
   omega
  dsimp only
  wtm_at "zf"
  refine⟨_,rfl,d,gK g,rfl,rfl,.inl iC,λv hv=>?_⟩
  generalize eQ:upd H' v _=H2
  obtain⟨Sv,ev⟩:=laid hv eQ
  refine⟨v,d,gK g,rfl,ev,.inl ⟨Sv _ _ iC,λo=>?_⟩⟩
  generalize eQ:upd H2 d _=H3
  have s3:∀c o,c≠d->H2 c=some o->H3 c=some o:=λc o hc e=>by rw[<- eQ,qB hc];exact e
  have wo:H3 d=some (.frz o (.dK (gK g))):=by rw[<- eQ];exact qW
  have S3:aa H H3:=λc o e=>s3 c o (qC e hd) (Sv _ _ (S' _ _ e))
  have YZ:∀e∈g,H3 e.2.1=some (.lst (e.2.2.map λx=>V.ref x.2)):=λe he=>s3 _ _ (ga.at' e he).2.2 (Sv _ _ (ga.at' e he).1)
  refine WH (λD i ys H'=>aa H3 H'/\Paired (CP H') (g.take i) ys) (λD hD=>⟨qV hD _,.nil⟩) (λD i ys H' _ hP=>hP.1 _ _ wo) (λD i k v T ys H' N hD aD ek nT hP hN=>?_) (λD ys H4 hD aD hP=>?_)
  .obtain⟨S4,py⟩:=hP
   have hi:i<g.length:=by have:=(aN.mp ek).1;unfold gK at this;rw[av] at this;exact this
   obtain⟨e,ee⟩:∃e,g[i]? = some e:=⟨_,aH hi⟩
   have hm:=bw ee
   unfold gK at ek
   rw[bb,ee] at ek
   cases ek
   have ly:=py.length
   rw[cJ] at ly
   generalize eT:upd H' T _=H5
   obtain⟨ST,wq⟩:=laid nT eT
   have wq:H5 T=some (.tup [.int e.1,.ref e.2.1]):=wq
   have Y8:=ST _ _ (S4 _ _ (YZ e hm))
   refine⟨T,_,rfl,aS.of wq,rfl,_,_,rfl,_,_,rfl,rfl,⟨[some (.int e.1),some (.ref e.2.1)],rfl,rfl⟩,wE (bz ?_)⟩
   wtm_at"z"
   refine⟨e.2.1,_,rfl,aj.of Y8,λt ht=>?_⟩
   generalize eQ:upd H5 t _=H6
   obtain⟨St,et⟩:=laid ht eQ
   wtm_at"z"
   refine⟨dD,λt2 ht2=>?_⟩
   generalize eQ:upd H6 t2 _=H7
   obtain⟨fV,sY⟩:=laid ht2 eQ
   have S7:=ST.trans (St.trans fV)
   have Oy:=S7 _ _ aD
   have T8:bD H7 (upd H7 D (.lst (ys++[.ref t2]))):=λb xs e=>by rw[qB (jC e Oy (by intro z;cases z))];exact e
   refine⟨Oy,small (by omega),hN _ _ qW ⟨(S4.trans S7).set hD,?_⟩⟩
   rw[c5,ee]
   exact Paired.snoc (Paired.mapP py λ_ _ ⟨a,b2,h1,h2,h3⟩=>⟨a,b2,h1,T8 _ _ (S7 _ _ h2),T8 _ _ (S7 _ _ h3)⟩) ⟨t2,t,rfl,T8 _ _ sY,T8 _ _ (fV _ _ et)⟩
  obtain⟨S4,py⟩:=hP
  have lk:(gK g).length=g.length:=by unfold gK;rw[av]
  rw[lk,dm] at py
  obtain⟨ws,sZ,CQ,Oz⟩:=YV py
  wtm_at"z"
  have lw:ws.length=ys.length:=by rw[<- CQ,av]
  refine⟨D,ys,ws.map λx=>(x.1.1,V.ref x.2.1),rfl,aj.of aD,?_,?_,(by rw[av];have:=congrArg List.length sZ;rw[av] at this;omega),λl zs hl pm so=>?_⟩
  .rw[<- CQ]
   exact kF (by rw[av,av]) λj x y e1 e2=>by
    rw[bb] at e1 e2
    obtain⟨w1,g1,rfl⟩:=YJ.mp e1
    rw[g1] at e2
    cases e2
    obtain⟨a,h1,h2,_⟩:=Oz w1 (bw g1)
    exact⟨a,h1,h2⟩
  .rw[Yn]
   have:ws.map ((λp:Int×V=>p.1)∘λx=>(x.1.1,V.ref x.2.1))=g.map (·.1):=by rw[<- sZ,Yn];rfl
   rw[this]
   exact ga.kd
  have Ib:(ws.map λx=>(x.1.1,V.ref x.2.1)).zip ys=ws.map λx=>((x.1.1,V.ref x.2.1),x.2.2):=by rw[<- CQ,List.zip_map']
  rw[Ib] at pm
  obtain⟨vs,pv,rfl⟩:=jB pm
  rw[Yn] at so
  generalize eQ:upd H4 l _=H5
  obtain⟨Sl,el⟩:=laid hl eQ
  have OA:=(S3.trans S4).trans Sl
  rw[Yn] at el
  have zr:z.map (·.1)=r:=List.map_fst_zip (by omega)
  have gz:∀x∈vs,∀y∈x.1.2.2,H5 y.2=some (.tup [.int y.1.1,.int y.1.2]):=λx hx y hy=>by
   have h1:x.1∈g:=by rw[<- sZ];exact aZ.mpr ⟨x,pv.mem_iff.mp hx,rfl⟩
   have h2:(x.1.1,x.1.2.2)∈iD kf z:=by rw[<- eg];exact aZ.mpr ⟨x.1,h1,rfl⟩
   have h3:y∈z:=YQ kf z _ h2 y hy
   obtain⟨j,ej⟩:=List.mem_iff_getElem?.mp h3
   obtain⟨e1,e2⟩:=List.getElem?_zip_eq_some.mp ej
   exact OA _ _ (show P2 H y.1 y.2 from xV pt e1 e2)
  refine q l _ (vs.map λx=>(x.1.1,x.1.2.2.map (·.1))) H5 ((S3.trans S4).free hl) OA el ?_ ⟨?_,?_⟩
  .refine kF (by rw[av,av]) λj x y e1 e2=>?_
   rw[bb] at e1 e2
   obtain⟨w1,g1,rfl⟩:=YJ.mp e1
   rw[g1] at e2
   cases e2
   have hw:=bw g1
   obtain⟨a,h1,h2,h3⟩:=Oz w1 (pv.mem_iff.mp hw)
   refine⟨a,w1.2.1,h1,Sl _ _ h2,w1.1.2.2.map (·.2),by rw[Yn];exact Sl _ _ h3,?_⟩
   refine kF (by unfold rk;rw[av,av,av]) λj x y e1 e2=>?_
   unfold rk at e1
   rw[Yn,bb] at e1
   rw[bb] at e2
   obtain⟨w2,g2,rfl⟩:=YJ.mp e1
   rw[g2] at e2
   cases e2
   exact gz w1 hw w2 (bw g2)
  .have h1:(vs.map λx=>(x.1.1,x.1.2.2.map (·.1))).Perm (ws.map λx=>(x.1.1,x.1.2.2.map (·.1))):=pv.map _
   have h2:(ws.map λx=>(x.1.1,x.1.2.2.map (·.1)))=pC S r:=by
    have e1:(ws.map λx=>(x.1.1,x.1.2.2.map (·.1)))=((ws.map (·.1)).map λe=>(e.1,e.2.2)).map λe=>(e.1,e.2.map (·.1)):=by rw[Yn,Yn];rfl
    rw[e1,sZ,eg]
    have e2:=Oq (λx:(Int×Int)×Addr=>x.1) (λp:Int×Int=>S.getD p.1.toNat 0) z
    rw[zr] at e2
    exact e2
   rw[h2] at h1
   exact h1
  .rw[Yn]
   have nd:(vs.map λx=>x.1.1).Nodup:=by
    have h1:(vs.map λx=>x.1.1).Perm (ws.map λx=>x.1.1):=pv.map _
    have h2:(ws.map λx=>x.1.1)=g.map (·.1):=by rw[<- sZ,Yn];rfl
    rw[h2] at h1
    exact h1.nodup_iff.mpr ga.kd
   exact List.Pairwise.imp₂ (λ_ _ h1 h2=>by omega) so nd
structure bf (n:Nat)(r:Rw):Prop where
 ne:r≠[]
 up:(r.map (·.1)).Pairwise (·<·)
 lO:∀p∈r,0<=p.1/\p.1.toNat<n
 pos:∀p∈r,0<p.2
 sum:(r.map (·.2)).sum<=2 ^ 300
theorem bf.len {n:Nat}{r:Rw}(o:bf n r):r.length<=n:=by
 have nd:(r.map λp=>p.1.toNat).Nodup:=by
  have h:=o.up
  rw[List.pairwise_map] at h
  show List.Pairwise _ _
  rw[List.pairwise_map]
  exact List.Pairwise.imp_of_mem (λ{a b} ha hb qj e=>by have:=(o.lO a ha).1;have:=(o.lO b hb).1;omega) h
 have sub:∀x∈r.map λp=>p.1.toNat,x∈List.range n:=λx hx=>by
  obtain⟨p,hp,rfl⟩:=aZ.mp hx
  exact List.mem_range.mpr (o.lO p hp).2
 have:=ST.iP _ _ nd sub
 rw[av,List.length_range] at this
 exact this
structure CD where
 name:Str
 aP:Int
 tg:List Int
structure CL where
 name:Str
 aP:Int
 sh:List Int
structure cG where
 n:Nat
 ds:List CD
 ls:List CL
def mO (n:Nat)(H:Hp)(d:CD)(u:V):Prop:=∃a na ta,u=.ref a/\H a=some (.tup [.str d.name,.int d.aP,.ref na,.ref ta])/\H na=some (.lst ((Yg n true).map V.bl))/\H ta=some (.lst (ae d.tg))
def CS (H:Hp)(l:CL)(u:V):Prop:=∃a sa,u=.ref a/\H a=some (.tup [.str l.name,.int l.aP,.ref sa])/\H sa=some (.lst (ae l.sh))
structure Y9 (K:aq)(C:Addr)(G:Hp)(c:WC)(D:cG):Prop where
 ex:G c.x=some (.ins C c.dx c.fs)
 kd:Kind K C jV
 goal:G c.gl=some (.lst ((Yg D.n false).map V.bl))
 cV:∃us,G c.dl=some (.lst us)/\Paired (mO D.n G) D.ds us
 eF:∃us,G c.ll=some (.lst us)/\Paired (CS G) D.ls us
 EF:D.n<=60
 d3:D.ds.length<=10
 l3:D.ls.length<=10
 pr:∀d∈D.ds,d.aP.natAbs<2 ^ 1000
 pl:∀l∈D.ls,l.aP.natAbs<2 ^ 1000
 tg:∀d∈D.ds,d.tg.length=D.n/\∀t∈d.tg,0<=t/\t.toNat<D.n
 sh:∀l∈D.ls,l.sh.length=D.n
structure gg (P:Program)(w:World)(K:aq)(C:Addr)(G H:Hp)(c:WC)(D:cG)(L:List Rw):Prop where
 st:Y9 K C G c D
 sm:aa G H
 gr:G c.rl=none
 gn:G c.nd=none
 nb:Nb P w H c.rl c.nd L
 ok:∀r∈L,bf D.n r
theorem gg.keep {P:Program}{w:World}{C:Addr}{G H H':Hp}{c:WC}{D:cG}{L L':List Rw}(x:gg P w K C G H c D L)(k:aw c.rl c.nd H H')(nb:Nb P w H' c.rl c.nd L')(ok:∀r∈L',bf D.n r):gg P w K C G H' c D L':=
 ⟨x.st,λb o e=>k b o (qC e x.gr) (qC e x.gn) (x.sm _ _ e),x.gr,x.gn,nb,ok⟩
theorem gg.same {P:Program}{w:World}{C:Addr}{G H H':Hp}{c:WC}{D:cG}{L:List Rw}(x:gg P w K C G H c D L)(s:aa H H'):gg P w K C G H' c D L:=x.keep (aw.of s) (x.nb.same s) x.ok
theorem OB {σ:St}{H:Hp}{Q:VK}{js:List Nat}{te:TE}{b:Addr}{ts:List Addr}{r:Rw}{v:Bool}(eb:H b=some (.tup (ts.map V.ref)))(pt:Paired (P2 H) r ts)(hl:r.length<=1000)
  (sX:∀p∈r,∀(H':Hp) (R:VK),aa H H'->R (.bl v) H'->te ([some (.int p.1),some (.int p.2)]++frees js σ) H' R)
  (q:∀(D:Addr) (H':Hp),H D=none->aa H H'->H' D=some (.lst ((Yg r.length v).map V.bl))->Q (.ref D) H'):
  fM 2 js (gZ K 2 (dI (br 0) (dI (br 1) lV))) gD te (lF K b) σ H Q:=by
 have lt:=pt.length
 refine LN (xs:=ts.map V.ref) (λD i ys H'=>aa H H'/\ys=(Yg i v).map V.bl) (λD hD=>⟨qV hD _,rfl⟩) (λD i ys H' _ hP=>aS.of (hP.1 _ _ eb)) (λD i x ys H' N hD aD ex hP hN=>?_) (λD ys H2 hD aD hP=>?_)
 .obtain⟨S',rfl⟩:=hP
  rw[bb] at ex
  obtain⟨t,et,rfl⟩:=YJ.mp ex
  have it:=(aN.mp et).1
  obtain⟨p,ep⟩:∃p,r[i]? = some p:=⟨_,aH (by omega)⟩
  have CO:H' t=some (.tup [.int p.1,.int p.2]):=S' _ _ (show P2 H p t from xV pt ep et)
  refine⟨t,_,rfl,aS.of CO,rfl,_,_,rfl,_,_,rfl,rfl,⟨[some (.int p.1),some (.int p.2)],rfl,rfl⟩,wE (bz ?_)⟩
  refine sX p (bw ep) H' _ S' ⟨aD,small (by rw[av,Yj];omega),hN _ _ qW ⟨S'.set hD,?_⟩⟩
  rw[List.replicate_succ',cu];rfl
 .obtain⟨S',rfl⟩:=hP
  rw[av,<- lt] at aD
  exact q D H2 hD S' aD
theorem OC {n:Nat}{v:Bool}{i:Int}(h0:0<=i)(h:i.toNat<n):gA ((Yg n v).map V.bl) i=some (.bl v):=by
 rw[show i=((i.toNat:Nat):Int) by omega]
 exact kC (by rw[bb,List.getElem?_replicate,if_pos (by omega)];rfl)
theorem yP:xI ["self","known"] ["self","known"] (xB (bp 31 4)):=by constructor <;> first | rfl | wtm_at"d"
theorem zW:aA (xB (bp 31 4)) ["self","known"] (bP (xC (bp 31 4)) [0] [1]) ["place","weight","self"] 2 [0]:=
 by constructor <;> wtm_at"d"
def Ic (P:Program)(w:World)(K:aq)(C:Addr):Sp:=λvs H Q _=>∃(G:Hp) (c:WC) (D:cG) (L:List Rw) (k:Nat),vs=[.ref c.x,.int (k:Int)]/\gg P w K C G H c D L/\k<L.length/\∀H',aa H H'->Q (.bl false) H'
theorem Y' {C:Addr}(F:Md K C "is_goal" "WeightedChart.is_goal" (bp 31 4) ["self","known"])(B:Bl mg)(yh:mg "all" = none):Dm P w K mg base C "is_goal" 1 ["self","known"] (Ic P w K C):=by
 refine F.ok yP (λvs H Q E h=>?_) (λf zy A outer s H vs Q E hr h=>?_)
 .obtain⟨_,_,_,_,_,rfl,_⟩:=h
  rfl
 obtain⟨G,c,D,L,k,rfl,wc,hk,q⟩:=h
 obtain⟨as,wm,gQ,pa⟩:=wc.nb.ex
 have la:=pa.length
 obtain⟨r,er⟩:∃r,L[k]? = some r:=⟨_,aH hk⟩
 obtain⟨b,eb⟩:∃b,as[k]? = some b:=⟨_,aH (by omega)⟩
 obtain⟨ts,wt,pt⟩:=wM (r:=r) (xV (F:=λr b=>bQ H (rk r) b) pa er eb)
 have ro:=wc.ok r (bw er)
 have ex:=wc.sm _ _ wc.st.ex
 have Ie:=wc.sm _ _ wc.st.goal
 have kd:=wc.st.kd
 have lt:=pt.length
 have rl:=ro.len
 have EF:=wc.st.EF
 have Za:gA (as.map V.ref) (k:Int)=some (.ref b):=kC (by rw[bb,eb];rfl)
 refine⟨_,(qJ (qP (xJ (L7 (K:=K) rfl) rfl yh L5 (qQ (jZ rfl zW (BU (K:=K) (xN (qU (K:=K)) (jN (K:=K) (pv 0)) (pv 1))) (λcl fp s H=>(zI (K:=K) (n:=2) rfl (qM (qI (i:=0) zW.nd rfl (Or.inl rfl) (.inr rfl)) (qM (qI (i:=1) zW.nd rfl (Or.inl rfl) (.inr rfl)) qN)))) (λcl fp s H=>zH) (λcl fp s H=>(xN (qU (K:=K)) (jN (K:=K) (pv 2)) (pv 0)))) qX)))),?_⟩
 wtm_at "zf"
 refine yM rfl ex kd fU.2.2.2.2.1 rfl ?_
 wtm_at"z"
 refine BY (aS.of wt) ?_
 refine OB (v:=false) wt pt (by omega) (λp hp H' R S' hR=>?_) λD H2 hD S2 eD=>?_
 .obtain⟨p0,pl⟩:=ro.lO p hp
  have e1:=OC (v:=false) p0 pl
  wtm_at"z"
  refine yM rfl (S' _ _ ex) kd fU.2.1 rfl ?_
  have eg':=S' _ _ Ie
  wtm_at"z"
  exact hR
 wtm_at"z"
 refine⟨D,Yg r.length false,rfl,aj.of eD,?_⟩
 have e:(Yg r.length false).all id=false:=by
  cases h:r with
  | nil=>exact absurd h ro.ne
  | cons a t=>rfl
 rw[e]
 exact q H2 S2
theorem Zb (T:List Int):∀(r:Rw) (k:Int),k∈(cp T r).map (·.1)↔∃p∈r,T.getD p.1.toNat 0=k:=by
 have:∀(r:Rw) (d:List (Int×Int)) (k:Int),k∈(r.foldl (λd p=>addW d (T.getD p.1.toNat 0) p.2) d).map (·.1)↔k∈d.map (·.1)\/∃p∈r,T.getD p.1.toNat 0=k:=by
  intro r
  induction r with
  | nil=>intro d k;exact⟨.inl,λh=>h.elim id λ⟨p,hp,_⟩=>nomatch hp⟩
  | cons p r ih=>
   intro d k
   rw[List.foldl_cons,ih,HR]
   constructor
   .rintro((h | h) | ⟨q,hq,e⟩)
    .exact .inl h
    .exact .inr ⟨p,aW,h.symm⟩
    .exact .inr ⟨q,yYH _ hq,e⟩
   .rintro(h | ⟨q,hq,e⟩)
    .exact .inl (.inl h)
    .rcases aE.mp hq with rfl | hq
     .exact .inl (.inr e.symm)
     .exact .inr ⟨q,hq,e⟩
 intro r k
 have h:=this r [] k
 exact h.trans ⟨λz=>z.elim (λy=>nomatch y) id,.inr⟩
theorem Zc {l l':List Int}(h:l.Perm l'):l.sum=l'.sum:=by
 induction h with
 | nil=>rfl
 | cons x _ ih=>rw[List.sum_cons,List.sum_cons,ih]
 | swap x y l=>rw[List.sum_cons,List.sum_cons,List.sum_cons,List.sum_cons];omega
 | trans _ _ h1 h2=>exact h1.trans h2
theorem Zd (d:List (Int×Int))(k v:Int):((addW d k v).map (·.2)).sum=(d.map (·.2)).sum+v:=by
 induction d with
 | nil=>show v+0=0+v;omega
 | cons p d ih=>
  obtain⟨a,x⟩:=p
  show((if a=k then (a,x+v)::d else (a,x)::addW d k v).map (·.2)).sum=x+(d.map (·.2)).sum+v
  by_cases c:a=k
  .rw[if_pos c,Yl,List.sum_cons];show x+v+_=_;omega
  .rw[if_neg c,Yl,List.sum_cons,ih];show x+_=_;omega
theorem Ze (d:List (Int×Int))(k v:Int)(hv:0<v)(h:∀p∈d,0<p.2):∀p∈addW d k v,0<p.2:=by
 induction d with
 | nil=>intro p hp;rw[bB.mp hp];exact hv
 | cons q d ih=>
  obtain⟨a,x⟩:=q
  intro p hp
  have hx:0<x:=h (a,x) aW
  have hp:p∈(if a=k then (a,x+v)::d else (a,x)::addW d k v):=hp
  by_cases c:a=k
  .rw[if_pos c] at hp
   rcases aE.mp hp with rfl | hp
   .show 0<x+v;omega
   .exact h p (yYH _ hp)
  .rw[if_neg c] at hp
   rcases aE.mp hp with rfl | hp
   .exact hx
   .exact ih (λp hp=>h p (yYH _ hp)) p hp
theorem Zf (T:List Int)(r:Rw):((cp T r).map (·.2)).sum=(r.map (·.2)).sum:=by
 have:∀(r:Rw) (d:List (Int×Int)),((r.foldl (λd p=>addW d (T.getD p.1.toNat 0) p.2) d).map (·.2)).sum=(d.map (·.2)).sum+(r.map (·.2)).sum:=by
  intro r
  induction r with
  | nil=>intro d;show _=_+(0:Int);rw[Int.add_zero];rfl
  | cons p r ih=>intro d;rw[List.foldl_cons,ih,Zd,Yl,List.sum_cons];omega
 have:=this r []
 rw[show(([]:List (Int×Int)).map (·.2)).sum=0 from rfl,Int.zero_add] at this
 exact this
theorem Zg (T:List Int)(r:Rw)(h:∀p∈r,0<p.2):∀p∈cp T r,0<p.2:=by
 have:∀(r:Rw) (d:List (Int×Int)),(∀p∈r,0<p.2)->(∀p∈d,0<p.2)->∀p∈r.foldl (λd p=>addW d (T.getD p.1.toNat 0) p.2) d,0<p.2:=by
  intro r
  induction r with
  | nil=>exact λd _ h=>h
  | cons p r ih=>exact λd h1 h2=>ih _ (λq hq=>h1 q (yYH _ hq)) (Ze d _ _ (h1 p aW) h2)
 exact this r [] h (λp hp=>nomatch hp)
theorem Mv.ok {n:Nat}{T:List Int}{r r':Rw}(m:Mv T r r')(o:bf n r)(hT:T.length=n)(ht:∀t∈T,0<=t/\t.toNat<n):bf n r':=by
 have km:∀k,k∈r'.map (·.1)↔∃p∈r,T.getD p.1.toNat 0=k:=λk=>((m.pm.map (·.1)).mem_iff).trans (Zb T r k)
 refine⟨λz=>?_,m.up,λp hp=>?_,λp hp=>?_,?_⟩
 .cases h:r with
  | nil=>exact o.ne h
  | cons a t=>
   have:=(km (T.getD a.1.toNat 0)).mpr ⟨a,by rw[h];exact aW,rfl⟩
   rw[z] at this
   cases this
 .obtain⟨a,ha,e⟩:=(km p.1).mp (aZ.mpr ⟨p,hp,rfl⟩)
  have l:=(o.lO a ha).2
  have:T.getD a.1.toNat 0∈T:=by
   rw[Yh,aH (by omega)]
   exact List.getElem_mem _
  rw[<- e]
  exact ht _ this
 .exact Zg T r o.pos p (m.pm.mem_iff.mp hp)
 .rw[Zc (m.pm.map (·.2)),Zf];exact o.sum
theorem OD (f:Int×Int->Bool):∀(r:Rw),(∀p∈r,0<p.2)->((r.filter f).map (·.2)).sum<=(r.map (·.2)).sum
 | [],_=>Int.le_refl _
 | p::r,h=>by
  have ih:=OD f r λq hq=>h q (yYH _ hq)
  have hp:=h p aW
  rw[List.filter_cons,Yl,List.sum_cons]
  by_cases c:f p=true
  .rw[if_pos c,Yl,List.sum_cons];omega
  .rw[if_neg c];omega
theorem Zh {β:Type}(f:β->Int)(l:List β):∀e∈iD f l,e.2=l.filter (λx=>decide (f x=e.1))/\e.2≠[]:=by
 have add:∀(g:List (Int×List β)) (l:List β) (x:β),(g.map (·.1)).Nodup->(∀e∈g,e.2=l.filter (λx=>decide (f x=e.1))/\e.2≠[])->(∀y∈l,f y∈g.map (·.1))->∀e∈bA g (f x) x,e.2=(l++[x]).filter (λy=>decide (f y=e.1))/\e.2≠[]:=by
  intro g l x nd h all
  have key:∀e∈bA g (f x) x,(e∈g/\e.1≠f x)\/(∃e0∈g,e0.1=f x/\e=(f x,e0.2++[x]))\/(f x∉g.map (·.1)/\e=(f x,[x])):=by
   clear h all
   induction g with
   | nil=>intro e he;exact .inr (.inr ⟨(λz=>nomatch z),bB.mp he⟩)
   | cons a t ih=>
    have bI:=List.nodup_cons.mp nd
    intro e he
    have he:e∈(if a.1=f x then _ else _:List (Int×List β)):=he
    by_cases c:a.1=f x
    .rw[if_pos c] at he
     rcases aE.mp he with rfl | he
     .exact .inr (.inl ⟨a,aW,c,by rw[c]⟩)
     .exact .inl ⟨yYH _ he,λz=>bI.1 (by show a.1∈_;rw[c,<- z];exact aZ.mpr ⟨e,he,rfl⟩)⟩
    .rw[if_neg c] at he
     rcases aE.mp he with rfl | he
     .exact .inl ⟨aW,c⟩
     .rcases ih bI.2 e he with⟨h1,h2⟩ | ⟨e0,h1,h2,h3⟩ | ⟨h1,h2⟩
      .exact .inl ⟨yYH _ h1,h2⟩
      .exact .inr (.inl ⟨e0,yYH _ h1,h2,h3⟩)
      .exact .inr (.inr ⟨λz=>(aE.mp z).elim (λy=>c y.symm) h1,h2⟩)
  intro e he
  rw[List.filter_append]
  rcases key e he with⟨h1,h2⟩ | ⟨e0,h1,h2,rfl⟩ | ⟨h1,rfl⟩
  .obtain⟨i1,i2⟩:=h e h1
   refine⟨?_,i2⟩
   rw[List.filter_cons,decide_eq_false (Ne.symm h2),if_neg cj,List.filter_nil,Yq]
   exact i1
  .obtain⟨i1,i2⟩:=h e0 h1
   refine⟨?_,by simp⟩
   rw[List.filter_cons,decide_eq_true rfl,if_pos rfl,List.filter_nil,i1,h2]
  .refine⟨?_,by simp⟩
   have:l.filter (λy=>decide (f y=f x))=[]:=List.filter_eq_nil_iff.mpr λy hy z=>h1 (by rw[<- of_decide_eq_true z];exact all y hy)
   rw[List.filter_cons,decide_eq_true rfl,if_pos rfl,List.filter_nil,this];rfl
 have main:∀(l2 l1:List β) (g:List (Int×List β)),(g.map (·.1)).Nodup->(∀e∈g,e.2=l1.filter (λx=>decide (f x=e.1))/\e.2≠[])->(∀y∈l1,f y∈g.map (·.1))->∀e∈l2.foldl (λg x=>bA g (f x) x) g,e.2=(l1++l2).filter (λx=>decide (f x=e.1))/\e.2≠[]:=by
  intro l2
  induction l2 with
  | nil=>intro l1 g _ h _ e he;rw[Yq];exact h e he
  | cons x l2 ih=>
   intro l1 g nd h all e he
   have:=ih (l1++[x]) (bA g (f x) x) (Oo g nd _ _) (add g l1 x nd h all) (λy hy=>by
    rw[Om]
    rcases fh.mp hy with hy | hy
    .exact .inl (all y hy)
    .rw[bB.mp hy];exact .inr rfl) e he
   rw[lS] at this
   exact this
 exact main l [] [] List.nodup_nil (λe he=>nomatch he) (λy hy=>nomatch hy)
theorem Pt.ok {n:Nat}{S:List Int}{r:Rw}{gs:List (Int×Rw)}(p:Pt S r gs)(o:bf n r):∀g∈gs,bf n g.2:=λg hg=>by
 obtain⟨h1,h2⟩:=Zh _ _ g (p.pm.mem_iff.mp hg)
 refine⟨h2,?_,λq hq=>?_,λq hq=>?_,?_⟩
 .rw[h1]
  exact o.up.sublist (List.filter_sublist.map _)
 .rw[h1] at hq
  exact o.lO q (tO.mp hq).1
 .rw[h1] at hq
  exact o.pos q (tO.mp hq).1
 .rw[h1]
  exact Int.le_trans (OD _ r o.pos) o.sum
def ax:Nat->List Nat->Option Nat
 | n,[]=>some n
 | n,k::ks=>if k<n then ax n ks else if k=n then ax (n+1) ks else none
theorem jT (ks:List Nat):∀(n m:Nat) (js:List Nat),ax n ks=some m->ax n (ks++js)=ax m js:=by
 induction ks with
 | nil=>intro n m js h;cases h;rfl
 | cons k ks ih=>
  intro n m js h
  have h:(if k<n then ax n ks else if k=n then ax (n+1) ks else none)=some m:=h
  show(if k<n then ax n (ks++js) else if k=n then ax (n+1) (ks++js) else none)=_
  by_cases c:k<n
  .rw[if_pos c] at h ⊢
   exact ih n m js h
  .rw[if_neg c] at h ⊢
   by_cases e:k=n
   .rw[if_pos e] at h ⊢
    exact ih _ m js h
   .rw[if_neg e] at h
    cases h
inductive CU (D:cG)(r r':Rw):Prop
 | deed (d:CD) (hd:d∈D.ds) (m:Mv d.tg r r')
 | look (l:CL) (hl:l∈D.ls) (gs:List (Int×Rw)) (p:Pt l.sh r gs) (two:1<gs.length) (g:Int×Rw) (hg:g∈gs) (e:r'=g.2)
def Out (xs:List Addr)(H0 H:Hp):Hp:=λb=>if b∈xs\/(H0 b).isSome=true then none else H b
theorem vE {xs:List Addr}{H0 H:Hp}{b:Addr}{o:HO}(e:Out xs H0 H b=some o):b∉xs/\H0 b=none/\H b=some o:=by
 unfold Out at e
 by_cases c:b∈xs\/(H0 b).isSome=true
 .rw[if_pos c] at e;cases e
 .rw[if_neg c] at e
  refine⟨λz=>c (.inl z),?_,e⟩
  cases z:H0 b with
  | none=>rfl
  | some o=>exact absurd (.inr (by rw[z];rfl)) c
theorem zP {xs:List Addr}{H0 H:Hp}{b:Addr}{o:HO}(h:b∉xs)(h0:H0 b=none)(e:H b=some o):Out xs H0 H b=some o:=by
 unfold Out
 rw[if_neg (λz=>z.elim h λy=>by rw[h0] at y;cases y)];exact e
theorem kK {xs:List Addr}{H0 H H':Hp}(h:∀b o,b∉xs->H b=some o->H' b=some o):aa (Out xs H0 H) (Out xs H0 H'):=λb o e=>by
 obtain⟨h1,h2,h3⟩:=vE e
 exact zP h1 h2 (h b o h1 h3)
theorem dF {rl nd st t:Addr}{H H':Hp}(k:aw rl nd H H')(n:t∉[rl,nd,st])(h:H' t=none):H t=none:=by
 cases z:H t with
 | none=>rfl
 | some o=>
  rw[k t o (λy=>n (by rw[y];simp)) (λy=>n (by rw[y];simp)) z] at h
  cases h
def CV (H:Hp)(k:Nat)(u:V):Prop:=∃t v,u=.ref t/\H t=some (.tup [v,.int (k:Int)])
def fW (H:Hp)(s:List Nat)(u:V):Prop:=∃a n p ca us,u=.ref a/\H a=some (.tup [.str n,.int p,.ref ca])/\H ca=some (.lst us)/\Paired (CV H) s us
theorem fW.same {H H':Hp}(S:aa H H'){s:List Nat}{u:V}(x:fW H s u):fW H' s u:=let ⟨a,n,p,ca,us,e,h1,h2,h3⟩:=x;⟨a,n,p,ca,us,e,S _ _ h1,S _ _ h2,Paired.mapP h3 λ_ _ ⟨t,v,e,h⟩=>⟨t,v,e,S _ _ h⟩⟩
theorem Nb.set {P:Program}{w:World}{H:Hp}{rl nd st:Addr}{L:List Rw}{xs ys:List V}(x:Nb P w H rl nd L)(h1:rl≠st)(h2:nd≠st)(e:H st=some (.lst xs)):Nb P w (upd H st (.lst ys)) rl nd L:=by
 obtain⟨as,e1,e2,p⟩:=x.ex
 have t:bD H (upd H st (.lst ys)):=λb zs eb=>by rw[qB (jC eb e (by intro z;cases z))];exact eb
 exact⟨⟨as,by rw[qB h1];exact e1,by rw[qB h2];exact e2,Paired.mapP p λ_ _ q=>kW t q⟩,x.nd⟩
structure Lp (P:Program)(w:World)(K:aq)(C:Addr)(G H:Hp)(c:WC)(D:cG)(L:List Rw)(r:Rw)(st:Addr)(H':Hp)(us:List V)(bN:List (List Nat))(L':List Rw)(m:Nat):Prop where
 kp:aw c.rl c.nd H H'
 wc:gg P w K C G H' c D L'
 es:H' st=some (.lst us)
 ps:Paired (fW (Out [c.rl,c.nd,st] H H')) bN us
 gw:ax L.length bN.flatten=some L'.length
 pf:∃M,L'=L++M
 bd:∀r'∈L',r'∈L\/CU D r r'
 le:L'.length<=L.length+m
 nr:c.rl≠st
 nn:c.nd≠st
 gs:G st=none
 sl:∀s∈bN,s.length<=100
theorem Lp.same {P:Program}{w:World}{C:Addr}{G H:Hp}{c:WC}{D:cG}{L:List Rw}{r:Rw}{st:Addr}{H' H2:Hp}{us:List V}{bN:List (List Nat)}{L':List Rw}{m:Nat}(x:Lp P w K C G H c D L r st H' us bN L' m)(s:aa H' H2):Lp P w K C G H c D L r st H2 us bN L' m:=
 ⟨x.kp.trans (aw.of s),x.wc.same s,s _ _ x.es,Paired.mapP x.ps λ_ _ z=>z.same (kK λb o _ e=>s b o e),x.gw,x.pf,x.bd,x.le,x.nr,x.nn,x.gs,x.sl⟩
theorem Lp.add {P:Program}{w:World}{C:Addr}{G H:Hp}{c:WC}{D:cG}{L:List Rw}{r:Rw}{st:Addr}{H' H6:Hp}{us:List V}{bN:List (List Nat)}{L' cH:List Rw}{m m':Nat}{u:V}{s:List Nat}(x:Lp P w K C G H c D L r st H' us bN L' m)(h0:H st=none)(k:aw c.rl c.nd H' H6)(nb:Nb P w H6 c.rl c.nd cH)(ok:∀r∈cH,bf D.n r)
  (new:fW (Out [c.rl,c.nd,st] H H6) s u) (gw:ax L'.length s=some cH.length) (pf:∃M,cH=L'++M) (bd:∀r'∈cH,r'∈L'\/CU D r r') (le:cH.length<=L'.length+m') (hs:s.length<=100):Lp P w K C G H c D L r st (upd H6 st (.lst (us++[u]))) (us++[u]) (bN++[s]) cH (m+m'):=by
 have pD:=k st _ x.nr.symm x.nn.symm x.es
 refine⟨λb o h1 h2 e=>?_,⟨x.wc.st,λb o e=>?_,x.wc.gr,x.wc.gn,nb.set x.nr x.nn pD,ok⟩,qW,?_,?_,?_,λr' hr=>?_,?_,x.nr,x.nn,x.gs,λs' h'=>(fh.mp h').elim (x.sl s') λz=>by rw[bB.mp z];exact hs⟩
 .rw[qB (qC e h0)];exact(x.kp.trans k) b o h1 h2 e
 .rw[qB (qC e x.gs)];exact k b o (qC e x.wc.gr) (qC e x.wc.gn) (x.wc.sm _ _ e)
 .have s6:aa (Out [c.rl,c.nd,st] H H6) (Out [c.rl,c.nd,st] H (upd H6 st (.lst (us++[u])))):=kK λb o hb e=>by
   rw[qB (λz=>hb (by rw[z];simp))];exact e
  have s5:aa (Out [c.rl,c.nd,st] H H') (Out [c.rl,c.nd,st] H H6):=kK λb o hb e=>k b o (λz=>hb (by rw[z];simp)) (λz=>hb (by rw[z];simp)) e
  exact Paired.snoc (Paired.mapP x.ps λ_ _ z=>z.same (s5.trans s6)) (new.same s6)
 .rw[List.flatten_append,jT _ _ _ _ x.gw]
  show ax _ (s++[])=_
  rw[Yq];exact gw
 .obtain⟨M,e1⟩:=x.pf
  obtain⟨M',e2⟩:=pf
  exact⟨M++M',by rw[e2,e1,lS]⟩
 .exact(bd r' hr).elim (x.bd r') .inr
 .have:=x.le;omega
theorem xF:xI ["self","known","row","total","steps","name","price","need","targets","shows","shares"] ["self","known"] (xB (bp 31 5)):=by constructor <;> first | rfl | wtm_at"d"
theorem zZ:aA (xB (bp 31 5)) ["self","known","row","total","steps","name","price","need","targets","shows","shares"] (bP (xC (bp 31 5)) [1] [1]) ["place","weight"] 2 []:=
 by constructor <;> wtm_at"d"
theorem zX:aA (xB (bp 31 5)) ["self","known","row","total","steps","name","price","need","targets","shows","shares"] (bP (xC (bp 31 5)) [3,0] [1]) ["place","weight","need"] 2 [7]:=
 by constructor <;> wtm_at"d"
theorem zQ:aA (xB (bp 31 5)) ["self","known","row","total","steps","name","price","need","targets","shows","shares"] (bP (xC (bp 31 5)) [4,1,0] [1,2]) ["worth","share","self"] 2 [0]:=
 by constructor <;> wtm_at"d"
def OE (P:Program)(w:World)(K:aq)(C:Addr):Sp:=λvs H Q _=>∃(G:Hp) (c:WC) (D:cG) (L:List Rw) (k:Nat) (r:Rw),vs=[.ref c.x,.int (k:Int)]/\gg P w K C G H c D L/\L[k]? = some r/\L.length<=3000/\
 ∀(st:Addr) (us:List V) (bN:List (List Nat)) (L':List Rw) (H':Hp),H st=none->aw c.rl c.nd H H'->gg P w K C G H' c D L'->H' st=some (.lst us)->Paired (fW (Out [c.rl,c.nd,st] H H')) bN us->ax L.length bN.flatten=some L'.length->(∃M,L'=L++M)->
  (∀d∈D.ds,∃r'∈L',Mv d.tg r r')->(∀r'∈L',r'∈L\/CU D r r')->L'.length<=L.length+100+D.ls.length * 200->us.length<=30->(∀s∈bN,s.length<=100)->Q (.ref st) H'
theorem bf.big {n:Nat}{r:Rw}(o:bf n r):((r.map λp=>p.2).sum:Int).natAbs<2 ^ 1000:=by
 have h0:∀(r:Rw),(∀p∈r,0<p.2)->0<=(r.map (·.2)).sum:=by
  intro r
  induction r with
  | nil=>exact λ_=>Int.le_refl _
  | cons p r ih=>
   intro h
   have h1:=ih λq hq=>h q (yYH _ hq)
   have h2:=h p aW
   rw[Yl,List.sum_cons];omega
 have h1:=h0 r o.pos
 have h2:=o.sum
 have h3:(2:Int) ^ 300<2 ^ 1000:=by wtm_at"d"
 have h4:(((2:Nat) ^ 1000:Nat):Int)=2 ^ 1000:=by wtm_at"d"
 omega
theorem yT {H:Hp}{t rl nd st:Addr}{o1 o2 o3:HO}(h:H t=none)(h1:H rl=some o1)(h2:H nd=some o2)(h3:H st=some o3):t∉[rl,nd,st]:=λz=>by
 simp only[aE,Yp,or_false] at z
 rcases z with rfl | rfl | rfl
 .rw[h1] at h;cases h
 .rw[h2] at h;cases h
 .rw[h3] at h;cases h
theorem OF {L' cH:List Rw}{r':Rw}{j:Nat}(hc:(cH=L'/\L'[j]? = some r')\/(cH=L'++[r']/\j=L'.length/\r'∉L')):ax L'.length [j]=some cH.length/\(∃M,cH=L'++M)/\(∀x∈cH,x∈L'\/x=r')/\r'∈cH/\cH.length<=L'.length+1:=by
 rcases hc with⟨rfl,e⟩ | ⟨rfl,rfl,_⟩
 .refine⟨?_,⟨[],(Yq _).symm⟩,λx hx=>.inl hx,bw e,Nat.le_succ _⟩
  show(if j<cH.length then ax cH.length [] else _)=_
  rw[if_pos (aN.mp e).1];rfl
 .refine⟨?_,⟨[r'],rfl⟩,λx hx=>(fh.mp hx).imp id bB.mp,fE _ (bB.mpr rfl),by rw[bK];exact yZD _⟩
  show(if L'.length<L'.length then _ else if L'.length=L'.length then ax (L'.length+1) [] else _)=_
  rw[if_neg (Nat.lt_irrefl _),if_pos rfl,bK];rfl
theorem Zi {σ:St}{H:Hp}{Q:VK}{js:List Nat}{b:Addr}{ts:List Addr}{r:Rw}(eb:H b=some (.tup (ts.map V.ref)))(pt:Paired (P2 H) r ts)(hl:r.length<=1000)
  (q:∀(D:Addr) (H':Hp),H D=none->aa H H'->H' D=some (.lst ((r.map (·.2)).map V.int))->Q (.ref D) H'):
  fM 2 js (gZ K 2 (dI (br 0) (dI (br 1) lV))) gD (eS 1) (lF K b) σ H Q:=by
 have lt:=pt.length
 refine LN (xs:=ts.map V.ref) (λD i ys H'=>aa H H'/\ys=((r.take i).map (·.2)).map V.int) (λD hD=>⟨qV hD _,rfl⟩) (λD i ys H' _ hP=>aS.of (hP.1 _ _ eb)) (λD i x ys H' N hD aD ex hP hN=>?_) (λD ys H2 hD aD hP=>?_)
 .obtain⟨S',rfl⟩:=hP
  rw[bb] at ex
  obtain⟨t,et,rfl⟩:=YJ.mp ex
  have it:=(aN.mp et).1
  obtain⟨p,ep⟩:∃p,r[i]? = some p:=⟨_,aH (by omega)⟩
  have CO:H' t=some (.tup [.int p.1,.int p.2]):=S' _ _ (show P2 H p t from xV pt ep et)
  refine⟨t,_,rfl,aS.of CO,rfl,_,_,rfl,_,_,rfl,rfl,⟨[some (.int p.1),some (.int p.2)],rfl,rfl⟩,wE (bz ?_)⟩
  refine⟨_,rfl,aD,small (by rw[av,av,cJ];omega),hN _ _ qW ⟨S'.set hD,?_⟩⟩
  rw[c5,ep,cu,cu];rfl
 .obtain⟨S',rfl⟩:=hP
  rw[av,<- lt,dm] at aD
  exact q D H2 hD S' aD
theorem Zj {C:Addr}(jL:fI K C)(F:Md K C "steps_from" "WeightedChart.steps_from" (bp 31 5) ["self","known"])(B:Bl mg)(yh:mg "all" = none)(ur:mg "sum" = none)(jh:Dm P w K mg base C "number_of" 1 ["self","row"] (mM P w K C))
  (JU:Dn P w K mg base "moved" 1 ["row","targets"] Oj) (JI:Dn P w K mg base "parted" 1 ["row","shows"] Ou):Dm P w K mg base C "steps_from" 2 ["self","known"] (OE P w K C):=by
 refine F.ok xF (λvs H Q E h=>?_) (λf zy A outer s H vs Q E hr h=>?_)
 .obtain⟨_,_,_,_,_,_,rfl,_⟩:=h
  rfl
 obtain⟨G,c,D,L,k,r,rfl,wc,er,l3,q⟩:=h
 obtain⟨as,wm,gQ,pa⟩:=wc.nb.ex
 have la:=pa.length
 have hk:=(aN.mp er).1
 obtain⟨b,eb⟩:∃b,as[k]? = some b:=⟨_,aH (by omega)⟩
 have rb:bQ H (rk r) b:=xV (F:=λr b=>bQ H (rk r) b) pa er eb
 obtain⟨ts,wt,pt⟩:=wM rb
 have ro:=wc.ok r (bw er)
 have ex:=wc.sm _ _ wc.st.ex
 have kd:=wc.st.kd
 have lt:=pt.length
 have rl:=ro.len
 have EF:=wc.st.EF
 have Za:gA (as.map V.ref) (k:Int)=some (.ref b):=kC (by rw[bb,eb];rfl)
 obtain⟨du,pE,pd⟩:=wc.st.cV
 obtain⟨lu,OG,pl⟩:=wc.st.eF
 refine⟨_,(qZ (xG (i:=2) xF.nd rfl (xN (qU (K:=K)) (jN (K:=K) (pv 0)) (pv 1)))
  (qZ (xG (i:=3) xF.nd rfl (xJ (Wl (K:=K) rfl) rfl ur Wj (qQ (jZ rfl zZ (BU (K:=K) (pv 2)) (λcl fp s H=>(zI (K:=K) (n:=2) rfl (qM (qI (i:=0) zZ.nd rfl (Or.inl rfl) (.inr rfl)) (qM (qI (i:=1) zZ.nd rfl (Or.inl rfl) (.inr rfl)) qN)))) (λcl fp s H=>zH) (λcl fp s H=>(pv 1))) qX)))
  (qZ (xG (i:=4) xF.nd rfl (zE qX))
  (qZ (jE PassesOwn.never rfl (xQ (K:=K) (jN (K:=K) (pv 0))) (zI (K:=K) (n:=4) rfl (qM (qI (i:=5) xF.nd rfl (by wtm_at "zo")) (qM (qI (i:=6) xF.nd rfl (by wtm_at "zo")) (qM (qI (i:=7) xF.nd rfl (by wtm_at "zo")) (qM (qI (i:=8) xF.nd rfl (by wtm_at "zo")) qN))))) (qJ (yV (yY (xJ (L7 (K:=K) rfl) rfl yh L5 (qQ (jZ rfl zX (BU (K:=K) (pv 2)) (λcl fp s H=>(zI (K:=K) (n:=2) rfl (qM (qI (i:=0) zX.nd rfl (Or.inl rfl) (.inr rfl)) (qM (qI (i:=1) zX.nd rfl (Or.inl rfl) (.inr rfl)) qN)))) (λcl fp s H=>zH) (λcl fp s H=>(xN (qU (K:=K)) (pv 2) (pv 0)))) qX))) (qJ (qR (yR (K:=K) Yx Yy Yz zR (pv 4) (qQ (xR (qQ (pv 5) (qQ (xX FT (pv 6) (pv 3)) (qQ (zE (qQ (xR (qQ tR (qQ (yD jh jL (pv 0) hr (qQ (qE JU hr (qQ (pv 2) (qQ (pv 8) qX))) qX)) qX))) qX)) qX)))) qX)))) qY)))
  (qZ (jE PassesOwn.never rfl (xQ (K:=K) (jN (K:=K) (pv 0))) (zI (K:=K) (n:=3) rfl (qM (qI (i:=5) xF.nd rfl (by wtm_at "zo")) (qM (qI (i:=6) xF.nd rfl (by wtm_at "zo")) (qM (qI (i:=9) xF.nd rfl (by wtm_at "zo")) qN)))) (qZ (xG (i:=10) xF.nd rfl (qE JI hr (qQ (pv 2) (qQ (pv 9) qX))))
  (qJ (yV (qS D5 (xJ (zT (K:=K)) rfl B.dC kQ (qQ (pv 10) qX)) qG (xE _)) (qJ (qR (yR (K:=K) Yx Yy Yz zR (pv 4) (qQ (xR (qQ (pv 5) (qQ (xX FT (pv 6) (pv 3)) (qQ (jZ rfl zQ (xQ (K:=K) (pv 10)) (λcl fp s H=>(zI (K:=K) (n:=2) rfl (qM (qI (i:=0) zQ.nd rfl (Or.inl rfl) (.inr rfl)) (qM (qI (i:=1) zQ.nd rfl (Or.inl rfl) (.inr rfl)) qN)))) (λcl fp s H=>zH) (λcl fp s H=>(xR (qQ (pv 0) (qQ (yD jh jL (pv 2) hr (qQ (pv 1) qX)) qX))))) qX)))) qX)))) qY))))
  (qJ (qP (pv 4)))))))),?_⟩
 wtm_at"z"
 refine yM rfl ex kd fU.2.2.2.2.1 rfl ?_
 wtm_at "zf"
 refine BY (aS.of wt) ?_
 refine Zi wt pt (by omega) λD1 H1 hD1 S1 Zk=>?_
 wtm_at"z"
 refine⟨D1,_,rfl,aj.of Zk,?_⟩
 wtm_at"z"
 refine⟨pj,λst fZ=>?_⟩
 generalize eQ:upd H1 st _=H2
 obtain⟨Zl,lP⟩:=laid fZ eQ
 wtm_at "zf"
 have S2:=S1.trans Zl
 have Ew:=S2 _ _ ex
 refine yM rfl Ew kd fU.2.2.1 rfl ?_
 have mP:=wc.same S2
 have h0:H st=none:=S1.free fZ
 have nr:c.rl≠st:=λz=>by rw[<- z,wm] at h0;cases h0
 have nn:c.nd≠st:=λz=>by rw[<- z,gQ] at h0;cases h0
 have gs:G st=none:=by
  cases e:G st with
  | none=>rfl
  | some o=>rw[wc.sm _ _ e] at h0;cases h0
 have Zm:Lp P w K C G H c D L r st H2 [] [] L 0:=⟨aw.of S2,mP,lP,.nil,rfl,⟨[],(Yq _).symm⟩,λr' hr=>.inl hr,yZD _,nr,nn,gs,λs h=>nomatch h⟩
 have pF:=mP.sm _ _ pE
 refine kU (aj.of pF) ?_
 have OH:=pd.length
 refine zF (xs:=du) (λi σ' H'=>∃(z5 z6 z7 z8:Option V) (us:List V) (bN:List (List Nat)) (L':List Rw),σ'=[some (.ref c.x),some (.int (k:Int)),some (.ref b),some (.int (r.map (·.2)).sum),some (.ref st),z5,z6,z7,z8,none,none]/\Lp P w K C G H c D L r st H' us bN L' i/\us.length=i/\∀d∈D.ds.take i,∃r'∈L',Mv d.tg r r') ⟨none,none,none,none,[],[],L,rfl,Zm,rfl,λd hd=>by rw[List.take_zero] at hd;cases hd⟩ (λi σ' H' _ hP=>?_) ?_ ?_
 .obtain⟨_,_,_,_,_,_,_,_,lp,_⟩:=hP
  exact aj.of (lp.wc.sm _ _ pE)
 .rintro N rt bk i u σ' H' eu ⟨z5,z6,z7,z8,us,bN,L',rfl,lp,CW,ca⟩ hN
  obtain⟨d,ed⟩:∃d,D.ds[i]? = some d:=⟨_,aH (by rw[OH];exact(aN.mp eu).1)⟩
  have md:=bw ed
  obtain⟨da,na,ta,rfl,Ig,Ih,Ii⟩:=xV pd ed eu
  have Ij:=lp.wc.sm _ _ Ig
  have tp:=lp.kp.tups wc.nb
  have CY:=tp _ _ wt
  have HS:Paired (P2 H') r ts:=Paired.mapP pt λ_ _ z=>tp _ _ z
  have i10:=wc.st.d3
  have il:=(aN.mp ed).1
  wtm_at "zf"
  refine BY (aS.of CY) ?_
  refine OB (v:=true) CY HS (by omega) (λp hp H3 R S' hR=>?_) λD3 H3 hD3 S3 Zn=>?_
  .obtain⟨p0,pl⟩:=ro.lO p hp
   have e1:=OC (v:=true) p0 pl
   have tf:=S' _ _ (lp.wc.sm _ _ Ih)
   wtm_at"z"
   exact hR
  wtm_at"z"
  refine⟨D3,Yg r.length true,rfl,aj.of Zn,?_⟩
  rw[show(Yg r.length true).all id=true from List.all_eq_true.mpr λx hx=>(List.mem_replicate.mp hx).2]
  have CZ:=lp.same S3
  wtm_at"z"
  refine wF (aj.of CZ.es) ?_
  wtm_at"z"
  refine⟨_,_,rfl,rfl,⟨wc.st.pr d md,ro.big⟩,?_⟩
  wtm_at"z"
  have nQ:=CZ.wc.sm _ _ wc.st.ex
  refine⟨_,rfl,c.x,c.dx,_,rfl,nQ,rfl,?_⟩
  wtm_at"z"
  have Zo:=kW (CZ.kp.tups wc.nb) rb
  obtain⟨tl,tr⟩:=wc.st.tg d md
  refine⟨b,ta,r,d.tg,rfl,Zo,CZ.wc.sm _ _ Ii,ro.ne,by omega,λp hp=>by rw[tl];exact ro.lO p hp,λb' r' H4 S4 ti mv=>?_⟩
  have eK:=CZ.same S4
  have Zp:=mv.ok ro tl tr
  wtm_at"z"
  refine⟨c,b',r',L',rfl,S4 _ _ nQ,kd,eK.wc.nb,by have:=eK.le;omega,ti,λj cH H5 k5 OI hc=>?_⟩
  wtm_at"z"
  refine⟨dD,λt1 ht1=>?_⟩
  generalize eQ:upd H5 t1 _=H6
  obtain⟨eO,tj⟩:=laid ht1 eQ
  wtm_at"z"
  refine⟨iw,λl1 hl1=>?_⟩
  generalize eQ:upd H6 l1 _=H7
  obtain⟨gh,tm⟩:=laid hl1 eQ
  wtm_at"z"
  refine⟨sS,λt2 ht2=>?_⟩
  generalize eQ:upd H7 t2 _=H8
  obtain⟨fV,sY⟩:=laid ht2 eQ
  have S6:=gh.trans fV
  have S5:=eO.trans S6
  have k8:aw c.rl c.nd H4 H8:=k5.trans (aw.of S5)
  have mQ:=k5 st _ nr.symm nn.symm eK.es
  have Zq:=S5 _ _ mQ
  obtain⟨Zr,mR,mS,_⟩:=OI.ex
  wtm_at"z"
  refine kX Zq (small (by omega)) ?_
  have n1:t1∉[c.rl,c.nd,st]:=yT ht1 mR mS mQ
  have n2:l1∉[c.rl,c.nd,st]:=yT hl1 (eO _ _ mR) (eO _ _ mS) (eO _ _ mQ)
  have n3:t2∉[c.rl,c.nd,st]:=yT ht2 (gh _ _ (eO _ _ mR)) (gh _ _ (eO _ _ mS)) (gh _ _ (eO _ _ mQ))
  have EG:aw c.rl c.nd H H5:=eK.kp.trans k5
  have OJ:=EG.trans (aw.of eO)
  have Zs:=OJ.trans (aw.of gh)
  have new:fW (Out [c.rl,c.nd,st] H H8) [j] (.ref t2):=⟨t2,_,_,l1,_,rfl,zP n3 (dF Zs n3 ht2) sY,zP n2 (dF OJ n2 hl1) (fV _ _ tm),.cons ⟨t1,_,rfl,zP n1 (dF EG n1 ht1) (S6 _ _ tj)⟩ .nil⟩
  have hL:ax L'.length [j]=some cH.length/\(∃M,cH=L'++M)/\(∀x∈cH,x∈L'\/x=r')/\r'∈cH/\cH.length<=L'.length+1:=OF hc
  obtain⟨g1,g2,g3,g4,g5⟩:=hL
  refine hN _ _ ⟨_,_,_,_,us++[.ref t2],bN++[[j]],cH,rfl,eK.add h0 k8 (OI.same S5) (λx hx=>(g3 x hx).elim (eK.wc.ok x) λz=>by rw[z];exact Zp) new g1 g2 (λx hx=>(g3 x hx).imp id λz=>by rw[z];exact .deed d md mv) g5 (show 1<=100 by decide),by rw[bK,CW];rfl,λd' dr=>?_⟩
  rw[c5,ed] at dr
  rcases fh.mp dr with dr | dr
  .obtain⟨r2,h1,h2⟩:=ca d' dr
   obtain⟨M,eM⟩:=g2
   exact⟨r2,by rw[eM];exact Ym _ h1,h2⟩
  .rw[bB.mp dr]
   exact⟨r',g4,mv⟩
 .rintro σ' H' ⟨z5,z6,z7,z8,us,bN,L',rfl,lp,CW,ca⟩
  rw[<- OH,dm] at ca
  have d3:=wc.st.d3
  have ul:us.length<=10:=by omega
  have Ik:∃m,Lp P w K C G H c D L r st H' us bN L' m/\m<=100:=⟨du.length,lp,by omega⟩
  have lll:=wc.st.l3
  have OK:=pl.length
  dsimp only
  wtm_at "zf"
  refine yM rfl (lp.wc.sm _ _ wc.st.ex) kd fU.2.2.2.1 rfl ?_
  refine kU (aj.of (lp.wc.sm _ _ OG)) ?_
  clear lp CW
  refine zF (xs:=lu) (λi σ' H'=>∃(z5 z6 z7 z8 z9 pG:Option V) (us:List V) (bN:List (List Nat)) (L':List Rw) (m:Nat),σ'=[some (.ref c.x),some (.int (k:Int)),some (.ref b),some (.int (r.map (·.2)).sum),some (.ref st),z5,z6,z7,z8,z9,pG]/\Lp P w K C G H c D L r st H' us bN L' m/\m<=100+200 * i/\us.length<=10+i/\∀d∈D.ds,∃r'∈L',Mv d.tg r r') ⟨z5,z6,z7,z8,none,none,us,bN,L',Ik.choose,rfl,Ik.choose_spec.1,by have:=Ik.choose_spec.2;omega,by omega,ca⟩ (λi σ' H' _ hP=>?_) ?_ ?_
  .obtain⟨_,_,_,_,_,_,_,_,_,_,_,lp,_⟩:=hP
   exact aj.of (lp.wc.sm _ _ OG)
  .clear ca ul
   rintro N rt bk i u σ' H' eu ⟨z5,z6,z7,z8,z9,pG,us,bN,L',m,rfl,lp,lm,CW,ca⟩ hN
   obtain⟨lk,el⟩:∃d,D.ls[i]? = some d:=⟨_,aH (by rw[OK];exact(aN.mp eu).1)⟩
   have ml:=bw el
   have il:=(aN.mp el).1
   obtain⟨la',sa,rfl,Il,Im⟩:=xV pl el eu
   have CI:=lp.wc.sm _ _ Il
   have Zt:=kW (lp.kp.tups wc.nb) rb
   wtm_at"z"
   refine⟨b,sa,r,lk.sh,rfl,Zt,lp.wc.sm _ _ Im,by omega,λp hp=>by rw[wc.st.sh lk ml];exact ro.lO p hp,λsl vs iE H4 hsl S4 esl pv Io=>?_⟩
   have eK:=lp.same S4
   have lv:=pv.length
   wtm_at"z"
   refine i8 (λtwo=>?_) (λ_=>?_)
   rotate_left
   .exact hN _ _ ⟨_,_,_,_,_,_,us,bN,L',m,rfl,eK,by omega,by omega,ca⟩
   have two:1<iE.length:=by have:=of_decide_eq_true two;omega
   have gl:iE.length<=100:=by
    have h1:=Io.pm.length_eq
    have h2:=HU (λp:Int×Int=>lk.sh.getD p.1.toNat 0) r
    unfold pC at h1
    omega
   wtm_at"z"
   refine wF (aj.of eK.es) ?_
   wtm_at"z"
   refine⟨_,_,rfl,rfl,⟨wc.st.pl lk ml,ro.big⟩,?_⟩
   wtm_at "zf"
   refine kU (aj.of esl) ?_
   have wz:=eK.wc.sm _ _ wc.st.ex
   have Zu:=Io.ok ro
   obtain⟨as4,Ip,Iq,_⟩:=eK.wc.nb.ex
   refine jU (xs:=vs) (λT j ys H'=>∃(ns:List Nat) (cH:List Rw),aw c.rl c.nd H4 H'/\Nb P w H' c.rl c.nd cH/\(∀x∈cH,bf D.n x)/\Paired (CV (Out [c.rl,c.nd,st,T] H H')) ns ys/\ax L'.length ns=some cH.length/\(∃M,cH=L'++M)/\(∀x∈cH,x∈L'\/CU D r x)/\cH.length<=L'.length+j/\ys.length=j/\T∉[c.rl,c.nd,st])
    (λT hT=>⟨[],L',aw.of (qV hT _),eK.wc.nb.same (qV hT _),eK.wc.ok,.nil,rfl,⟨[],(Yq _).symm⟩,λx hx=>.inl hx,yZD _,rfl,yT hT Ip Iq eK.es⟩) (λT j ys H' _ hP=>?_) (λT j x ys H' N' hT fm nW hP EH=>?_) (λT ys H5 hT fm hP=>?_)
   .obtain⟨_,_,k',ti,_⟩:=hP
    obtain⟨Zv,f1,f2,_⟩:=lp.wc.nb.ex
    exact aj.of (k' _ _ (λz=>by rw[z,f1] at hsl;cases hsl) (λz=>by rw[z,f2] at hsl;cases hsl) esl)
   .obtain⟨ns,cH,k',ti,j5,pn,gw,pf,bd,le,ly,nT⟩:=hP
    obtain⟨g,eg⟩:∃g,iE[j]? = some g:=⟨_,aH (by rw[lv];exact(aN.mp nW).1)⟩
    have jl:=(aN.mp eg).1
    have mg:=bw eg
    obtain⟨a,gb,rfl,Zw,Zx⟩:=xV pv eg nW
    have OL:=k'.tups eK.wc.nb
    have ea:=OL _ _ Zw
    have rg:=kW OL Zx
    have OM:=k' _ _ (qC wc.st.ex wc.gr) (qC wc.st.ex wc.gn) wz
    refine⟨a,_,rfl,aS.of ea,rfl,_,_,rfl,_,_,rfl,rfl,⟨[some (.int g.1),some (.ref gb)],rfl,rfl⟩,wE (bz ?_)⟩
    wtm_at"z"
    refine⟨_,rfl,c.x,c.dx,_,rfl,OM,rfl,?_⟩
    wtm_at"z"
    refine⟨c,gb,g.2,cH,rfl,OM,kd,ti,by have:=eK.le;omega,rg,λi' L3 H6 k6 ON hc=>?_⟩
    wtm_at"z"
    refine⟨dD,λt1 ht1=>?_⟩
    generalize eQ:upd H6 t1 _=H7
    obtain⟨eO,tj⟩:=laid ht1 eQ
    have OO:=k6 T _ (λz=>nT (by rw[z];simp)) (λz=>nT (by rw[z];simp)) fm
    have OP:=eO _ _ OO
    obtain⟨as6,Ir,Iu,_⟩:=ON.ex
    have pD:=k6 st _ nr.symm nn.symm (k' st _ nr.symm nn.symm eK.es)
    have n1:=yT ht1 Ir Iu pD
    have OQ:t1≠T:=λz=>by rw[z,OO] at ht1;cases ht1
    obtain⟨g1,g2,g3,g4,g5⟩:=OF hc
    have Zy:=ON.same eO
    have r1:c.rl≠T:=λz=>nT (by rw[<- z];simp)
    have r2:c.nd≠T:=λz=>nT (by rw[<- z];simp)
    have s8:aa (Out [c.rl,c.nd,st,T] H H') (Out [c.rl,c.nd,st,T] H (upd H7 T (.lst (ys++[.ref t1])))):=kK λb o hb e=>by
     rw[qB (λz=>hb (by rw[z];simp))]
     exact eO _ _ (k6 b o (λz=>hb (by rw[z];simp)) (λz=>hb (by rw[z];simp)) e)
    refine⟨OP,small (by omega),EH _ _ qW ⟨ns++[i'],L3,λb' o h1 h2 e=>?_,Zy.set r1 r2 OP,λx hx=>(g3 x hx).elim (j5 x) λz=>by rw[z];exact Zu g mg,?_,?_,?_,λx hx=>(g3 x hx).elim (bd x) λz=>.inr (.look lk ml iE Io two g mg z),by omega,by rw[bK,ly];rfl,nT⟩⟩
    .rw[qB (qC e hT)];exact eO _ _ (k6 _ _ h1 h2 (k' _ _ h1 h2 e))
    .refine Paired.snoc (Paired.mapP pn λ_ _ ⟨t,v,e,h⟩=>⟨t,v,e,s8 _ _ h⟩) ⟨t1,_,rfl,zP (λz=>?_) (dF (eK.kp.trans (k'.trans k6)) n1 ht1) (by rw[qB OQ];exact tj)⟩
     simp only[aE,Yp,or_false] at z n1
     rcases z with z | z | z | z
     .exact n1 (.inl z)
     .exact n1 (.inr (.inl z))
     .exact n1 (.inr (.inr z))
     .exact OQ z
    .rw[jT _ _ _ _ gw];exact g1
    .obtain⟨M,e1⟩:=pf
     obtain⟨M',e2⟩:=g2
     exact⟨M++M',by rw[e2,e1,lS]⟩
   .obtain⟨ns,cH,k',ti,j5,pn,gw,pf,bd,le,ly,nT⟩:=hP
    wtm_at"z"
    refine⟨sS,λt2 ht2=>?_⟩
    generalize eQ:upd H5 t2 _=H6
    obtain⟨fV,sY⟩:=laid ht2 eQ
    obtain⟨Zr,mR,mS,_⟩:=ti.ex
    have mQ:=k' st _ nr.symm nn.symm eK.es
    have n3:=yT ht2 mR mS mQ
    wtm_at"z"
    refine kX (fV _ _ mQ) (small (by omega)) ?_
    have s5:aa (Out [c.rl,c.nd,st,T] H H5) (Out [c.rl,c.nd,st] H H6):=λb o e=>by
     obtain⟨h1,Zz,h2⟩:=vE e
     exact zP (λz=>h1 (Ym [T] z)) Zz (fV _ _ h2)
    have EG:aw c.rl c.nd H H5:=eK.kp.trans k'
    have new:fW (Out [c.rl,c.nd,st] H H6) ns (.ref t2):=⟨t2,_,_,T,ys,rfl,zP n3 (dF EG n3 ht2) sY,zP nT (dF eK.kp nT hT) (fV _ _ fm),Paired.mapP pn λ_ _ ⟨t,v,e,h⟩=>⟨t,v,e,s5 _ _ h⟩⟩
    have ZA:=eK.add h0 (k'.trans (aw.of fV)) (ti.same fV) j5 new gw pf bd le (by have:=pn.length;omega)
    refine hN _ _ ⟨_,_,_,_,_,_,_,_,cH,m+vs.length,rfl,ZA,by omega,by rw[bK];show us.length+1<=_;omega,λd hd=>?_⟩
    obtain⟨r2,h1,h2⟩:=ca d hd
    obtain⟨M,eM⟩:=pf
    exact⟨r2,by rw[eM];exact Ym _ h1,h2⟩
  .rintro σ' H' ⟨z5,z6,z7,z8,z9,pG,us,bN,L',m,rfl,lp,lm,CW,ca⟩
   wtm_at"z"
   exact q st us bN L' H' h0 lp.kp lp.wc lp.es lp.ps lp.gw lp.pf ca lp.bd (by have:=lp.le;rw[<- OK] at lm;omega) (by omega) lp.sl
inductive pH (D:cG)(r0:Rw):Rw->Prop
 | refl:pH D r0 r0
 | step {r r':Rw}:pH D r0 r->CU D r r'->pH D r0 r'
def cW (n:Nat):List V:=(List.range n).map λk:Nat=>V.int (k:Int)
def bR (n:Nat):List (Key×V):=(List.range n).map λk:Nat=>((Sum.inl (k:Int):Key),V.bl true)
theorem Iv (n:Nat):(cW n).length=n:=by unfold cW;rw[av,List.length_range]
theorem ZC (n:Nat):cW (n+1)=cW n++[.int (n:Int)]:=by unfold cW;rw[Yw,cu];rfl
theorem ZD (n:Nat):(bR n).length=n:=by unfold bR;rw[av,List.length_range]
theorem OR (n:Nat)(k:Nat):ai (bR n) (Sum.inl (k:Int))=if k<n then some (.bl true) else none:=by
 unfold ai
 by_cases c:k<n
 .rw[if_pos c]
  cases e:(bR n).find? λkv=>decide (kv.1=Sum.inl (k:Int)) with
  | none=>exact absurd (List.find?_eq_none.mp e (Sum.inl (k:Int),.bl true) (aZ.mpr ⟨k,List.mem_range.mpr c,rfl⟩)) (by simp)
  | some kv=>
   obtain⟨j,_,rfl⟩:=aZ.mp (List.mem_of_find?_eq_some e)
   rfl
 .rw[if_neg c]
  cases e:(bR n).find? λkv=>decide (kv.1=Sum.inl (k:Int)) with
  | none=>rfl
  | some kv=>
   obtain⟨j,hj,rfl⟩:=aZ.mp (List.mem_of_find?_eq_some e)
   have h0:=List.find?_some e
   have h1:decide ((Sum.inl (j:Int):Key)=Sum.inl (k:Int))=true:=h0
   have h2:=Sum.inl.inj (of_decide_eq_true h1)
   have h3:=List.mem_range.mp hj
   omega
theorem ZE (n:Nat):putK (bR n) (Sum.inl (n:Int)) (.bl true)=bR (n+1):=by
 rw[vB (by rw[OR,if_neg (Nat.lt_irrefl _)])]
 unfold bR
 rw[Yw,cu];rfl
def stK (sA:List Addr):List (Key×V):=sA.zipIdx.map λp=>((Sum.inl (p.2:Int):Key),V.ref p.1)
theorem wU (sA:List Addr):(stK sA).length=sA.length:=by unfold stK;rw[av,List.length_zipIdx]
theorem vO (sA:List Addr)(i:Nat):(stK sA)[i]? = (sA[i]?).map λa=>((Sum.inl (i:Int):Key),V.ref a):=by
 unfold stK
 rw[bb,List.getElem?_zipIdx]
 cases sA[i]? with
 | none=>rfl
 | some a=>simp
theorem EI (sA:List Addr)(i:Nat)(h:sA.length<=i):ai (stK sA) (Sum.inl (i:Int))=none:=by
 unfold ai
 cases e:(stK sA).find? λkv=>decide (kv.1=Sum.inl (i:Int)) with
 | none=>rfl
 | some kv=>
  obtain⟨j,ej⟩:=List.mem_iff_getElem?.mp (List.mem_of_find?_eq_some e)
  rw[vO] at ej
  obtain⟨a,ea,rfl⟩:=YJ.mp ej
  have h0:=List.find?_some e
  have h1:decide ((Sum.inl (j:Int):Key)=Sum.inl (i:Int))=true:=h0
  have h2:=Sum.inl.inj (of_decide_eq_true h1)
  have h3:=(aN.mp ea).1
  omega
theorem EJ (sA:List Addr)(a:Addr):putK (stK sA) (Sum.inl (sA.length:Int)) (.ref a)=stK (sA++[a]):=by
 rw[vB (EI sA _ (yZD _))]
 unfold stK
 rw[List.zipIdx_append,cu]
 rw[Nat.zero_add];rfl
theorem ZF (sA:List Addr)(a:Addr):ai (stK (sA++[a])) (Sum.inl (sA.length:Int))=some (.ref a):=by
 rw[<- EJ,vB (EI sA _ (yZD _))]
 unfold ai
 rw[List.find?_append]
 have:(stK sA).find? (λkv=>decide (kv.1=Sum.inl (sA.length:Int)))=none:=Option.map_eq_none_iff.mp (EI sA _ (yZD _))
 rw[this]
 simp
def mT (H:Hp)(n:Nat)(a:Addr):Prop:=∃us bN,H a=some (.lst us)/\Paired (fW H) bN us/\us.length<=30/\∀s∈bN,s.length<=100/\∀j∈s,j<n
theorem mT.same {H H':Hp}(S:aa H H'){n m:Nat}(nm:n<=m){a:Addr}(x:mT H n a):mT H' m a:=let ⟨us,bN,e,p,l,h⟩:=x;⟨us,bN,S _ _ e,Paired.mapP p λ_ _ z=>z.same S,l,λs hs=>⟨(h s hs).1,λj hj=>yZE ((h s hs).2 j hj) nm⟩⟩
theorem C9:∀(ks:List Nat) (n m:Nat),ax n ks=some m->n<=m/\∀k∈ks,k<m
 | [],n,m,h=>by cases h;exact⟨yZD _,λk hk=>nomatch hk⟩
 | k::ks,n,m,h=>by
  have h:(if k<n then ax n ks else if k=n then ax (n+1) ks else none)=some m:=h
  by_cases c:k<n
  .rw[if_pos c] at h
   obtain⟨h1,h2⟩:=C9 ks n m h
   exact⟨h1,λj hj=>(aE.mp hj).elim (λz=>by omega) (h2 j)⟩
  .rw[if_neg c] at h
   by_cases e:k=n
   .rw[if_pos e] at h
    obtain⟨h1,h2⟩:=C9 ks (n+1) m h
    exact⟨by omega,λj hj=>(aE.mp hj).elim (λz=>by omega) (h2 j)⟩
   .rw[if_neg e] at h;cases h
theorem EK {α:Type}:∀{l:List α} {i:Nat} {x:α},l[i]? = some x->l=l.take i++x::l.drop (i+1)
 | a::l,0,x,h=>by cases h;rfl
 | a::l,i+1,x,h=>by
  show a::l=a::(l.take i++x::l.drop (i+1))
  rw[<- EK (l:=l) h]
theorem Iw:∀(ks:List Nat) (n:Nat) {js:List Nat} (m:Nat),ax n (ks++js)=some m->∃n',ax n ks=some n'/\ax n' js=some m
 | [],n,js,m,h=>⟨n,rfl,h⟩
 | k::ks,n,js,m,h=>by
  have h:(if k<n then ax n (ks++js) else if k=n then ax (n+1) (ks++js) else none)=some m:=h
  show∃n',(if k<n then ax n ks else if k=n then ax (n+1) ks else none)=some n'/\_
  by_cases c:k<n
  .rw[if_pos c] at h ⊢
   exact Iw ks n m h
  .rw[if_neg c] at h ⊢
   by_cases e:k=n
   .rw[if_pos e] at h ⊢
    exact Iw ks (n+1) m h
   .rw[if_neg e] at h;cases h
def N0:Hp:=λ_=>none
structure Al (P:Program)(w:World)(K:aq)(C:Addr)(G H:Hp)(c:WC)(D:cG)(r0:Rw)(fo se sd:Addr)(H':Hp)(L:List Rw)(sA:List Addr):Prop where
 kp:aw c.rl c.nd H H'
 wc:gg P w K C G H' c D L
 ef:H' fo=some (.lst (cW L.length))
 es:H' se=some (.dK (bR L.length))
 ed:H' sd=some (.dK (stK sA))
 ss:∀a∈sA,mT (Out [c.rl,c.nd,fo,se,sd] N0 H') L.length a
 cl:∀(k:Nat) r,k<sA.length->L[k]? = some r->∀d∈D.ds,∃r'∈L,Mv d.tg r r'
 rc:∀r∈L,pH D r0 r
 r0:L[0]? = some r0
 le:sA.length<=L.length
 nw:[c.rl,c.nd,fo,se,sd].Nodup
 gf:G fo=none/\G se=none/\G sd=none
 hf:H fo=none/\H se=none/\H sd=none
theorem C' {a b c d e:Addr}(h:[a,b,c,d,e].Nodup):a≠b/\a≠c/\a≠d/\a≠e/\b≠c/\b≠d/\b≠e/\c≠d/\c≠e/\d≠e:=by
 simp only[List.nodup_cons,aE,Yp,or_false,not_or] at h
 obtain⟨⟨h1,h2,h3,h4⟩,⟨h5,h6,h7⟩,⟨h8,h9⟩,ZG,_⟩:=h
 exact⟨h1,h2,h3,h4,h5,h6,h7,h8,h9,ZG⟩
theorem xO:xI ["chart","first","found","seen","steps","known","name","price","coming","worth","behind"] ["chart","first"] (xB (top 36)):=by constructor <;> first | rfl | wtm_at"d"
def qL (P:Program)(w:World)(K:aq)(C CT:Addr):Sp:=λvs H Q E=>∃(G:Hp) (c:WC) (D:cG) (r0:Rw),vs=[.ref c.x,.int 0]/\gg P w K C G H c D [r0]/\
 (∀(sd:Addr) (L:List Rw) (sA:List Addr) (H':Hp) (fo se:Addr),Al P w K C G H c D r0 fo se sd H' L sA->sA.length=L.length->L.length<=2000->Q (.ref sd) H')/\(∀(L:List Rw) (H':Hp),L.Nodup->2000<L.length->(∀r∈L,pH D r0 r)->E (.ref CT) none H')
theorem ZH {C CT:Addr}(jL:fI K C)(F:Fd K mg "steps_of_all" (top 36) ["chart","first"])(B:Bl mg)(jm:Gi mg "MOST_KNOWLEDGES" 2000)(j9:PyProof.Rows.OwnCls "TooMany" CT gc "ValueError.__new__" mg base)
  (ji:Dm P w K mg base C "is_goal" 1 ["self","known"] (Ic P w K C)) (kg:Dm P w K mg base C "steps_from" 2 ["self","known"] (OE P w K C)):Dx P w K mg base "steps_of_all" 3 ["chart","first"] (qL P w K C CT):=by
 refine F.okx xO (λvs H Q E h=>?_) (λf zy A outer s H vs Q E hr h=>?_)
 .obtain⟨_,_,_,_,rfl,_⟩:=h
  rfl
 obtain⟨G,c,D,r0,rfl,wc,q1,q2⟩:=h
 have hu:=nJ hr
 refine⟨_,(qZ (xG (i:=2) xO.nd rfl (zE (qQ (pv 1) qX)))
  (qZ (xG (i:=3) xO.nd rfl (Rh (Rg (pv 1) rA Rf) rfl rfl (Ye _ _) (by decide)))
  (qZ (xG (i:=4) xO.nd rfl vD)
  (qZ (KY PassesOwn.leaving (qS D4 (xJ LJ rfl B.dC kQ (qQ (pv 4) qX)) (xJ (zT (K:=K)) rfl B.dC kQ (qQ (pv 2) qX)) (xE _)) (qZ (xG (i:=5) xO.nd rfl (xN (qU (K:=K)) (pv 2) (xJ LJ rfl B.dC kQ (qQ (pv 4) qX))))
  (qZ (Ec hu (pv 4) (pv 5) (Fo (yY (yD ji jL (pv 0) hr (qQ (pv 5) qX))) (zE qX) (yD kg jL (pv 0) hr (qQ (pv 5) qX))) rfl)
  (qZ (jE PassesOwn.leaving rfl (xQ (K:=K) (vX hu (pv 4) (pv 5) (λ_ _=>rfl))) (zI (K:=K) (n:=3) rfl (qM (qI (i:=6) xO.nd rfl (by wtm_at "zo")) (qM (qI (i:=7) xO.nd rfl (by wtm_at "zo")) (qM (qI (i:=8) xO.nd rfl (by wtm_at "zo")) qN)))) (qJ (jE PassesOwn.leaving rfl (xQ (K:=K) (pv 8)) (zI (K:=K) (n:=2) rfl (qM (qI (i:=9) xO.nd rfl (by wtm_at "zo")) (qM (qI (i:=10) xO.nd rfl (by wtm_at "zo")) qN))) (qJ (yV (KQ (LB hu (pv 10) (pv 3)) (by with_unfolding_all rfl)) (qZ (Ec hu (pv 3) (pv 10) rA rfl)
  (qJ (qR (yR (K:=K) Yx Yy Yz zR (pv 2) (qQ (pv 10) qX))))) qY)))))
  (qJ (yV (qS D5 (xJ (zT (K:=K)) rfl B.dC kQ (qQ (pv 2) qX)) (L6 jm) (xE _)) (qJ (U8 j9 (qQ qH qX))) qY))))))
  (qJ (qP (pv 4))))))),?_⟩
 wtm_at"z"
 refine⟨iw,λfo tq=>?_⟩
 generalize eQ:upd H fo _=H1
 obtain⟨Iy,Iz⟩:=laid tq eQ
 wtm_at"z"
 intro se hse
 refine⟨_,rfl,qW,[(Sum.inl 0,.bl true)],rfl,by decide,?_⟩
 have em:upd (upd H1 se (.dK [])) se (.dK (az [] [((Sum.inl 0:Key),V.bl true)]))=upd H1 se (.dK (bR 1)):=by
  funext b
  unfold upd
  by_cases z:b=se
  .rw[if_pos z,if_pos z];rfl
  .rw[if_neg z,if_neg z,if_neg z]
 rw[em]
 generalize eQ:upd H1 se _=H2
 obtain⟨EL,OS⟩:=laid hse eQ
 dsimp only
 wtm_at"z"
 intro sd hsd
 generalize eQ:upd H2 sd _=H3
 obtain⟨IA,ZI⟩:=laid hsd eQ
 have S3:=Iy.trans (EL.trans IA)
 obtain⟨as0,tw,tD,_⟩:=wc.nb.ex
 have tq:H fo=none:=tq
 have pI:H se=none:=Iy.free hse
 have pJ:H sd=none:=(Iy.trans EL).free hsd
 have g0:∀{b:Addr},H b=none->G b=none:=λ{b} hb=>by
  cases e:G b with
  | none=>rfl
  | some o=>rw[wc.sm _ _ e] at hb;cases hb
 have ne:∀{a b:Addr} {o:HO},H a=none->H b=some o->b≠a:=λha hb z=>by rw[z,ha] at hb;cases hb
 have nw:[c.rl,c.nd,fo,se,sd].Nodup:=by
  have a1:=Oe wc.nb
  have a2:=ne tq tw
  have a3:=ne pI tw
  have a4:=ne pJ tw
  have a5:=ne tq tD
  have a6:=ne pI tD
  have a7:=ne pJ tD
  have a8:fo≠se:=λz=>by rw[<- z,Iz] at hse;cases hse
  have a9:fo≠sd:=λz=>by rw[<- z,EL _ _ Iz] at hsd;cases hsd
  have E9:se≠sd:=λz=>by rw[<- z,OS] at hsd;cases hsd
  simp[a1,a2,a3,a4,a5,a6,a7,a8,a9,E9]
 have ZJ:Al P w K C G H c D r0 fo se sd H3 [r0] []:=⟨aw.of S3,wc.same S3,IA _ _ (EL _ _ Iz),IA _ _ OS,ZI,(λa ha=>nomatch ha),λk r hk=>absurd hk (Nat.not_lt_zero _),λr hr=>by rw[bB.mp hr];exact .refl,rfl,yZG _,nw,⟨g0 tq,g0 pI,g0 pJ⟩,⟨tq,pI,pJ⟩⟩
 wtm_at"z"
 refine⟨λm σ' H'=>∃(z5 z6 z7 z8 z9 pG:Option V) (L:List Rw) (sA:List Addr),σ'=[some (.ref c.x),some (.int 0),some (.ref fo),some (.ref se),some (.ref sd),z5,z6,z7,z8,z9,pG]/\Al P w K C G H c D r0 fo se sd H' L sA/\L.length<=2000/\m=2001 - sA.length,⟨2001,none,none,none,none,none,none,[r0],[],rfl,ZJ,(show 1<=2000 by decide),rfl⟩,?_⟩
 rintro m σ' H' ⟨z5,z6,z7,z8,z9,pG,L,sA,rfl,al,l2,rfl⟩
 have ln:=Iv L.length
 wtm_at"z"
 refine⟨sd,_,rfl,al.ed,?_⟩
 have ef':=al.ef
 wtm_at"z"
 rw[wU,ln]
 refine i8 (λhc=>?_) (λhc=>?_)
 .have hc:sA.length<L.length:=by have:=of_decide_eq_true hc;omega
  obtain⟨r,er⟩:∃r,L[sA.length]? = some r:=⟨_,aH hc⟩
  have ix:gA (cW L.length) (sA.length:Int)=some (.int (sA.length:Int)):=kC (by unfold cW;rw[bb,List.getElem?_range hc];rfl)
  refine⟨λσ' H'=>∃(z5 z6 z7 z8 z9 pG:Option V) (L':List Rw) (Dc:List Addr),σ'=[some (.ref c.x),some (.int 0),some (.ref fo),some (.ref se),some (.ref sd),z5,z6,z7,z8,z9,pG]/\Al P w K C G H c D r0 fo se sd H' L' Dc/\L'.length<=2000/\Dc.length=sA.length+1,?_,?_⟩
  .rintro σ' H' ⟨y5,y6,y7,y8,y9,nR,L',Dc,rfl,ZK,ZL,e'⟩
   exact⟨2001 - Dc.length,by omega,y5,y6,y7,y8,y9,nR,L',Dc,rfl,ZK,ZL,rfl⟩
  have OT:=al.wc.sm _ _ al.wc.st.ex
  have mrg:∀z∈[c.rl,c.nd,fo,se,sd],True:=λ_ _=>trivial
  obtain⟨n1,n2,n3,n4,n5,n6,n7,n8,n9,IB⟩:=C' al.nw
  wtm_at"z"
  refine⟨sd,_,rfl,al.ed,?_⟩
  rw[wU]
  wtm_at"z"
  refine⟨_,rfl,c.x,c.dx,_,rfl,OT,rfl,?_⟩
  wtm_at"z"
  refine⟨G,c,D,L,sA.length,rfl,al.wc,hc,λOU S1=>?_⟩
  wtm_at"z"
  refine⟨_,rfl,c.x,c.dx,_,rfl,S1 _ _ OT,rfl,?_⟩
  wtm_at"z"
  refine⟨G,c,D,L,sA.length,r,rfl,al.wc.same S1,er,by omega,λst us bN L' tE fZ k2 mP lP IC gw pf ca bd le ul sl=>?_⟩
  have Dd:aw c.rl c.nd H' tE:=(aw.of S1).trans k2
  have qz:=Dd sd _ n4.symm n7.symm al.ed
  have OV:=Dd fo _ n2.symm n5.symm al.ef
  have Ek:=Dd se _ n3.symm n6.symm al.es
  wtm_at"z"
  refine⟨sd,_,rfl,fK.k (k:=Sum.inl (sA.length:Int)) qz (small (by rw[wU];omega)),?_⟩
  rw[EJ]
  generalize eQ:upd tE sd _=H4
  have s4:∀b o,b≠sd->tE b=some o->H4 b=some o:=λb o hb e=>by rw[<- eQ,qB hb];exact e
  have OW:H4 sd=some (.dK (stK (sA++[st]))):=by rw[<- eQ];exact qW
  have nU:H' st=none:=S1.free fZ
  have De:st≠sd:=λz=>by rw[z,al.ed] at nU;cases nU
  have tF:=s4 _ _ De lP
  wtm_at "zf"
  refine⟨sd,.ref st,rfl,?_,?_⟩
  .have:=cm.k (k:=Sum.inl (sA.length:Int)) OW
   rw[ZF] at this
   exact this
  refine kU (aj.of tF) ?_
  have EM:=IC.length
  have o1:∀{b:Addr} {o:HO},Out [c.rl,c.nd,st] OU tE b=some o->b∉[c.rl,c.nd,fo,se,sd]/\H4 b=some o:=λ{b o} e=>by
   obtain⟨h1,h2,h3⟩:=vE e
   have ne:∀{x:Addr} {u:HO},H' x=some u->b≠x:=λhx z=>by rw[z,S1 _ _ hx] at h2;cases h2
   have b3:=ne al.ef
   have b4:=ne al.es
   have b5:=ne al.ed
   refine⟨λz=>?_,s4 _ _ b5 h3⟩
   simp only[aE,Yp,or_false] at z h1
   rcases z with z | z | z | z | z
   .exact h1 (.inl z)
   .exact h1 (.inr (.inl z))
   .exact b3 z
   .exact b4 z
   .exact b5 z
  have mU:st∉[c.rl,c.nd,fo,se,sd]:=λz=>by
   obtain⟨Zv,f1,f2,_⟩:=al.wc.nb.ex
   simp only[aE,Yp,or_false] at z
   rcases z with z | z | z | z | z
   .rw[z,f1] at nU;cases nU
   .rw[z,f2] at nU;cases nU
   .rw[z,al.ef] at nU;cases nU
   .rw[z,al.es] at nU;cases nU
   .exact De z
  have m2:∀{b:Addr},b∉[c.rl,c.nd,fo,se,sd]->b≠c.rl/\b≠c.nd/\b≠fo/\b≠se/\b≠sd:=λhb=>by
   simp only[aE,Yp,or_false,not_or] at hb
   exact hb
  refine zF (xs:=us) (λi σ' bT=>∃(y6 y7 y8 y9 nR:Option V) (n:Nat),σ'=[some (.ref c.x),some (.int 0),some (.ref fo),some (.ref se),some (.ref sd),some (.int (sA.length:Int)),y6,y7,y8,y9,nR]/\ax L.length (bN.take i).flatten=some n/\(∀b o,b≠fo->b≠se->H4 b=some o->bT b=some o)/\bT fo=some (.lst (cW n))/\bT se=some (.dK (bR n))) ⟨z6,z7,z8,z9,pG,L.length,rfl,rfl,λ_ _ _ _ e=>e,s4 _ _ n9 OV,s4 _ _ IB Ek⟩ (λi σ' bT _ hP=>?_) ?_ ?_
  .obtain⟨_,_,_,_,_,_,_,_,kp,_⟩:=hP
   exact aj.of (kp _ _ (m2 mU).2.2.1 (m2 mU).2.2.2.1 tF)
  .rintro N rt bk i u σ' bT eu ⟨y6,y7,y8,y9,nR,n,rfl,gn,kp,ID,mQ⟩ hN
   obtain⟨s',bC⟩:∃s',bN[i]? = some s':=⟨_,aH (by rw[EM];exact(aN.mp eu).1)⟩
   obtain⟨a,nm,pr,ZM,ys,rfl,h1,h2,h3⟩:=xV IC bC eu
   obtain⟨a1,a2⟩:=o1 h1
   obtain⟨c1,c2⟩:=o1 h2
   have ea:=kp _ _ (m2 a1).2.2.1 (m2 a1).2.2.2.1 a2
   have HI:=kp _ _ (m2 c1).2.2.1 (m2 c1).2.2.2.1 c2
   have EN:=h3.length
   have split:bN.flatten=(bN.take i).flatten++s'++(bN.drop (i+1)).flatten:=by
    have e0:=EK bC
    have e1:=congrArg List.flatten e0
    rw[List.flatten_append,List.flatten_cons,<- lS] at e1
    exact e1
   obtain⟨n',iE,n'l⟩:∃n',ax n s'=some n'/\n'<=L'.length:=by
    rw[split,lS,jT _ _ _ _ gn] at gw
    obtain⟨n',g1,g2⟩:=Iw s' n _ gw
    exact⟨n',g1,(C9 _ _ _ g2).1⟩
   wtm_at "zf"
   refine kU (aj.of HI) ?_
   refine zF (xs:=ys) (λj σ' H5=>∃(y9 nR:Option V) (n2:Nat),σ'=[some (.ref c.x),some (.int 0),some (.ref fo),some (.ref se),some (.ref sd),some (.int (sA.length:Int)),some (.str nm),some (.int pr),some (.ref ZM),y9,nR]/\ax n (s'.take j)=some n2/\(∀b o,b≠fo->b≠se->H4 b=some o->H5 b=some o)/\H5 fo=some (.lst (cW n2))/\H5 se=some (.dK (bR n2))) ⟨y9,nR,n,rfl,rfl,kp,ID,mQ⟩ (λj σ' H5 _ hP=>?_) ?_ ?_
   .obtain⟨_,_,_,_,_,tG,_⟩:=hP
    exact aj.of (tG _ _ (m2 c1).2.2.1 (m2 c1).2.2.2.1 c2)
   .rintro N' rt' bk' j v σ' H5 ev ⟨y9,nR,n2,rfl,tH,tG,EO,pD⟩ EH
    obtain⟨k,ek⟩:∃k,s'[j]? = some k:=⟨_,aH (by rw[EN];exact(aN.mp ev).1)⟩
    obtain⟨t,wv,rfl,ht⟩:=xV h3 ek ev
    obtain⟨t1,t2⟩:=o1 ht
    have et:=tG _ _ (m2 t1).2.2.1 (m2 t1).2.2.2.1 t2
    have ZN:k<n2\/k=n2:=by
     have e0:=EK ek
     rw[e0,jT _ _ _ _ tH] at iE
     have iE:(if k<n2 then ax n2 (s'.drop (j+1)) else if k=n2 then ax (n2+1) (s'.drop (j+1)) else none)=some n':=iE
     by_cases c:k<n2
     .exact .inl c
     .rw[if_neg c] at iE
      by_cases e:k=n2
      .exact .inr e
      .rw[if_neg e] at iE;cases iE
    have n2b:n2<=5000:=by
     have e0:=EK ek
     rw[e0,jT _ _ _ _ tH] at iE
     have h1:=(C9 _ n2 n' iE).1
     have:=al.wc.st.l3
     have h2:D.ls.length * 200<=10 * 200:=Nat.mul_le_mul_right _ this
     omega
    wtm_at"z"
    refine⟨_,rfl,_,rfl,se,_,rfl,cm.k (k:=Sum.inl (k:Int)) pD,?_⟩
    rw[OR]
    rcases ZN with lt | rfl
    .rw[if_pos lt]
     refine⟨_,rfl,bO ?_⟩
     refine EH _ _ ⟨_,_,n2,rfl,?_,tG,EO,pD⟩
     rw[c5,ek,jT _ _ _ _ tH]
     show(if k<n2 then ax n2 [] else _)=_
     rw[if_pos lt];rfl
    .rw[if_neg (Nat.lt_irrefl _)]
     refine⟨_,rfl,bz ?_⟩
     wtm_at"z"
     refine⟨se,_,rfl,fK.k (k:=Sum.inl (k:Int)) pD (small (by rw[ZD];omega)),?_⟩
     rw[ZE]
     generalize eR:upd H5 se _=H6
     have s6:∀b o,b≠se->H5 b=some o->H6 b=some o:=λb o hb e=>by rw[<- eR,qB hb];exact e
     have ZO:H6 se=some (.dK (bR (k+1))):=by rw[<- eR];exact qW
     have OX:=s6 _ _ n8 EO
     wtm_at"z"
     refine wF (aj.of OX) ?_
     wtm_at"z"
     refine kX OX (small (by rw[Iv];omega)) ?_
     refine EH _ _ ⟨_,_,k+1,rfl,?_,λb o h1 h2 e=>?_,?_,?_⟩
     .rw[c5,ek,jT _ _ _ _ tH]
      show(if k<k then _ else if k=k then ax (k+1) [] else _)=_
      rw[if_neg (Nat.lt_irrefl _),if_pos rfl];rfl
     .rw[qB h1];exact s6 _ _ h2 (tG _ _ h1 h2 e)
     .rw[qW,ZC]
     .rw[qB n8.symm];exact ZO
   .rintro σ' H5 ⟨y9,nR,n2,rfl,tH,tG,EO,pD⟩
    rw[<- EN,dm,iE] at tH
    cases tH
    refine hN _ _ ⟨_,_,_,_,_,n',rfl,?_,tG,EO,pD⟩
    rw[c5,bC,List.flatten_append,jT _ _ _ _ gn]
    show ax n (s'++[])=_
    rw[Yq];exact iE
  .rintro σ' bT ⟨y6,y7,y8,y9,nR,n,rfl,gn,kp,ID,mQ⟩
   rw[<- EM,dm,gw] at gn
   cases gn
   have kp5:∀{b:Addr} {o:HO},b∉[c.rl,c.nd,fo,se,sd]->tE b=some o->bT b=some o:=λhb e=>kp _ _ (m2 hb).2.2.1 (m2 hb).2.2.2.1 (s4 _ _ (m2 hb).2.2.2.2 e)
   obtain⟨M,eL⟩:=pf
   have ZP:∀x∈L,x∈L':=λx hx=>by rw[eL];exact Ym _ hx
   have IE:∀{k:Nat},k<L.length->L'[k]? = L[k]? := λhk=>by rw[eL,Yr hk]
   have ZQ:L.length<=L'.length:=by rw[eL,bK];omega
   obtain⟨ZR,ZS,ZT,ZU⟩:=mP.nb.ex
   have ZV:=kp _ _ n2 n3 (s4 _ _ n4 ZS)
   have ZW:=kp _ _ n5 n6 (s4 _ _ n7 ZT)
   have ZX:bD tE bT:=λb xs e=>kp _ _ (jC e OV (by intro z;cases z)) (jC e Ek (by intro z;cases z)) (s4 _ _ (jC e qz (by intro z;cases z)) e)
   have ZY:gg P w K C G bT c D L':=⟨mP.st,λb o e=>kp _ _ (qC e al.gf.1) (qC e al.gf.2.1) (s4 _ _ (qC e al.gf.2.2) (mP.sm _ _ e)),mP.gr,mP.gn,⟨⟨ZR,ZV,ZW,Paired.mapP ZU λ_ _ z=>kW ZX z⟩,mP.nb.nd⟩,mP.ok⟩
   have OY:∀x∈L',pH D r0 x:=λx hx=>(bd x hx).elim (al.rc x) λz=>.step (al.rc r (bw er)) z
   wtm_at"z"
   rw[Iv]
   refine i8 (λbig=>?_) (λbig=>?_)
   .have big:2000<L'.length:=by have:=of_decide_eq_true big;omega
    wtm_at"z"
    exact⟨HJ (by decide),q2 L' bT mP.nb.nd big OY⟩
   have tI:L'.length<=2000:=by
    have:¬((2000:Int)<(L'.length:Int)):=λz=>big (decide_eq_true z)
    omega
   wtm_at"z"
   refine⟨_,_,_,_,_,_,L',sA++[st],rfl,⟨λb o h1 h2 e=>?_,ZY,ID,mQ,?_,λa ha=>?_,λk x hk ex=>?_,OY,by rw[IE (by omega)];exact al.r0,by rw[bK];show sA.length+1<=_;omega,al.nw,al.gf,al.hf⟩,tI,by rw[bK];rfl⟩
   .exact kp _ _ (qC e al.hf.1) (qC e al.hf.2.1) (s4 _ _ (qC e al.hf.2.2) (Dd _ _ h1 h2 (al.kp _ _ h1 h2 e)))
   .exact kp _ _ n9.symm IB.symm OW
   .rcases fh.mp ha with ha | ha
    .exact(al.ss a ha).same (kK λb o hb e=>kp5 hb (Dd _ _ (m2 hb).1 (m2 hb).2.1 e)) ZQ
    .rw[bB.mp ha]
     have sm:aa (Out [c.rl,c.nd,st] OU tE) (Out [c.rl,c.nd,fo,se,sd] N0 bT):=λb o e=>by
      obtain⟨h1,h2⟩:=o1 e
      exact zP h1 rfl (kp _ _ (m2 h1).2.2.1 (m2 h1).2.2.2.1 h2)
     exact⟨us,bN,zP mU rfl (kp _ _ (m2 mU).2.2.1 (m2 mU).2.2.2.1 tF),Paired.mapP IC λ_ _ z=>z.same sm,ul,λs' hs=>⟨sl s' hs,λj hj=>(C9 _ _ _ gw).2 j (List.mem_flatten.mpr ⟨s',hs,hj⟩)⟩⟩
   .rw[bK] at hk
    have hk:k<sA.length+1:=hk
    by_cases z:k<sA.length
    .rw[IE (by omega)] at ex
     intro d hd
     obtain⟨r',h1,h2⟩:=al.cl k x z ex d hd
     exact⟨r',ZP r' h1,h2⟩
    .have:k=sA.length:=by omega
     subst this
     rw[IE hc,er] at ex
     cases ex
     exact ca
 .have hc:sA.length=L.length:=by
   have h1:¬((sA.length:Int)<(L.length:Int)):=λz=>hc (decide_eq_true z)
   have:=al.le
   omega
  wtm_at"z"
  exact q1 sd L sA H' fo se al hc l2
theorem ZZ {d:Addr}{o:Obj}{kvs:List (Key×V)}{g:TG}{tb:TS}{D:Ends}{σ:St}{H:Hp}(Pv:Nat->St->Hp->Prop)(h0:Pv 0 σ H)(hl:∀i σ H,i<=kvs.length->Pv i σ H->H d=some (.frz o (.dK kvs)))
  (hs:∀(N:St->Hp->Prop) (rt:VK) (bk:St->Hp->Prop) i q v T σ H,kvs[i]? = some (q,v)->H T=none->Pv i σ H->(∀σ H,Pv (i+1) σ H->N σ H)->g (.ref T) σ (upd H T (.tup [kV q,v])) λσ2 H2=>tb ⟨N,rt,bk,N⟩ σ2 H2) (hd:∀σ H,Pv kvs.length σ H->D.nx σ H):
  ∃W:Nat->Nat->St->Hp->Prop,(∃m,W 0 m σ H)/\∀i m σ H,W i m σ H->
   ((ir d o kvs).stop i H/\D.nx σ H)\/((ir d o kvs).go i H/\∃N:St->Hp->Prop,(∀σ' H',N σ' H'->∃m',m'<m/\W (i+1) m' σ' H')/\∀x H',(ir d o kvs).lY i H x H'->g x σ H' λσ2 H2=>tb { D with nx:=N,ct:=N,bk:=D.nx } σ2 H2):=by
 refine⟨λi m σ H=>m=kvs.length - i/\i<=kvs.length/\Pv i σ H,⟨kvs.length,by simp,yZG _,h0⟩,?_⟩
 rintro i m σ H ⟨rfl,hi,p⟩
 have z:=hl i σ H hi p
 by_cases bc:i<kvs.length
 .refine .inr ⟨⟨bc,z⟩,Pv (i+1),λσ' H' p'=>⟨kvs.length - (i+1),by omega,rfl,bc,p'⟩,λx H' y=>?_⟩
  obtain⟨T,q,v,rfl,nT,rfl,ec⟩:=y
  exact hs _ _ _ i q v T σ _ ec nT p λ_ _ z=>z
 .have e:i=kvs.length:=by omega
  subst e
  exact .inl ⟨⟨yZD _,z⟩,hd σ H p⟩
theorem Z0 (qA:List Addr)(i:Nat)(a:Addr)(h:qA[i]? = some a):ai (stK qA) (Sum.inl (i:Int))=some (.ref a):=by
 have hi:=(aN.mp h).1
 unfold ai
 cases e:(stK qA).find? λkv=>decide (kv.1=Sum.inl (i:Int)) with
 | none=>
  have h1:(Sum.inl (i:Int),V.ref a)∈stK qA:=bw (by rw[vO,h];rfl)
  exact absurd (List.find?_eq_none.mp e _ h1) (by simp)
 | some kv=>
  obtain⟨j,ej⟩:=List.mem_iff_getElem?.mp (List.mem_of_find?_eq_some e)
  rw[vO] at ej
  obtain⟨b,eb,rfl⟩:=YJ.mp ej
  have h0:=List.find?_some e
  have h1:decide ((Sum.inl (j:Int):Key)=Sum.inl (i:Int))=true:=h0
  have h2:j=i:=by have:=Sum.inl.inj (of_decide_eq_true h1);omega
  subst h2
  rw[h] at eb
  cases eb
  rfl
theorem Z1 (qA:List Addr):az [] (stK qA)=stK qA:=by
 have snoc:∀(l:List Addr),az [] (stK l)=stK l:=by
  intro l
  generalize hn:l.length=n
  induction n generalizing l with
  | zero=>rw[List.length_eq_zero_iff.mp hn];rfl
  | succ n ih=>
   obtain⟨l0,a,rfl⟩:∃l0 a,l=l0++[a]:=⟨_,_,(List.dropLast_concat_getLast (by intro z;rw[z] at hn;cases hn)).symm⟩
   have hl:l0.length=n:=by rw[bK] at hn;exact Nat.succ.inj hn
   have e:stK (l0++[a])=stK l0++[(Sum.inl (l0.length:Int),V.ref a)]:=by
    rw[<- EJ,vB (EI l0 _ (yZD _))]
   rw[e]
   unfold az
   rw[List.foldl_append]
   show putK (az [] (stK l0)) _ _=_
   rw[ih l0 hl,EJ,e]
 exact snoc qA
theorem xS:xI ["steps","sources","known","steps_there","step","worth","behind"] ["steps"] (xB (top 38)):=by constructor <;> first | rfl | wtm_at"d"
theorem yE:aA (xB (top 38)) ["steps","sources","known","steps_there","step","worth","behind"] (bP (xC (top 38)) [0] [1]) ["known"] 1 []:=
 by constructor <;> wtm_at"d"
def OZ:Sp:=λvs H Q _=>∃(sd:Addr) (sA:List Addr) (F:Hp),vs=[.ref sd]/\H sd=some (.dK (stK sA))/\sA.length<=100/\aa F H/\F sd=none/\(∀a∈sA,mT F sA.length a)/\
 ∀(x:V) (o:Obj) (H':Hp),(∀b u,b≠sd->H b=some u->H' b=some u)->H' sd=some (.frz o (.dK (stK sA)))->Q x H'
structure Sr (H:Hp)(sd src:Addr)(o:Obj)(sA qA:List Addr)(H':Hp)(m:Nat):Prop where
 kp:∀b u,b≠sd->H b=some u->H' b=some u
 ed:H' sd=some (.frz o (.dK (stK sA)))
 es:H' src=some (.dK (stK qA))
 ql:∀q∈qA,H q=none/\∃xs,H' q=some (.lst xs)/\xs.length<=m
 hs:H src=none
theorem Sr.same {H:Hp}{sd src:Addr}{o:Obj}{sA qA:List Addr}{H' H2:Hp}{m:Nat}(x:Sr H sd src o sA qA H' m)(s:aa H' H2):Sr H sd src o sA qA H2 m:=
 ⟨λb u hb e=>s _ _ (x.kp b u hb e),s _ _ x.ed,s _ _ x.es,λq hq=>let ⟨h1,xs,h2,h3⟩:=x.ql q hq;⟨h1,xs,s _ _ h2,h3⟩,x.hs⟩
theorem Z2 (F':Fd K mg "sources_of_all" (top 38) ["steps"])(B:Bl mg):Dn P w K mg base "sources_of_all" 1 ["steps"] OZ:=by
 refine F'.ok xS (λvs H Q E h=>?_) (λf zy A outer s H vs Q E hr h=>?_)
 .obtain⟨_,_,_,rfl,_⟩:=h
  rfl
 obtain⟨sd,sA,F,rfl,ed,j8,SF,Z4,ss,q⟩:=h
 have hu:=nJ hr
 have lk:=wU sA
 refine⟨_,(qZ (xG (i:=1) xS.nd rfl (xZ (WJ rfl) rfl B.gO BI (qQ (jZ rfl yE (Np (pv 0)) (λcl fp s H=>(qI (i:=0) yE.nd rfl (Or.inl rfl) (.inr rfl))) (λcl fp s H=>zH) (λcl fp s H=>(xR (qQ (pv 0) (qQ (zE qX) qX))))) qX)))
  (qZ (jE PassesOwn.never rfl (Nq (Nn (pv 0))) (zI (K:=K) (n:=2) rfl (qM (qI (i:=2) xS.nd rfl (by wtm_at "zo")) (qM (qI (i:=3) xS.nd rfl (by wtm_at "zo")) qN))) (qJ (jE PassesOwn.never rfl (xQ (K:=K) (pv 3)) (qI (i:=4) xS.nd rfl (by wtm_at "zo")) (qJ (jE PassesOwn.never rfl (xQ (K:=K) (xN (qT (K:=K)) (pv 4) qG)) (zI (K:=K) (n:=2) rfl (qM (qI (i:=5) xS.nd rfl (by wtm_at "zo")) (qM (qI (i:=6) xS.nd rfl (by wtm_at "zo")) qN))) (qJ (qR (yR (K:=K) Yx Yy Yz zR (vX hu (pv 1) (pv 6) (λ_ _=>rfl)) (qQ (xR (qQ (pv 2) (qQ (pv 4) qX))) qX)))))))))
  (qJ (qP (pv 1))))),?_⟩
 wtm_at "zf"
 refine⟨_,rfl,sd,stK sA,rfl,.inl ⟨ed,λo=>?_⟩⟩
 generalize eQ:upd H sd _=H1
 have k1:∀b u,b≠sd->H b=some u->H1 b=some u:=λb u hb e=>by rw[<- eQ,qB hb];exact e
 have iW:H1 sd=some (.frz o (.dK (stK sA))):=by rw[<- eQ];exact qW
 have fr:∀{b:Addr},H1 b=none->H b=none:=λ{b} hb=>by
  cases z:H b with
  | none=>rfl
  | some u=>
   by_cases e:b=sd
   .rw[e,iW] at hb;cases hb
   .rw[k1 b u e z] at hb;cases hb
 refine MM (λD i ys H'=>aa H1 H'/\∃qA:List Addr,qA.length=i/\Paired (dM H') (qA.zipIdx.map λp=>((p.2:Int),V.ref p.1)) ys/\ys.length=i/\∀q∈qA,H1 q=none/\H' q=some (.lst [])/\q≠D) (λD hD=>⟨qV hD _,[],rfl,.nil,rfl,λq hq=>nomatch hq⟩) (λD i ys H' _ hP=>hP.1 _ _ iW) (λD i k v ys H' N hD aD ek hP hN=>?_) (λD ys H2 hD aD hP=>?_)
 .obtain⟨S',qA,lq,py,ly,hq⟩:=hP
  have hi:=(aN.mp ek).1
  rw[lk] at hi
  rw[vO] at ek
  obtain⟨a,ea,e2⟩:=YJ.mp ek
  cases e2
  refine⟨⟨[some (.int (i:Int))],rfl,rfl⟩,wE (bz ?_)⟩
  wtm_at"z"
  refine⟨pj,λq0 ER=>?_⟩
  generalize eQ:upd H' q0 _=H3
  obtain⟨Z5,Z6⟩:=laid ER eQ
  wtm_at"z"
  refine⟨dD,λt ht=>?_⟩
  generalize eQ:upd H3 t _=H4
  obtain⟨St,et⟩:=laid ht eQ
  have ES:=Z5.trans St
  have Df:=ES _ _ aD
  have nq:q0≠D:=λz=>by rw[z,aD] at ER;cases ER
  have T5:bD H4 (upd H4 D (.lst (ys++[.ref t]))):=λb xs e=>by rw[qB (jC e Df (by intro z;cases z))];exact e
  refine⟨Df,small (by omega),hN _ _ qW ⟨(S'.trans ES).set hD,qA++[q0],by rw[bK,lq];rfl,?_,by rw[bK,ly];rfl,λq lJ=>?_⟩⟩
  .rw[List.zipIdx_append,cu]
   refine Paired.snoc (Paired.mapP py λ_ _ ⟨b,h1,h2⟩=>⟨b,h1,T5 _ _ (ES _ _ h2)⟩) ⟨t,rfl,?_⟩
   rw[Nat.zero_add,lq]
   exact T5 _ _ et
  .rcases fh.mp lJ with h | h
   .obtain⟨h1,h2,h3⟩:=hq q h
    exact⟨h1,by rw[qB h3];exact ES _ _ h2,h3⟩
   .rw[bB.mp h]
    exact⟨S'.free ER,by rw[qB nq];exact St _ _ Z6,nq⟩
 obtain⟨S2,qA,lq,py,ly,hq⟩:=hP
 rw[lk] at lq ly
 wtm_at"z"
 refine⟨D,ys,_,rfl,aD,py,by rw[av,List.length_zipIdx];omega,λsrc hsrc=>?_⟩
 have em:az [] (mH (qA.zipIdx.map λp=>((p.2:Int),V.ref p.1)))=stK qA:=by
  have:mH (qA.zipIdx.map λp=>((p.2:Int),V.ref p.1))=stK qA:=by unfold mH stK;rw[Yn];rfl
  rw[this,Z1]
 rw[em]
 generalize eQ:upd H2 src _=H3
 obtain⟨Ssrc,IF⟩:=laid hsrc eQ
 have IG:Sr H sd src o sA qA H3 0:=⟨λb u hb e=>Ssrc _ _ (S2 _ _ (k1 b u hb e)),Ssrc _ _ (S2 _ _ iW),IF,λq lJ=>⟨fr (hq q lJ).1,[],Ssrc _ _ (hq q lJ).2.1,yZD _⟩,fr (S2.free hsrc)⟩
 clear hq py
 dsimp only
 wtm_at "zf"
 refine⟨_,rfl,sd,stK sA,rfl,rfl,.inr ⟨o,IG.ed⟩,λv hv=>?_⟩
 generalize eQ:upd H3 v _=H4
 obtain⟨Sv,ev⟩:=laid hv eQ
 refine⟨v,sd,stK sA,rfl,ev,.inr ⟨o,Sv _ _ IG.ed,?_⟩⟩
 have fx:∀{b:Addr} {u:HO} {H':Hp} {m:Nat},Sr H sd src o sA qA H' m->F b=some u->H' b=some u:=λsr e=>sr.kp _ _ (qC e Z4) (SF _ _ e)
 refine ZZ (λi σ' H'=>∃(z2 z3 z4 z5 z6:Option V) (m:Nat),σ'=[some (.ref sd),some (.ref src),z2,z3,z4,z5,z6]/\Sr H sd src o sA qA H' m/\m<=3000 * i) ⟨none,none,none,none,none,0,rfl,IG.same Sv,yZG _⟩ (λi σ' H' _ hP=>?_) ?_ ?_
 .obtain⟨_,_,_,_,_,_,_,sr,_⟩:=hP
  exact sr.ed
 .rintro N rt bk i k v' T σ' H' ek nT ⟨z2,z3,z4,z5,z6,m,rfl,sr,lm⟩ hN
  have hi:=(aN.mp ek).1
  rw[lk] at hi
  rw[vO] at ek
  obtain⟨a,ea,e2⟩:=YJ.mp ek
  cases e2
  obtain⟨us,bN,IH,ps,ul,sl⟩:=ss a (bw ea)
  have EM:=ps.length
  generalize eT:upd H' T _=H5
  obtain⟨ST,wq⟩:=laid nT eT
  have wq:H5 T=some (.tup [.int (i:Int),.ref a]):=wq
  have O0:=sr.same ST
  wtm_at "zf"
  refine kU (aj.of (fx O0 IH)) ?_
  refine zF (xs:=us) (λj σ' H'=>∃(z4 z5 z6:Option V) (m':Nat),σ'=[some (.ref sd),some (.ref src),some (.int (i:Int)),some (.ref a),z4,z5,z6]/\Sr H sd src o sA qA H' m'/\m'<=m+100 * j) ⟨z4,z5,z6,m,rfl,O0,by omega⟩ (λj σ' H' _ hP=>?_) ?_ ?_
  .obtain⟨_,_,_,_,_,sr,_⟩:=hP
   exact aj.of (fx sr IH)
  .rintro N1 rt1 bk1 j u σ' H6 eu ⟨z4,z5,z6,m',rfl,Dg,Z7⟩ hN1
   obtain⟨s',bC⟩:∃s',bN[j]? = some s':=⟨_,aH (by rw[EM];exact(aN.mp eu).1)⟩
   obtain⟨sl1,D7⟩:=sl s' (bw bC)
   have jl:=(aN.mp eu).1
   obtain⟨ta,nm,pr,ca,Z8,rfl,h1,h2,h3⟩:=xV ps bC eu
   have EN:=h3.length
   have eta:=fx Dg h1
   wtm_at "zf"
   refine kU (aj.of (fx Dg h2)) ?_
   refine zF (xs:=Z8) (λl σ' H'=>∃(z5 z6:Option V) (m2:Nat),σ'=[some (.ref sd),some (.ref src),some (.int (i:Int)),some (.ref a),some (.ref ta),z5,z6]/\Sr H sd src o sA qA H' m2/\m2<=m'+l) ⟨z5,z6,m',rfl,Dg,yZD _⟩ (λl σ' H' _ hP=>?_) ?_ ?_
   .obtain⟨_,_,_,_,sr,_⟩:=hP
    exact aj.of (fx sr h2)
   .rintro N2 rt2 bk2 l u σ' H7 eu2 ⟨z5,z6,m2,rfl,q9,Z9⟩ hN2
    obtain⟨k,ek⟩:∃k,s'[l]? = some k:=⟨_,aH (by rw[EN];exact(aN.mp eu2).1)⟩
    have ll:=(aN.mp eu2).1
    obtain⟨t,wv,rfl,ht⟩:=xV h3 ek eu2
    have et:=fx q9 ht
    have kl:=D7 k (bw ek)
    obtain⟨qk,O1⟩:∃qk,qA[k]? = some qk:=⟨_,aH (by omega)⟩
    obtain⟨Z',xs,ET,lxs⟩:=q9.ql qk (bw O1)
    wtm_at"z"
    refine⟨src,.ref qk,rfl,?_,?_⟩
    .have:=cm.k (k:=Sum.inl (k:Int)) q9.es
     rw[Z0 qA k qk O1] at this
     exact this
    refine wF (aj.of ET) ?_
    wtm_at"z"
    refine⟨dD,λtt HK=>?_⟩
    generalize eQ:upd H7 tt _=H8
    obtain⟨O2,ett⟩:=laid HK eQ
    wtm_at"z"
    have Dh:=q9.same O2
    refine kX (O2 _ _ ET) (pS (show xs.length<=1000000 by omega) (by rw[show Yc=16777216 by decide];decide)) ?_
    have nqs:sd≠qk:=jC q9.ed ET (by intro z;cases z)
    have nqc:src≠qk:=jC q9.es ET (by intro z;cases z)
    refine hN2 _ _ ⟨_,_,m2+1,rfl,⟨λb u hb e=>?_,?_,?_,λq hq=>?_,Dh.hs⟩,by omega⟩
    .rw[qB (qC e Z')];exact Dh.kp b u hb e
    .rw[qB nqs];exact Dh.ed
    .rw[qB nqc];exact Dh.es
    .obtain⟨h1,lK,h2,h3⟩:=Dh.ql q hq
     refine⟨h1,?_⟩
     by_cases z:q=qk
     .rw[z]
      exact⟨_,qW,by rw[bK];show xs.length+1<=_;omega⟩
     .exact⟨lK,by rw[qB z];exact h2,by omega⟩
   .rintro σ' H7 ⟨z5,z6,m2,rfl,q9,Z9⟩
    exact hN1 _ _ ⟨_,_,_,m2,rfl,q9,by omega⟩
  .rintro σ' H6 ⟨z4,z5,z6,m',rfl,Dg,Z7⟩
   exact hN _ _ ⟨_,_,_,_,_,m',rfl,Dg,by omega⟩
 .rintro σ' H' ⟨z2,z3,z4,z5,z6,m,rfl,sr,lm⟩
  wtm_at"z"
  exact q _ o H' sr.kp sr.ed
theorem jA:xI ["chart","steps","sources","unsettled","best","waiting","least","known","source","step","key","together"] ["chart","steps"] (xB (top 37)):=by constructor <;> first | rfl | wtm_at"d"
theorem kR:aA (xB (top 37)) ["chart","steps","sources","unsettled","best","waiting","least","known","source","step","key","together"] (bP (xC (top 37)) [3] []) ["known","chart"] 1 [0]:=
 by constructor <;> wtm_at"d"
def mV (P:Program)(w:World)(K:aq)(C:Addr):Sp:=λvs H Q _=>∃(G H0:Hp) (c:WC) (D:cG) (r0:Rw) (fo se sd:Addr) (L:List Rw) (sA:List Addr),vs=[.ref c.x,.ref sd]/\Al P w K C G H0 c D r0 fo se sd H L sA/\sA.length=L.length/\L.length<=100/\
 ∀(bd:Addr) (H':Hp),H' bd=some (.dK [])->Q (.ref bd) H'
theorem xJw {C:Addr}(jL:fI K C)(F:Fd K mg "best_steps" (top 37) ["chart","steps"])(B:Bl mg)(yn:Dn P w K mg base "sources_of_all" 1 ["steps"] OZ)(ji:Dm P w K mg base C "is_goal" 1 ["self","known"] (Ic P w K C)):Dn P w K mg base "best_steps" 2 ["chart","steps"] (mV P w K C):=by
 refine F.ok jA (λvs H Q E h=>?_) (λf zy A outer s H vs Q E hr h=>?_)
 .obtain⟨_,_,_,_,_,_,_,_,_,_,rfl,_⟩:=h
  rfl
 obtain⟨G,H0,c,D,r0,fo,se,sd,L,sA,rfl,al,hl,j8,q⟩:=h
 have hu:=nJ hr
 have lk:=wU sA
 obtain⟨n1,n2,n3,n4,n5,n6,n7,n8,n9,IB⟩:=C' al.nw
 refine⟨_,(qZ (xG (i:=2) jA.nd rfl (qE yn hr (qQ (pv 1) qX)))
  (qZ (xG (i:=3) jA.nd rfl vD)
  (qZ (xG (i:=4) jA.nd rfl vD)
  (qZ (vU (i:=5) jA.nd rfl (by wtm_at "zo") rfl kR (Np (pv 1)) (λcl fp s H=>(qI (i:=0) kR.nd rfl (Or.inl rfl) (.inr rfl))) (λcl fp s H=>(LK (yY (yD ji jL (pv 1) hr (qQ (pv 0) qX))))) (λcl fp s H=>(xR (qQ qG (qQ (pv 0) (qQ tR qX))))))
  (qZ (KY PassesOwn.never (qS D5 (xJ (zT (K:=K)) rfl B.dC kQ (qQ (pv 5) qX)) qG (xE _)) (qZ kY (qZ kY (qJ kY))))
  (qJ (qP (pv 4)))))))),?_⟩
 wtm_at"z"
 refine⟨sd,sA,Out [c.rl,c.nd,fo,se,sd] N0 H,rfl,al.ed,by omega,λb o e=>(vE e).2.2,?_,λa ha=>by rw[hl];exact al.ss a ha,λx o H1 k1 iW=>?_⟩
 .cases z:Out [c.rl,c.nd,fo,se,sd] N0 H sd with
  | none=>rfl
  | some u=>exact absurd (bw (i:=4) (l:=[c.rl,c.nd,fo,se,sd]) rfl) (vE z).1
 have wc1:gg P w K C G H1 c D L:=by
  obtain⟨as,e1,e2,p⟩:=al.wc.nb.ex
  exact⟨al.wc.st,λb o e=>k1 _ _ (qC e al.gf.2.2) (al.wc.sm _ _ e),al.wc.gr,al.wc.gn,⟨⟨as,k1 _ _ n4 e1,k1 _ _ n7 e2,Paired.mapP p λ_ _ z=>kW (λb xs e=>k1 _ _ (jC e al.ed (by intro z;cases z)) e) z⟩,al.wc.nb.nd⟩,al.wc.ok⟩
 wtm_at"z"
 intro us B4
 generalize eQ:upd H1 us _=H2
 obtain⟨Sus,IH⟩:=laid B4 eQ
 dsimp only
 wtm_at"z"
 intro bd hbd
 generalize eQ:upd H2 bd _=H3
 obtain⟨Sbd,II⟩:=laid hbd eQ
 dsimp only
 have S3:=Sus.trans Sbd
 wtm_at "zf"
 refine⟨_,rfl,sd,stK sA,rfl,.inr ⟨o,S3 _ _ iW,?_⟩⟩
 refine MM (λT i ys H'=>aa H3 H'/\ys=[]) (λT hT=>⟨qV hT _,rfl⟩) (λT i ys H' _ hP=>hP.1 _ _ (S3 _ _ iW)) (λT i k v ys H' N hT fm ek hP hN=>?_) (λT ys H4 hT fm hP=>?_)
 .obtain⟨S',rfl⟩:=hP
  have hi:=(aN.mp ek).1
  rw[lk] at hi
  rw[vO] at ek
  obtain⟨a,ea,e2⟩:=YJ.mp ek
  cases e2
  have IJ:=wc1.same (S3.trans S')
  refine⟨⟨[some (.int (i:Int))],rfl,rfl⟩,?_⟩
  wtm_at"z"
  refine⟨_,rfl,c.x,c.dx,_,rfl,IJ.sm _ _ IJ.st.ex,rfl,?_⟩
  wtm_at"z"
  refine⟨G,c,D,L,i,rfl,IJ,by omega,λH5 S5=>?_⟩
  wtm_at"z"
  exact hN _ _ (S5 _ _ fm) ⟨S'.trans S5,rfl⟩
 obtain⟨S4,rfl⟩:=hP
 wtm_at"z"
 refine Vd (λR hR=>?_) ?_
 .wtm_at"z"
  exact hR
 wtm_at"z"
 exact q bd H4 (S4 _ _ II)
theorem O3:∀(kvs acc:List (List Key×V)),(∀k∈kvs.map (·.1),k∉acc.map (·.1))->(kvs.map (·.1)).Nodup->bZ acc kvs=acc++kvs
 | [],acc,_,_=>(Yq _).symm
 | p::kvs,acc,h,nd=>by
  have bI:=List.nodup_cons.mp nd
  have e:putK acc p.1 p.2=acc++[p]:=by
   unfold putK
   rw[if_neg]
   intro z
   obtain⟨x,hx,e⟩:=List.any_eq_true.mp z
   exact h p.1 aW (by rw[<- of_decide_eq_true e];exact List.mem_map_of_mem hx)
  show bZ (putK acc p.1 p.2) kvs=_
  rw[e,O3 kvs (acc++[p]) (λk hk z=>?_) bI.2,lS]
  .rfl
  .rw[cu] at z
   rcases fh.mp z with z | z
   .exact h k (yYH _ hk) z
   .exact bI.1 (show p.1∈_ by rw[List.map_singleton] at z;rw[<- bB.mp z];exact hk)
theorem O4:∀{kvs:List (List Key×V)} {i:Nat} {k:List Key} {v:V},(kvs.map (·.1)).Nodup->kvs[i]? = some (k,v)->ai kvs k=some v
 | [],_,_,_,_,h=>by simp at h
 | p::kvs,0,k,v,_,h=>by cases h;exact zN rfl
 | p::kvs,i+1,k,v,nd,h=>by
  have bI:=List.nodup_cons.mp nd
  have h:kvs[i]? = some (k,v):=h
  rw[zO λz=>bI.1 (show p.1∈_ by rw[z];exact aZ.mpr ⟨(k,v),bw h,rfl⟩)]
  exact O4 bI.2 h
theorem qPz {tl:TE}{σ:St}{H:Hp}{R:It->Hp->Prop}(q:tl σ H λx H1=>∃d kvs,x=.ref d/\((H1 d=some (.dT kvs)/\∀o,R (gL d o kvs) (upd H1 d (.frz o (.dT kvs))))\/∃o,H1 d=some (.frz o (.dT kvs))/\R (gL d o kvs) H1)):ip tl σ H R:=q
theorem O5 {C:Addr}{i:Nat}{σ:St}{H:Hp}{R:It->Hp->Prop}{x dx bd:Addr}{fs:List (Str×V)}{kvs:List (List Key×V)}(hv:σ[i]? = some (some (.ref x)))(ex:H x=some (.ins C dx fs))(kd:Kind K C jV)(lb:fs.lookup (Yb "places")=some (.ref bd))(rd:Rd H bd (.dT kvs))
  (h:∀o H1,dN bd H H1->H1 bd=some (.frz o (.dT kvs))->R (gL bd o kvs) H1):ip (oh K (eS i) (Yb "places")) σ H R:=by
 refine qPz (yM hv ex kd fU.1 lb ⟨bd,kvs,rfl,?_⟩)
 rcases rd with e | ⟨o,e⟩
 .exact .inl ⟨e,λo=>h o _ (λb u hb eb=>by rw[qB hb];exact eb) qW⟩
 .exact .inr ⟨o,e,h o H (λ_ _ _ e=>e) e⟩
theorem zG {d:Addr}{H0 H H':Hp}(s:aa H0 H)(n:H0 d=none)(v:dN d H H'):aa H0 H':=λb o e=>v b o (qC e n) (s _ _ e)
theorem xVa {C x dx bd:Addr}{fs:List (Str×V)}{kvs:List (List Key×V)}{H:Hp}(ex:H x=some (.ins C dx fs))(rd:Rd H bd (.dT kvs)):x≠bd:=λz=>by
 subst z
 rcases rd with e | ⟨o,e⟩ <;> (rw[ex] at e;cases e)
theorem wrote {H H':Hp}{x:Addr}{o:HO}(h:upd H x o=H'):H' x=some o/\dN x H H':=by
 subst h
 exact⟨qW,λb o hb e=>by rw[qB hb];exact e⟩
theorem wL {ta tv:TE}{f:Str}{D:Ends}{σ:St}{H:Hp}(q:tv σ H λv H1=>ta σ H1 λx H2=>∃a C dx fs,x=.ref a/\H2 a=some (.ins C dx fs)/\fI K C/\cA K C f/\fs.length<1000/\D.nx σ (upd H2 a (.ins C dx (cz f v fs)))):rG K ta tv f D σ H:=q
theorem ie {a b:List Int}(h:ST.ik a=ST.ik b):a=b:=(List.map_inj_right λx y e=>Sum.inl.inj e).mp h
def eY (rows:List (List Int)):List (List Key×V):=rows.zipIdx.map λp=>(ST.ik p.1,V.int (p.2:Int))
theorem EU (rows:List (List Int)):(eY rows).length=rows.length:=by unfold eY;rw[av,List.length_zipIdx]
theorem IK (rows:List (List Int))(i:Nat):(eY rows)[i]? = (rows[i]?).map λr=>(ST.ik r,V.int (i:Int)):=by
 unfold eY
 rw[bb,List.getElem?_zipIdx]
 cases rows[i]? with
 | none=>rfl
 | some a=>simp
theorem qRd (rows:List (List Int)):(eY rows).map (·.1)=rows.map ST.ik:=List.ext_getElem? λi=>by
 rw[bb,bb,IK]
 cases rows[i]? <;> rfl
theorem O6 {rows:List (List Int)}(nd:rows.Nodup):((eY rows).map (·.1)).Nodup:=by
 rw[qRd]
 exact List.Pairwise.map _ (λa b h z=>h (ie z)) nd
theorem O7 {rows:List (List Int)}(nd:rows.Nodup){i:Nat}{r:List Int}(h:rows[i]? = some r):ai (eY rows) (ST.ik r)=some (.int (i:Int)):=O4 (O6 nd) (by rw[IK,h];rfl)
theorem O8 {σ:St}{H:Hp}{Q:VK}{js:List Nat}{te:TE}{pd:Addr}{o:Obj}{rows:List (List Int)}{g:List Int->V}(Di:H pd=some (.frz o (.dT (eY rows))))(hl:rows.length<=200)
  (sX:∀(a:Addr) (r:List Int) (H':Hp) (R:VK),r∈rows->H' a=some (.tup (ae r))->aa H H'->(∀bT,aa H' bT->R (g r) bT)->te ([some (.ref a)]++frees js σ) H' R)
  (q:∀(D:Addr) (H':Hp),H D=none->aa H H'->H' D=some (.lst (rows.map g))->Q (.ref D) H'):
  fM 1 js (br 0) gD te (gL pd o (eY rows)) σ H Q:=by
 refine Vf (λD i ys H'=>aa H H'/\ys=(rows.take i).map g) (λD hD=>⟨qV hD _,rfl⟩) (λD i ys H' _ hP=>hP.1 _ _ Di) (λD i k v a ys H' N hD aD ek ha hP hN=>?_) (λD ys H2 hD aD hP=>?_)
 .obtain⟨hk,rfl⟩:=hP
  have hi:i<rows.length:=by rw[<- EU rows];exact(aN.mp ek).1
  obtain⟨r,er⟩:∃r,rows[i]? = some r:=⟨_,aH hi⟩
  rw[IK,er] at ek
  cases ek
  rw[ST.my] at ha
  refine⟨⟨[some (.ref a)],rfl,rfl⟩,wE (bz ?_)⟩
  refine sX a r H' _ (bw er) ha hk λH3 S3=>?_
  refine⟨S3 _ _ aD,small (by rw[av,cJ];omega),hN _ _ qW ⟨(hk.trans S3).set hD,?_⟩⟩
  rw[c5,er,cu];rfl
 .obtain⟨hk,rfl⟩:=hP
  rw[EU,dm] at aD
  exact q D H2 hD hk aD
theorem O9 {σ:St}{H:Hp}{Q:VK}{js:List Nat}{te:TE}{ev:Addr}{es:List V}{rows:List (List Int)}{g:List Int->V}(w4:H ev=some (.lst es))(pe:Paired (aK H) rows es)(hl:rows.length<=200)
  (sX:∀(a:Addr) (r:List Int) (H':Hp) (R:VK),r∈rows->H' a=some (.tup (ae r))->aa H H'->(∀bT,aa H' bT->R (g r) bT)->te ([some (.ref a)]++frees js σ) H' R)
  (q:∀(D:Addr) (H':Hp),H D=none->aa H H'->H' D=some (.lst (rows.map g))->Q (.ref D) H'):
  fM 1 js (br 0) gD te (i6 K ev) σ H Q:=by
 have le:=pe.length
 refine jU (xs:=es) (λD i ys H'=>aa H H'/\ys=(rows.take i).map g) (λD hD=>⟨qV hD _,rfl⟩) (λD i ys H' _ hP=>aj.of (hP.1 _ _ w4)) (λD i x ys H' N hD aD ex hP hN=>?_) (λD ys H2 hD aD hP=>?_)
 .obtain⟨hk,rfl⟩:=hP
  obtain⟨r,er⟩:∃r,rows[i]? = some r:=⟨_,aH (by rw[le];exact(aN.mp ex).1)⟩
  have il:=(aN.mp er).1
  obtain⟨a,rfl,ha⟩:=xV pe er ex
  refine⟨⟨[some (.ref a)],rfl,rfl⟩,wE (bz ?_)⟩
  refine sX a r H' _ (bw er) (hk _ _ ha) hk λH3 S3=>?_
  refine⟨S3 _ _ aD,small (by rw[av,cJ];omega),hN _ _ qW ⟨(hk.trans S3).set hD,?_⟩⟩
  rw[c5,er,cu];rfl
 .obtain⟨hk,rfl⟩:=hP
  rw[<- le,dm] at aD
  exact q D H2 hD hk aD
structure W5 (W:Wd):Prop where
 ok:CG W
 b3:W.bs.length<=3
 gR:(ag W.bs).length<=60
 nd:(ag W.bs).Nodup
 one:∀d∈W.ds,∃wy,d.bF=[wy]
 need:∀d∈W.ds,d.need=.nul "yes"
 goal:∀r∈ag W.bs,W.gt.truth (envOf (kvsOf W.bs r))=false
 d3:W.ds.length<=10
 l3:W.ls.length<=10
 pr:∀d∈W.ds,d.aP.natAbs<2 ^ 1000
 pl:∀l∈W.ls,l.aP.natAbs<2 ^ 1000
def iX (bs:List (Str×Int))(wys:List (List (Str×Th))):List Int:=(ag bs).map λr=>(((ag bs).idxOf ((jD bs wys [r]).headD []):Nat):Int)
theorem xQl {ms:List (List Int)}{b:List Int}(h:NY ms [b]):ms=[b]:=by
 have m:∀x∈ms,x=b:=λx hx=>bB.mp ((h.mem x).mp hx)
 have hb:b∈ms:=(h.mem b).mpr (bB.mpr rfl)
 cases ms with
 | nil=>cases hb
 | cons x t=>
  have e:=m x aW
  cases t with
  | nil=>rw[e]
  | cons y t=>
   have e2:=m y (yYH _ aW)
   have:=List.rel_of_pairwise_cons h.up aW
   rw[e,e2,XH] at this
   cases this
theorem xU:xI ["self","world","name","need","targets"] ["self","world","name"] (xB (bp 31 1)):=by constructor <;> first | rfl | wtm_at"d"
theorem zC:aA (xB (bp 31 1)) ["self","world","name","need","targets"] (bP (xC (bp 31 1)) [0] []) ["standing","world","name"] 1 [1,2]:=
 by constructor <;> wtm_at"d"
theorem zB:aA (xB (bp 31 1)) ["self","world","name","need","targets"] (bP (xC (bp 31 1)) [1] []) ["standing","self","world","name"] 1 [0,1,2]:=
 by constructor <;> wtm_at"d"
def Pa (K:aq)(C:Addr):Sp:=λvs H Q _=>∃(H0:Hp) (W:Wd) (x dx pd p:Addr) (fs:List (Str×V)) (d:aO),vs=[.ref x,.ref p,.str d.name]/\aa H0 H/\H0 pd=none/\H x=some (.ins C dx fs)/\Kind K C jV/\fs.lookup (Yb "places")=some (.ref pd)/\Rd H pd (.dT (eY (ag W.bs)))/\pB H0 W p/\W5 W/\d∈W.ds/\
 ∀(t na ta:Addr) (o:Obj) (H':Hp),dN pd H H'->H' pd=some (.frz o (.dT (eY (ag W.bs))))->H t=none->H na=none->H ta=none->H' t=some (.tup [.ref na,.ref ta])->H' na=some (.lst ((Yg (ag W.bs).length true).map V.bl))->H' ta=some (.lst (ae (iX W.bs d.bF)))->Q (.ref t) H'
theorem qFv {C:Addr}(F:Md K C "charted_deed" "WeightedChart.charted_deed" (bp 31 1) ["self","world","name"])(B:Bl mg)(JJ:Dn P w K mg base "may_do" 28 ["world","known","name"] qy)(JK:Dn P w K mg base "behind" 15 ["world","known","name"] N5):Dm P w K mg base C "charted_deed" 29 ["self","world","name"] (Pa K C):=by
 refine F.ok xU (λvs H Q E h=>?_) (λf zy A outer s H vs Q E hr h=>?_)
 .obtain⟨_,_,_,_,_,_,_,_,rfl,_⟩:=h
  rfl
 obtain⟨H0,W,x,dx,pd,p,fs,d,rfl,S0,Pb,ex,kd,lb,rd,wp,sm,hd,q⟩:=h
 have gR:=sm.gR
 have nx:=xVa ex rd
 have hu:=nJ hr
 have ask:∀{H':Hp} {a ka:Addr} {r:List Int},aa H0 H'->r∈ag W.bs->H' a=some (.tup (ae r))->H' ka=some (.lst [.ref a])->Ask H' W p ka [r]:=λs hr ha EV=>⟨wp.same s,sm.ok,sm.b3,⟨_,EV,.cons ⟨_,rfl,ha⟩ .nil⟩,λq hq=>by rw[bB.mp hq];exact wV hr,(by show 1<=200;decide)⟩
 refine⟨_,(qZ (vU (i:=3) xU.nd rfl (by wtm_at "zo") rfl zC (MO (jN (K:=K) (pv 0))) (λcl fp s H=>(qI (i:=0) zC.nd rfl (Or.inl rfl) (.inr rfl))) (λcl fp s H=>zH) (λcl fp s H=>(qE JJ hr (qQ (pv 1) (qQ (zE (qQ (pv 0) qX)) (qQ (pv 2) qX))))))
  (qZ (vU (i:=4) xU.nd rfl (by wtm_at "zo") rfl zB (MO (jN (K:=K) (pv 0))) (λcl fp s H=>(qI (i:=0) zB.nd rfl (Or.inl rfl) (.inr rfl))) (λcl fp s H=>zH) (λcl fp s H=>(vX hu (jN (K:=K) (pv 1)) (xN (qU (K:=K)) (qE JK hr (qQ (pv 2) (qQ (zE (qQ (pv 0) qX)) (qQ (pv 3) qX)))) qG) (λ_ _=>rfl))))
  (qJ (qP (xR (qQ (pv 3) (qQ (pv 4) qX))))))),?_⟩
 wtm_at "zf"
 refine O5 rfl ex kd lb rd λo H1 sv1 e1=>?_
 have Dj:=zG S0 Pb sv1
 have qt:=sv1 _ _ nx ex
 refine O8 (g:=λ_=>.bl true) e1 (by omega) (λa r H' R hr ha S' hR=>?_) λna H2 nna S2 tf=>?_
 .wtm_at"z"
  refine⟨iw,λl1 hl1=>?_⟩
  generalize eQ:upd H' l1 _=HA
  obtain⟨gh,tm⟩:=laid hl1 eQ
  wtm_at"z"
  refine⟨W,p,l1,[r],d,rfl,ask ((Dj.trans S').trans gh) hr (gh _ _ ha) tm,hd,λH3 S3=>?_⟩
  have e:([r].all λr=>d.need.truth (envOf (kvsOf W.bs r)))=true:=by rw[sm.need d hd];rfl
  rw[e]
  exact hR _ (gh.trans S3)
 have EW:=S2 _ _ e1
 have Dl:=S2 _ _ qt
 wtm_at "zf"
 refine O5 rfl Dl kd lb (.inr ⟨o,EW⟩) λo' H3 sv3 e3=>?_
 have nN:=zG (Dj.trans S2) Pb sv3
 have nQ:=sv3 _ _ nx Dl
 refine O8 (g:=λr=>.int (((ag W.bs).idxOf ((jD W.bs d.bF [r]).headD []):Nat):Int)) e3 (by omega) (λa r H' R hr ha S' hR=>?_) λta H4 nta S4 eta=>?_
 .wtm_at"z"
  refine yM rfl (S' _ _ nQ) kd fU.1 lb ?_
  wtm_at"z"
  refine⟨iw,λl1 hl1=>?_⟩
  generalize eQ:upd H' l1 _=HA
  obtain⟨gh,tm⟩:=laid hl1 eQ
  wtm_at"z"
  obtain⟨wy,nO⟩:=sm.one d hd
  have ec:jD W.bs d.bF [r]=[zA W.bs wy r]:=by rw[nO];rfl
  refine⟨W,p,l1,[r],d,rfl,ask ((nN.trans S').trans gh) hr (gh _ _ ha) tm,hd,by rw[nO];show 1<=100;decide,by rw[ec];show 1<=3;decide,λrr us ms H5 hrr S5 err pms srt=>?_⟩
  have hR:∀bT,aa H' bT->R (.int (((ag W.bs).idxOf (zA W.bs wy r):Nat):Int)) bT:=λbT S=>by
   have:=hR bT S
   rw[ec] at this
   exact this
  rw[ec] at srt
  have ems:=xQl srt
  subst ems
  cases pms with
  | cons hb t=>
   cases t
   obtain⟨ab,rfl,eab⟩:=hb
   have IL:zA W.bs wy r∈ag W.bs:=NX (vJ (wV hr) λb hb=>(sm.ok.j7 b hb).1)
   have ei:(ag W.bs)[(ag W.bs).idxOf (zA W.bs wy r)]? = some (zA W.bs wy r):=by
    rw[aH (List.idxOf_lt_length_of_mem IL),List.getElem_idxOf]
   wtm_at"z"
   refine⟨pd,_,rfl,.inr ⟨_,ST.ik (zA W.bs wy r),ab,.inr ⟨o',S5 _ _ (gh _ _ (S' _ _ e3))⟩,rfl,HM eab,(O7 sm.nd ei).symm⟩,hR _ (gh.trans S5)⟩
 wtm_at"z"
 refine⟨dD,λt ht=>?_⟩
 generalize eQ:upd H4 t _=H5
 obtain⟨St,et⟩:=laid ht eQ
 have sv:dN pd H H2:=λb u hb e=>S2 _ _ (sv1 _ _ hb e)
 have Pc:dN pd H H4:=λb u hb e=>S4 _ _ (sv3 _ _ hb (sv _ _ hb e))
 have fr:∀{b:Addr} {X:Hp},dN pd H X->X pd≠none->X b=none->H b=none:=λ{b X} sx np hb=>by
  cases z:H b with
  | none=>rfl
  | some u=>
   by_cases e:b=pd
   .rw[e] at hb;exact absurd hb np
   .rw[sx b u e z] at hb;cases hb
 have np1:H1 pd≠none:=by rw[e1];intro z;cases z
 have np3:H3 pd≠none:=by rw[e3];intro z;cases z
 have IM:na≠pd:=λz=>by rw[z] at tf;rw[EW] at tf;cases tf
 refine q t na ta o' H5 (λb u hb e=>St _ _ (Pc _ _ hb e)) (St _ _ (S4 _ _ e3)) (fr Pc (by rw[S4 _ _ e3];intro z;cases z) ht) (fr sv1 np1 nna) (fr (λb u hb e=>sv3 _ _ hb (sv _ _ hb e)) np3 nta) et ?_ ?_
 .have:=St _ _ (S4 _ _ (sv3 _ _ IM tf))
  rw[this,List.map_const',List.map_replicate]
 .have:=St _ _ eta
  rw[this]
  unfold iX ae
  rw[Yn];rfl
theorem qOw {a:Addr}{xs:List V}{k:Nat}{js:List Nat}{g:TG}{tt:TT}{te:TE}{σ:St}{H1:Hp}{Q:VK}(Pv:Addr->Nat->List V->Hp->Prop)(h0:∀D,H1 D=none->Pv D 0 [] (upd H1 D (.lst [])))
  (hl:∀D i zs H,i<=xs.length->Pv D i zs H->aj K H a xs)
  (hs:∀D i x T zs H (N:List V->Hp->Prop),H1 D=none->H D=some (.lst zs)->xs[i]? = some x->H T=none->Pv D i zs H->(∀zs H',H' D=some (.lst zs)->Pv D (i+1) zs H'->N zs H')->dJ k js g tt te σ D (.ref T) zs (upd H T (.tup [.int (i:Int),x])) N)
  (hd:∀D zs H,H1 D=none->H D=some (.lst zs)->Pv D xs.length zs H->Q (.ref D) H):fM k js g tt te (Gr K a) σ H1 Q:=by
 intro D hD
 refine⟨λi m ys H=>m=xs.length - i/\i<=xs.length/\H D=some (.lst ys)/\Pv D i ys H,⟨xs.length,by simp,yZG _,qW,h0 D hD⟩,?_⟩
 rintro i m ys H ⟨rfl,hi,aD,p⟩
 refine⟨aD,?_⟩
 have z:=hl D i ys H hi p
 by_cases bc:i<xs.length
 .refine .inr ⟨⟨xs,xs[i],z,by simp[bc]⟩,λx H' y=>?_⟩
  obtain⟨T,vx,rfl,nT,rfl,e1⟩:=y
  exact hs D i vx T ys _ (λzs H'=>∃m',m'<xs.length - i/\m'=xs.length - (i+1)/\i+1<=xs.length/\H' D=some (.lst zs)/\Pv D (i+1) zs H') hD aD (e1 xs z) nT p λzs H' e p'=>⟨xs.length - (i+1),by omega,rfl,bc,e,p'⟩
 .have e:i=xs.length:=by omega
  subst e
  exact .inl ⟨⟨xs,z,yZD _⟩,hd D ys H hD aD p⟩
def fc (W:Wd):cG:=⟨(ag W.bs).length,W.ds.map λd=>⟨d.name,d.aP,iX W.bs d.bF⟩,W.ls.map λl=>⟨l.name,l.aP,(ag W.bs).map λr=>l.part.worth (envOf (kvsOf W.bs r))⟩⟩
theorem jR:xI ["self","world","every"] ["self","world"] (xB (bp 31 0)):=by constructor <;> first | rfl | wtm_at"d"
theorem zM:aA (xB (bp 31 0)) ["self","world","every"] (bP (xC (bp 31 0)) [1] [1]) ["place","standing"] 2 []:=
 by constructor <;> wtm_at"d"
theorem jM:aA (xB (bp 31 0)) ["self","world","every"] (bP (xC (bp 31 0)) [2] []) ["standing","world"] 1 [1]:=
 by constructor <;> wtm_at"d"
theorem jI:aA (xB (bp 31 0)) ["self","world","every"] (bP (xC (bp 31 0)) [3] []) ["deed","world","self"] 1 [1,0]:=
 by constructor <;> wtm_at"d"
theorem jH:Et (xB (bp 31 0)) ["self","world","every"] (bP (xC (bp 31 0)) [4] []) ["look","world","every"] 1 [1,2] "look" :=
 ⟨by wtm_at"d",by wtm_at"d",by wtm_at"d",by wtm_at"d",by wtm_at"d",by wtm_at"d",by wtm_at"d",by wtm_at"d",by wtm_at"d"⟩
theorem jG:aA (F7 (bP (xC (bp 31 0)) [4] []) (xB (bp 31 0))) ["look","world","every"] (bP (xC (bp 31 0)) [4] [0,2]) ["standing","world","look"] 1 [1,0]:=
 by constructor <;> wtm_at"d"
def mW (P:Program)(w:World)(K:aq)(C:Addr):Sp:=λvs H Q _=>∃(H0:Hp) (x dx p:Addr) (W:Wd),vs=[.ref x,.ref p]/\aa H0 H/\H0 x=none/\H x=some (.ins C dx [])/\Kind K C jV/\pB H0 W p/\W5 W/\W.ds≠[]/\
 ∀(c:WC) (G:Hp) (o:Obj) (H':Hp),c.x=x->aa H0 H'->gg P w K C G H' c (fc W) []->G c.pd=some (.frz o (.dT (eY (ag W.bs))))->Q .non H'
theorem qNh {C:Addr}(jL:fI K C)(F:Mi K mg "WeightedChart" C "WeightedChart.__init__" (bp 31 0) ["self","world"])(B:Bl mg)(ve:mg "enumerate" = none)(vd:Dn P w K mg base "standings" 2 ["world"] vP)(ux:Dn P w K mg base "at_goal" 28 ["world","known"] N9)
  (JV:Dn P w K mg base "shown" 15 ["world","name","standing"] NM) (jx:Dm P w K mg base C "charted_deed" 29 ["self","world","name"] (Pa K C)):Dk P w K mg base "WeightedChart" C 30 ["self","world"] (mW P w K C):=by
 refine F.ok jR (λvs H Q E h=>?_) (λf zy A outer s H vs Q E hr h=>?_)
 .obtain⟨_,_,_,_,_,rfl,_⟩:=h
  rfl
 obtain⟨H0,x,dx,p,W,rfl,S0,nx,ex,kd,wp,sm,IP,q⟩:=h
 have gR:=sm.gR
 obtain⟨bx,dx0,lx,bv,gv,ep,A0⟩:=id wp
 obtain⟨du,lR,pd⟩:=A0.cV
 obtain⟨lu,EB,pl⟩:=A0.eF
 have ask:∀{H':Hp} {a ka:Addr} {r:List Int},aa H0 H'->r∈ag W.bs->H' a=some (.tup (ae r))->H' ka=some (.lst [.ref a])->Ask H' W p ka [r]:=λs hr ha EV=>⟨wp.same s,sm.ok,sm.b3,⟨_,EV,.cons ⟨_,rfl,ha⟩ .nil⟩,λq hq=>by rw[bB.mp hq];exact wV hr,(by show 1<=200;decide)⟩
 refine⟨_,(qZ (xG (i:=2) jR.nd rfl (qE vd hr (qQ (pv 1) qX)))
  (qZ (wQ (K:=K) (pv 0) (xZ (Vr hr.units rfl) rfl B.gO BI (qQ (jZ rfl zM (Tv (K:=K) rfl ve (qQ (pv 2) qX)) (λcl fp s H=>(zI (K:=K) (n:=2) rfl (qM (qI (i:=0) zM.nd rfl (Or.inl rfl) (.inr rfl)) (qM (qI (i:=1) zM.nd rfl (Or.inl rfl) (.inr rfl)) qN)))) (λcl fp s H=>zH) (λcl fp s H=>(xR (qQ (pv 1) (qQ (pv 0) qX))))) qX)))
  (qZ (wQ (K:=K) (pv 0) (jZ rfl jM (xQ (K:=K) (pv 2)) (λcl fp s H=>(qI (i:=0) jM.nd rfl (Or.inl rfl) (.inr rfl))) (λcl fp s H=>zH) (λcl fp s H=>(qE ux hr (qQ (pv 1) (qQ (zE (qQ (pv 0) qX)) qX))))))
  (qZ (wQ (K:=K) (pv 0) (jZ rfl jI (xQ (K:=K) (xN (qT (K:=K)) (pv 1) qG)) (λcl fp s H=>(qI (i:=0) jI.nd rfl (Or.inl rfl) (.inr rfl))) (λcl fp s H=>zH) (λcl fp s H=>(xX (L4 (K:=K)) (xR (qQ (xN (qT (K:=K)) (pv 0) qG) (qQ (xN (qT (K:=K)) (pv 0) qG) qX))) (yD jx jL (pv 2) hr (qQ (pv 1) (qQ (xN (qT (K:=K)) (pv 0) qG) qX)))))))
  (qZ (wQ (K:=K) (pv 0) (WQ rfl jH (xQ (K:=K) (xN (qT (K:=K)) (pv 1) qG)) (λcl fp s H=>(qI (i:=0) jH.nd rfl (Or.inr rfl) (.inl rfl))) (λcl fp s H=>zH) (λcl fp s H=>(xR (qQ (xN (qT (K:=K)) (pv 0) qG) (qQ (xN (qT (K:=K)) (pv 0) qG) (qQ (jZ rfl jG (xQ (K:=K) (pv 2)) (λcl fp s H=>(qI (i:=0) jG.nd rfl (Or.inl rfl) (.inr rfl))) (λcl fp s H=>zH) (λcl fp s H=>(qE JV hr (qQ (pv 1) (qQ (xN (qT (K:=K)) (pv 2) qG) (qQ (pv 0) qX)))))) qX)))))))
  (qZ (wQ (K:=K) (pv 0) (zE qX))
  (qJ (wQ (K:=K) (pv 0) (We (P:=P) (w:=w)))))))))),?_⟩
 wtm_at"z"
 refine⟨W,p,bx,dx0,lx,bv,gv,rfl,S0 _ _ ep,A0.same S0,sm.ok,λev es H1 nev S1 w4 IQ=>?_⟩
 have Dj:=S0.trans S1
 wtm_at"z"
 refine wL ?_
 wtm_at "zf"
 refine⟨_,rfl,ev,es,rfl,aj.of w4,?_⟩
 have le:=IQ.length
 refine qOw (xs:=es) (λD i ys H'=>aa H1 H'/\Paired (mD H') (eY ((ag W.bs).take i)) ys) (λD hD=>⟨qV hD _,.nil⟩) (λD i ys H' _ hP=>aj.of (hP.1 _ _ w4)) (λD i v T ys H' N hD aD ev' nT hP hN=>?_) (λD ys H2 hD aD hP=>?_)
 .obtain⟨S',py⟩:=hP
  obtain⟨r,er⟩:∃r,(ag W.bs)[i]? = some r:=⟨_,aH (by rw[le];exact(aN.mp ev').1)⟩
  have il:=(aN.mp er).1
  obtain⟨a,rfl,ha⟩:=xV IQ er ev'
  generalize eT:upd H' T _=H3
  obtain⟨ST,eT3⟩:=laid nT eT
  have ly:=py.length
  rw[EU,cJ] at ly
  refine⟨T,_,rfl,aS.of eT3,rfl,_,_,rfl,_,_,rfl,rfl,⟨[some (.int (i:Int)),some (.ref a)],rfl,rfl⟩,wE (bz ?_)⟩
  wtm_at"z"
  refine⟨dD,λt ht=>?_⟩
  generalize eQ:upd H3 t _=H4
  obtain⟨St,et⟩:=laid ht eQ
  have S4:=ST.trans St
  have Df:=S4 _ _ aD
  have T5:bD H4 (upd H4 D (.lst (ys++[.ref t]))):=λb xs e=>by rw[qB (jC e Df (by intro z;cases z))];exact e
  refine⟨Df,small (by omega),hN _ _ qW ⟨(S'.trans S4).set hD,?_⟩⟩
  rw[c5,er]
  show Paired _ (eY ((ag W.bs).take i++[r])) _
  unfold eY at py ⊢
  rw[List.zipIdx_append,cu]
  refine Paired.snoc (Paired.mapP py λ_ _ ⟨b,b2,h1,h2,h3⟩=>⟨b,b2,h1,T5 _ _ (S4 _ _ h2),T5 _ _ (S4 _ _ h3)⟩) ⟨t,a,rfl,?_,T5 _ _ (S4 _ _ (S' _ _ (HM ha)))⟩
  have e0:(0+((ag W.bs).take i).length:Nat)=i:=by rw[cJ];omega
  show upd H4 D _ t=some (.tup [.ref a,V.int ((0+((ag W.bs).take i).length:Nat):Int)])
  rw[e0]
  exact T5 _ _ et
 obtain⟨S2,py⟩:=hP
 rw[<- le,dm] at py
 wtm_at"z"
 refine⟨D,ys,_,rfl,aD,py,by rw[EU];omega,λcO hpd'=>?_⟩
 rw[show bZ [] (eY (ag W.bs))=eY (ag W.bs) from by rw[O3 _ [] (λk _ z=>nomatch z) (O6 sm.nd),List.nil_append]]
 generalize eQ:upd H2 cO _=H3
 obtain⟨Dp,mY⟩:=laid hpd' eQ
 have pK:=S2.trans Dp
 have nN:=Dj.trans pK
 have pM:H0 cO=none:=(Dj.trans S2).free hpd'
 have nQ:=pK _ _ (S1 _ _ ex)
 refine⟨_,rfl,x,C,dx,_,rfl,nQ,kd.cls,kd.no _ fU.1,(show 0<1000 by decide),?_⟩
 generalize hK:upd H3 x _=H4
 obtain⟨wz,s4⟩:=wrote hK
 have wz:H4 x=some (.ins C dx [(Yb "places",.ref cO)]):=wz
 clear hK
 have Pd:=zG nN nx s4
 have Dq:cO≠x:=(jC nQ mY (by intro z;cases z)).symm
 have Dr:=s4 _ _ Dq mY
 have IS:ev≠x:=jC (pK _ _ w4) nQ (by intro z;cases z)
 have tJ:=s4 _ _ IS (pK _ _ w4)
 have Ds:Paired (aK H4) (ag W.bs) es:=Paired.mapP IQ λ_ _ ⟨a,e,h⟩=>⟨a,e,s4 _ _ (jC (pK _ _ h) nQ (by intro z;cases z)) (pK _ _ h)⟩
 clear py pK S2 aD hD nQ mY Dp nN
 wtm_at"z"
 refine wL ?_
 wtm_at "zf"
 refine kU (aj.of tJ) ?_
 refine O9 (g:=λ_=>.bl false) tJ Ds (by omega) (λa r H' R hr ha S' hR=>?_) λgl H5 hgl S5 Ie=>?_
 .wtm_at"z"
  refine⟨iw,λl1 hl1=>?_⟩
  generalize eQ:upd H' l1 _=HA
  obtain⟨gh,tm⟩:=laid hl1 eQ
  wtm_at"z"
  refine⟨W,p,l1,[r],rfl,ask ((Pd.trans S').trans gh) hr (gh _ _ ha) tm,λH6 S6=>?_⟩
  have e:([r].all λr=>W.gt.truth (envOf (kvsOf W.bs r)))=false:=by rw[List.all_cons,sm.goal r hr];rfl
  rw[e]
  exact hR _ (gh.trans S6)
 have Pe:=S5 _ _ wz
 refine⟨_,rfl,x,C,dx,_,rfl,Pe,kd.cls,kd.no _ fU.2.1,(show 1<1000 by decide),?_⟩
 generalize hK:upd H5 x _=H6
 obtain⟨Du,s6⟩:=wrote hK
 have Du:H6 x=some (.ins C dx [(Yb "places",.ref cO),(Yb "goal",.ref gl)]):=Du
 clear hK
 have Dv:=zG (Pd.trans S5) nx s6
 have mZ:=s6 _ _ Dq (S5 _ _ Dr)
 have Pf:gl≠x:=(qC wz hgl).symm
 have IT:=s6 _ _ Pf Ie
 have Dy:=s6 _ _ IS (S5 _ _ tJ)
 have IU:Paired (aK H6) (ag W.bs) es:=Paired.mapP Ds λ_ _ ⟨a,e,h⟩=>⟨a,e,s6 _ _ (jC (S5 _ _ h) Pe (by intro z;cases z)) (S5 _ _ h)⟩
 have ngp:gl≠cO:=(qC Dr hgl).symm
 wtm_at"z"
 refine wL ?_
 have ep6:=Dv _ _ ep
 wtm_at "zf"
 have lb:=pd.length
 let fD:aO->CD:=λd=>⟨d.name,d.aP,iX W.bs d.bF⟩
 refine kU (aj.of (Dv _ _ lR)) ?_
 refine jU (xs:=du) (λD i ys H'=>dN cO H6 H'/\Rd H' cO (.dT (eY (ag W.bs)))/\(0<i->∃o,H' cO=some (.frz o (.dT (eY (ag W.bs)))))/\Paired (mO (ag W.bs).length (Out [D,cO] N0 H')) ((W.ds.take i).map fD) ys/\D≠cO)
  (λD hD=>⟨λb o _ e=>qV hD _ _ _ e,.inl (qV hD _ _ _ mZ),λz=>absurd z (by decide),.nil,(qC mZ hD).symm⟩) (λD i ys H' _ hP=>aj.of (hP.1 _ _ (qC lR pM) (Dv _ _ lR))) (λD i u ys H' N hD aD eu hP hN=>?_) (λD ys H7 hD aD hP=>?_)
 .obtain⟨sv,rd',fz',py,Dz⟩:=hP
  obtain⟨d,ed⟩:∃d,W.ds[i]? = some d:=⟨_,aH (by rw[lb];exact(aN.mp eu).1)⟩
  obtain⟨da,nv,wa,wu,rfl,Ij,nat,dS,pw⟩:=xV pd ed eu
  have md:=bw ed
  have Pg:aa H0 H':=zG Dv pM sv
  have jaa:=Pg _ _ Ij
  have ly:=py.length
  rw[av,cJ] at ly
  have d3:=sm.d3
  have il:=(aN.mp ed).1
  have nW:=sv _ _ Dq.symm Du
  refine⟨⟨[some (.ref da)],rfl,rfl⟩,wE (bz ?_)⟩
  wtm_at"z"
  refine⟨dD,λt1 ht1=>?_⟩
  generalize eQ:upd H' t1 _=HA
  obtain⟨eO,tj⟩:=laid ht1 eQ
  have IV:Rd HA cO (.dT (eY (ag W.bs))):=by
   rcases rd' with e | ⟨o,e⟩
   .exact .inl (eO _ _ e)
   .exact .inr ⟨o,eO _ _ e⟩
  refine⟨_,rfl,x,dx,_,rfl,eO _ _ nW,rfl,?_⟩
  wtm_at"z"
  refine⟨H0,W,x,dx,cO,p,_,d,rfl,Pg.trans eO,pM,eO _ _ nW,kd,rfl,IV,wp,sm,md,λt na ta o HB DA eB nt nna nta et tf eta=>?_⟩
  have nt1:t1≠cO:=λz=>by
   rw[z] at tj
   rcases IV with e | ⟨o,e⟩ <;> (rw[tj] at e;cases e)
  refine⟨t1,t,_,_,rfl,rfl,aS.of (DA _ _ nt1 tj),aS.of et,(by simp),HJ (show 4<=1000000 by decide),(λz=>nomatch z),λ_ t2 ht2=>?_⟩
  generalize eQ:upd HB t2 _=HC
  obtain⟨fV,sY⟩:=laid ht2 eQ
  have IW:=eO _ _ aD
  have hDC:=fV _ _ (DA _ _ Dz IW)
  have K5:∀b o,b≠D->HC b=some o->upd HC D (.lst (ys++[.ref t2])) b=some o:=λb o nb e=>by rw[qB nb];exact e
  have so:aa (Out [D,cO] N0 H') (Out [D,cO] N0 (upd HC D (.lst (ys++[.ref t2])))):=kK λb o hb e=>K5 _ _ (λz=>hb (by rw[z];simp)) (fV _ _ (DA _ _ (λz=>hb (by rw[z];simp)) (eO _ _ e)))
  have cdm:∀d' u',mO (ag W.bs).length (Out [D,cO] N0 H') d' u'->mO (ag W.bs).length (Out [D,cO] N0 (upd HC D (.lst (ys++[.ref t2])))) d' u':=λd' u' ⟨a1,n1,c1,h1,h2,h3,h4⟩=>⟨a1,n1,c1,h1,so _ _ h2,so _ _ h3,so _ _ h4⟩
  have pdA:HA cO≠none:=by rcases IV with e | ⟨o,e⟩ <;> (rw[e];intro z;cases z)
  refine⟨hDC,small (by omega),hN _ _ qW ⟨λb o hb e=>?_,.inr ⟨o,?_⟩,λ_=>⟨o,?_⟩,?_,Dz⟩⟩
  .rw[qB (qC e hD)];exact fV _ _ (DA _ _ hb (eO _ _ (sv _ _ hb e)))
  .exact K5 _ _ Dz.symm (fV _ _ eB)
  .exact K5 _ _ Dz.symm (fV _ _ eB)
  .rw[c5,ed,cu]
   have nD:∀{b:Addr},HA b=none->b≠D:=λhb z=>by rw[z,IW] at hb;cases hb
   have nP:∀{b:Addr},HA b=none->b≠cO:=λhb z=>by rw[z] at hb;exact pdA hb
   have o2:∀{b:Addr},b≠D->b≠cO->b∉[D,cO]:=λh1 h2 z=>by
    simp only[aE,Yp,or_false] at z
    exact z.elim h1 h2
   have Ph:t2≠D:=λz=>by rw[z,DA _ _ Dz IW] at ht2;cases ht2
   have t2P:t2≠cO:=λz=>by rw[z,eB] at ht2;cases ht2
   exact Paired.snoc (Paired.mapP py cdm) ⟨t2,na,ta,rfl,zP (o2 Ph t2P) rfl (K5 _ _ Ph sY),zP (o2 (nD nna) (nP nna)) rfl (K5 _ _ (nD nna) (fV _ _ tf)),zP (o2 (nD nta) (nP nta)) rfl (K5 _ _ (nD nta) (fV _ _ eta))⟩
 obtain⟨w6,rd7,Pj,IX,jab⟩:=hP
 rw[<- lb,dm] at IX
 obtain⟨o,IZ⟩:=Pj (by rw[<- lb];exact List.length_pos_iff.mpr IP)
 have S07:aa H0 H7:=zG Dv pM w6
 have I0:=w6 _ _ Dq.symm Du
 refine⟨_,rfl,x,C,dx,_,rfl,I0,kd.cls,kd.no _ fU.2.2.1,(show 2<1000 by decide),?_⟩
 generalize hK:upd H7 x _=H8
 obtain⟨EX,s8⟩:=wrote hK
 have EX:H8 x=some (.ins C dx [(Yb "places",.ref cO),(Yb "goal",.ref gl),(Yb "deeds",.ref D)]):=EX
 clear hK
 have w9:=zG S07 nx s8
 have nDx:D≠x:=(qC Du hD).symm
 have eD8:=s8 _ _ nDx aD
 have Jp:=s8 _ _ Pf (w6 _ _ ngp IT)
 have Jq:=s8 _ _ Dq IZ
 have nep:ev≠cO:=jC Dy mZ (by intro z;cases z)
 have DB:=s8 _ _ IS (w6 _ _ nep Dy)
 have Jr:Paired (aK H8) (ag W.bs) es:=Paired.mapP IU λ_ _ ⟨a,e,h⟩=>⟨a,e,s8 _ _ (jC (w6 _ _ (jC h mZ (by intro z;cases z)) h) I0 (by intro z;cases z)) (w6 _ _ (jC h mZ (by intro z;cases z)) h)⟩
 have py8:Paired (mO (ag W.bs).length H8) (W.ds.map fD) ys:=Paired.mapP IX λd' u' ⟨a1,n1,c1,h1,h2,h3,h4⟩=>by
  have mv:∀{b:Addr} {u:HO},(∀C dx fs,u≠.ins C dx fs)->Out [D,cO] N0 H7 b=some u->H8 b=some u:=λ{b u} no e=>by
   have e7:=(vE e).2.2
   exact s8 _ _ (λz=>by rw[z,I0] at e7;cases e7;exact no _ _ _ rfl) e7
  exact⟨a1,n1,c1,h1,mv (by intro _ _ _ z;cases z) h2,mv (by intro _ _ _ z;cases z) h3,mv (by intro _ _ _ z;cases z) h4⟩
 clear IX Pj rd7
 dsimp only
 wtm_at"z"
 refine wL ?_
 have ep8:=w9 _ _ ep
 wtm_at "zf"
 have ll:=pl.length
 let fL:Look->CL:=λl=>⟨l.name,l.aP,(ag W.bs).map λr=>l.part.worth (envOf (kvsOf W.bs r))⟩
 refine kU (aj.of (w9 _ _ EB)) ?_
 refine jU (xs:=lu) (λT i ys H'=>aa H8 H'/\Paired (CS (Out [T] N0 H')) ((W.ls.take i).map fL) ys) (λT hT=>⟨qV hT _,.nil⟩) (λT i ys H' _ hP=>aj.of (hP.1 _ _ (w9 _ _ EB))) (λT i u zs H' N hT fm eu hP hN=>?_) (λT zs H9 hT fm hP=>?_)
 .obtain⟨S',py⟩:=hP
  obtain⟨l,el⟩:∃d,W.ls[i]? = some d:=⟨_,aH (by rw[ll];exact(aN.mp eu).1)⟩
  obtain⟨la,lv,rfl,CI,_⟩:=xV pl el eu
  have ml:=bw el
  have Js:=S' _ _ (w9 _ _ CI)
  have ly:=py.length
  rw[av,cJ] at ly
  have l3:=sm.l3
  have il:=(aN.mp el).1
  refine⟨⟨[some (.ref la)],rfl,rfl⟩,wE (bz ?_)⟩
  wtm_at "zf"
  refine kU (aj.of (S' _ _ DB)) ?_
  refine O9 (g:=λr=>.int (l.part.worth (envOf (kvsOf W.bs r)))) (S' _ _ DB) (Paired.mapP Jr λ_ _ ⟨a,e,h⟩=>⟨a,e,S' _ _ h⟩) (by omega) (λa r HX R hr ha SX hR=>?_) λsl HA hsl SA esl=>?_
  .have jac:=SX _ _ Js
   wtm_at"z"
   have wx:=wp.same ((w9.trans S').trans SX)
   obtain⟨bx',Jt,lx',bv',gv',dt,A'⟩:=wx
   exact⟨W,p,bx',Jt,lx',bv',gv',a,r,l,rfl,dt,A',sm.ok,ha,wV hr,ml,λHY SY=>hR _ SY⟩
  wtm_at"z"
  refine⟨sS,λt ht=>?_⟩
  generalize eQ:upd HA t _=HB
  obtain⟨St,et⟩:=laid ht eQ
  have SB:=SA.trans St
  have hTB:=SB _ _ fm
  have De:sl≠T:=λz=>by rw[z,fm] at hsl;cases hsl
  have Pk:t≠T:=λz=>by rw[z,SA _ _ fm] at ht;cases ht
  have so:aa (Out [T] N0 H') (Out [T] N0 (upd HB T (.lst (zs++[.ref t])))):=kK λb o hb e=>by
   rw[qB (λz=>hb (by rw[z];simp))];exact SB _ _ e
  refine⟨hTB,small (by omega),hN _ _ qW ⟨(S'.trans SB).set hT,?_⟩⟩
  rw[c5,el,cu]
  refine Paired.snoc (Paired.mapP py λ_ _ ⟨a1,s1,h1,h2,h3⟩=>⟨a1,s1,h1,so _ _ h2,so _ _ h3⟩) ⟨t,sl,rfl,zP (by simpa using Pk) rfl (by rw[qB Pk];exact et),zP (by simpa using De) rfl (by rw[qB De,St _ _ esl];unfold ae;rw[Yn];rfl)⟩
 obtain⟨S9,py⟩:=hP
 rw[<- ll,dm] at py
 have Pm:=S9 _ _ EX
 refine⟨_,rfl,x,C,dx,_,rfl,Pm,kd.cls,kd.no _ fU.2.2.2.1,(show 3<1000 by decide),?_⟩
 generalize hK:upd H9 x _=HA
 obtain⟨EY,sA⟩:=wrote hK
 have EY:HA x=some (.ins C dx [(Yb "places",.ref cO),(Yb "goal",.ref gl),(Yb "deeds",.ref D),(Yb "looks",.ref T)]):=EY
 clear hK
 have nTx:T≠x:=(qC EX hT).symm
 have S0A:=zG (w9.trans S9) nx sA
 dsimp only
 wtm_at"z"
 refine wL ?_
 wtm_at"z"
 refine⟨pj,λrl Ey=>?_⟩
 generalize eQ:upd HA rl _=HB
 obtain⟨Ju,wm⟩:=laid Ey eQ
 have exB:=Ju _ _ EY
 refine⟨_,rfl,x,C,dx,_,rfl,exB,kd.cls,kd.no _ fU.2.2.2.2.1,(show 4<1000 by decide),?_⟩
 generalize hK:upd HB x _=HC
 obtain⟨EZ,sC⟩:=wrote hK
 have EZ:HC x=some (.ins C dx [(Yb "places",.ref cO),(Yb "goal",.ref gl),(Yb "deeds",.ref D),(Yb "looks",.ref T),(Yb "rows",.ref rl)]):=EZ
 clear hK
 have nrx:rl≠x:=(qC EY Ey).symm
 have DC:=sC _ _ nrx wm
 dsimp only
 wtm_at"z"
 refine wL ?_
 intro bI m8
 generalize eQ:upd HC bI _=HD
 obtain⟨pN,gQ⟩:=laid m8 eQ
 have exD:=pN _ _ EZ
 refine⟨_,rfl,x,C,dx,_,rfl,exD,kd.cls,kd.no _ fU.2.2.2.2.2,(show 5<1000 by decide),?_⟩
 generalize hK:upd HD x _=HE
 obtain⟨Jv,sE⟩:=wrote hK
 clear hK
 have nnx:bI≠x:=(qC EZ m8).symm
 have nrn:rl≠bI:=λz=>by rw[<- z,DC] at m8;cases m8
 have Jw:=sE _ _ nrx (pN _ _ DC)
 have Jx:=sE _ _ nnx gQ
 have Jv:HE x=some (.ins C dx (WC.fs ⟨x,dx,cO,gl,D,T,rl,bI⟩)):=Jv
 have m9:∀{b:Addr} {u:HO},(∀C dx fs,u≠.ins C dx fs)->H9 b=some u->b≠x:=λno e z=>by rw[z,Pm] at e;cases e;exact no _ _ _ rfl
 have gm:∀{b:Addr} {u:HO},(∀C dx fs,u≠.ins C dx fs)->H9 b=some u->Out [rl,bI] N0 HE b=some u:=λ{b u} no e=>by
  have bx:=m9 no e
  have eA:=sA _ _ bx e
  have eC:=sC _ _ bx (Ju _ _ eA)
  refine zP (λz=>?_) rfl (sE _ _ bx (pN _ _ eC))
  simp only[aE,Yp,or_false] at z
  rcases z with z | z
  .rw[z,Ey] at eA;cases eA
  .rw[z,m8] at eC;cases eC
 have DD:∀{b:Addr},b∈[rl,bI]->Out [rl,bI] N0 HE b=none:=λ{b} hb=>by unfold Out;rw[if_pos (.inl hb)]
 have S0E:aa H0 HE:=zG ((zG (S0A.trans Ju) nx sC).trans pN) nx sE
 have tl:∀wys,(iX W.bs wys).length=(ag W.bs).length:=λwys=>by unfold iX;rw[av]
 refine q ⟨x,dx,cO,gl,D,T,rl,bI⟩ (Out [rl,bI] N0 HE) o HE rfl S0E ⟨⟨zP (λz=>?_) rfl Jv,kd,?_,⟨ys,gm (by intro _ _ _ z;cases z) (S9 _ _ eD8),Paired.mapP py8 λd' u' ⟨a1,n1,c1,h1,h2,h3,h4⟩=>⟨a1,n1,c1,h1,gm (by intro _ _ _ z;cases z) (S9 _ _ h2),gm (by intro _ _ _ z;cases z) (S9 _ _ h3),gm (by intro _ _ _ z;cases z) (S9 _ _ h4)⟩⟩,⟨zs,gm (by intro _ _ _ z;cases z) fm,Paired.mapP py λd' u' ⟨a1,s1,h1,h2,h3⟩=>⟨a1,s1,h1,gm (by intro _ _ _ z;cases z) (vE h2).2.2,gm (by intro _ _ _ z;cases z) (vE h3).2.2⟩⟩,gR,by show(W.ds.map fD).length<=10;rw[av];exact sm.d3,by show(W.ls.map fL).length<=10;rw[av];exact sm.l3,λd hd=>?_,λl hl=>?_,λd hd=>?_,λl hl=>?_⟩,λb u e=>(vE e).2.2,DD (by simp),DD (by simp),⟨⟨[],Jw,Jx,.nil⟩,List.nodup_nil⟩,λr hr=>nomatch hr⟩ (gm (by intro _ _ _ z;cases z) (S9 _ _ Jq))
 .simp only[aE,Yp,or_false] at z
  exact z.elim (λy=>nrx y.symm) λy=>nnx y.symm
 .have:=gm (by intro _ _ _ z;cases z) (S9 _ _ Jp)
  rw[this,List.map_const',List.map_replicate];rfl
 .obtain⟨d0,h0,rfl⟩:=aZ.mp hd
  exact sm.pr d0 h0
 .obtain⟨l0,h0,rfl⟩:=aZ.mp hl
  exact sm.pl l0 h0
 .obtain⟨d0,h0,rfl⟩:=aZ.mp hd
  refine⟨tl _,λt ht=>?_⟩
  obtain⟨r,hr,rfl⟩:=aZ.mp ht
  obtain⟨wy,nO⟩:=sm.one d0 h0
  have IL:zA W.bs wy r∈ag W.bs:=NX (vJ (wV hr) λb hb=>(sm.ok.j7 b hb).1)
  have ec:(jD W.bs d0.bF [r]).headD []=zA W.bs wy r:=by rw[nO];rfl
  rw[ec]
  have:=List.idxOf_lt_length_of_mem IL
  exact⟨by omega,by show(((ag W.bs).idxOf _:Nat):Int).toNat<(ag W.bs).length;omega⟩
 .obtain⟨l0,h0,rfl⟩:=aZ.mp hl
  show((ag W.bs).map _).length=_
  rw[av];rfl
def aM (ws:List Int):Rw:=ws.zipIdx.map λp=>((p.2:Int),p.1)
theorem Pn (ws:List Int):(aM ws).length=ws.length:=by unfold aM;rw[av,List.length_zipIdx]
theorem qHd (ws:List Int)(w:Int):aM (ws++[w])=aM ws++[((ws.length:Int),w)]:=by
 unfold aM
 rw[List.zipIdx_append,cu,Nat.zero_add];rfl
theorem qRx (ws:List Int)(i:Nat):(aM ws)[i]? = (ws[i]?).map λw=>((i:Int),w):=by
 unfold aM
 rw[bb,List.getElem?_zipIdx]
 cases ws[i]? with
 | none=>rfl
 | some a=>simp
theorem yQ:xI ["self","known","weights"] ["self","known","weights"] (xB (bp 31 3)):=by constructor <;> first | rfl | wtm_at"d"
theorem xT:aA (xB (bp 31 3)) ["self","known","weights"] (bP (xC (bp 31 3)) [0] [1,1]) ["standing","weight","self"] 2 [0]:=
 by constructor <;> wtm_at"d"
def Po (P:Program)(w:World)(K:aq)(C:Addr):Sp:=λvs H Q _=>∃(G:Hp) (c:WC) (D:cG) (o:Obj) (ka wa:Addr) (rows:List (List Int)) (ss:List V) (ws:List Int),vs=[.ref c.x,.ref ka,.ref wa]/\gg P w K C G H c D []/\G c.pd=some (.frz o (.dT (eY rows)))/\rows.Nodup/\rows.length<=60/\H ka=some (.lst ss)/\Paired (aK H) rows ss/\H wa=some (.lst (ae ws))/\ws.length=rows.length/\bf D.n (aM ws)/\
 ∀H',aw c.rl c.nd H H'->gg P w K C G H' c D [aM ws]->Q (.int 0) H'
theorem qNg {C:Addr}(jL:fI K C)(F:Md K C "first_number" "WeightedChart.first_number" (bp 31 3) ["self","known","weights"])(B:Bl mg)(jh:Dm P w K mg base C "number_of" 1 ["self","row"] (mM P w K C)):Dm P w K mg base C "first_number" 2 ["self","known","weights"] (Po P w K C):=by
 refine F.ok yQ (λvs H Q E h=>?_) (λf zy A outer s H vs Q E hr h=>?_)
 .obtain⟨_,_,_,_,_,_,_,_,_,rfl,_⟩:=h
  rfl
 obtain⟨G,c,D,o,ka,wa,rows,ss,ws,rfl,wc,Di,nd,j8,iV,iB,dS,DE,ro,q⟩:=h
 have hu:=nJ hr
 have ls:=iB.length
 have ex:=wc.sm _ _ wc.st.ex
 have kd:=wc.st.kd
 have mY:=wc.sm _ _ Di
 have lw:(ae ws).length=ws.length:=yB ws
 refine⟨_,(qJ (qP (yD jh jL (pv 0) hr (qQ (xZ (kA (K:=K)) rfl B.tuple' wN (qQ (jZ rfl xT (VB (K:=K) rfl B.Cy (qQ (pv 1) (qQ (pv 2) qX))) (λcl fp s H=>(zI (K:=K) (n:=2) rfl (qM (qI (i:=0) xT.nd rfl (Or.inl rfl) (.inr rfl)) (qM (qI (i:=1) xT.nd rfl (Or.inl rfl) (.inr rfl)) qN)))) (λcl fp s H=>zH) (λcl fp s H=>(xR (qQ (vX hu (jN (K:=K) (pv 2)) (pv 0) (λ_ _=>rfl)) (qQ (pv 1) qX))))) qX)) qX)))),?_⟩
 wtm_at"z"
 refine⟨_,rfl,c.x,c.dx,_,rfl,ex,rfl,?_⟩
 wtm_at "zf"
 refine⟨_,rfl,_,rfl,ka,wa,ss,ae ws,rfl,aj.of iV,aj.of dS,?_⟩
 refine VE (xs:=ss) (ys:=ae ws) (by omega) (λT i ys H'=>aa H H'/\Paired (dM H') ((aM (ws.take i)).map λp=>(p.1,V.int p.2)) ys) (λT hT=>⟨qV hT _,.nil⟩) (λT i ys H' _ hP=>⟨aj.of (hP.1 _ _ iV),aj.of (hP.1 _ _ dS)⟩) (λT i x y Z ys H' N hT fm nW ey nZ hP hN=>?_) (λT ys H2 hT fm hP=>?_)
 .obtain⟨S',py⟩:=hP
  have il:=(aN.mp nW).1
  obtain⟨r,er⟩:∃r,rows[i]? = some r:=⟨_,aH (by omega)⟩
  obtain⟨a,rfl,ha⟩:=xV iB er nW
  unfold ae at ey
  rw[bb] at ey
  obtain⟨wv,ew,rfl⟩:=YJ.mp ey
  generalize eZ:upd H' Z _=H3
  obtain⟨SZ,eZ3⟩:=laid nZ eZ
  have ly:=py.length
  rw[av,Pn,cJ] at ly
  refine⟨Z,_,rfl,aS.of eZ3,rfl,_,_,rfl,_,_,rfl,rfl,⟨[some (.ref a),some (.int wv)],rfl,rfl⟩,wE (bz ?_)⟩
  have S3:=S'.trans SZ
  wtm_at"z"
  refine yM rfl (S3 _ _ ex) kd fU.1 rfl ?_
  wtm_at"z"
  refine⟨c.pd,_,rfl,.inr ⟨_,ST.ik r,a,.inr ⟨o,S3 _ _ mY⟩,rfl,HM (S3 _ _ ha),(O7 nd er).symm⟩,?_⟩
  wtm_at"z"
  refine⟨dD,λt ht=>?_⟩
  generalize eQ:upd H3 t _=H4
  obtain⟨St,et⟩:=laid ht eQ
  have S4:=SZ.trans St
  have Pp:=S4 _ _ fm
  have T5:bD H4 (upd H4 T (.lst (ys++[.ref t]))):=λb xs e=>by rw[qB (jC e Pp (by intro z;cases z))];exact e
  refine⟨Pp,small (by omega),hN _ _ qW ⟨(S'.trans S4).set hT,?_⟩⟩
  rw[c5,ew]
  show Paired _ ((aM (ws.take i++[wv])).map _) _
  rw[qHd,cu,cJ,Nat.min_eq_left (by omega)]
  exact Paired.snoc (Paired.mapP py λ_ _ ⟨b,h1,h2⟩=>⟨b,h1,T5 _ _ (S4 _ _ h2)⟩) ⟨t,rfl,T5 _ _ et⟩
 obtain⟨S2,py⟩:=hP
 rw[lw,dm] at py
 obtain⟨ts,rfl,pts⟩:=Ol py
 wtm_at"z"
 refine⟨T,_,rfl,aj.of fm,λt ht=>?_⟩
 generalize eQ:upd H2 t _=H3
 obtain⟨St,et⟩:=laid ht eQ
 have S3:=S2.trans St
 have Pq:=wc.same S3
 wtm_at"z"
 refine⟨c,t,aM ws,[],rfl,S3 _ _ ex,kd,Pq.nb,by decide,⟨ts,et,Paired.mapP pts λ_ _ z=>St _ _ z⟩,λi L' H4 k4 nb4 hc=>?_⟩
 rcases hc with⟨_,z⟩ | ⟨rfl,rfl,_⟩
 .cases z
 have Jy:gg P w K C G H4 c D [aM ws]:=Pq.keep k4 nb4 λr hr=>by
  have:r=aM ws:=by simpa using hr
  rw[this];exact ro
 exact q H4 ((aw.of S3).trans k4) Jy
theorem qWd:xI ["thing"] ["thing"] (xB (top 23)):=by constructor <;> first | rfl | wtm_at"d"
def Pu:Sp:=λvs H Q _=>∃i:Int,vs=[.int i]/\Q (.bl true) H
theorem xVq:PySem.W.kitOne K (.type "int") (.type "bool")=some false:=by with_unfolding_all rfl
theorem qTq (F:Fd K mg "is_whole" (top 23) ["thing"])(B:Bl mg):Dn P w K mg base "is_whole" 1 ["thing"] Pu:=by
 refine F.ok qWd (λvs H Q E h=>?_) (λf zy A outer s H vs Q E hr h=>?_)
 .obtain⟨_,rfl,_⟩:=h
  rfl
 obtain⟨i,rfl,q⟩:=h
 refine⟨_,(qJ (qP (A9 (xJ (wC (K:=K)) rfl B.ar xP (qQ (pv 0) (qQ (FU rfl B.Ho RH) qX))) (A8 (Fn (xJ (wC (K:=K)) rfl B.ar xP (qQ (pv 0) (qQ (FU rfl B.Cw RI) qX)))))))),?_⟩
 wtm_at"z"
 refine⟨.int i,"int",_,true,rfl,.int i,Tn,?_⟩
 wtm_at"z"
 refine⟨.int i,"bool",_,false,rfl,.int i,xVq,?_⟩
 wtm_at"z"
 exact q
theorem jJ:xI ["world","name","price","need","ways"] ["world"] (xB (top 46)):=by constructor <;> first | rfl | wtm_at"d"
def Pw:Sp:=λvs H Q _=>∃(W:Wd) (p:Addr),vs=[.ref p]/\pB H W p/\W5 W/\Q .non H
theorem qTz (F:Fd K mg "refuse_ways" (top 46) ["world"])(B:Bl mg):Dn P w K mg base "refuse_ways" 1 ["world"] Pw:=by
 refine F.ok jJ (λvs H Q E h=>?_) (λf zy A outer s H vs Q E hr h=>?_)
 .obtain⟨_,_,rfl,_⟩:=h
  rfl
 obtain⟨W,p,rfl,wp,sm,q⟩:=h
 obtain⟨bx,dx,lx,bv,gv,ep,A0⟩:=wp
 obtain⟨du,lR,pd⟩:=A0.cV
 have lb:=pd.length
 refine⟨_,(qJ (jE PassesOwn.never rfl (xQ (K:=K) (xN (qT (K:=K)) (pv 0) qG)) (zI (K:=K) (n:=4) rfl (qM (qI (i:=1) jJ.nd rfl (by wtm_at "zo")) (qM (qI (i:=2) jJ.nd rfl (by wtm_at "zo")) (qM (qI (i:=3) jJ.nd rfl (by wtm_at "zo")) (qM (qI (i:=4) jJ.nd rfl (by wtm_at "zo")) qN))))) (qJ (yV (qS D5 (xJ (zT (K:=K)) rfl B.dC kQ (qQ (pv 4) qX)) qG (xE _)) (qJ kY) qY)))),?_⟩
 wtm_at "zf"
 refine kU (aj.of lR) ?_
 refine zF (xs:=du) (λi σ' H'=>∃z1 z2 z3 z4:Option V,σ'=[some (.ref p),z1,z2,z3,z4]/\H'=H) ⟨none,none,none,none,rfl,rfl⟩ (λi σ' H' _ hP=>?_) ?_ ?_
 .obtain⟨_,_,_,_,rfl,rfl⟩:=hP
  exact aj.of lR
 .rintro N rt bk i u σ' H' eu ⟨z1,z2,z3,z4,rfl,rfl⟩ hN
  obtain⟨d,ed⟩:∃d,W.ds[i]? = some d:=⟨_,aH (by rw[lb];exact(aN.mp eu).1)⟩
  obtain⟨da,nv,wa,wu,rfl,Ij,_,dS,pw⟩:=xV pd ed eu
  obtain⟨wy,nO⟩:=sm.one d (bw ed)
  have lw:=pw.length
  rw[nO] at lw
  have lw:1=wu.length:=lw
  wtm_at"z"
  refine Eg (decide_eq_false (by omega)) ?_
  exact hN _ _ ⟨_,_,_,_,rfl,rfl⟩
 .rintro σ' H' ⟨z1,z2,z3,z4,rfl,rfl⟩
  exact q
theorem yN:xI ["world","weights","weight"] ["world","weights"] (xB (top 47)):=by constructor <;> first | rfl | wtm_at"d"
theorem Px {W:Wd}(h:W.bt=.nul "yes"):mK W.bs W.bt=ag W.bs:=by
 unfold mK
 rw[h]
 exact List.filter_eq_self.mpr λ_ _=>rfl
def Py:Sp:=λvs H Q _=>∃(W:Wd) (p wa:Addr) (ws:List Int),vs=[.ref p,.ref wa]/\pB H W p/\W5 W/\W.bt=.nul "yes" /\ H wa=some (.lst (ae ws))/\ws.length=(ag W.bs).length/\(∀w∈ws,1<=w)/\∀H',aa H H'->Q .non H'
theorem qAd (F:Fd K mg "refuse_weights" (top 47) ["world","weights"])(B:Bl mg)(ju:Gi mg "LEAST_WEIGHT" 1)(kh:Dn P w K mg base "first_known" 27 ["world"] HL)(ut:Dn P w K mg base "is_whole" 1 ["thing"] Pu):Dn P w K mg base "refuse_weights" 28 ["world","weights"] Py:=by
 refine F.ok yN (λvs H Q E h=>?_) (λf zy A outer s H vs Q E hr h=>?_)
 .obtain⟨_,_,_,_,rfl,_⟩:=h
  rfl
 obtain⟨W,p,wa,ws,rfl,wp,sm,hb,dS,DE,pos,q⟩:=h
 obtain⟨bx,dx,lx,bv,gv,ep,A0⟩:=wp
 have lw:(ae ws).length=ws.length:=yB ws
 refine⟨_,(qZ (yV (qS K8 (xJ (zT (K:=K)) rfl B.dC kQ (qQ (pv 1) qX)) (xJ (zT (K:=K)) rfl B.dC kQ (qQ (qE kh hr (qQ (pv 0) qX)) qX)) (xE _)) (qJ kY) qY)
  (qJ (jE PassesOwn.never rfl (xQ (K:=K) (pv 1)) (qI (i:=2) yN.nd rfl (by wtm_at "zo")) (qJ (yV (PW.pt (A6 (D0 (yY (qE ut hr (qQ (pv 2) qX)))) (Fm (qS D4 (pv 2) (L6 ju) (xE _))))) (qJ kY) qY))))),?_⟩
 wtm_at"z"
 refine⟨W,p,bx,dx,lx,bv,gv,rfl,ep,A0,sm.ok,λr ss H1 hr1 S1 er iB=>?_⟩
 rw[Px hb] at iB
 have ls:=iB.length
 wtm_at"z"
 have e1:(!decide (V.int (((ae ws).length:Nat):Int)=V.int ((ss.length:Nat):Int)))=false:=by
  rw[decide_eq_true (by rw[lw,DE,ls])];rfl
 rw[e1]
 refine bO ?_
 wtm_at "zf"
 refine kU (aj.of (S1 _ _ dS)) ?_
 refine zF (xs:=ae ws) (λi σ' H'=>∃z2:Option V,σ'=[some (.ref p),some (.ref wa),z2]/\H'=H1) ⟨none,rfl,rfl⟩ (λi σ' H' _ hP=>?_) ?_ ?_
 .obtain⟨_,rfl,rfl⟩:=hP
  exact aj.of (S1 _ _ dS)
 .rintro N rt bk i u σ' H' eu ⟨z2,rfl,rfl⟩ hN
  unfold ae at eu
  rw[bb] at eu
  obtain⟨wv,ew,rfl⟩:=YJ.mp eu
  have hw:=pos wv (bw ew)
  wtm_at"z"
  refine⟨wv,rfl,?_⟩
  wtm_at"z"
  refine Eg (decide_eq_false (by omega)) ?_
  exact hN _ _ ⟨_,rfl,rfl⟩
 .rintro σ' H' ⟨z2,rfl,rfl⟩
  exact q _ S1
theorem yX:xI ["world","weights","chart","first","best"] ["world","weights"] (xB (top 45)):=by constructor <;> first | rfl | wtm_at"d"
def iF (D:cG)(L:List Rw):Prop:=∀r∈L,∀d∈D.ds,∃r'∈L,Mv d.tg r r'
def ng (CT:Addr):Sp:=λvs H Q E=>∃(W:Wd) (p wa:Addr) (ws:List Int),vs=[.ref p,.ref wa]/\pB H W p/\W5 W/\W.bt=.nul "yes" /\ W.ds≠[]/\H wa=some (.lst (ae ws))/\ws.length=(ag W.bs).length/\(∀w∈ws,1<=w)/\bf (ag W.bs).length (aM ws)/\
 (((∀L:List Rw,L.Nodup->(∀r∈L,pH (fc W) (aM ws) r)->L.length<=100)/\∀H',Q .non H')\/((∀L:List Rw,aM ws∈L->iF (fc W) L->2000<L.length)/\∀H',E (.ref CT) none H'))
theorem xYj {C:Addr}{sp:Sp}{cQ:List V}{E:XK}{t:TA}{σ:St}{H:Hp}{Q:VK}(q:t σ H λvs H1=>∀x dx,H1 x=none->H1 dx=none->dx≠x->sp (.ref x::(vs++cQ)) (upd (upd H1 dx (.own x)) x (.ins C dx [])) (λv H2=>v=.non/\Q (.ref x) H2) E):l8 C sp cQ E t σ H Q:=q
theorem qHb {C x dx:Addr}{H:Hp}(h1:H x=none)(h2:H dx=none)(h3:dx≠x):aa H (upd (upd H dx (.own x)) x (.ins C dx [])):=λb o e=>by
 rw[qB (qC e h1),qB (qC e h2)];exact e
theorem xJz {C CT:Addr}(jL:fI K C)(jq:Kind K C jV)(F:Fd K mg "least_mean" (top 45) ["world","weights"])(B:Bl mg)(uP:Dn P w K mg base "refuse_ways" 1 ["world"] Pw)(yo:Dn P w K mg base "refuse_weights" 28 ["world","weights"] Py)(kh:Dn P w K mg base "first_known" 27 ["world"] HL)
  (uG:Dk P w K mg base "WeightedChart" C 30 ["self","world"] (mW P w K C)) (jy:Dm P w K mg base C "first_number" 2 ["self","known","weights"] (Po P w K C)) (uJ:Dx P w K mg base "steps_of_all" 3 ["chart","first"] (qL P w K C CT)) (uV:Dn P w K mg base "best_steps" 2 ["chart","steps"] (mV P w K C)):Dx P w K mg base "least_mean" 32 ["world","weights"] (ng CT):=by
 refine F.okx yX (λvs H Q E h=>?_) (λf zy A outer s H vs Q E hr h=>?_)
 .obtain⟨_,_,_,_,rfl,_⟩:=h
  rfl
 obtain⟨W,p,wa,ws,rfl,wp,sm,hb,IP,dS,DE,pos,ro,fin⟩:=h
 have hu:=nJ hr
 refine⟨_,(qZ (qR (qE uP hr (qQ (pv 0) qX))) (qZ (qR (qE yo hr (qQ (pv 0) (qQ (pv 1) qX)))) (qZ (xG (i:=2) yX.nd rfl (Vy uG hr (qQ (pv 0) qX))) (qZ (xG (i:=3) yX.nd rfl (yD jy jL (pv 2) hr (qQ (qE kh hr (qQ (pv 0) qX)) (qQ (pv 1) qX)))) (qZ (xG (i:=4) yX.nd rfl (qE uV hr (qQ (pv 2) (qQ (qF uJ hr (qQ (pv 2) (qQ (pv 3) qX))) qX)))) (qZ (yV (KQ (LB hu (pv 3) (pv 4)) (by with_unfolding_all rfl)) (qJ (qP tR)) qY) Qd)))))),?_⟩
 wtm_at"z"
 refine⟨W,p,rfl,wp,sm,?_⟩
 wtm_at"z"
 refine⟨W,p,wa,ws,rfl,wp,sm,hb,dS,DE,pos,λH1 S1=>?_⟩
 dsimp only
 wtm_at"z"
 refine xYj ?_
 wtm_at"z"
 intro x dx hx hdx oz
 have Sa:=qHb (C:=C) hx hdx oz
 have Pz:upd (upd H1 dx (.own x)) x (.ins C dx []) x=some (.ins C dx []):=qW
 generalize upd (upd H1 dx (.own x)) x (.ins C dx [])=Ha at Sa Pz
 have wp1:=wp.same S1
 refine⟨H1,x,dx,p,W,rfl,Sa,hx,Pz,jq,wp1,sm,IP,λc G o H2 cx S2 wc Di=>⟨rfl,?_⟩⟩
 subst cx
 have PB:=S1.trans S2
 obtain⟨bx,Jt,lx,bv,gv,ep,A2⟩:=wp.same PB
 wtm_at"z"
 refine⟨_,rfl,c.x,c.dx,_,rfl,wc.sm _ _ wc.st.ex,rfl,?_⟩
 wtm_at"z"
 refine⟨W,p,bx,Jt,lx,bv,gv,rfl,ep,A2,sm.ok,λka ss H3 EV S3 iV iB=>?_⟩
 rw[Px hb] at iB
 wtm_at"z"
 refine⟨G,c,fc W,o,ka,wa,ag W.bs,ss,ws,rfl,wc.same S3,Di,sm.nd,sm.gR,iV,iB,S3 _ _ (PB _ _ dS),DE,ro,λH4 k4 Jy=>?_⟩
 wtm_at"z"
 refine⟨G,c,fc W,aM ws,rfl,Jy,λsd L sA H5 fo se al hl l2=>?_,λL H5 nd big rc=>?_⟩
 .rcases fin with⟨gR,q⟩ | ⟨many,_⟩
  .have j8:=gR L al.wc.nb.nd al.rc
   wtm_at"z"
   refine⟨G,H4,c,fc W,aM ws,fo,se,sd,L,sA,rfl,al,hl,j8,λbd H6 II=>?_⟩
   wtm_at"z"
   refine⟨_,rfl,_,rfl,bd,_,rfl,cm.k (k:=Sum.inl 0) II,?_⟩
   refine⟨_,rfl,bz ?_⟩
   wtm_at"z"
   exact q _
  .have h0:aM ws∈L:=bw al.r0
   have cl:iF (fc W) L:=λr hr d hd=>by
    obtain⟨k,ek⟩:=List.mem_iff_getElem?.mp hr
    exact al.cl k r (by rw[hl];exact(aN.mp ek).1) ek d hd
   have:=many L h0 cl
   omega
 .rcases fin with⟨gR,_⟩ | ⟨_,q⟩
  .have:=gR L nd rc
   omega
  .exact q H5
theorem qXc:xI ["script","k"] ["script","k"] (xB (top 51)):=by constructor <;> first | rfl | wtm_at"d"
def iG (K:aq):Sp:=λvs H Q _=>∃(a:Addr) (ns:List Int) (k:Int),vs=[.ref a,.int k]/\aj K H a (ae ns)/\0<=k/\∀c:Int,Q (.int c) H
theorem xJv (F:Fd K mg "_law_cell_at" (top 51) ["script","k"])(B:Bl mg):Dn P w K mg base "_law_cell_at" 1 ["script","k"] (iG K):=by
 refine F.ok qXc (λvs H Q E h=>?_) (λf zy A outer s H vs Q E hr h=>?_)
 .obtain⟨_,_,_,rfl,_⟩:=h
  rfl
 obtain⟨a,ns,k,rfl,hS,h0,q⟩:=h
 refine⟨_,(qZ (yV (qS D4 (pv 1) (xJ (zT (K:=K)) rfl B.dC kQ (qQ (pv 0) qX)) (xE _)) (qJ (qP (xN (qU (K:=K)) (pv 0) (pv 1)))) qY)
  (qJ (qP qG))),?_⟩
 wtm_at"z"
 refine i8 (λc=>?_) (λc=>?_)
 .have c':k<(((ae ns).length:Nat):Int):=of_decide_eq_true c
  have li:(ae ns).length=ns.length:=av ..
  rw[li] at c'
  obtain⟨i,rfl⟩:∃i:Nat,k=(i:Int):=⟨k.toNat,by omega⟩
  have hk:i<ns.length:=by omega
  have z:gA (ae ns) (i:Int)=some (.int ns[i]):=kC (by show(ns.map V.int)[i]? = _;rw[bb,aH hk];rfl)
  wtm_at"z"
  exact q _
 .wtm_at"z"
  exact q 0
abbrev aY:List (Str×Int):=[("at",4),("atb",3)]
abbrev nh:List (List (Str×Th)):=[[("at",.bin "plus" (.box "at") (.num 1))]]
abbrev dG:List (List (Str×Th)):=[[("atb",.bin "plus" (.box "atb") (.num 1))]]
abbrev fB:List (List (Str×Th)):=[[("at",.box "atb"),("atb",.box "at")]]
def tK (ds:List aO)(ls:List Look):Wd:=⟨aY,ds,ls,.nul "yes",.bin "under" (.box "at") (.num 0)⟩
def j' (p:Int):Prop:=1<=p/\p<=9
inductive cq:Bool->List aO->Prop
 | one {p:Int} (h:j' p):cq true [⟨"on",p,.nul "yes",nh⟩]
 | three {p1 p2 p3:Int} {ds:List aO} (h1:j' p1) (h2:j' p2) (h3:j' p3) (pm:ds.Perm [⟨"on",p1,.nul "yes",nh⟩,⟨"other",p2,.nul "yes",dG⟩,⟨"turn",p3,.nul "yes",fB⟩]):cq false ds
inductive ff:List Look->Prop
 | none:ff []
 | one {p:Int} {s:Str} (h:j' p) (hs:s = "at" \/ s = "atb"):ff [⟨"see",p,.box s⟩]
theorem cq.pos {al:Bool}{ds:List aO}(h:cq al ds):0<ds.length:=by
 cases h with
 | one _=>exact Nat.zero_lt_one
 | three _ _ _ pm=>rw[pm.length_eq];exact Nat.zero_lt_succ _
theorem cq.le {al:Bool}{ds:List aO}(h:cq al ds):ds.length<=3:=by
 cases h with
 | one _=>exact Nat.le_of_ble_eq_true rfl
 | three _ _ _ pm=>rw[pm.length_eq];exact yZD _
theorem cq.rot {al:Bool}{ds:List aO}(h:cq al ds){k:Nat}(hk:k<ds.length):cq al (ds.drop k++ds.take k):=by
 cases h with
 | one p=>
  cases k with
  | zero=>exact .one p
  | succ k=>exact absurd (Nat.lt_of_succ_lt_succ hk) (Nat.not_lt_zero _)
 | three h1 h2 h3 pm=>exact .three h1 h2 h3 ((List.perm_append_comm.trans (by rw[List.take_append_drop])).trans pm)
theorem qOj (xs:List V)(k:Nat)(h:k<=xs.length):gy xs none (some (k:Int))=xs.take k:=by
 unfold gy
 rw[HT.gq,HT.iK,List.drop_zero,Nat.sub_zero,Nat.min_eq_left h]
theorem qOk (xs:List V)(k:Nat)(h:k<=xs.length):gy xs (some (k:Int)) none=xs.drop k:=by
 unfold gy
 rw[HT.gq,HT.iK,Nat.min_eq_left h,Yk (by rw[Yo];exact yZD _)]
theorem PD {α β:Type}{F:α->β->Prop}{a:List α}{b:List β}(p:Paired F a b):∀n:Nat,Paired F (a.take n) (b.take n)/\Paired F (a.drop n) (b.drop n):=by
 induction p with
 | nil=>exact λn=>by cases n <;> exact⟨.nil,.nil⟩
 | cons h t ih=>
  intro n
  cases n with
  | zero=>exact⟨.nil,.cons h t⟩
  | succ n=>exact⟨.cons h (ih n).1,(ih n).2⟩
theorem wI {G H:Hp}{l:Addr}{o:HO}(n:G l=none)(s:aa G H):aa G (upd H l o):=λb u e=>by
 rw[qB (qC e n)];exact s _ _ e
theorem E1 {G H:Hp}{d y' o:Addr}{n:Str}{p:Int}{nd:Th}{ws:List (List (Str×Th))}(s:aa G H)(e:H d=some (.tup [.str n,.int p,.ref y',.ref o]))(a:nd.At G (.ref y'))(b:∃us,G o=some (.lst us)/\Paired (cU G) ws us):cZ H ⟨n,p,nd,ws⟩ (.ref d):=
 let ⟨us,eu,pu⟩:=b
 ⟨d,_,o,us,rfl,e,a.mono (qD s),s _ _ eu,Paired.mapP pu λ_ _ z=>z.same s⟩
theorem zV:xI ["script","alone","yes","never","on","other","turn","deeds","at","looks"] ["script","alone"] (xB (top 52)):=by constructor <;> first | rfl | wtm_at"d"
def PF (K:aq):Sp:=λvs H Q _=>∃(a:Addr) (ns:List Int) (al:Bool),vs=[.ref a,.bl al]/\aj K H a (ae ns)/\
 ∀(p:Addr) (ds:List aO) (ls:List Look) (H':Hp),aa H H'->cq al ds->ff ls->pB H' (tK ds ls) p->Q (.ref p) H'
theorem qNd (F:Fd K mg "_law_world" (top 52) ["script","alone"])(B:Bl mg)(jc:Dn P w K mg base "_law_cell_at" 1 ["script","k"] (iG K)):Dn P w K mg base "_law_world" 2 ["script","alone"] (PF K):=by
 refine F.ok zV (λvs H Q E h=>?_) (λf zy A outer s H vs Q E hr h=>?_)
 .obtain⟨_,_,_,rfl,_⟩:=h
  rfl
 obtain⟨a,ns,al,rfl,hS,q⟩:=h
 refine⟨_,(qZ (xG (i:=2) zV.nd rfl (xR (qQ qH qX)))
  (qZ (xG (i:=3) zV.nd rfl (xR (qQ qH (qQ (xR (qQ qH (qQ qH qX))) (qQ (xR (qQ qH (qQ qG qX))) qX)))))
  (qZ (xG (i:=4) zV.nd rfl (zE (qQ (zE (qQ (xR (qQ qH (qQ (xR (qQ qH (qQ (xR (qQ qH (qQ qH qX))) (qQ (xR (qQ qH (qQ qG qX))) qX)))) qX))) qX)) qX)))
  (qZ (xG (i:=5) zV.nd rfl (zE (qQ (zE (qQ (xR (qQ qH (qQ (xR (qQ qH (qQ (xR (qQ qH (qQ qH qX))) (qQ (xR (qQ qH (qQ qG qX))) qX)))) qX))) qX)) qX)))
  (qZ (xG (i:=6) zV.nd rfl (zE (qQ (zE (qQ (xR (qQ qH (qQ (xR (qQ qH (qQ qH qX))) qX))) (qQ (xR (qQ qH (qQ (xR (qQ qH (qQ qH qX))) qX))) qX))) qX)))
  (qZ (xG (i:=7) zV.nd rfl (zE (qQ (xR (qQ qH (qQ (xX vF qG (xX kG (qE jc hr (qQ (pv 0) (qQ qG qX))) qG)) (qQ (pv 2) (qQ (pv 4) qX))))) qX)))
  (qK (yV (D0 (yY (pv 1))) (qZ (qR (yR (K:=K) Yx Yy Yz zR (pv 7) (qQ (xR (qQ qH (qQ (xX vF qG (xX kG (qE jc hr (qQ (pv 0) (qQ qG qX))) qG)) (qQ (pv 2) (qQ (pv 5) qX))))) qX)))
  (qJ (qR (yR (K:=K) Yx Yy Yz zR (pv 7) (qQ (xR (qQ qH (qQ (xX vF qG (xX kG (qE jc hr (qQ (pv 0) (qQ qG qX))) qG)) (qQ (pv 2) (qQ (pv 6) qX))))) qX))))) qY)
  (qZ (xG (i:=8) zV.nd rfl (xX kG (qE jc hr (qQ (pv 0) (qQ qG qX))) (xJ (zT (K:=K)) rfl B.dC kQ (qQ (pv 7) qX))))
  (qZ (xG (i:=9) zV.nd rfl (zE qX))
  (qK (yV (qS l6 (xX kG (xX LQ (qE jc hr (qQ (pv 0) (qQ qG qX))) qG) qG) qG (xE _)) (qJ (qR (yR (K:=K) Yx Yy Yz zR (pv 9) (qQ (xR (qQ qH (qQ (xX vF qG (xX kG (qE jc hr (qQ (pv 0) (qQ qG qX))) qG)) (qQ (xR (qQ qH (qQ (xN (qU (K:=K)) (zE (qQ qH (qQ qH qX))) (xX kG (qE jc hr (qQ (pv 0) (qQ qG qX))) qG)) qX))) qX)))) qX)))) qY)
  (qJ (qP (xR (qQ (zE (qQ (xR (qQ qH (qQ qG qX))) (qQ (xR (qQ qH (qQ qG qX))) qX))) (qQ (xX Q1 (Ln (LZ (K:=K)) (pv 7) (Ll (pv 8)) Lk) (Ln (LZ (K:=K)) (pv 7) Lk (Ll (pv 8)))) (qQ (pv 9) (qQ (pv 2) (qQ (pv 3) qX)))))))))))))))))),?_⟩
 wtm_at"z"
 refine⟨iw,λy hy=>?_⟩
 generalize eQ:upd H y _=G1
 obtain⟨Sy,ey⟩:=laid hy eQ
 wtm_at"z"
 refine⟨dD,λb1 hb1=>?_⟩
 generalize eQ:upd G1 b1 _=G2
 obtain⟨Sb1,EC⟩:=laid hb1 eQ
 wtm_at"z"
 refine⟨dD,λn0 hn0=>?_⟩
 generalize eQ:upd G2 n0 _=G3
 obtain⟨Sn0,en0⟩:=laid hn0 eQ
 wtm_at"z"
 refine⟨sS,λnv hnv=>?_⟩
 generalize eQ:upd G3 nv _=G4
 obtain⟨Snv,env⟩:=laid hnv eQ
 wtm_at"z"
 refine⟨dD,λb2 hb2=>?_⟩
 generalize eQ:upd G4 b2 _=G5
 obtain⟨Sb2,eb2⟩:=laid hb2 eQ
 wtm_at"z"
 refine⟨dD,λn1 hn1=>?_⟩
 generalize eQ:upd G5 n1 _=G6
 obtain⟨Sn1,en1⟩:=laid hn1 eQ
 wtm_at"z"
 refine⟨sS,λpl dv=>?_⟩
 generalize eQ:upd G6 pl _=G7
 obtain⟨Spl,epl⟩:=laid dv eQ
 wtm_at"z"
 refine⟨dD,λc1 hc1=>?_⟩
 generalize eQ:upd G7 c1 _=G8
 obtain⟨Sc1,ec1⟩:=laid hc1 eQ
 wtm_at"z"
 refine⟨iw,λw1 hw1=>?_⟩
 generalize eQ:upd G8 w1 _=G9
 obtain⟨Sw1,sZ⟩:=laid hw1 eQ
 wtm_at"z"
 refine⟨iw,λon hon=>?_⟩
 generalize eQ:upd G9 on _=G10
 obtain⟨Son,eon⟩:=laid hon eQ
 wtm_at"z"
 refine⟨dD,λb3 hb3=>?_⟩
 generalize eQ:upd G10 b3 _=G11
 obtain⟨Sb3,eb3⟩:=laid hb3 eQ
 wtm_at"z"
 refine⟨dD,λn2 qa=>?_⟩
 generalize eQ:upd G11 n2 _=G12
 obtain⟨Sn2,en2⟩:=laid qa eQ
 wtm_at"z"
 refine⟨sS,λpm hpm=>?_⟩
 generalize eQ:upd G12 pm _=G13
 obtain⟨Spm,epm⟩:=laid hpm eQ
 wtm_at"z"
 refine⟨dD,λc2 D9=>?_⟩
 generalize eQ:upd G13 c2 _=G14
 obtain⟨Sc2,ec2⟩:=laid D9 eQ
 wtm_at"z"
 refine⟨iw,λw2 hw2=>?_⟩
 generalize eQ:upd G14 w2 _=G15
 obtain⟨Sw2,CQ⟩:=laid hw2 eQ
 wtm_at"z"
 refine⟨iw,λot hot=>?_⟩
 generalize eQ:upd G15 ot _=G16
 obtain⟨Sot,eot⟩:=laid hot eQ
 wtm_at"z"
 refine⟨dD,λb4 hb4=>?_⟩
 generalize eQ:upd G16 b4 _=G17
 obtain⟨Sb4,eb4⟩:=laid hb4 eQ
 wtm_at"z"
 refine⟨dD,λc3 hc3=>?_⟩
 generalize eQ:upd G17 c3 _=G18
 obtain⟨Sc3,ec3⟩:=laid hc3 eQ
 wtm_at"z"
 refine⟨dD,λb5 hb5=>?_⟩
 generalize eQ:upd G18 b5 _=G19
 obtain⟨Sb5,eb5⟩:=laid hb5 eQ
 wtm_at"z"
 refine⟨dD,λc4 hc4=>?_⟩
 generalize eQ:upd G19 c4 _=G20
 obtain⟨Sc4,ec4⟩:=laid hc4 eQ
 wtm_at"z"
 refine⟨dD,λw3 hw3=>?_⟩
 generalize eQ:upd G20 w3 _=G21
 obtain⟨Sw3,ew3⟩:=laid hw3 eQ
 wtm_at"z"
 refine⟨iw,λtu htu=>?_⟩
 generalize eQ:upd G21 tu _=k7
 obtain⟨Stu,etu⟩:=laid htu eQ
 have yA:(Th.nul "yes").At k7 (.ref y):=⟨y,rfl,by wtm_at "zh"⟩
 have nA:(Th.bin "under" (.box "at") (.num 0)).At k7 (.ref nv):=⟨nv,_,_,rfl,(by wtm_at "zh"),⟨b1,rfl,by wtm_at "zh"⟩,⟨n0,rfl,by wtm_at "zh"⟩⟩
 have PH:∃us,k7 on=some (.lst us)/\Paired (cU k7) nh us:=⟨_,by wtm_at "zh",.cons ⟨w1,_,rfl,by wtm_at "zh",.cons ⟨c1,_,rfl,by wtm_at "zh",pl,_,_,rfl,(by wtm_at "zh"),⟨b2,rfl,by wtm_at "zh"⟩,⟨n1,rfl,by wtm_at "zh"⟩⟩ .nil⟩ .nil⟩
 have otA:∃us,k7 ot=some (.lst us)/\Paired (cU k7) dG us:=⟨_,by wtm_at "zh",.cons ⟨w2,_,rfl,by wtm_at "zh",.cons ⟨c2,_,rfl,by wtm_at "zh",pm,_,_,rfl,(by wtm_at "zh"),⟨b3,rfl,by wtm_at "zh"⟩,⟨n2,rfl,by wtm_at "zh"⟩⟩ .nil⟩ .nil⟩
 have tuA:∃us,k7 tu=some (.lst us)/\Paired (cU k7) fB us:=⟨_,by wtm_at "zh",.cons ⟨w3,_,rfl,by wtm_at "zh",.cons ⟨c3,_,rfl,by wtm_at "zh",b4,rfl,by wtm_at "zh"⟩ (.cons ⟨c4,_,rfl,by wtm_at "zh",b5,rfl,by wtm_at "zh"⟩ .nil)⟩ .nil⟩
 have S0:aa H k7:=λb o e=>by wtm_at "zh"
 have sk:aj K k7 a (ae ns):=S0.seq hS
 clear Sy Sb1 Sn0 Snv Sb2 Sn1 Spl Sc1 Sw1 Son Sb3 Sn2 Spm Sc2 Sw2 Sot Sb4 Sc3 Sb5 Sc4 Sw3 Stu
 clear ey EC en0 env eb2 en1 epl ec1 sZ eon eb3 en2 epm ec2 CQ eot eb4 ec3 eb5 ec4 ew3 etu
 wtm_at"z"
 refine⟨a,ns,0,rfl,sk,Int.le_refl 0,λv0=>?_⟩
 wtm_at"z"
 refine⟨v0,9,rfl,rfl,(show(0:Int)<9 by decide),?_⟩
 wtm_at"z"
 refine⟨Hq,λd1 hd1=>?_⟩
 generalize eQ:upd k7 d1 _=G23
 obtain⟨Jz,iW⟩:=laid hd1 eQ
 wtm_at"z"
 refine⟨iw,λdl BJ=>?_⟩
 generalize eQ:upd G23 dl _=G24
 obtain⟨J0,pE⟩:=laid BJ eQ
 have p0:j' (1+v0 % 9):=⟨by omega,by omega⟩
 have J1:k7 dl=none:=Jz.free BJ
 generalize 1+v0 % 9=x0 at p0 iW
 have DF:=Jz.trans J0
 have DG:=iW
 have iW:=J0 _ _ iW
 wtm_at"z"
 refine⟨λσ' H'=>∃(ds:List aO) (us:List V),σ'=[some (.ref a),some (.bl al),some (.ref y),some (.ref nv),some (.ref on),some (.ref ot),some (.ref tu),some (.ref dl),none,none]/\aa k7 H'/\H' dl=some (.lst us)/\Paired (cZ H') ds us/\cq al ds,?_,?_⟩
 .cases al with
  | true=>
   wtm_at"z"
   exact⟨_,_,rfl,DF,pE,.cons (E1 DF iW yA PH) .nil,.one p0⟩
  | false=>
   wtm_at"z"
   refine wF (aj.of pE) ?_
   wtm_at"z"
   refine⟨a,ns,1,rfl,DF.seq sk,by decide,λv1=>?_⟩
   wtm_at"z"
   refine⟨v1,9,rfl,rfl,(show(0:Int)<9 by decide),?_⟩
   wtm_at"z"
   refine⟨Hq,λd2 hd2=>?_⟩
   generalize eQ:upd G24 d2 _=G25
   obtain⟨J2,qz⟩:=laid hd2 eQ
   have p1:j' (1+v1 % 9):=⟨by omega,by omega⟩
   generalize 1+v1 % 9=x1 at p1 qz
   wtm_at"z"
   refine⟨dl,_,.ref d2,rfl,rfl,J2 _ _ pE,(show 1<Yc by decide),?_⟩
   have n1:d1≠dl:=qC DG BJ
   have n2:d2≠dl:=(qC pE hd2).symm
   have J3:=wI (o:=.lst ([V.ref d1]++[V.ref d2])) J1 (DF.trans J2)
   have e1:upd G25 dl (.lst ([V.ref d1]++[V.ref d2])) d1=_:=(qB n1).trans (J2 _ _ iW)
   have e2:upd G25 dl (.lst ([V.ref d1]++[V.ref d2])) d2=_:=(qB n2).trans qz
   have e3:upd G25 dl (.lst ([V.ref d1]++[V.ref d2])) dl=some (.lst [V.ref d1,V.ref d2]):=qW
   generalize upd G25 dl _=G26 at J3 e1 e2 e3 ⊢
   dsimp only
   wtm_at"z"
   refine wF (aj.of e3) ?_
   wtm_at"z"
   refine⟨a,ns,2,rfl,J3.seq sk,by decide,λv2=>?_⟩
   wtm_at"z"
   refine⟨v2,9,rfl,rfl,(show(0:Int)<9 by decide),?_⟩
   wtm_at"z"
   refine⟨Hq,λd3 Cu=>?_⟩
   generalize eQ:upd G26 d3 _=G27
   obtain⟨E4,wo⟩:=laid Cu eQ
   have p2:j' (1+v2 % 9):=⟨by omega,by omega⟩
   generalize 1+v2 % 9=x2 at p2 wo
   wtm_at"z"
   refine⟨dl,_,.ref d3,rfl,rfl,E4 _ _ e3,(show 2<Yc by decide),?_⟩
   have n3:d3≠dl:=(qC e3 Cu).symm
   have DH:=wI (o:=.lst ([V.ref d1,V.ref d2]++[V.ref d3])) J1 (J3.trans E4)
   have f1:upd G27 dl (.lst ([V.ref d1,V.ref d2]++[V.ref d3])) d1=_:=(qB n1).trans (E4 _ _ e1)
   have f2:upd G27 dl (.lst ([V.ref d1,V.ref d2]++[V.ref d3])) d2=_:=(qB n2).trans (E4 _ _ e2)
   have f3:upd G27 dl (.lst ([V.ref d1,V.ref d2]++[V.ref d3])) d3=_:=(qB n3).trans wo
   have f4:upd G27 dl (.lst ([V.ref d1,V.ref d2]++[V.ref d3])) dl=some (.lst [V.ref d1,V.ref d2,V.ref d3]):=qW
   generalize upd G27 dl _=G28 at DH f1 f2 f3 f4 ⊢
   dsimp only
   wtm_at"z"
   exact⟨_,_,rfl,DH,f4,.cons (E1 DH f1 yA PH) (.cons (E1 DH f2 yA otA) (.cons (E1 DH f3 yA tuA) .nil)),.three p0 p1 p2 (.refl _)⟩
 .rintro σ' H1 ⟨ds,us,rfl,S1,pE,pd,nj⟩
  clear DF iW DG J1 Jz J0
  have sq:=S1.seq sk
  have lp:=pd.length
  wtm_at"z"
  refine⟨a,ns,3,rfl,sq,by decide,λv3=>?_⟩
  wtm_at"z"
  refine⟨v3,_,rfl,rfl,(show(0:Int)<((us.length:Nat):Int) by have:=nj.pos;omega),?_⟩
  have z0:0<=v3 % ((us.length:Nat):Int):=YH _ (by have:=nj.pos;omega)
  have z1:v3 % ((us.length:Nat):Int)<((us.length:Nat):Int):=YG _ (by have:=nj.pos;omega)
  dsimp only
  generalize v3 % ((us.length:Nat):Int)=at' at z0 z1 ⊢
  obtain⟨k,rfl⟩:∃k:Nat,at'=(k:Int):=⟨at'.toNat,by omega⟩
  wtm_at"z"
  refine⟨pj,λlk v7=>?_⟩
  generalize eQ:upd H1 lk _=G30
  obtain⟨DI,tL⟩:=laid v7 eQ
  wtm_at"z"
  refine⟨λσ' H'=>∃(ls:List Look) (lu:List V),σ'=[some (.ref a),some (.bl al),some (.ref y),some (.ref nv),some (.ref on),some (.ref ot),some (.ref tu),some (.ref dl),some (.int (k:Int)),some (.ref lk)]/\aa H1 H'/\H' lk=some (.lst lu)/\Paired (dE H') ls lu/\ff ls,?_,?_⟩
  .wtm_at"z"
   refine⟨a,ns,3,rfl,DI.seq sq,by decide,λv4=>?_⟩
   wtm_at"z"
   refine⟨v4,3,rfl,rfl,(show(0:Int)<3/\(3:Int).natAbs<2 ^ 1000 by wtm_at"d"),?_⟩
   wtm_at"z"
   refine⟨_,2,rfl,rfl,(show(0:Int)<2 by decide),?_⟩
   wtm_at"z"
   refine i8 (λ_=>?_) (λ_=>?_)
   .wtm_at"z"
    refine wF (aj.of tL) ?_
    wtm_at"z"
    refine⟨a,ns,1,rfl,DI.seq sq,by decide,λv5=>?_⟩
    wtm_at"z"
    refine⟨v5,5,rfl,rfl,(show(0:Int)<5 by decide),?_⟩
    have p5:j' (1+v5 % 5):=⟨by omega,by omega⟩
    wtm_at"z"
    dsimp only
    generalize 1+v5 % 5=x5 at p5 ⊢
    wtm_at"z"
    refine⟨dD,λnl hnl=>?_⟩
    generalize eQ:upd G30 nl _=G31
    obtain⟨DJ,enl⟩:=laid hnl eQ
    wtm_at"z"
    refine⟨a,ns,2,rfl,(DI.trans DJ).seq sq,by decide,λv6=>?_⟩
    wtm_at"z"
    refine⟨v6,2,rfl,rfl,(show(0:Int)<2 by decide),?_⟩
    obtain⟨s',J5,bC⟩:∃s':Str,(s' = "at" \/ s' = "atb")/\gA [V.str "at",V.str "atb"] (v6 % 2)=some (.str s'):=by
     rcases(by omega:v6 % 2=0\/v6 % 2=1) with z | z
     .exact⟨"at",.inl rfl,by rw[z];rfl⟩
     .exact⟨"atb",.inr rfl,by rw[z];rfl⟩
    dsimp only
    generalize v6 % 2=x6 at bC ⊢
    wtm_at"z"
    refine⟨dD,λbo hbo=>?_⟩
    generalize eQ:upd G31 bo _=G32
    obtain⟨J6,ebo⟩:=laid hbo eQ
    wtm_at"z"
    refine⟨sS,λlo qf=>?_⟩
    generalize eQ:upd G32 lo _=G33
    obtain⟨J8,wg⟩:=laid qf eQ
    wtm_at"z"
    have pK:=((DI.trans DJ).trans J6).trans J8
    refine⟨lk,_,.ref lo,rfl,rfl,((DJ.trans J6).trans J8) _ _ tL,(show 0<Yc by decide),?_⟩
    have nl1:lo≠lk:=(qC tL ((DJ.trans J6).free qf)).symm
    have nl2:bo≠lk:=(qC tL (DJ.free hbo)).symm
    refine⟨[⟨"see",x5,.box s'⟩],[.ref lo],rfl,wI v7 pK,qW,.cons ⟨lo,_,rfl,(qB nl1).trans wg,bo,rfl,(qB nl2).trans (J8 _ _ ebo)⟩ .nil,.one p5 J5⟩
   .wtm_at"z"
    exact⟨[],[],rfl,DI,tL,.nil,.none⟩
  .rintro σ' H2 ⟨ls,lu,rfl,S2,tL,plk,E5⟩
   have pF:=S2 _ _ pE
   wtm_at"z"
   refine⟨dD,λq1 hq1=>?_⟩
   generalize eQ:upd H2 q1 _=G40
   obtain⟨Sq1,eq1⟩:=laid hq1 eQ
   wtm_at"z"
   refine⟨dD,λq2 qr=>?_⟩
   generalize eQ:upd G40 q2 _=G41
   obtain⟨PJ,eq2⟩:=laid qr eQ
   wtm_at"z"
   refine⟨dD,λbx hbx=>?_⟩
   generalize eQ:upd G41 bx _=G42
   obtain⟨J9,gP⟩:=laid hbx eQ
   wtm_at"z"
   have J':=(Sq1.trans PJ).trans J9
   refine⟨dl,us,rfl,aj.of (J' _ _ pF),λsa hsa=>?_⟩
   generalize eQ:upd G42 sa _=G43
   obtain⟨PK,EE⟩:=laid hsa eQ
   rw[qOk us k (by omega)] at EE
   wtm_at"z"
   refine⟨dl,us,rfl,aj.of (PK _ _ (J' _ _ pF)),λsb hsb=>?_⟩
   generalize eQ:upd G43 sb _=G44
   obtain⟨PL,PM⟩:=laid hsb eQ
   rw[qOj us k (by omega)] at PM
   wtm_at"z"
   refine⟨sa,sb,_,_,rfl,rfl,PL _ _ EE,PM,yZJ (show _<=3 by rw[Yo,cJ];have:=nj.le;omega) (by decide),λdx hdx=>?_⟩
   generalize eQ:upd G44 dx _=G45
   obtain⟨Sdx,lR⟩:=laid hdx eQ
   wtm_at"z"
   refine⟨WT,λp hp=>?_⟩
   generalize eQ:upd G45 p _=G46
   obtain⟨Sp,ep⟩:=laid hp eQ
   have E6:=((PK.trans PL).trans Sdx).trans Sp
   have Sf:=J'.trans E6
   have SF:=(S0.trans S1).trans (S2.trans Sf)
   have PN:=S1.trans (S2.trans Sf)
   refine q p (ds.drop k++ds.take k) ls G46 SF (nj.rot (by omega)) E5 ⟨bx,dx,lk,_,_,ep,⟨_,E6 _ _ gP,.cons ⟨q1,rfl,(PJ.trans (J9.trans E6)) _ _ eq1⟩ (.cons ⟨q2,rfl,(J9.trans E6) _ _ eq2⟩ .nil)⟩,⟨_,Sp _ _ lR,?_⟩,⟨_,Sf _ _ tL,Paired.mapP plk λ_ _ z=>z.same Sf⟩,yA.mono (qD PN),nA.mono (qD PN)⟩
   have cO:=Paired.mapP pd λ_ _ z=>z.same (S2.trans Sf)
   exact kN (PD cO k).2 (PD cO k).1
theorem cq.mem {al:Bool}{ds:List aO}(h:cq al ds):∀d∈ds,j' d.aP/\d.need=.nul "yes" /\ (d.bF=nh\/d.bF=dG\/d.bF=fB):=by
 cases h with
 | one p=>exact λd hd=>by rw[bB.mp hd];exact⟨p,rfl,.inl rfl⟩
 | three h1 h2 h3 pm=>
  intro d hd
  have:=pm.mem_iff.mp hd
  rcases aE.mp this with rfl | this
  .exact⟨h1,rfl,.inl rfl⟩
  rcases aE.mp this with rfl | this
  .exact⟨h2,rfl,.inr (.inl rfl)⟩
  rw[bB.mp this];exact⟨h3,rfl,.inr (.inr rfl)⟩
theorem ff.mem {ls:List Look}(h:ff ls):∀l∈ls,j' l.aP/\(l.part=.box "at" \/ l.part=.box "atb"):=by
 cases h with
 | none=>exact λl hl=>(nomatch hl)
 | one p hs=>
  intro l hl
  rw[bB.mp hl]
  exact⟨p,hs.imp (λz=>by rw[z]) (λz=>by rw[z])⟩
theorem pO {al:Bool}{ds:List aO}{ls:List Look}(h:cq al ds)(g:ff ls):(ds.map aO.name++ls.map Look.name).Nodup:=by
 have key:∀(a b:List Str),a.Perm b->∀c:List Str,(b++c).Nodup->(a++c).Nodup:=λa b p c h=>(p.append_right c).nodup_iff.mpr h
 have hl:ls.map Look.name=[]\/ls.map Look.name=[("see" : Str)]:=by cases g <;> first | exact .inl rfl | exact .inr rfl
 cases h with
 | one _=>
  rcases hl with z | z <;> rw[z]
  .exact(by wtm_at"d":([("on" : Str)]++[]).Nodup)
  .exact(by wtm_at"d":([("on" : Str)]++[("see" : Str)]).Nodup)
 | three _ _ _ pm=>
  refine key _ _ (pm.map _) _ ?_
  rcases hl with z | z <;> rw[z]
  .exact(by wtm_at"d":([("on" : Str),"other","turn"]++[]).Nodup)
  .exact(by wtm_at"d":([("on" : Str),"other","turn"]++[("see" : Str)]).Nodup)
theorem xa:("at" : Str)∈aY.map (·.1):=.head _
theorem DK:("atb" : Str)∈aY.map (·.1):=.tail _ (.head _)
theorem DL {x:Str}{t:Th}(h:x∈aY.map (·.1))(e:dh (aY.map (·.1)) t)(d:t.dep<=12):iU (aY.map (·.1)) [(x,t)]:=⟨List.nodup_cons.mpr ⟨Yp,List.nodup_nil⟩,Nat.le_of_ble_eq_true rfl,λc hc=>by rw[bB.mp hc];exact⟨h,e,d⟩⟩
theorem nu {wys:List (List (Str×Th))}(h:wys=nh\/wys=dG\/wys=fB):∃wy,wys=[wy]/\iU (aY.map (·.1)) wy:=by
 rcases h with rfl | rfl | rfl
 .exact⟨_,rfl,DL xa ⟨.inl rfl,xa,(show(0:Int)<=1/\(1:Int)<10 by decide)⟩ (by decide)⟩
 .exact⟨_,rfl,DL DK ⟨.inl rfl,DK,(show(0:Int)<=1/\(1:Int)<10 by decide)⟩ (by decide)⟩
 .refine⟨_,rfl,(by wtm_at"d"),Nat.le_of_ble_eq_true rfl,λc hc=>?_⟩
  rcases aE.mp hc with rfl | hc
  .exact⟨xa,DK,by decide⟩
  .rw[bB.mp hc];exact⟨DK,xa,by decide⟩
theorem rf:(ag aY).length=12/\(ag aY).Nodup/\(∀r∈ag aY,(Th.bin "under" (.box "at") (.num 0)).truth (envOf (kvsOf aY r))=false)/\[0,0]∈ag aY:=by wtm_at"d"
theorem xWo {al:Bool}{ds:List aO}{ls:List Look}(h:cq al ds)(g:ff ls):W5 (tK ds ls):=by
 have l1:=h.le
 have l2:ls.length<=1:=by cases g <;> exact Nat.le_of_ble_eq_true rfl
 have big:(10:Nat)<2 ^ 1000:=by wtm_at"d"
 obtain⟨a1,a2,a3,a4⟩:=rf
 refine⟨⟨(by decide:1<=2),(by decide:2<=6),λb hb=>?_,(by decide:(4:Int) * 3<=200),⟨(by wtm_at"d":(aY.map (·.1)).Nodup),λx hx=>?_⟩,yZJ l1 (by decide),yZJ l2 (by decide),pO h g,λd hd=>?_,λl hl=>?_,rfl,(show(Th.nul "yes").dep<=12 by decide),.inl ⟨.inr rfl,xa,(show(0:Int)<=0/\(0:Int)<10 by decide)⟩,(show(Th.bin "under" (.box "at") (.num 0)).dep<=12 by decide),⟨_,a4,rfl⟩⟩,(by decide:2<=3),yZJ (Nat.le_of_eq a1) (by decide),a2,λd hd=>?_,λd hd=>(h.mem d hd).2.1,a3,yZJ l1 (by decide),yZJ l2 (by decide),λd hd=>?_,λl hl=>?_⟩
 .rcases aE.mp hb with rfl | hb
  .decide
  .rw[bB.mp hb];decide
 .have:∀x∈aY.map (·.1),x∉mI:=by wtm_at"d"
  exact this x hx
 .obtain⟨p,n,wy⟩:=h.mem d hd
  obtain⟨v,e,o⟩:=nu wy
  refine⟨p.1,by rw[n];rfl,by rw[n];decide,by rw[e];exact Ye _ _,by rw[e];exact Nat.le_of_ble_eq_true rfl,λw' hw=>?_⟩
  rw[e] at hw
  rw[bB.mp hw];exact o
 .obtain⟨p,e⟩:=g.mem l hl
  rcases e with e | e
  .exact⟨p.1,by rw[e];exact xa,by rw[e];decide⟩
  .exact⟨p.1,by rw[e];exact DK,by rw[e];decide⟩
 .obtain⟨v,e,_⟩:=nu (h.mem d hd).2.2
  exact⟨v,e⟩
 .have p:=(h.mem d hd).1
  unfold j' at p
  exact pS (by omega) big
 .have p:=(g.mem l hl).1
  unfold j' at p
  exact pS (by omega) big
def cb (φ:Int->Int)(r:Rw):Int:=(r.map λp=>φ p.1 * p.2).sum
theorem zD (φ:Int->Int)(p:Int×Int)(r:Rw):cb φ (p::r)=φ p.1 * p.2+cb φ r:=by unfold cb;rw[Yl,List.sum_cons]
theorem qGd (φ:Int->Int){r r':Rw}(h:r.Perm r'):cb φ r=cb φ r':=by
 induction h with
 | nil=>rfl
 | cons x _ ih=>rw[zD,zD,ih]
 | swap x y l=>rw[zD,zD,zD,zD];omega
 | trans _ _ h1 h2=>exact h1.trans h2
theorem qPd (φ:Int->Int)(d:Rw)(k v:Int):cb φ (addW d k v)=cb φ d+φ k * v:=by
 induction d with
 | nil=>unfold addW;rw[zD];exact Int.add_comm _ _
 | cons p d ih=>
  obtain⟨b,x⟩:=p
  show cb φ (if b=k then (b,x+v)::d else (b,x)::addW d k v)=_
  by_cases c:b=k
  .rw[if_pos c,zD,zD,c,Int.mul_add]
   show φ k * x+φ k * v+cb φ d=φ k * x+cb φ d+φ k * v
   omega
  .rw[if_neg c,zD,zD,ih];omega
theorem qPe (φ:Int->Int)(T:List Int)(r:Rw):cb φ (cp T r)=cb (λk=>φ (T.getD k.toNat 0)) r:=by
 have key:∀(r d:Rw),cb φ (r.foldl (λd p=>addW d (T.getD p.1.toNat 0) p.2) d)=cb φ d+cb (λk=>φ (T.getD k.toNat 0)) r:=by
  intro r
  induction r with
  | nil=>exact λd=>(Int.add_zero _).symm
  | cons p r ih=>exact λd=>by rw[List.foldl_cons,ih,qPd,zD,Int.add_assoc]
 exact(key r []).trans (Int.zero_add _)
theorem xQg {T:List Int}{r r':Rw}(m:Mv T r r')(φ:Int->Int):cb φ r'=cb (λk=>φ (T.getD k.toNat 0)) r:=(qGd φ m.pm).trans (qPe φ T r)
def tells (ws:List Int)(r:Rw)(m:List Nat):Prop:=∀φ:Int->Int,cb φ r=((ws.zip m).map λq=>φ ((q.2:Nat):Int) * q.1).sum
theorem qPa (ws:List Int):tells ws (aM ws) (List.range ws.length):=λφ=>by
 unfold cb aM
 rw[Yn,List.range_eq_range',<- List.zipIdx_eq_zip_range'];rfl
theorem qPw {ws:List Int}{r r':Rw}{m:List Nat}{T:List Int}{g:Nat->Nat}(h:tells ws r m)(mv:Mv T r r')(e:∀k∈m,T.getD k 0=((g k:Nat):Int)):tells ws r' (m.map g):=λφ=>by
 rw[xQg mv,h,List.zip_map_right,Yn]
 congr 1
 refine List.map_congr_left λq hq=>?_
 have:=e q.2 (List.of_mem_zip hq).2
 show φ (T.getD (((q.2:Nat):Int)).toNat 0) * q.1=φ ((g q.2:Nat):Int) * q.1
 rw[Int.toNat_natCast,this]
inductive fX (t:Int):Nat->List Int->Prop
 | nil:fX t 0 []
 | ins {n:Nat} {a b:List Int}:fX t n (a++b)->fX t (n+1) (a++(t * 2 ^ n)::b)
theorem xXf {α:Type}{t:Int}(ht:0<t)(c:α->Int)(hc:∀x,-1<=c x/\c x<=1){n:Nat}{ws:List Int}(h:fX t n ws):∀z:List (Int×α),z.map (·.1)=ws->
  -(t * 2 ^ n)<(z.map λq=>c q.2 * q.1).sum/\(z.map λq=>c q.2 * q.1).sum<t * 2 ^ n/\((z.map λq=>c q.2 * q.1).sum=0->∀q∈z,c q.2=0):=by
 induction h with
 | nil=>
  intro z hz
  cases z with
  | nil=>
   have:t * 2 ^ 0=t:=by rw[Int.pow_zero,Int.mul_one]
   rw[this]
   exact⟨by show -t<0;omega,ht,λ_ q hq=>(nomatch hq)⟩
  | cons _ _=>cases hz
 | @ins n a b _ ih=>
  intro z hz
  obtain⟨z1,z',rfl,h1,h2⟩:=List.map_eq_append_iff.mp hz
  obtain⟨x,z2,rfl,h3,h4⟩:=List.map_eq_cons_iff.mp h2
  obtain⟨i1,i2,i3⟩:=ih (z1++z2) (by rw[cu,h1,h4])
  have es:((z1++x::z2).map λq=>c q.2 * q.1).sum=c x.2 * (t * 2 ^ n)+((z1++z2).map λq=>c q.2 * q.1).sum:=by
   rw[cu,List.sum_append,Yl,List.sum_cons,cu,List.sum_append,h3];omega
  have e2:t * 2 ^ (n+1)=2 * (t * 2 ^ n):=by rw[Int.pow_succ,<- Int.mul_assoc,Int.mul_comm]
  rw[es,e2]
  obtain⟨c1,c2⟩:=hc x.2
  generalize t * 2 ^ n=p at i1 i2 ⊢
  generalize ((z1++z2).map λq=>c q.2 * q.1).sum=S at i1 i2 i3 ⊢
  rcases(by omega:c x.2 = -1\/c x.2=0\/c x.2=1) with e | e | e <;> rw[e]
  .exact⟨by omega,by omega,λz=>absurd z (by omega)⟩
  .refine⟨by omega,by omega,λz q hq=>?_⟩
   have:=i3 (by omega)
   rcases fh.mp hq with h | h
   .exact this q (Ym _ h)
   .rcases aE.mp h with rfl | h
    .exact e
    .exact this q (fE _ h)
  .exact⟨by omega,by omega,λz=>absurd z (by omega)⟩
theorem xQj (φ:Int->Int):∀(ws:List Int) (m m':List Nat),m.length=ws.length->m'.length=ws.length->((ws.zip m).map λq=>φ ((q.2:Nat):Int) * q.1).sum - ((ws.zip m').map λq=>φ ((q.2:Nat):Int) * q.1).sum=((ws.zip (m.zip m')).map λq=>(φ ((q.2.1:Nat):Int) - φ ((q.2.2:Nat):Int)) * q.1).sum:=by
 intro ws
 induction ws with
 | nil=>exact λ_ _ _ _=>rfl
 | cons w ws ih=>
  intro m m' h h'
  cases m with
  | nil=>cases h
  | cons k m=>
   cases m' with
   | nil=>cases h'
   | cons k' m'=>
    have:=ih m m' (Nat.succ.inj h) (Nat.succ.inj h')
    simp only[List.zip_cons_cons,Yl,List.sum_cons]
    rw[Int.sub_mul]
    omega
theorem qPb {ws:List Int}{r:Rw}{m m':List Nat}(h:tells ws r m)(h':tells ws r m')(l:m.length=ws.length)(l':m'.length=ws.length)(φ:Int->Int):((ws.zip (m.zip m')).map λq=>(φ ((q.2.1:Nat):Int) - φ ((q.2.2:Nat):Int)) * q.1).sum=0:=by
 rw[<- xQj φ ws m m' l l',<- h φ,<- h' φ,Int.sub_self]
theorem qGb {t:Int}{ws:List Int}{n:Nat}(ht:0<t)(pw:fX t n ws){r:Rw}{m m':List Nat}(h:tells ws r m)(h':tells ws r m')(l:m.length=ws.length)(l':m'.length=ws.length):m=m':=by
 refine List.ext_getElem (l.trans l'.symm) λi hi tZ=>?_
 have key:=xXf ht (λq:Nat×Nat=>(if ((q.1:Nat):Int)=((m[i]:Nat):Int) then 1 else 0) - (if ((q.2:Nat):Int)=((m[i]:Nat):Int) then 1 else 0)) (λq=>by split <;> split <;> omega) pw (ws.zip (m.zip m')) (List.map_fst_zip (by rw[List.length_zip,l,l'];omega))
 have:=key.2.2 (qPb h h' l l' λk=>if k=((m[i]:Nat):Int) then 1 else 0) (ws[i]'(by omega),(m[i],m'[i])) (bw (i:=i) (by rw[aH (by rw[List.length_zip,List.length_zip,l,l'];omega),List.getElem_zip,List.getElem_zip]))
 dsimp only at this
 rw[if_pos rfl] at this
 split at this
 .omega
 .omega
def E7 (k:Nat):Nat:=(k+3) % 12
def fY (k:Nat):Nat:=k / 3 * 3+(k % 3+1) % 3
def iY (k:Nat):Nat:=3 * (k % 3)+k / 3 % 3
def dP (m:List Nat):Nat:=m.foldl (λa k=>a * 13+k) 0 % 65537
def eI:List (List Nat)->Nat->List (List Nat)×Nat
 | [],b=>([],b)
 | m::ms,b=>if b.testBit (dP m) then eI ms b else (λr=>(m::r.1,r.2)) (eI ms (b ||| 1 <<< dP m))
def ny:Nat->List (List Nat)->Nat->List (List Nat)
 | 0,fr,_=>fr
 | n+1,fr,b=>(λr=>fr++ny n r.1 r.2) (eI (fr.flatMap λm=>[m.map E7,m.map fY,m.map iY]) b)
def iZ:List (List Nat)->Nat->Nat->Bool
 | [],_,n=>decide (2000<n)
 | m::ms,b,n=>!b.testBit (dP m) && iZ ms (b ||| 1 <<< dP m) (n+1)
theorem DM:iZ (ny 13 [List.range 12] (1 <<< dP (List.range 12))) 0 0=true:=by wtm_at"d"
theorem xKg:∀(F:List (List Nat)) (b n:Nat),iZ F b n=true->F.Nodup/\(∀m∈F,b.testBit (dP m)=false)/\2000<n+F.length:=by
 intro F
 induction F with
 | nil=>exact λb n h=>⟨List.nodup_nil,λ_ hm=>(nomatch hm),of_decide_eq_true h⟩
 | cons m F ih=>
  intro b n h
  have h:(!b.testBit (dP m) && iZ F (b ||| 1 <<< dP m) (n+1))=true:=h
  rw[Bool.and_eq_true,Bool.not_eq_true'] at h
  obtain⟨i1,i2,i3⟩:=ih _ _ h.2
  have k:∀x∈F,b.testBit (dP x)=false/\dP m≠dP x:=λx hx=>by
   have:=i2 x hx
   rw[Nat.testBit_or,Bool.or_eq_false_iff,Nat.one_shiftLeft,Nat.testBit_two_pow,decide_eq_false_iff_not] at this
   exact this
  refine⟨List.nodup_cons.mpr ⟨λz=>(k m z).2 rfl,i1⟩,λx hx=>?_,by rw[cP];omega⟩
  rcases aE.mp hx with rfl | hx
  .exact h.1
  .exact(k x hx).1
theorem qRe:∀(ms:List (List Nat)) (b:Nat),∀m∈(eI ms b).1,m∈ms:=by
 intro ms
 induction ms with
 | nil=>exact λb m h=>h
 | cons x ms ih=>
  intro b m h
  unfold eI at h
  split at h
  .exact yYH _ (ih _ _ h)
  .rcases aE.mp h with rfl | h
   .exact aW
   .exact yYH _ (ih _ _ h)
theorem xJd {G:List Nat->Prop}(hG:∀m,G m->G (m.map E7)/\G (m.map fY)/\G (m.map iY)):∀(n:Nat) (fr:List (List Nat)) (b:Nat),(∀m∈fr,G m)->∀m∈ny n fr b,G m:=by
 intro n
 induction n with
 | zero=>exact λfr b h=>h
 | succ n ih=>
  intro fr b h m hm
  rcases fh.mp (show m∈fr++_ from hm) with hm | hm
  .exact h m hm
  .refine ih _ _ (λx hx=>?_) m hm
   obtain⟨y,hy,hx⟩:=List.mem_flatMap.mp (qRe _ _ x hx)
   obtain⟨g1,g2,g3⟩:=hG y (h y hy)
   rcases aE.mp hx with rfl | hx
   .exact g1
   rcases aE.mp hx with rfl | hx
   .exact g2
   rw[bB.mp hx];exact g3
theorem PQ {α β:Type}{R:α->β->Prop}:∀(F:List β) (L:List α),F.Nodup->(∀m∈F,∃r∈L,R r m)->(∀r,∀m∈F,∀m'∈F,R r m->R r m'->m=m')->F.length<=L.length:=by
 intro F
 induction F with
 | nil=>exact λL _ _ _=>yZG _
 | cons m F ih=>
  intro L nd h u
  obtain⟨r,hr,hm⟩:=h m aW
  obtain⟨a,b,rfl⟩:=List.append_of_mem hr
  have bI:=List.nodup_cons.mp nd
  have:=ih (a++b) bI.2 (λx hx=>by
   obtain⟨r',CK,mq⟩:=h x (yYH _ hx)
   rcases fh.mp CK with z | z
   .exact⟨r',Ym _ z,mq⟩
   .rcases aE.mp z with rfl | z
    .exact absurd (u r' m aW x (yYH _ hx) hm mq▸hx) bI.1
    .exact⟨r',fE _ z,mq⟩) (λr x hx y hy=>u r x (yYH _ hx) y (yYH _ hy))
  rw[bK] at this
  rw[bK,cP,cP];omega
theorem DN:(∀k<12,(iX aY nh).getD k 0=((E7 k:Nat):Int)/\E7 k<12)/\(∀k<12,(iX aY dG).getD k 0=((fY k:Nat):Int)/\fY k<12)/\(∀k<12,(iX aY fB).getD k 0=((iY k:Nat):Int)/\iY k<12):=by wtm_at"d"
theorem tM {ds:List aO}{ls:List Look}{t:Int}{ws:List Int}(h:cq false ds)(ht:0<t)(pw:fX t 12 ws)(lw:ws.length=12)(L:List Rw)(h0:aM ws∈L)(cl:iF (fc (tK ds ls)) L):2000<L.length:=by
 obtain⟨f1,_,f3⟩:=xKg _ _ _ DM
 have step:∀(wys:List (List (Str×Th))) (g:Nat->Nat),(∀k<12,(iX aY wys).getD k 0=((g k:Nat):Int)/\g k<12)->(∃n p,(⟨n,p,.nul "yes",wys⟩:aO)∈ds)->∀m:List Nat,((∀k∈m,k<12)/\m.length=12/\∃r∈L,tells ws r m)->(∀k∈m.map g,k<12)/\(m.map g).length=12/\∃r∈L,tells ws r (m.map g):=by
  rintro wys g hg ⟨n,p,hd⟩ m ⟨a,b,r,hr,c⟩
  obtain⟨r',CK,mv⟩:=cl r hr _ (aZ.mpr ⟨_,hd,rfl⟩)
  exact⟨λk hk=>by
   obtain⟨j,hj,rfl⟩:=aZ.mp hk
   exact(hg j (a j hj)).2,by rw[av];exact b,r',CK,qPw c mv λk hk=>(hg k (a k hk)).1⟩
 obtain⟨t1,t2,t3⟩:=DN
 obtain⟨d1,d2,d3⟩:(∃n p,(⟨n,p,.nul "yes",nh⟩:aO)∈ds)/\(∃n p,(⟨n,p,.nul "yes",dG⟩:aO)∈ds)/\(∃n p,(⟨n,p,.nul "yes",fB⟩:aO)∈ds):=by
  cases h with
  | three _ _ _ pm=>exact⟨⟨_,_,pm.mem_iff.mpr (.head _)⟩,⟨_,_,pm.mem_iff.mpr (.tail _ (.head _))⟩,⟨_,_,pm.mem_iff.mpr (.tail _ (.tail _ (.head _)))⟩⟩
 have gen:=xJd (G:=λm=>(∀k∈m,k<12)/\m.length=12/\∃r∈L,tells ws r m) (λm hm=>⟨step _ _ t1 d1 m hm,step _ _ t2 d2 m hm,step _ _ t3 d3 m hm⟩) 13 [List.range 12] (1 <<< dP (List.range 12)) (λm hm=>by
  rw[bB.mp hm]
  exact⟨λk hk=>List.mem_range.mp hk,List.length_range,aM ws,h0,lw▸qPa ws⟩)
 have:=PQ (R:=tells ws) _ L f1 (λm hm=>(gen m hm).2.2) (λr m hm m' v9 a b=>qGb ht pw a b (by rw[lw];exact(gen m hm).2.1) (by rw[lw];exact(gen m' v9).2.1))
 omega
def dH (t:Int)(s:List Int):Rw:=s.map λk=>(k,t)
def fC:List (List Int):=[[0,1,2,3,4,5,6,7,8,9,10,11],[0,1,2],[3,4,5],[6,7,8],[9,10,11],[0,3,6,9],[1,4,7,10],[2,5,8,11]]++(List.range 12).map λk=>[((k:Nat):Int)]
theorem qTi:∀(d:Rw) (k v:Int),k∉d.map (·.1)->addW d k v=d++[(k,v)]:=by
 intro d
 induction d with
 | nil=>exact λ_ _ _=>rfl
 | cons p d ih=>
  intro k v h
  obtain⟨b,x⟩:=p
  rw[Yl,aE,not_or] at h
  show(if b=k then (b,x+v)::d else (b,x)::addW d k v)=_
  rw[if_neg (λz=>h.1 z.symm),ih k v h.2];rfl
theorem xWj (T:List Int)(t:Int)(s:List Int)(nd:(s.map λk=>T.getD k.toNat 0).Nodup):cp T (dH t s)=dH t (s.map λk=>T.getD k.toNat 0):=by
 have key:∀(s:List Int) (d:Rw),(d.map (·.1)++s.map λk=>T.getD k.toNat 0).Nodup->(dH t s).foldl (λd p=>addW d (T.getD p.1.toNat 0) p.2) d=d++dH t (s.map λk=>T.getD k.toNat 0):=by
  intro s
  induction s with
  | nil=>exact λd _=>(Yq d).symm
  | cons k s ih=>
   intro d nd
   rw[Yl] at nd
   have nk:T.getD k.toNat 0∉d.map (·.1):=λz=>by
    have:=rh.mp nd
    exact this.2.2 _ z _ aW rfl
   show(dH t s).foldl (λd p=>addW d (T.getD p.1.toNat 0) p.2) (addW d (T.getD k.toNat 0) t)=_
   rw[qTi _ _ _ nk,ih _ (by rw[cu,lS];exact nd),lS];rfl
 exact(key s [] nd).trans (List.nil_append _)
theorem qPn {r r':Rw}(p:r.Perm r')(h:(r.map (·.1)).Pairwise (·<·))(h':(r'.map (·.1)).Pairwise (·<·)):r=r':=
 List.Perm.eq_of_pairwise (le:=λa b:Int×Int=>a.1<b.1) (λa b _ _ h1 h2=>absurd (Int.lt_trans h1 h2) (Int.lt_irrefl _)) (List.pairwise_map.mp h) (List.pairwise_map.mp h') p
theorem Ka:∀s∈fC,(s.map λk=>(iX aY nh).getD k.toNat 0).Nodup/\∃s'∈fC,(s.map λk=>(iX aY nh).getD k.toNat 0).isPerm s'=true/\s'.Pairwise (·<·):=by wtm_at"d"
theorem DO:∀x∈[("at" : Str),"atb"],∀s∈fC,∀e∈iD (λk:Int=>((ag aY).map λr=>(Th.box x).worth (envOf (kvsOf aY r))).getD k.toNat 0) s,e.2∈fC:=by wtm_at"d"
theorem qHc (t:Int)(s:List Int):(dH t s).map (·.1)=s:=by unfold dH;rw[Yn];exact List.map_id s
theorem qRq (t:Int):aM (Yg 12 t)=dH t [0,1,2,3,4,5,6,7,8,9,10,11]:=rfl
theorem pP {ds:List aO}{ls:List Look}{t:Int}(h:cq true ds)(g:ff ls){r:Rw}(rc:pH (fc (tK ds ls)) (aM (Yg 12 t)) r):∃s∈fC,r=dH t s:=by
 induction rc with
 | refl=>exact⟨_,.head _,qRq t⟩
 | step _ sc ih=>
  obtain⟨s,hs,rfl⟩:=ih
  cases sc with
  | deed d hd m=>
   obtain⟨d',dr,rfl⟩:=aZ.mp hd
   cases h with
   | one _=>
    cases bB.mp dr
    obtain⟨nd,s',J5,pm,up⟩:=Ka s hs
    refine⟨s',J5,qPn (m.pm.trans ?_) m.up (by rw[qHc];exact up)⟩
    show(cp (iX aY nh) (dH t s)).Perm (dH t s')
    rw[xWj (iX aY nh) t s nd]
    exact(List.isPerm_iff.mp pm).map _
  | look l hl gs p two g' hg e=>
   obtain⟨l',lC,rfl⟩:=aZ.mp hl
   have mg:=p.pm.mem_iff.mp hg
   cases g with
   | none=>cases lC
   | one _ hx=>
    cases bB.mp lC
    unfold pC dH at mg
    rw[<- Oq] at mg
    obtain⟨e',he',rfl⟩:=aZ.mp mg
    exact⟨e'.2,DO _ (by rcases hx with rfl | rfl;exact .head _;exact .tail _ (.head _)) s hs e' he',e⟩
theorem DQ {ds:List aO}{ls:List Look}{t:Int}(h:cq true ds)(g:ff ls)(L:List Rw)(nd:L.Nodup)(rc:∀r∈L,pH (fc (tK ds ls)) (aM (Yg 12 t)) r):L.length<=100:=by
 have:=PQ (R:=λs r=>r=dH t s) L fC nd (λr hr=>pP h g (rc r hr)) (λs m _ m' _ a b=>a.trans b.symm)
 exact yZJ this (by decide)
theorem PR {ws:List Int}(l:ws.length=12)(pos:∀w∈ws,1<=w)(le:ws.sum<=2 ^ 300):bf 12 (aM ws):=by
 have g:∀p∈aM ws,∃i:Nat,∃hi:i<ws.length,p=((i:Int),ws[i]):=λp hp=>by
  obtain⟨i,ei⟩:=List.mem_iff_getElem?.mp hp
  rw[qRx] at ei
  obtain⟨w',ew,rfl⟩:=YJ.mp ei
  obtain⟨hi,rfl⟩:=aN.mp ew
  exact⟨i,hi,rfl⟩
 refine⟨λz=>?_,?_,λp hp=>?_,λp hp=>?_,?_⟩
 .have:=Pn ws
  rw[z,l] at this;cases this
 .have:(aM ws).map (·.1)=(List.range ws.length).map λk:Nat=>(k:Int):=by
   unfold aM
   rw[Yn,List.range_eq_range',<- List.zipIdx_map_snd 0 ws,Yn];rfl
  rw[this]
  refine List.pairwise_map.mpr (List.Pairwise.imp (λh=>?_) List.pairwise_lt_range)
  exact Int.ofNat_lt.mpr h
 .obtain⟨i,hi,rfl⟩:=g p hp
  exact⟨Int.natCast_nonneg _,by rw[Int.toNat_natCast];omega⟩
 .obtain⟨i,hi,rfl⟩:=g p hp
  have:=pos _ (List.getElem_mem hi)
  show 0<ws[i]
  omega
 .have:(aM ws).map (·.2)=ws:=by
   unfold aM
   rw[Yn]
   exact List.zipIdx_map_fst 0 ws
  rw[this];exact le
theorem PU {t:Int}(ht:1<=t){n:Nat}{ws:List Int}(h:fX t n ws):ws.length=n/\(∀w∈ws,1<=w)/\ws.sum<t * 2 ^ n:=by
 induction h with
 | nil=>exact⟨rfl,λw h=>(nomatch h),by rw[Int.pow_zero,Int.mul_one];show 0<t;omega⟩
 | @ins n a b _ ih=>
  obtain⟨i1,i2,i3⟩:=ih
  have p1:(1:Int)<=2 ^ n:=Int.pow_pos (by decide)
  have p2:1<=t * 2 ^ n:=by
   have:=Int.mul_le_mul ht p1 (by decide) (by omega)
   rw[Int.one_mul] at this;exact this
  rw[bK] at i1
  rw[List.sum_append] at i3
  refine⟨by rw[bK,cP];omega,λw hw=>?_,?_⟩
  .rcases fh.mp hw with z | z
   .exact i2 w (Ym _ z)
   .rcases aE.mp z with rfl | z
    .exact p2
    .exact i2 w (fE _ z)
  .have e2:t * 2 ^ (n+1)=2 * (t * 2 ^ n):=by rw[Int.pow_succ,<- Int.mul_assoc,Int.mul_comm]
   rw[List.sum_append,List.sum_cons,e2];omega
theorem qKz:xI ["e"] ["e"] (xB (top 53)):=by constructor <;> first | rfl | wtm_at"d"
structure iH (K:aq)(mg:Str->Option Value)(CF CT:Addr)(oth:List Addr):Prop where
 F:Ref K mg "ForkError" CF gc
 T:Ref K mg "TooMany" CT (.ref CF::gc)
 self:PySem.W.kitOne K (.ref CT) (.ref CT)=some true
 value:PySem.W.kitOne K (.ref CT) (.type "ValueError")=some true
 no:∀c∈oth,PySem.W.kitOne K (.ref CT) (.ref c)=some false
def PV (CT:Addr):Sp:=λvs H Q _=>∃(e:Addr) (T:Addr),vs=[.ref e]/\H e=some (.ext (cT e T (.ref CT)))/\Q (.bl false) H
theorem qTj {CF CT C1 C2 C3 C4 C5 C6 C7 C8:Addr}(F:Fd K mg "_law_other" (top 53) ["e"])(B:Bl mg)(R:iH K mg CF CT [C1,C2,C3,C4,C5,C6,C7,C8])
  {b1 b2 b3 b4 b5 b6 b7 b8:List Value} (yp:Ref K mg "NoName" C1 b1) (yL:Ref K mg "NoOrder" C2 b2) (yq:Ref K mg "NoPlan" C3 b3) (vn:Ref K mg "NotPlain" C4 b4) (yb:Ref K mg "NotSure" C5 b5) (yr:Ref K mg "NoText" C6 b6) (vf:Ref K mg "NoWeights" C7 b7) (yd:Ref K mg "NoWorld" C8 b8):Dn P w K mg base "_law_other" 1 ["e"] (PV CT):=by
 refine F.ok qKz (λvs H Q E h=>?_) (λf zy A outer s H vs Q E hr h=>?_)
 .obtain⟨_,_,rfl,_⟩:=h
  rfl
 obtain⟨e,T,rfl,ee,q⟩:=h
 have no:∀c∈[C1,C2,C3,C4,C5,C6,C7,C8],PySem.W.kitOne K (.ref CT) (.ref c)=some false:=R.no
 have a:=R.T.asks
 refine⟨_,(qZ (yV (PW.pt (A6 (yY (xJ (jQ (K:=K)) rfl B.ar xP (qQ (pv 0) (qQ (vC yp) qX)))) (A6 (yY (xJ (jQ (K:=K)) rfl B.ar xP (qQ (pv 0) (qQ (vC yL) qX)))) (Fm (yY (xJ (jQ (K:=K)) rfl B.ar xP (qQ (pv 0) (qQ (vC yq) qX)))))))) (qJ (qP rA)) qY)
  (qZ (yV (PW.pt (A6 (yY (xJ (jQ (K:=K)) rfl B.ar xP (qQ (pv 0) (qQ (vC vn) qX)))) (A6 (yY (xJ (jQ (K:=K)) rfl B.ar xP (qQ (pv 0) (qQ (vC yb) qX)))) (Fm (yY (xJ (jQ (K:=K)) rfl B.ar xP (qQ (pv 0) (qQ (vC yr) qX)))))))) (qJ (qP rA)) qY)
  (qJ (qP (Qc (xJ (jQ (K:=K)) rfl B.ar xP (qQ (pv 0) (qQ (vC vf) qX))) (A8 (xJ (jQ (K:=K)) rfl B.ar xP (qQ (pv 0) (qQ (vC yd) qX))))))))),?_⟩
 wtm_at"z"
 refine⟨e,T,CT,_,C1,false,rfl,ee,a,no _ (by simp),_,rfl,bO ?_⟩
 wtm_at"z"
 refine⟨e,T,CT,_,C2,false,rfl,ee,a,no _ (by simp),_,rfl,bO ?_⟩
 wtm_at"z"
 refine⟨e,T,CT,_,C3,false,rfl,ee,a,no _ (by simp),_,rfl,bO ?_⟩
 wtm_at"z"
 refine⟨e,T,CT,_,C4,false,rfl,ee,a,no _ (by simp),_,rfl,bO ?_⟩
 wtm_at"z"
 refine⟨e,T,CT,_,C5,false,rfl,ee,a,no _ (by simp),_,rfl,bO ?_⟩
 wtm_at"z"
 refine⟨e,T,CT,_,C6,false,rfl,ee,a,no _ (by simp),_,rfl,bO ?_⟩
 wtm_at"z"
 refine⟨e,T,CT,_,C7,false,rfl,ee,a,no _ (by simp),_,rfl,bO ?_⟩
 wtm_at"z"
 exact⟨e,T,CT,_,C8,false,rfl,ee,a,no _ (by simp),q⟩
theorem yO:xI ["script","alone","times","weights","weight","k","told","caught","e"] ["script"] (xB (top 54)):=by constructor <;> first | rfl | wtm_at"d"
def i4 (K:aq):Sp:=λvs H Q _=>∃(a:Addr) (ns:List Int),vs=[.ref a]/\aj K H a (ns.map V.int)/\ns.length<=63/\∀H',Q (.bl true) H'
theorem xKf {CF CT:Addr}{oth:List Addr}(YK:K.In base){f:Addr}{fd:FuncData}(F:gC K "law" "law" (top 54) f fd)(B:Bl mg)(kt:mg "ValueError" = none)(R:iH K mg CF CT oth)(jc:Dn P w K mg base "_law_cell_at" 1 ["script","k"] (iG K))(ue:Dn P w K mg base "_law_world" 2 ["script","alone"] (PF K))(uf:Dn P w K mg base "_law_other" 1 ["e"] (PV CT))
  (uW:Dx P w K mg base "least_mean" 32 ["world","weights"] (ng CT)):aT P w K mg base eU 60 f fd ["script"] (i4 K):=by
 refine F.ok (k:=59) yO (λvs H Q E h=>?_) (λzy A outer s H vs Q E hr h=>?_)
 .obtain⟨_,_,rfl,_⟩:=h
  rfl
 obtain⟨a,ns,rfl,hS,h63,q⟩:=h
 have jd:=R.F
 have vc:=R.T
 refine⟨_,(qZ (xG (i:=1) yO.nd rfl (Bn K8 (xX kG (qE jc hr (qQ (pv 0) (qQ qG qX))) qG) qG (xE _)))
  (qZ (xG (i:=2) yO.nd rfl (xX vF qG (xX kG (xX LQ (qE jc hr (qQ (pv 0) (qQ qG qX))) qG) (xX Qn qG qG))))
  (qZ (xG (i:=3) yO.nd rfl (xX Q3 (zE (qQ (pv 2) qX)) qG))
  (qK (yV (D0 (yY (pv 1))) (qZ (xG (i:=3) yO.nd rfl (zE qX))
  (qZ (xG (i:=4) yO.nd rfl (pv 2))
  (qJ (jE PassesOwn.never rfl (K1 rfl B.range' (qQ qG qX)) (qI (i:=5) yO.nd rfl (by wtm_at "zo")) (qZ (qR (yR (K:=K) Yx PySem.F.slot_list_insert PySem.F.type_list_insert Vv (pv 3) (qQ (xX kG (qE jc hr (qQ (pv 0) (qQ (xX vF qG (pv 5)) qX))) (xX vF (pv 5) qG)) (qQ (pv 4) qX))))
  (qJ (xG (i:=4) yO.nd rfl (xX FT (pv 4) qG)))))))) qY)
  (qZ (xG (i:=6) yO.nd rfl qG)
  (qZ (xG (i:=7) yO.nd rfl tR)
  (qZ (UY (i:=8) rfl rfl rfl yO.nd rfl rfl rfl jd.bd (jd.asks.at' _ YK) (UQ (UR (i:=6) yO.nd rfl (by wtm_at "zo") (U9 uW hr (qQ (qE ue hr (qQ (pv 0) (qQ (pv 1) qX))) (qQ (pv 3) qX))))) (λx=>(qJ (xG (i:=7) yO.nd rfl (pv 8)))))
  (qZ (yV (yY (pv 1)) (qJ (qP (A9 (Bn MK (pv 7) tR (xE _)) (A8 (Bn MK (pv 6) tR (xE _)))))) qY)
  (qJ (qP (A9 (xJ (jQ (K:=K)) rfl B.ar xP (qQ (pv 7) (qQ (vC vc) qX))) (A9 (xJ (U' (K:=K)) rfl B.ar xP (qQ (pv 7) (qQ (FU rfl kt Vb) qX))) (A8 (Fn (qE uf hr (qQ (pv 7) qX)))))))))))))))),?_⟩
 wtm_at"z"
 refine⟨a,ns,4,rfl,hS,by decide,λv0=>?_⟩
 wtm_at"z"
 refine⟨v0,16,rfl,rfl,(show(0:Int)<16 by decide),?_⟩
 wtm_at"z"
 refine⟨a,ns,4,rfl,hS,by decide,λv1=>?_⟩
 wtm_at"z"
 refine⟨v1,16,rfl,rfl,(show(0:Int)<16/\(16:Int).natAbs<2 ^ 1000 by wtm_at"d"),?_⟩
 wtm_at"z"
 refine⟨10,20,rfl,rfl,(show Bm 10 20 by refine⟨by decide,by decide,by decide⟩),?_⟩
 wtm_at"z"
 refine⟨_,_,rfl,rfl,(show(0:Int)<10 ^ 20 by wtm_at"d"),?_⟩
 dsimp only
 generalize (!decide (V.int (v0 % 16)=V.int 5))=al
 wtm_at"z"
 have e20:(10:Int) ^ Int.toNat 20=100000000000000000000:=by wtm_at"d"
 rw[e20]
 have t1:1<=1+v1 / 16 % 100000000000000000000:=by omega
 have t2:1+v1 / 16 % 100000000000000000000<=100000000000000000000:=by omega
 generalize 1+v1 / 16 % 100000000000000000000=t at t1 t2 ⊢
 refine⟨iw,λone hone=>?_⟩
 generalize eQ:upd H one _=G1
 obtain⟨Kb,Kc⟩:=laid hone eQ
 wtm_at"z"
 refine⟨one,12,_,rfl,rfl,Kc,by decide,by decide,(show 12<=Yc by decide),λwa hwa=>?_⟩
 generalize eQ:upd G1 wa _=G2
 obtain⟨Swa,dS⟩:=laid hwa eQ
 have dS:G2 wa=some (.lst (ae (Yg 12 t))):=dS
 have S2:=Kb.trans Swa
 wtm_at"z"
 refine⟨λσ' H'=>∃(wa:Addr) (ws:List Int) (z4 z5:Option V),σ'=[some (.ref a),some (.bl al),some (.int t),some (.ref wa),z4,z5,none,none,none]/\aa H H'/\H' wa=some (.lst (ae ws))/\(al=true->ws=Yg 12 t)/\(al=false->fX t 12 ws),?_,?_⟩
 .cases al with
  | true=>
   wtm_at"z"
   exact⟨wa,_,_,_,rfl,S2,dS,λ_=>rfl,λz=>nomatch z⟩
  | false=>
   wtm_at"z"
   refine⟨pj,λwb hwb=>?_⟩
   generalize eQ:upd G2 wb _=G3
   obtain⟨Swb,ewb⟩:=laid hwb eQ
   wtm_at "zf"
   refine Tg (by decide) (by decide) ?_
   refine WS (λk σ' H'=>∃(ws:List Int) (z5:Option V),σ'=[some (.ref a),some (.bl false),some (.int t),some (.ref wb),some (.int (t * 2 ^ k)),z5,none,none,none]/\aa G2 H'/\H' wb=some (.lst (ae ws))/\fX t k ws) ?_ ?_ ?_
   .exact⟨[],none,by rw[Int.pow_zero,Int.mul_one];rfl,Swb,ewb,.nil⟩
   .rintro N rt bk k σ' Ha hk ⟨ws,z5,rfl,Sa,tN,pw⟩ hN
    have lw:=(PU t1 pw).1
    wtm_at"z"
    refine wF (aj.of tN) ?_
    wtm_at"z"
    refine⟨a,ns,_,rfl,(S2.trans Sa).seq hS,(by omega),λv=>?_⟩
    wtm_at"z"
    refine⟨v,_,rfl,rfl,(show(0:Int)<0+(k:Int)+1 by omega),?_⟩
    have z0:0<=v % (0+(k:Int)+1):=YH _ (by omega)
    have z1:v % (0+(k:Int)+1)<0+(k:Int)+1:=YG _ (by omega)
    dsimp only
    generalize v % (0+(k:Int)+1)=j at z0 z1 ⊢
    have li:(ae ws).length=ws.length:=av ..
    wtm_at"z"
    refine⟨wb,ae ws,j,_,rfl,rfl,tN,z0,(by rw[li,lw];omega),(by rw[li,lw];omega),?_⟩
    have ei:bE (ae ws) j.toNat (V.int (t * 2 ^ k))=ae (bE ws j.toNat (t * 2 ^ k)):=by
     unfold bE ae
     rw[cu,<- List.map_take,<- List.map_drop];rfl
    have Sb:=wI (o:=.lst (ae (bE ws j.toNat (t * 2 ^ k)))) hwb Sa
    rw[ei]
    have eb:upd Ha wb (.lst (ae (bE ws j.toNat (t * 2 ^ k)))) wb=_:=qW
    generalize upd Ha wb _=Hb at Sb eb ⊢
    dsimp only
    wtm_at"z"
    have pk:(2:Int) ^ k<=2 ^ 12:=(by wtm_at"d":∀k<12,(2:Int) ^ k<=2 ^ 12) k hk
    have p0:(0:Int)<2 ^ k:=Int.pow_pos (by decide)
    have pb:t * 2 ^ k<=100000000000000000000 * 2 ^ 12:=Int.mul_le_mul t2 pk (by omega) (by decide)
    have pa:0<t * 2 ^ k:=Int.mul_pos (by omega) p0
    refine⟨_,2,rfl,rfl,⟨pS (show(t * 2 ^ k).natAbs<=100000000000000000000 * 2 ^ 12 by omega) (by wtm_at"d"),(by wtm_at"d")⟩,?_⟩
    wtm_at"z"
    have es:t * 2 ^ k * 2=t * 2 ^ (k+1):=by rw[Int.pow_succ,Int.mul_assoc]
    dsimp only
    rw[es]
    refine hN _ _ ⟨_,_,rfl,Sb,eb,?_⟩
    unfold bE
    exact .ins (by rw[List.take_append_drop];exact pw)
   .rintro σ' Ha ⟨ws,z5,rfl,Sa,tN,pw⟩
    exact⟨wb,ws,_,_,rfl,S2.trans Sa,tN,λz=>(nomatch z),λ_=>pw⟩
 .rintro σ' G4 ⟨wa,ws,z4,z5,rfl,S4,tN,fa,fb⟩
  wtm_at"z"
  refine⟨_,rfl,_,rfl,a,ns,al,rfl,S4.seq hS,λp ds ls G5 S5 nj E5 wp=>?_⟩
  have w5:=xWo nj E5
  have E8:(ag aY).length=12:=rf.1
  cases al with
  | true=>
   have EW:=fa rfl
   subst EW
   refine⟨_,rfl,tK ds ls,p,wa,Yg 12 t,rfl,wp,w5,rfl,List.ne_nil_of_length_pos nj.pos,S5 _ _ tN,E8.symm,λw' h=>by rw[List.eq_of_mem_replicate h];exact t1,?_,.inl ⟨DQ nj E5,λG6=>?_⟩⟩
   .show bf (ag aY).length _
    rw[E8]
    have es:(Yg 12 t).sum=12 * t:=by
     show t+(t+(t+(t+(t+(t+(t+(t+(t+(t+(t+(t+0)))))))))))=_
     omega
    exact PR rfl (λw' h=>by rw[List.eq_of_mem_replicate h];exact t1) (by rw[es];exact Int.le_trans (show 12 * t<=12 * 100000000000000000000 by omega) (by wtm_at"d"))
   .wtm_at"z"
    refine⟨rfl,true,(by rw[decide_eq_true rfl]),bz ?_⟩
    wtm_at"z"
    refine⟨rfl,?_⟩
    rw[decide_eq_true rfl]
    exact q _
  | false=>
   have pw:=fb rfl
   obtain⟨lw,pos,sm⟩:=PU t1 pw
   refine⟨_,rfl,tK ds ls,p,wa,ws,rfl,wp,w5,rfl,List.ne_nil_of_length_pos nj.pos,S5 _ _ tN,lw.trans E8.symm,pos,?_,.inr ⟨tM nj (by omega) pw lw,λG6=>?_⟩⟩
   .show bf (ag aY).length _
    rw[E8]
    exact PR lw pos (Int.le_trans (Int.le_of_lt sm) (Int.le_trans (show t * 2 ^ 12<=100000000000000000000 * 2 ^ 12 by omega) (by wtm_at"d")))
   .refine⟨CT,_,rfl,R.T.asks.at' _ YK,(by rw[List.contains_cons,List.contains_cons,beq_self_eq_true,Bool.true_or,Bool.or_true]),λe T he hT ne=>?_⟩
    have ex:held G6 e T (.ref CT) e=some (.ext (cT e T (.ref CT))):=qW
    generalize held G6 e T (.ref CT)=G7 at ex ⊢
    wtm_at"z"
    refine Va ?_
    wtm_at"z"
    refine⟨e,T,CT,_,CT,true,rfl,ex,R.T.asks,R.self,true,rfl,bz ?_⟩
    wtm_at"z"
    refine⟨e,T,CT,_,"ValueError",true,rfl,ex,R.T.asks,R.value,true,rfl,bz ?_⟩
    wtm_at"z"
    refine⟨e,T,rfl,ex,?_⟩
    exact⟨false,rfl,q _⟩
end
theorem pQ {C:List Value->Prop}(h:∀a0:Value,C [a0])(us:List Value)(e:us.length=1):C us:=by
 cases us with
 | nil=>cases e
 | cons a r=>
  cases r with
  | nil=>exact h a
  | cons _ _=>exact absurd (Nat.succ.inj e) (Nat.succ_ne_zero _)
theorem k9 {C:List Value->Prop}(h:∀a0 a1:Value,C [a0,a1])(us:List Value)(e:us.length=2):C us:=by
 cases us with
 | nil=>cases e
 | cons a r=>exact pQ (C:=λr=>C (a::r)) (h a) r (Nat.succ.inj e)
theorem pR {C:List Value->Prop}(h:∀a0 a1 a2:Value,C [a0,a1,a2])(us:List Value)(e:us.length=3):C us:=by
 cases us with
 | nil=>cases e
 | cons a r=>exact k9 (C:=λr=>C (a::r)) (h a) r (Nat.succ.inj e)
def aB (K:aq)(x:Str)(st:Stmt):Prop:=∃f fd,YA K Yd x=some (some (.ref f))/\gC K x x st f fd
theorem aB.mk {K:aq}{x:Str}{st:Stmt}{f:Addr}{od an:Option Addr}{sl:Array (Option Value)}{oc kV dc pm cd ct:Value}(a:YA K Yd x=some (some (.ref f)))(l:K.lookup f=some ⟨oc,od,.func (YE x x (xD st) (xC st) (xB st) .none kV dc pm an cd ct),sl⟩)(c:PySem.W.codeIn K cd x=true)(k:PySem.W.keepIn K (.ref f)=true):aB K x st:=⟨f,_,a,FJ l c k⟩
theorem aB.fd {K:aq}{x:Str}{st:Stmt}{h:Heap}{mg:Str->Option Value}{ps:List Str}(d:aB K x st)(X:K.In h)(G:h.Ns Yd mg)
  (b:∀(kV doc pm:Value) (an:Option Addr) (zy ct:Value) (us:List Value),us.length=ps.length->bindArgs (YE x x (xD st) (xC st) (xB st) .none kV doc pm an zy ct) ⟨us,[]⟩=pure (ps.zip us):=by intro _ _ _ _ _ _;first | exact pQ (λ_=>rfl) | exact k9 (λ_ _=>rfl) | exact pR (λ_ _ _=>rfl)):Fd K mg x st ps:=let ⟨f,fd,a,F⟩:=d;⟨f,fd,F,YB X G a,F.kp,F.binds b⟩
def bJ (K:aq)(C:Addr)(m q:Str)(st:Stmt):Prop:=∃f fd,PySem.W.findIn K (.ref C) m=some (some (.ref f))/\gC K m q st f fd/\PySem.W.isFn K (.ref f)=true
theorem bJ.mk {K:aq}{C:Addr}{m q:Str}{st:Stmt}{f:Addr}{od an:Option Addr}{sl:Array (Option Value)}{oc kV dc pm cd ct:Value}(a:PySem.W.findIn K (.ref C) m=some (some (.ref f)))(l:K.lookup f=some ⟨oc,od,.func (YE m q (xD st) (xC st) (xB st) .none kV dc pm an cd ct),sl⟩)(c:PySem.W.codeIn K cd q=true)(k:PySem.W.keepIn K (.ref f)=true)(i:PySem.W.isFn K (.ref f)=true):bJ K C m q st:=⟨f,_,a,FJ l c k,i⟩
section
variable {K:aq}{C:Addr}{m q:Str}{st:Stmt}{h:Heap}{mg:Str->Option Value}{ps:List Str}
theorem bJ.md (d:bJ K C m q st)
  (b:∀(kV doc pm:Value) (an:Option Addr) (zy ct:Value) (us:List Value),us.length=ps.length->bindArgs (YE m q (xD st) (xC st) (xB st) .none kV doc pm an zy ct) ⟨us,[]⟩=pure (ps.zip us):=by intro _ _ _ _ _ _;first | exact pQ (λ_=>rfl) | exact k9 (λ_ _=>rfl) | exact pR (λ_ _ _=>rfl)):Md K C m q st ps:=let ⟨f,fd,a,F,i⟩:=d;⟨f,fd,F,⟨a,i,F.kp⟩,F.binds b⟩
theorem bJ.mi {x:Str}(d:bJ K C "__init__" q st)(X:K.In h)(G:h.Ns Yd mg)(cf:PySem.W.makesIn K C=true)(cg:PySem.W.keepIn K (.ref C)=true)(ca:YA K Yd x=some (some (.ref C)))
  (b:∀(kV doc pm:Value) (an:Option Addr) (zy ct:Value) (us:List Value),us.length=ps.length->bindArgs (YE "__init__" q (xD st) (xC st) (xB st) .none kV doc pm an zy ct) ⟨us,[]⟩=pure (ps.zip us):=by intro _ _ _ _ _ _;first | exact pQ (λ_=>rfl) | exact k9 (λ_ _=>rfl) | exact pR (λ_ _ _=>rfl)):Mi K mg x C q st ps:=let ⟨f,fd,a,F,i⟩:=d;⟨f,fd,F,⟨cf,a,i,cg⟩,YB X G ca,F.binds b⟩
end
def bS (K:aq)(x:Str)(C:Addr)(bm:List Value):Prop:=∀{h:Heap} {mg:Str->Option Value},K.In h->h.Ns Yd mg->(∀h,K.In h->OwnTail h gc bm)->Ref K mg x C bm
theorem bS.mk {K:aq}{x:Str}{C N:Addr}{nm q:Str}{bs bm su:List Value}{hd ab:Bool}{sn:List Str}{cl:Option Bool}{dd nd:Option Addr}{k0 k1 k2 k3 k5:Option Value}{nc:Value}{es:Array DictEntry}{ne:Nat}{ns:Array (Option Value)}(a:YA K Yd x=some (some (.ref C)))(l:K.lookup C=some (excClassObj nm q C N bs bm hd sn su ab cl dd k0 k1 k2 k3 k5 "ValueError.__new__"))
  (lN:K.lookup N=some ⟨nc,nd,.dict es ne,ns⟩) (ok:MJ es.toList=true) (ni:YA K N "__init__" = some none) (l1:PySem.W.findIn K (.ref C) "__getattribute__" = some (some (.builtin "BaseException.__getattribute__"))) (l2:PySem.W.findIn K (.ref C) "__getattr__" = some none) (l3:PySem.W.findIn K (.ref C) "__class__" = some (some (.builtin "object.__class__"))):bS K x C bm:=λX G t=>U7 X G t a l lN ok ni l1 l2 l3
theorem xWq {l:PySem.W.OpenLaw}{w:World}{K:aq}{h:Heap}{mg:Str->Option Value}{fa Kd:Addr}(X:K.In h)(G:h.Ns Yd mg)(hfa:mg "law" = some (.ref fa))
  {Ke DR:Option Addr} {Kf:Array (Option Value)} {Kg kV27 dc27 pm27 cd27 DS:Value}
  (d0:aB K "worth" (top 1))
  (d1:aB K "holds" (top 2))
  (d2:aB K "values_by_name" (top 3))
  (d3:aB K "worth_by" (top 4))
  (d4:aB K "holds_by" (top 5))
  (d5:aB K "standings" (top 18))
  (d6:aB K "shown" (top 19))
  (d7:aB K "named" (top 20))
  (d8:aB K "standings_of_boxes" (top 21))
  (d9:aB K "behind_way" (top 22))
  (d10:aB K "is_whole" (top 23))
  (d11:aB K "first_known" (top 25))
  (d12:aB K "at_goal" (top 26))
  (d13:aB K "may_do" (top 27))
  (d14:aB K "behind" (top 28))
  (d15:aB K "holds_at_each" (top 29))
  (d16:aB K "moved" (top 32))
  (d17:aB K "parted" (top 33))
  (d18:aB K "steps_of_all" (top 36))
  (d19:aB K "best_steps" (top 37))
  (d20:aB K "sources_of_all" (top 38))
  (d21:aB K "least_mean" (top 45))
  (d22:aB K "refuse_ways" (top 46))
  (d23:aB K "refuse_weights" (top 47))
  (d24:aB K "_law_cell_at" (top 51))
  (d25:aB K "_law_world" (top 52))
  (d26:aB K "_law_other" (top 53))
  (a27:YA K Yd "law" = some (some (.ref Kd))) (l27:K.lookup Kd=some ⟨Kg,Ke,.func (YE "law" "law" (xD (top 54)) (xC (top 54)) (xB (top 54)) .none kV27 dc27 pm27 DR cd27 DS),Kf⟩) (c27:PySem.W.codeIn K cd27 "law" = true) (k27:PySem.W.keepIn K (.ref Kd)=true)
  {yi:Tok} (yj:YA K Yd "MOST_KNOWLEDGES" = some (some (.int 2000 yi)))
  {uK:Tok} (uL:YA K Yd "LEAST_WEIGHT" = some (some (.int 1 uK)))
  {jf:Addr} (ug:bS K "ForkError" jf gc)
  {yt:Addr} (JL:bS K "NoName" yt (.ref jf::gc))
  {ye:Addr} (uy:bS K "NoOrder" ye (.ref jf::gc))
  {yu:Addr} (JM:bS K "NoPlan" yu (.ref jf::gc))
  {yv:Addr} (JN:bS K "NoText" yv (.ref jf::gc))
  {yf:Addr} (uz:bS K "NotSure" yf (.ref jf::gc))
  {vo:Addr} (uu:bS K "NotPlain" vo (.ref jf::gc))
  {vg:Addr} (uh:bS K "NoWeights" vg (.ref jf::gc))
  {yg:Addr} (JA:bS K "NoWorld" yg (.ref jf::gc))
  {jg:Addr} (JB:bS K "TooMany" jg (.ref jf::gc))
  (kn:PySem.W.kitOne K (.ref jg) (.ref jg)=some true)
  (kv:PySem.W.kitOne K (.ref jg) (.type "ValueError")=some true)
  (k_1:PySem.W.kitOne K (.ref jg) (.ref yt)=some false)
  (k_2:PySem.W.kitOne K (.ref jg) (.ref ye)=some false)
  (k_3:PySem.W.kitOne K (.ref jg) (.ref yu)=some false)
  (k_4:PySem.W.kitOne K (.ref jg) (.ref vo)=some false)
  (k_5:PySem.W.kitOne K (.ref jg) (.ref yf)=some false)
  (k_6:PySem.W.kitOne K (.ref jg) (.ref yv)=some false)
  (k_7:PySem.W.kitOne K (.ref jg) (.ref vg)=some false)
  (k_8:PySem.W.kitOne K (.ref jg) (.ref yg)=some false)
  {jb:Addr} (yx:YA K Yd "WeightedChart" = some (some (.ref jb))) (yy:PySem.W.plainGet K jb Str.empty=true) (yz:PySem.W.hasDictIn K jb=true) (uA:PySem.W.plainOver K jb=true) (uB:PySem.W.findIn K (.ref jb) "__setattr__" = some (some (.builtin "object.__setattr__"))) (uC:PySem.W.makesIn K jb=true) (uD:PySem.W.keepIn K (.ref jb)=true)
  (vh:PySem.W.findIn K (.ref jb) "places" = some none)
  (vp:PySem.W.findIn K (.ref jb) "goal" = some none)
  (vi:PySem.W.findIn K (.ref jb) "deeds" = some none)
  (vj:PySem.W.findIn K (.ref jb) "looks" = some none)
  (vq:PySem.W.findIn K (.ref jb) "rows" = some none)
  (vL:PySem.W.findIn K (.ref jb) "numbers" = some none)
  (vt:bJ K jb "__init__" "WeightedChart.__init__" (bp 31 0))
  (jz:bJ K jb "charted_deed" "WeightedChart.charted_deed" (bp 31 1))
  (kq:bJ K jb "number_of" "WeightedChart.number_of" (bp 31 2))
  (kL:bJ K jb "first_number" "WeightedChart.first_number" (bp 31 3))
  (vb:bJ K jb "is_goal" "WeightedChart.is_goal" (bp 31 4))
  (ki:bJ K jb "steps_from" "WeightedChart.steps_from" (bp 31 5))
  (ku:bJ K jb "together" "WeightedChart.together" (bp 31 6))
  (Jg:YA K Yd "len" = some none)
  (JW:YA K Yd "range" = some none)
  (Jh:YA K Yd "min" = some none)
  (uX:YA K Yd "isinstance" = some none)
  (Ja:YA K Yd "list" = some none)
  (uv:YA K Yd "reversed" = some none)
  (JX:YA K Yd "tuple" = some none)
  (Ji:YA K Yd "int" = some none)
  (Jb:YA K Yd "bool" = some none)
  (Jc:YA K Yd "dict" = some none)
  (Jj:YA K Yd "zip" = some none)
  (Jk:YA K Yd "set" = some none)
  (JO:YA K Yd "sorted" = some none)
  (ui:YA K Yd "enumerate" = some none)
  (Jl:YA K Yd "sum" = some none)
  (Jm:YA K Yd "all" = some none)
  (uY:YA K Yd "ValueError" = some none):
  ∃fd:FuncData,(∀(s:Shared) (v:Value),BindsTo s fd ⟨[v],[]⟩ [("script",v)])/\∀base:Heap,K.In base->base.Ns Yd mg->aT l.prog w K mg base eU 60 fa fd ["script"] (i4 K):=by
 have e:=hfa.symm.trans (YB X G a27)
 cases e
 have Jo:=d0.fd (ps:=["expression","boxes","standing"]) X G
 obtain⟨f0,fd0,a0,F0⟩:=d0
 have E0:iu K mg "worth" f0 _ ["expression","boxes","standing"]:=⟨YB X G a0,F0.kp,F0.binds (ps:=["expression","boxes","standing"]) λ_ _ _ _ _ _=>pR (λ_ _ _=>rfl)⟩
 have JP:=d1.fd (ps:=["condition","boxes","standing"]) X G
 have JH:=d2.fd (ps:=["boxes","standing"]) X G
 obtain⟨f2,fd2,a2,F2⟩:=d2
 have E2:iu K mg "values_by_name" f2 _ ["boxes","standing"]:=⟨YB X G a2,F2.kp,F2.binds (ps:=["boxes","standing"]) λ_ _ _ _ _ _=>k9 (λ_ _=>rfl)⟩
 have Jf:=d3.fd (ps:=["expression","values"]) X G
 obtain⟨f3,fd3,a3,F3⟩:=d3
 have E3:iu K mg "worth_by" f3 _ ["expression","values"]:=⟨YB X G a3,F3.kp,F3.binds (ps:=["expression","values"]) λ_ _ _ _ _ _=>k9 (λ_ _=>rfl)⟩
 have uj:=d4.fd (ps:=["condition","values"]) X G
 have uZ:=d5.fd (ps:=["world"]) X G
 have JQ:=d6.fd (ps:=["world","name","standing"]) X G
 have JR:=d7.fd (ps:=["things","name","kind"]) X G
 have vk:=d8.fd (ps:=["boxes"]) X G
 have uQ:=d9.fd (ps:=["boxes","way","standing"]) X G
 have uk:=d10.fd (ps:=["thing"]) X G
 have uM:=d11.fd (ps:=["world"]) X G
 have uw:=d12.fd (ps:=["world","known"]) X G
 have JC:=d13.fd (ps:=["world","known","name"]) X G
 have JD:=d14.fd (ps:=["world","known","name"]) X G
 have uE:=d15.fd (ps:=["condition","boxes","known"]) X G
 have JS:=d16.fd (ps:=["row","targets"]) X G
 have JE:=d17.fd (ps:=["row","shows"]) X G
 have uH:=d18.fd (ps:=["chart","first"]) X G
 have uR:=d19.fd (ps:=["chart","steps"]) X G
 have yk:=d20.fd (ps:=["steps"]) X G
 have uS:=d21.fd (ps:=["world","weights"]) X G
 have uN:=d22.fd (ps:=["world"]) X G
 have yl:=d23.fd (ps:=["world","weights"]) X G
 have uO:=d24.fd (ps:=["script","k"]) X G
 have ua:=d25.fd (ps:=["script","alone"]) X G
 have ub:=d26.fd (ps:=["e"]) X G
 have F27:=FJ (st:=top 54) l27 c27 k27
 have jm:Gi mg "MOST_KNOWLEDGES" 2000:=⟨_,YB X G yj⟩
 have ju:Gi mg "LEAST_WEIGHT" 1:=⟨_,YB X G uL⟩
 have jd:=ug X G (λ_ _=>.base)
 have yp:=JL X G jd.tail
 have yL:=uy X G jd.tail
 have yq:=JM X G jd.tail
 have yr:=JN X G jd.tail
 have yb:=uz X G jd.tail
 have vn:=uu X G jd.tail
 have vf:=uh X G jd.tail
 have yd:=JA X G jd.tail
 have vc:=JB X G jd.tail
 have jL:fI K jb:=⟨yy,yz,uA,uB⟩
 have jq:Kind K jb jV:=⟨jL,λf hf=>by
  simp only[jV,aE,Yp,or_false] at hf
  rcases hf with rfl | rfl | rfl | rfl | rfl | rfl
  .exact vh
  .exact vp
  .exact vi
  .exact vj
  .exact vq
  .exact vL⟩
 have uF:=vt.mi (ps:=["self","world"]) X G uC uD yx
 have jv:=jz.md (ps:=["self","world","name"])
 have kj:=kq.md (ps:=["self","row"])
 have jw:=kL.md (ps:=["self","known","weights"])
 have kz:=vb.md (ps:=["self","known"])
 have ke:=ki.md (ps:=["self","known"])
 have uT:=ku.md (ps:=["self","costs"])
 have B:Bl mg:=⟨YC X G Jg,YC X G JW,YC X G Jh,YC X G uX,YC X G Ja,YC X G uv,YC X G JX,YC X G Ji,YC X G Jb,YC X G Jc,YC X G Jj⟩
 have uq:mg "set" = none:=YC X G Jk
 have jk:mg "sorted" = none:=YC X G JO
 have ve:mg "enumerate" = none:=YC X G ui
 have ur:mg "sum" = none:=YC X G Jl
 have yh:mg "all" = none:=YC X G Jm
 have kt:mg "ValueError" = none:=YC X G uY
 refine⟨YE "law" "law" (xD (top 54)) (xC (top 54)) (xB (top 54)) .none kV27 dc27 pm27 DR cd27 DS,λs v=>.of_eq rfl,λbase YK _=>?_⟩
 have uc:=Dn.mk (x := "values_by_name") ⟨_,_,NA (P:=l.prog) (w:=w) (base:=base) F2 B,E2.mg,E2.kp,E2.bd⟩
 have GW:=Nx (P:=l.prog) (w:=w) (base:=base) F3 E3 12
 have DU:=Dn.mk (x := "worth_by") ⟨_,_,GW,E3.mg,E3.kp,E3.bd⟩
 have kr:=W8 JP (ND uj DU 12) uc
 have uI:=Dn.mk (x := "worth") ⟨_,_,WX F0 GW E3 ((NA F2 B).mono (by decide)) E2,E0.mg,E0.kp,E0.bd⟩
 have jn:=Xi (P:=l.prog) (w:=w) (K:=K) (mg:=mg) (base:=base) JR
 have RR:iH K mg jf jg [yt,ye,yu,vo,yf,yv,vg,yg]:=⟨jd,vc,kn,kv,List.forall_mem_cons.mpr ⟨k_1,List.forall_mem_cons.mpr ⟨k_2,List.forall_mem_cons.mpr ⟨k_3,List.forall_mem_cons.mpr ⟨k_4,List.forall_mem_cons.mpr ⟨k_5,List.forall_mem_cons.mpr ⟨k_6,List.forall_mem_cons.mpr ⟨k_7,List.forall_mem_cons.mpr ⟨k_8,λ_ h=>(nomatch h)⟩⟩⟩⟩⟩⟩⟩⟩⟩
 have um:=Xz uZ (Xf (P:=l.prog) (w:=w) (K:=K) (mg:=mg) (base:=base) vk B)
 have uo:=XC uM um kr
 have JF:=XG uE kr
 have JT:=XY (P:=l.prog) (w:=w) (K:=K) (mg:=mg) (base:=base) kj B
 have ud:=Y' (P:=l.prog) (w:=w) (K:=K) (mg:=mg) (base:=base) kz B yh
 have JY:=Zj jL ke B yh ur JT (X5 (P:=l.prog) (w:=w) (K:=K) (mg:=mg) (base:=base) JS B jk) (YW (P:=l.prog) (w:=w) (K:=K) (mg:=mg) (base:=base) JE B jk)
 have Jn:=ZH jL uH B jm (vc.own base YK) ud JY
 have Jd:=xJw jL uR B (Z2 (P:=l.prog) (w:=w) (K:=K) (mg:=mg) (base:=base) yk B) ud
 have Kh:=qFv jv B (XO JC jn JF) (XQ JD B uq jk jn (Xq uQ B uc DU))
 have JZ:=qNh jL uF B ve um (XX uw JF) (Xk JQ jn uI) Kh
 have Je:=xJz jL jq uS B (qTz (P:=l.prog) (w:=w) (K:=K) (mg:=mg) (base:=base) uN B) (qAd yl B ju uo (qTq (P:=l.prog) (w:=w) (K:=K) (mg:=mg) (base:=base) uk B)) uo JZ (qNg jL jw B JT) Jn Jd
 have JG:=xJv (P:=l.prog) (w:=w) (K:=K) (mg:=mg) (base:=base) uO B
 exact xKf YK F27 B kt RR JG (qNd ua B JG) (qTj ub B RR yp yL yq vn yb yr vf yd) Je
theorem walk {l:PySem.W.OpenLaw}{q:Program}{loose:List Str}{XP:(Str->Option Value)->Heap->Prop}{YP:World->Heap->Prop}{d:DefRec}{K:Params->aq}(hn:l.most=some 63)(By:d.params.defaults=[])
  (hY:∀(w:World) (h:Heap),YP w h->(K w.params).In h)
  (F:∀(w:World) (mg:Str->Option Value) (fa:Addr) (h:Heap),(K w.params).In h->h.Ns Yd mg->mg d.name=some (.ref fa)->
   ∃fd:FuncData,(∀(s:Shared) (u:Value),BindsTo s fd ⟨[u],[]⟩ [("script",u)])/\∀base:Heap,(K w.params).In base->base.Ns Yd mg->aT l.prog w (K w.params) mg base eU 60 fa fd ["script"] (i4 (K w.params))):
  PySem.W.WalkO q loose XP YP l.row.toRowW d [] (λf vs=>PySem.call f vs):=
 L2.Ru (n:=63) (k:=60) (x := "script") (CX:=λ_=>eU) (sp:=λw=>i4 (K w.params)) hn (by decide) By ⟨rfl,by decide,by decide⟩ hY F (λ_ _ a ns hl _ hS=>⟨a,ns,rfl,hS,hl,λ_=>rfl⟩) λ_ _ _ _ _ z=>z
end FP
open PySem PySem.W PyProof.Rows
set_option maxRecDepth 100000 in
set_option maxHeartbeats 0 in
theorem PySem.Challenge.cw_forkplan_k52_too_many_weighted_holds : PySem.Challenge.rw_forkplan_k52_too_many_weighted.Holds := by
 w_on
 refine PySem.W.holds_law FP.xb λjad=>?_
 refine PySem.W.holds_open (q:=FP.wP) (loose:=[]) (N:=7982) (YP:=InK FP.Fb) (XP:=XL FP.wP [])
  (Xt:=λs=>xlAt FP.wP [] s && recOk (RowW.records (OpenRow.toRowW (PySem.W.OpenLaw.row PySem.Challenge.rw_forkplan_k52_too_many_weighted))) s)
  (Yf:=Hook.obs FP.vN) (Ya:=Hook.val FP.vN) FP.PZ
  (Hook.of FP.vN) (Hook.keeps FP.vN) (λs e=>xl_of s (Bool.and_eq_true_iff.mp e).1)
  XL.keeps (by rfl) (by rfl) (by rfl) (λs e=>recFacts_of (Bool.and_eq_true_iff.mp e).2)
  (by rfl) (by first | assumption | wtm_at"d") (by wtm_at"d")
  ⟨rfl,rfl,rfl,rfl,rfl,by wtm_at"d"⟩ ?hw ?hc
 case hw=>w_witness2
 k_fill
 refine FP.walk (l:=PySem.Challenge.rw_forkplan_k52_too_many_weighted) (K:=FP.Fb) rfl rfl (λw h Y=>Y) ?F
 case F=>
  intro w mg fa h KX G hmg
  apply FP.xWq KX G hmg <;> first | (apply FP.aB.mk <;> k_is) | (apply FP.bS.mk <;> first | k_is | rfl | decide) | (apply FP.bJ.mk <;> first | k_is | rfl | decide) | k_is | rfl | decide
