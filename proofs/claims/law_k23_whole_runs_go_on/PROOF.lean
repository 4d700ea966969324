import PyProof.Rows.All
import Wide.All
import OpenK.AllK
import Wide.FinOn
import Lean
import PyProof.EqAt
import PyProof.EqKinds
import PyProof.TupleCall
import PyProof.NeKinds
import KE.KRevIter
import PyProof.AttrMissHeap
import PyProof.ZipIter
import PyProof.DictList
import KE.KItemsList
import KE.KDictOf
import PyProof.Rows.SetFrom
import PyProof.ConsumeWalk
import PyProof.EnumFor
import PyProof.EnumMake
import PyProof.EnumStmt
import PyProof.RaisesMany
import PyProof.Rows.Own
import PyProof.FString
import PyProof.PureStr
import PyProof.FactsAll.str_2
import PyProof.RulesTry
import PyProof.RulesAs
import PyProof.RulesDel
import PyProof.ExcArgsOwn
import PyProof.ExcAttrAll.ValueError
import KE.KIsAll
import OpenK.KOwn
import PyProof.ExcBaseAll.ValueError
import PyProof.Rows.StrInSeq3
import PyProof.Rows.SeqMore2
import KE.KSortTup
import KE.KIntText
import PyProof.Rows.StrSplitJoin
import PyProof.Rows.StrSplitAre
import PyProof.StrWalks
import PyProof.DictWalks
import PyProof.Rows.Range3
import PyProof.StrLawsTight
import PyProof.Rows.StrDigitsNeg
import PyProof.Rows.StrIntSpec
import PyProof.StationsW
import PyProof.Rows.CatchTuple
import KE.KDictLaws
import PySem.Challenge.RW_forkplan_k23_whole_runs_go_on
set_option maxHeartbeats 4000000
set_option Elab.async false
set_option linter.all false
set_option maxRecDepth 100000
set_option maxHeartbeats 0 in
theorem FP.saidW:PySem.Challenge.rw_forkplan_k23_whole_runs_go_on.wellSaid=true:=by decide +kernel
open List renaming getElem?_eq_getElem → yYA, getElem?_eq_some_iff → yYB, length_map → yYC, size_toArray → yYD, mem_of_getElem? → yYE, length_take → yYF, mem_cons_self → yYG, mem_cons_of_mem → yYH, length_append → yYI, take_length → yYJ, mem_cons → yYK, mem_singleton → yYL, take_add_one → yYM, mem_append_right → yYN, getElem?_map → yYO, mem_map → yYP, mem_filter → yYQ, mem_append → yYR, length_cons → yYS, length_nil → yYT, nodup_append → yYU, map_append → yYV
open PySem renaming wpAny_bind → yYW, wpAny_pure → yYX
open PySem.Heap renaming get?_push_of_some → yYY, lt_size → yYZ, get?_push_size → yZA, size_push → yZB
open Nat renaming le_refl → yZC, lt_of_lt_of_le → yZD, ne_of_lt → yZE, zero_le → yZF, ne_of_gt → yZG, lt_of_le_of_lt → yZH, le_trans → yZI
open Bool renaming false_eq_true → yZJ, false_ne_true → yZK
open Array renaming length_toList → yZL, getElem?_toList → yZM
open Option renaming map_some → yZN
open PySem.W renaming Frag → yZO
noncomputable section
namespace L2
open PySem
def xC (s:Stmt):Arguments:=match s with
 | .FunctionDef _ a _ _ _ _ _ _ _ _=>a
 | _=>{ posonlyargs:=[],args:=[],vararg:=none,kwonlyargs:=[],kw_defaults:=[],kwarg:=none,defaults:=[] }
def xB (s:Stmt):List Stmt:=match s with
 | .FunctionDef _ _ b _ _ _ _ _ _ _=>b
 | _=>[]
def xA (s:Stmt):Scope:=match s with
 | .FunctionDef _ _ _ _ _ _ sc _ _ _=>sc
 | _=>{ kind:=.function,names:=[],isGenerator:=false,isCoroutine:=false }
end L2
namespace FP
open PySem
def top (i:Nat):Stmt:=PySem.Challenge.pw_forkplan_k23_whole_runs_go_on.main.body.getD i (.Pass ⟨0,0,0,0⟩)
abbrev oF (x:String)(i:Nat)(m:String)(n c:Nat):Obj:=Obj.mk (.type "function") none (Data.func (PySem.W.fnOf (Str.ofString x) (Str.ofString x) (L2.xC (top i)) (L2.xB (top i)) (L2.xA (top i)) .none .none .none (.str (Str.ofString m) n) none (.ref c) .none)) #[]
abbrev oL (x:String)(i c:Nat):Obj:=oF x i "law_forkplan_k23_whole_runs_go_on" 534 c
abbrev oG (x:String)(i:Nat):Obj:=Obj.mk .none none (Data.func { PySem.W.fnOf (Str.ofString x) (Str.ofString x) (L2.xC (top i)) (L2.xB (top i)) (L2.xA (top i)) .none .none .none .none none .none .none with globals:=0 }) #[]
def mth (i j:Nat):Stmt:=match top i with | .ClassDef _ _ _ b _ _ _ _ _ _ _=>b.getD j (.Pass ⟨0,0,0,0⟩) | s=>s
abbrev oM (x q:String)(i j:Nat)(m:String)(n c:Nat):Obj:=Obj.mk (.type "function") none (Data.func (PySem.W.fnOf (Str.ofString x) (Str.ofString q) (L2.xC (mth i j)) (L2.xB (mth i j)) (L2.xA (mth i j)) .none .none .none (.str (Str.ofString m) n) none (.ref c) .none)) #[]
abbrev oW (x q:String)(i j:Nat):Obj:=Obj.mk .none none (Data.func { PySem.W.fnOf (Str.ofString x) (Str.ofString q) (L2.xC (mth i j)) (L2.xB (mth i j)) (L2.xA (mth i j)) .none .none .none .none none .none .none with globals:=0 }) #[]
abbrev oE (P:Params)(k:String)(n:Nat)(v:Value):DictEntry:=DictEntry.mk (PyData.keyHash P (Str.ofString k)) (.str (Str.ofString k) n) v
abbrev oS (x:String)(n:Nat):Value:=.str (Str.ofString x) n
abbrev oR (n:Nat):Value:=.ref n
abbrev oI (n:Int):Value:=.int n 0
abbrev oN:Obj:=Obj.mk .none none (Data.fields #[]) #[]
abbrev oT (x:Array Value):Obj:=Obj.mk (.type "tuple") none (Data.seq x 0) #[]
abbrev oC (x:Array Value):Obj:=Obj.mk (.type "code") none (Data.fields x) #[]
abbrev oK (x y:String)(a b c:Nat)(L n f:Int)(r q:Nat)(v w u z:Value)(t:Int)(t2:Nat):Obj:=oC #[(oS x a),(oS y b),(oS "/claim/cut.py" c),(oI L),(oI n),(oI 0),(oI 0),(oI f),(oR r),(.bool Bool.true),(oI 181),(oR q),v,w,u,z,(oI t),(oI L),(oS "/claim/cut.py" t2)]
open PySem.W
def qGz (P:Params):List Obj:=[boot_o_0 P,
  boot_o_1 P,
  boot_o_2 P,
  (Obj.mk (.type "dict") none (Data.dict #[(oE P "__name__" 165 (oS "law_forkplan_k23_whole_runs_go_on" 534)),(oE P "__doc__" 166 .none),(oE P "__package__" 167 .none),(oE P "__loader__" 168 (.builtin "__main__.__loader__#opaque")),(oE P "__spec__" 169 .none),(oE P "__annotations__" 170 (oR 6)),(oE P "__builtins__" 171 (oR 4)),(oE P "__file__" 173 (oS "/claim/cut.py" 172)),(oE P "__cached__" 174 .none),(oE P "ForkError" 206 (oR 24)),(oE P "NoName" 222 (oR 37)),(oE P "NoPlan" 238 (oR 49)),(oE P "worth" 249 (oR 58)),(oE P "holds" 258 (oR 65)),(oE P "values_by_name" 264 (oR 70)),(oE P "worth_by" 275 (oR 77)),(oE P "holds_by" 286 (oR 84)),(oE P "comes_of" 294 (oR 89)),(oE P "shown" 303 (oR 96)),(oE P "named" 313 (oR 103)),(oE P "behind_way" 319 (oR 108)),(oE P "is_whole" 326 (oR 115)),(oE P "plan_of" 337 (oR 122)),(oE P "run" 349 (oR 129)),(oE P "followers_of" 355 (oR 134)),(oE P "is_node_number" 363 (oR 141)),(oE P "refuse_followers" 372 (oR 148)),(oE P "refuse_forks" 379 (oR 155)),(oE P "refuse_name" 387 (oR 162)),(oE P "thing_named_at" 395 (oR 169)),(oE P "Course" 467 (oR 212)),(oE P "Player" 533 (oR 254)),(oE P "_law_cell" 543 (oR 265)),(oE P "_law_stir" 552 (oR 272)),(oE P "_law_state" 559 (oR 279)),(oE P "_law_take" 568 (oR 286)),(oE P "_law_expression" 579 (oR 293)),(oE P "_law_condition" 590 (oR 300)),(oE P "_law_deed" 607 (oR 307)),(oE P "_law_words" 623 (oR 314)),(oE P "_law_world" 629 (oR 319)),(oE P "_law_standings" 635 (oR 324)),(oE P "_law_worth" 641 (oR 329)),(oE P "_law_holds" 652 (oR 336)),(oE P "_law_comes" 658 (oR 341)),(oE P "_law_shown" 664 (oR 346)),(oE P "_law_let" 670 (oR 351)),(oE P "_law_first" 676 (oR 356)),(oE P "_law_node" 682 (oR 361)),(oE P "_law_plan" 688 (oR 366)),(oE P "_law_played" 694 (oR 371)),(oE P "_law_many" 700 (oR 376)),(oE P "_law_pieces" 706 (oR 381)),(oE P "law" 712 (oR 386))] 54) #[]),
  boot_o_4 P,
  boot_o_5 P,
  boot_o_6 P,
  boot_o_7 P,
  boot_o_8 P,
  boot_o_9 P,
  boot_o_10 P,
  oT #[],
  (Obj.mk .none none (Data.fields #[(oI 2),(oI 0),(oR 20),(oI 4),(oI 0),(oR 33),(oI 6),(oI 0),(oR 45),(oI 9),(oI 0),(oR 57),(oI 11),(oI 0),(oR 64),(oI 13),(oI 0),(oR 69),(oI 15),(oI 0),(oR 76),(oI 24),(oI 0),(oR 83),(oI 36),(oI 0),(oR 88),(oI 39),(oI 0),(oR 95),(oI 41),(oI 0),(oR 102),(oI 46),(oI 0),(oR 107),(oI 53),(oI 0),(oR 114),(oI 56),(oI 0),(oR 121),(oI 65),(oI 0),(oR 128),(oI 71),(oI 0),(oR 133),(oI 77),(oI 0),(oR 140),(oI 79),(oI 0),(oR 147),(oI 83),(oI 0),(oR 154),(oI 86),(oI 0),(oR 161),(oI 89),(oI 0),(oR 168),(oI 93),(oI 0),(oR 175),(oI 127),(oI 0),(oR 222),(oI 172),(oI 0),(oR 264),(oI 176),(oI 0),(oR 271),(oI 181),(oI 0),(oR 278),(oI 183),(oI 0),(oR 285),(oI 190),(oI 0),(oR 292),(oI 198),(oI 0),(oR 299),(oI 209),(oI 0),(oR 306),(oI 223),(oI 0),(oR 313),(oI 234),(oI 0),(oR 318),(oI 259),(oI 0),(oR 323),(oI 267),(oI 0),(oR 328),(oI 274),(oI 0),(oR 335),(oI 284),(oI 0),(oR 340),(oI 295),(oI 0),(oR 345),(oI 298),(oI 0),(oR 350),(oI 301),(oI 0),(oR 355),(oI 303),(oI 0),(oR 360),(oI 321),(oI 0),(oR 365),(oI 324),(oI 0),(oR 370),(oI 334),(oI 0),(oR 375),(oI 336),(oI 0),(oR 380),(oI 351),(oI 0),(oR 385)]) #[]),
  oC #[(oS "<module>" 182),(oS "<module>" 183),(oS "/claim/cut.py" 184),(oI 1),(oI 0),(oI 0),(oI 0),(oI 0),(oR 11),(.bool Bool.false),(oI 181),(oR 12),.none,.none,.none,.none,(oI 185),(oI 1),(oS "/claim/cut.py" 186)],
  (Obj.mk (.type "frame") none Data.plain #[(some (oR 13)),(some (oR 3)),(some (oR 3)),none,(some (oS "__main__" 164)),none,(some (oR 0))]),
  oT #[(.type "ValueError")],
  (Obj.mk (.type "builtin_function_or_method") none (Data.fields #[(.builtin "type.__prepare__"),(.type "type")]) #[]),
  (Obj.mk (.type "dict") none (Data.dict #[(oE P "__module__" 196 (oS "forkplan.errors" 187)),(oE P "__qualname__" 198 (oS "ForkError" 197)),(oE P "__firstlineno__" 200 (.int 2 199)),(oE P "__static_attributes__" 201 (oR 22))] 4) #[]),
  oT #[],
  oN,
  oC #[(oS "ForkError" 191),(oS "ForkError" 192),(oS "/claim/cut.py" 193),(oI 2),(oI 0),(oI 0),(oI 0),(oI 0),(oR 18),(.bool Bool.false),(oI 181),(oR 19),.none,.none,.none,.none,(oI 194),(oI 2),(oS "/claim/cut.py" 195)],
  (Obj.mk (.type "frame") none Data.plain #[(some (oR 20)),(some (oR 3)),(some (oR 17)),none,(some (oS "forkplan.errors" 187)),none,(some (oR 0))]),
  oT #[],
  (Obj.mk (.type "dict") none (Data.dict #[(oE P "__module__" 196 (oS "forkplan.errors" 187)),(oE P "__firstlineno__" 200 (.int 2 199)),(oE P "__static_attributes__" 201 (oR 22)),(oE P "__weakref__" 203 (oR 25)),(oE P "__doc__" 204 .none)] 3) #[]),
  (Obj.mk (.type "type") none (Data.cls (ClassData.mk (Str.ofString "ForkError") [(.type "ValueError")] [(oR 24),(.type "ValueError"),(.type "Exception"),(.type "BaseException"),(.type "object")] 23 (Str.ofString "ForkError") Bool.true [] [(oR 37),(oR 49)] Bool.false none Bool.false)) #[(some (oR 15)),none,(some (oS "ForkError" 189)),(some (oS "ForkError" 197)),(some (.builtin "ValueError.__new__")),(some (.bool Bool.true))]),
  (Obj.mk (.type "getset_descriptor") none (Data.fields #[(oS "__weakref__" 202),(oR 24),(.builtin "ExceptionGroup.__weakref__"),.none]) #[]),
  (Obj.mk (.type "super") none (Data.fields #[(oR 24),(oR 24),(oR 24)]) #[]),
  (Obj.mk (.type "builtin_function_or_method") none (Data.fields #[(.builtin "object.__init_subclass__"),(oR 24)]) #[]),
  oT #[(oR 24)],
  (Obj.mk (.type "builtin_function_or_method") none (Data.fields #[(.builtin "type.__prepare__"),(.type "type")]) #[]),
  (Obj.mk (.type "dict") none (Data.dict #[(oE P "__module__" 214 (oS "forkplan.errors" 187)),(oE P "__qualname__" 216 (oS "NoName" 215)),(oE P "__firstlineno__" 218 (.int 4 217)),(oE P "__static_attributes__" 219 (oR 35))] 4) #[]),
  oT #[],
  oN,
  oC #[(oS "NoName" 209),(oS "NoName" 210),(oS "/claim/cut.py" 211),(oI 4),(oI 0),(oI 0),(oI 0),(oI 0),(oR 31),(.bool Bool.false),(oI 181),(oR 32),.none,.none,.none,.none,(oI 212),(oI 4),(oS "/claim/cut.py" 213)],
  (Obj.mk (.type "frame") none Data.plain #[(some (oR 33)),(some (oR 3)),(some (oR 30)),none,(some (oS "forkplan.errors" 187)),none,(some (oR 0))]),
  oT #[],
  (Obj.mk (.type "dict") none (Data.dict #[(oE P "__module__" 214 (oS "forkplan.errors" 187)),(oE P "__firstlineno__" 218 (.int 4 217)),(oE P "__static_attributes__" 219 (oR 35)),(oE P "__doc__" 220 .none)] 2) #[]),
  (Obj.mk (.type "type") none (Data.cls (ClassData.mk (Str.ofString "NoName") [(oR 24)] [(oR 37),(oR 24),(.type "ValueError"),(.type "Exception"),(.type "BaseException"),(.type "object")] 36 (Str.ofString "NoName") Bool.true [] [] Bool.false none Bool.false)) #[(some (oR 28)),none,(some (oS "NoName" 207)),(some (oS "NoName" 215)),(some (.builtin "ValueError.__new__")),(some (.bool Bool.true))]),
  (Obj.mk (.type "super") none (Data.fields #[(oR 37),(oR 37),(oR 37)]) #[]),
  (Obj.mk (.type "builtin_function_or_method") none (Data.fields #[(.builtin "object.__init_subclass__"),(oR 37)]) #[]),
  oT #[(oR 24)],
  (Obj.mk (.type "builtin_function_or_method") none (Data.fields #[(.builtin "type.__prepare__"),(.type "type")]) #[]),
  (Obj.mk (.type "dict") none (Data.dict #[(oE P "__module__" 230 (oS "forkplan.errors" 187)),(oE P "__qualname__" 232 (oS "NoPlan" 231)),(oE P "__firstlineno__" 234 (.int 6 233)),(oE P "__static_attributes__" 235 (oR 47))] 4) #[]),
  oT #[],
  oN,
  oC #[(oS "NoPlan" 225),(oS "NoPlan" 226),(oS "/claim/cut.py" 227),(oI 6),(oI 0),(oI 0),(oI 0),(oI 0),(oR 43),(.bool Bool.false),(oI 181),(oR 44),.none,.none,.none,.none,(oI 228),(oI 6),(oS "/claim/cut.py" 229)],
  (Obj.mk (.type "frame") none Data.plain #[(some (oR 45)),(some (oR 3)),(some (oR 42)),none,(some (oS "forkplan.errors" 187)),none,(some (oR 0))]),
  oT #[],
  (Obj.mk (.type "dict") none (Data.dict #[(oE P "__module__" 230 (oS "forkplan.errors" 187)),(oE P "__firstlineno__" 234 (.int 6 233)),(oE P "__static_attributes__" 235 (oR 47)),(oE P "__doc__" 236 .none)] 2) #[]),
  (Obj.mk (.type "type") none (Data.cls (ClassData.mk (Str.ofString "NoPlan") [(oR 24)] [(oR 49),(oR 24),(.type "ValueError"),(.type "Exception"),(.type "BaseException"),(.type "object")] 48 (Str.ofString "NoPlan") Bool.true [] [] Bool.false none Bool.false)) #[(some (oR 40)),none,(some (oS "NoPlan" 223)),(some (oS "NoPlan" 231)),(some (.builtin "ValueError.__new__")),(some (.bool Bool.true))]),
  (Obj.mk (.type "super") none (Data.fields #[(oR 49),(oR 49),(oR 49)]) #[]),
  (Obj.mk (.type "builtin_function_or_method") none (Data.fields #[(.builtin "object.__init_subclass__"),(oR 49)]) #[]),
  oT #[],
  oN,
  oT #[(oS "expression" 244),(oS "boxes" 245),(oS "standing" 246)],
  oT #[],
  oG "worth" 5,
  oK "worth" "worth" 241 242 243 9 3 3 52 53 .none (oR 54) (oR 55) (oR 56) 247 248,
  oF "worth" 5 "forkplan.exprs" 239 57,
  oT #[],
  oN,
  oT #[(oS "condition" 253),(oS "boxes" 254),(oS "standing" 255)],
  oT #[],
  oG "holds" 6,
  oK "holds" "holds" 250 251 252 11 3 3 59 60 .none (oR 61) (oR 62) (oR 63) 256 257,
  oF "holds" 6 "forkplan.exprs" 239 64,
  oT #[],
  oN,
  oG "values_by_name" 7,
  oK "values_by_name" "values_by_name" 259 260 261 13 2 3 66 67 .none .none .none (oR 68) 262 263,
  oF "values_by_name" 7 "forkplan.exprs" 239 69,
  oT #[],
  oN,
  oT #[(oS "expression" 268),(oS "values" 269),(oS "kind" 270),(oS "one" 271),(oS "other" 272)],
  oT #[],
  oG "worth_by" 8,
  oK "worth_by" "worth_by" 265 266 267 15 2 3 71 72 .none (oR 73) (oR 74) (oR 75) 273 274,
  oF "worth_by" 8 "forkplan.exprs" 239 76,
  oT #[],
  oN,
  oT #[(oS "condition" 279),(oS "values" 280),(oS "kind" 281),(oS "one" 282),(oS "other" 283)],
  oT #[],
  oG "holds_by" 9,
  oK "holds_by" "holds_by" 276 277 278 24 2 3 78 79 .none (oR 80) (oR 81) (oR 82) 284 285,
  oF "holds_by" 9 "forkplan.exprs" 239 83,
  oT #[],
  oN,
  oG "comes_of" 11,
  oK "comes_of" "comes_of" 289 290 291 36 3 3 85 86 .none .none .none (oR 87) 292 293,
  oF "comes_of" 11 "forkplan.worlds" 287 88,
  oT #[],
  oN,
  oT #[(oS "world" 298),(oS "name" 299),(oS "standing" 300)],
  oT #[],
  oG "shown" 12,
  oK "shown" "shown" 295 296 297 39 3 3 90 91 .none (oR 92) (oR 93) (oR 94) 301 302,
  oF "shown" 12 "forkplan.worlds" 287 95,
  oT #[],
  oN,
  oT #[(oS "things" 307),(oS "name" 308),(oS "kind" 309),(oS "thing" 310)],
  oT #[],
  oG "named" 13,
  oK "named" "named" 304 305 306 41 3 3 97 98 .none (oR 99) (oR 100) (oR 101) 311 312,
  oF "named" 13 "forkplan.worlds" 287 102,
  oT #[],
  oN,
  oG "behind_way" 14,
  oK "behind_way" "behind_way" 314 315 316 46 3 3 104 105 .none .none .none (oR 106) 317 318,
  oF "behind_way" 14 "forkplan.worlds" 287 107,
  oT #[],
  oN,
  oT #[(oS "thing" 323)],
  oT #[],
  oG "is_whole" 15,
  oK "is_whole" "is_whole" 320 321 322 53 1 3 109 110 .none (oR 111) (oR 112) (oR 113) 324 325,
  oF "is_whole" 15 "forkplan.worlds" 287 114,
  oT #[],
  oN,
  oT #[(oS "world" 332),(oS "nodes" 333),(oS "node" 334)],
  oT #[],
  oG "plan_of" 17,
  oK "plan_of" "plan_of" 329 330 331 56 2 3 116 117 .none (oR 118) (oR 119) (oR 120) 335 336,
  oF "plan_of" 17 "forkplan.plans" 327 121,
  oT #[],
  oN,
  oT #[(oS "world" 341),(oS "plan" 342),(oS "standing" 343),(oS "choices" 344),(oS "player" 345),(oS "end" 346)],
  oT #[],
  oG "run" 18,
  oK "run" "run" 338 339 340 65 4 3 123 124 .none (oR 125) (oR 126) (oR 127) 347 348,
  oF "run" 18 "forkplan.plans" 327 128,
  oT #[],
  oN,
  oG "followers_of" 19,
  oK "followers_of" "followers_of" 350 351 352 71 1 3 130 131 .none .none .none (oR 132) 353 354,
  oF "followers_of" 19 "forkplan.plans" 327 133,
  oT #[],
  oN,
  oT #[(oS "number" 359),(oS "size" 360)],
  oT #[],
  oG "is_node_number" 20,
  oK "is_node_number" "is_node_number" 356 357 358 77 2 3 135 136 .none (oR 137) (oR 138) (oR 139) 361 362,
  oF "is_node_number" 20 "forkplan.plans" 327 140,
  oT #[],
  oN,
  oT #[(oS "node" 367),(oS "size" 368),(oS "follower" 369)],
  oT #[],
  oG "refuse_followers" 21,
  oK "refuse_followers" "refuse_followers" 364 365 366 79 2 3 142 143 .none (oR 144) (oR 145) (oR 146) 370 371,
  oF "refuse_followers" 21 "forkplan.plans" 327 147,
  oT #[],
  oN,
  oT #[(oS "node" 376)],
  oT #[],
  oG "refuse_forks" 22,
  oK "refuse_forks" "refuse_forks" 373 374 375 83 1 3 149 150 .none (oR 151) (oR 152) (oR 153) 377 378,
  oF "refuse_forks" 22 "forkplan.plans" 327 154,
  oT #[],
  oN,
  oT #[(oS "world" 383),(oS "node" 384)],
  oT #[],
  oG "refuse_name" 23,
  oK "refuse_name" "refuse_name" 380 381 382 86 2 3 156 157 .none (oR 158) (oR 159) (oR 160) 385 386,
  oF "refuse_name" 23 "forkplan.plans" 327 161,
  oT #[],
  oN,
  oT #[(oS "world" 391),(oS "node" 392)],
  oT #[],
  oG "thing_named_at" 24,
  oK "thing_named_at" "thing_named_at" 388 389 390 89 2 3 163 164 .none (oR 165) (oR 166) (oR 167) 393 394,
  oF "thing_named_at" 24 "forkplan.plans" 327 168,
  oT #[],
  (Obj.mk (.type "builtin_function_or_method") none (Data.fields #[(.builtin "type.__prepare__"),(.type "type")]) #[]),
  (Obj.mk (.type "dict") none (Data.dict #[(oE P "__module__" 403 (oS "forkplan.plans" 327)),(oE P "__qualname__" 405 (oS "Course" 404)),(oE P "__firstlineno__" 407 (.int 93 406)),(oE P "__init__" 413 (oR 181)),(oE P "goal_holds" 421 (oR 188)),(oE P "need_holds" 432 (oR 195)),(oE P "comes" 442 (oR 202)),(oE P "shows" 452 (oR 209)),(oE P "__static_attributes__" 460 (oR 210))] 9) #[]),
  oT #[],
  (Obj.mk .none none (Data.fields #[(oI 95),(oI 4),(oR 180),(oI 104),(oI 4),(oR 187),(oI 109),(oI 4),(oR 194),(oI 116),(oI 4),(oR 201),(oI 122),(oI 4),(oR 208)]) #[]),
  oC #[(oS "Course" 398),(oS "Course" 399),(oS "/claim/cut.py" 400),(oI 93),(oI 0),(oI 0),(oI 0),(oI 0),(oR 173),(.bool Bool.false),(oI 181),(oR 174),.none,.none,.none,.none,(oI 401),(oI 93),(oS "/claim/cut.py" 402)],
  (Obj.mk (.type "frame") none Data.plain #[(some (oR 175)),(some (oR 3)),(some (oR 172)),none,(some (oS "forkplan.plans" 327)),none,(some (oR 0))]),
  oT #[],
  oN,
  oW "__init__" "Course.__init__" 25 0,
  oK "__init__" "Course.__init__" 408 409 410 95 3 3 177 178 .none .none .none (oR 179) 411 412,
  oM "__init__" "Course.__init__" 25 0 "forkplan.plans" 327 180,
  oT #[],
  oN,
  oT #[(oS "self" 417),(oS "standing" 418)],
  oT #[],
  oW "goal_holds" "Course.goal_holds" 25 1,
  oK "goal_holds" "Course.goal_holds" 414 415 416 104 2 3 182 183 .none (oR 184) (oR 185) (oR 186) 419 420,
  oM "goal_holds" "Course.goal_holds" 25 1 "forkplan.plans" 327 187,
  oT #[],
  oN,
  oT #[(oS "self" 425),(oS "name" 426),(oS "standing" 427),(oS "key" 428),(oS "need" 429)],
  oT #[],
  oW "need_holds" "Course.need_holds" 25 2,
  oK "need_holds" "Course.need_holds" 422 423 424 109 3 3 189 190 .none (oR 191) (oR 192) (oR 193) 430 431,
  oM "need_holds" "Course.need_holds" 25 2 "forkplan.plans" 327 194,
  oT #[],
  oN,
  oT #[(oS "self" 436),(oS "name" 437),(oS "standing" 438),(oS "key" 439)],
  oT #[],
  oW "comes" "Course.comes" 25 3,
  oK "comes" "Course.comes" 433 434 435 116 3 3 196 197 .none (oR 198) (oR 199) (oR 200) 440 441,
  oM "comes" "Course.comes" 25 3 "forkplan.plans" 327 201,
  oT #[],
  oN,
  oT #[(oS "self" 446),(oS "name" 447),(oS "standing" 448),(oS "key" 449)],
  oT #[],
  oW "shows" "Course.shows" 25 4,
  oK "shows" "Course.shows" 443 444 445 122 3 3 203 204 .none (oR 205) (oR 206) (oR 207) 450 451,
  oM "shows" "Course.shows" 25 4 "forkplan.plans" 327 208,
  oT #[(oS "comings" 453),(oS "forks" 454),(oS "goals" 455),(oS "needs" 456),(oS "nodes" 457),(oS "showings" 458),(oS "world" 459)],
  (Obj.mk (.type "dict") none (Data.dict #[(oE P "__module__" 403 (oS "forkplan.plans" 327)),(oE P "__firstlineno__" 407 (.int 93 406)),(oE P "__init__" 413 (oR 181)),(oE P "goal_holds" 421 (oR 188)),(oE P "need_holds" 432 (oR 195)),(oE P "comes" 442 (oR 202)),(oE P "shows" 452 (oR 209)),(oE P "__static_attributes__" 460 (oR 210)),(oE P "__dict__" 462 (oR 213)),(oE P "__weakref__" 464 (oR 214)),(oE P "__doc__" 465 .none)] 4) #[]),
  (Obj.mk (.type "type") none (Data.cls (ClassData.mk (Str.ofString "Course") [(.type "object")] [(oR 212),(.type "object")] 211 (Str.ofString "Course") Bool.true [] [] Bool.false none Bool.false)) #[none,none,(some (oS "Course" 396)),(some (oS "Course" 404)),(some (.builtin "object.__new__")),(some (.bool Bool.true))]),
  (Obj.mk (.type "getset_descriptor") none (Data.fields #[(oS "__dict__" 461),(oR 212),(.builtin "function.__dict__"),(.builtin "function.__dict__#set")]) #[]),
  (Obj.mk (.type "getset_descriptor") none (Data.fields #[(oS "__weakref__" 463),(oR 212),(.builtin "ExceptionGroup.__weakref__"),.none]) #[]),
  (Obj.mk (.type "super") none (Data.fields #[(oR 212),(oR 212),(oR 212)]) #[]),
  (Obj.mk (.type "builtin_function_or_method") none (Data.fields #[(.builtin "object.__init_subclass__"),(oR 212)]) #[]),
  oT #[],
  (Obj.mk (.type "builtin_function_or_method") none (Data.fields #[(.builtin "type.__prepare__"),(.type "type")]) #[]),
  (Obj.mk (.type "dict") none (Data.dict #[(oE P "__module__" 475 (oS "forkplan.plans" 327)),(oE P "__qualname__" 477 (oS "Player" 476)),(oE P "__firstlineno__" 479 (.int 127 478)),(oE P "__init__" 489 (oR 230)),(oE P "go_on" 497 (oR 237)),(oE P "do_deed" 508 (oR 244)),(oE P "do_look" 518 (oR 251)),(oE P "__static_attributes__" 526 (oR 252))] 8) #[]),
  oT #[],
  (Obj.mk .none none (Data.fields #[(oI 129),(oI 4),(oR 229),(oI 138),(oI 4),(oR 236),(oI 146),(oI 4),(oR 243),(oI 160),(oI 4),(oR 250)]) #[]),
  oC #[(oS "Player" 470),(oS "Player" 471),(oS "/claim/cut.py" 472),(oI 127),(oI 0),(oI 0),(oI 0),(oI 0),(oR 220),(.bool Bool.false),(oI 181),(oR 221),.none,.none,.none,.none,(oI 473),(oI 127),(oS "/claim/cut.py" 474)],
  (Obj.mk (.type "frame") none Data.plain #[(some (oR 222)),(some (oR 3)),(some (oR 219)),none,(some (oS "forkplan.plans" 327)),none,(some (oR 0))]),
  oT #[],
  oN,
  oT #[(oS "self" 483),(oS "course" 484),(oS "standing" 485),(oS "choices" 486)],
  oT #[],
  oW "__init__" "Player.__init__" 26 0,
  oK "__init__" "Player.__init__" 480 481 482 129 4 3 224 225 .none (oR 226) (oR 227) (oR 228) 487 488,
  oM "__init__" "Player.__init__" 26 0 "forkplan.plans" 327 229,
  oT #[],
  oN,
  oT #[(oS "self" 493),(oS "node" 494)],
  oT #[],
  oW "go_on" "Player.go_on" 26 1,
  oK "go_on" "Player.go_on" 490 491 492 138 1 3 231 232 .none (oR 233) (oR 234) (oR 235) 495 496,
  oM "go_on" "Player.go_on" 26 1 "forkplan.plans" 327 236,
  oT #[],
  oN,
  oT #[(oS "self" 501),(oS "name" 502),(oS "follower" 503),(oS "coming" 504),(oS "way" 505)],
  oT #[],
  oW "do_deed" "Player.do_deed" 26 2,
  oK "do_deed" "Player.do_deed" 498 499 500 146 3 3 238 239 .none (oR 240) (oR 241) (oR 242) 506 507,
  oM "do_deed" "Player.do_deed" 26 2 "forkplan.plans" 327 243,
  oT #[],
  oN,
  oT #[(oS "self" 512),(oS "name" 513),(oS "worth" 514),(oS "forks" 515)],
  oT #[],
  oW "do_look" "Player.do_look" 26 3,
  oK "do_look" "Player.do_look" 509 510 511 160 2 3 245 246 .none (oR 247) (oR 248) (oR 249) 516 517,
  oM "do_look" "Player.do_look" 26 3 "forkplan.plans" 327 250,
  oT #[(oS "choices" 519),(oS "course" 520),(oS "deeds_done" 521),(oS "looked" 522),(oS "number" 523),(oS "standing" 524),(oS "steps" 525)],
  (Obj.mk (.type "dict") none (Data.dict #[(oE P "__module__" 475 (oS "forkplan.plans" 327)),(oE P "__firstlineno__" 479 (.int 127 478)),(oE P "__init__" 489 (oR 230)),(oE P "go_on" 497 (oR 237)),(oE P "do_deed" 508 (oR 244)),(oE P "do_look" 518 (oR 251)),(oE P "__static_attributes__" 526 (oR 252)),(oE P "__dict__" 528 (oR 255)),(oE P "__weakref__" 530 (oR 256)),(oE P "__doc__" 531 .none)] 4) #[]),
  (Obj.mk (.type "type") none (Data.cls (ClassData.mk (Str.ofString "Player") [(.type "object")] [(oR 254),(.type "object")] 253 (Str.ofString "Player") Bool.true [] [] Bool.false none Bool.false)) #[none,none,(some (oS "Player" 468)),(some (oS "Player" 476)),(some (.builtin "object.__new__")),(some (.bool Bool.true))]),
  (Obj.mk (.type "getset_descriptor") none (Data.fields #[(oS "__dict__" 527),(oR 254),(.builtin "function.__dict__"),(.builtin "function.__dict__#set")]) #[]),
  (Obj.mk (.type "getset_descriptor") none (Data.fields #[(oS "__weakref__" 529),(oR 254),(.builtin "ExceptionGroup.__weakref__"),.none]) #[]),
  (Obj.mk (.type "super") none (Data.fields #[(oR 254),(oR 254),(oR 254)]) #[]),
  (Obj.mk (.type "builtin_function_or_method") none (Data.fields #[(.builtin "object.__init_subclass__"),(oR 254)]) #[]),
  oT #[],
  oN,
  oT #[(oS "script" 539),(oS "k" 540)],
  oT #[],
  oG "_law_cell" 28,
  oK "_law_cell" "_law_cell" 536 537 538 172 2 3 259 260 .none (oR 261) (oR 262) (oR 263) 541 542,
  oL "_law_cell" 28 264,
  oT #[],
  oN,
  oT #[(oS "cell" 547),(oS "k" 548),(oS "number" 549)],
  oT #[],
  oG "_law_stir" 29,
  oK "_law_stir" "_law_stir" 544 545 546 176 2 3 266 267 .none (oR 268) (oR 269) (oR 270) 550 551,
  oL "_law_stir" 29 271,
  oT #[],
  oN,
  oT #[(oS "cell" 556)],
  oT #[],
  oG "_law_state" 30,
  oK "_law_state" "_law_state" 553 554 555 181 1 3 273 274 .none (oR 275) (oR 276) (oR 277) 557 558,
  oL "_law_state" 30 278,
  oT #[],
  oN,
  oT #[(oS "state" 563),(oS "many" 564),(oS "found" 565)],
  oT #[],
  oG "_law_take" 31,
  oK "_law_take" "_law_take" 560 561 562 183 2 3 280 281 .none (oR 282) (oR 283) (oR 284) 566 567,
  oL "_law_take" 31 285,
  oT #[],
  oN,
  oT #[(oS "state" 572),(oS "boxes" 573),(oS "deep" 574),(oS "kind" 575),(oS "one" 576)],
  oT #[],
  oG "_law_expression" 32,
  oK "_law_expression" "_law_expression" 569 570 571 190 3 3 287 288 .none (oR 289) (oR 290) (oR 291) 577 578,
  oL "_law_expression" 32 292,
  oT #[],
  oN,
  oT #[(oS "state" 583),(oS "boxes" 584),(oS "deep" 585),(oS "kind" 586),(oS "one" 587)],
  oT #[],
  oG "_law_condition" 33,
  oK "_law_condition" "_law_condition" 580 581 582 198 3 3 294 295 .none (oR 296) (oR 297) (oR 298) 588 589,
  oL "_law_condition" 33 299,
  oT #[],
  oN,
  oT #[(oS "cell" 594),(oS "name" 595),(oS "boxes" 596),(oS "state" 597),(oS "price" 598),(oS "need" 599),(oS "ways" 600),(oS "k" 601),(oS "at" 602),(oS "way" 603),(oS "j" 604)],
  oT #[],
  oG "_law_deed" 34,
  oK "_law_deed" "_law_deed" 591 592 593 209 3 3 301 302 .none (oR 303) (oR 304) (oR 305) 605 606,
  oL "_law_deed" 34 306,
  oT #[],
  oN,
  oT #[(oS "state" 611),(oS "many" 612),(oS "letters" 613),(oS "size" 614),(oS "at" 615),(oS "pad" 616),(oS "first" 617),(oS "found" 618),(oS "k" 619),(oS "sign" 620)],
  oT #[],
  oG "_law_words" 35,
  oK "_law_words" "_law_words" 608 609 610 223 2 3 308 309 .none (oR 310) (oR 311) (oR 312) 621 622,
  oL "_law_words" 35 313,
  oT #[],
  oN,
  oG "_law_world" 36,
  oK "_law_world" "_law_world" 624 625 626 234 1 3 315 316 .none .none .none (oR 317) 627 628,
  oL "_law_world" 36 318,
  oT #[],
  oN,
  oG "_law_standings" 37,
  oK "_law_standings" "_law_standings" 630 631 632 259 1 3 320 321 .none .none .none (oR 322) 633 634,
  oL "_law_standings" 37 323,
  oT #[],
  oN,
  oG "_law_worth" 38,
  oK "_law_worth" "_law_worth" 636 637 638 267 3 3 325 326 .none .none .none (oR 327) 639 640,
  oL "_law_worth" 38 328,
  oT #[],
  oN,
  oT #[(oS "c" 645),(oS "boxes" 646),(oS "standing" 647),(oS "one" 648),(oS "other" 649)],
  oT #[],
  oG "_law_holds" 39,
  oK "_law_holds" "_law_holds" 642 643 644 274 3 3 330 331 .none (oR 332) (oR 333) (oR 334) 650 651,
  oL "_law_holds" 39 335,
  oT #[],
  oN,
  oG "_law_comes" 40,
  oK "_law_comes" "_law_comes" 653 654 655 284 3 3 337 338 .none .none .none (oR 339) 656 657,
  oL "_law_comes" 40 340,
  oT #[],
  oN,
  oG "_law_shown" 41,
  oK "_law_shown" "_law_shown" 659 660 661 295 3 3 342 343 .none .none .none (oR 344) 662 663,
  oL "_law_shown" 41 345,
  oT #[],
  oN,
  oG "_law_let" 42,
  oK "_law_let" "_law_let" 665 666 667 298 3 3 347 348 .none .none .none (oR 349) 668 669,
  oL "_law_let" 42 350,
  oT #[],
  oN,
  oG "_law_first" 43,
  oK "_law_first" "_law_first" 671 672 673 301 1 3 352 353 .none .none .none (oR 354) 674 675,
  oL "_law_first" 43 355,
  oT #[],
  oN,
  oG "_law_node" 44,
  oK "_law_node" "_law_node" 677 678 679 303 4 3 357 358 .none .none .none (oR 359) 680 681,
  oL "_law_node" 44 360,
  oT #[],
  oN,
  oG "_law_plan" 45,
  oK "_law_plan" "_law_plan" 683 684 685 321 3 3 362 363 .none .none .none (oR 364) 686 687,
  oL "_law_plan" 45 365,
  oT #[],
  oN,
  oG "_law_played" 46,
  oK "_law_played" "_law_played" 689 690 691 324 3 3 367 368 .none .none .none (oR 369) 692 693,
  oL "_law_played" 46 370,
  oT #[],
  oN,
  oG "_law_many" 47,
  oK "_law_many" "_law_many" 695 696 697 334 2 3 372 373 .none .none .none (oR 374) 698 699,
  oL "_law_many" 47 375,
  oT #[],
  oN,
  oG "_law_pieces" 48,
  oK "_law_pieces" "_law_pieces" 701 702 703 336 4 3 377 378 .none .none .none (oR 379) 704 705,
  oL "_law_pieces" 48 380,
  oT #[],
  oN,
  oG "law" 49,
  oK "law" "law" 707 708 709 351 1 3 382 383 .none .none .none (oR 384) 710 711,
  oL "law" 49 385]
def qGx (P:Params):List Obj:=[boot_o_0 P,boot_o_1 P,boot_o_2 P,boot_o_3 P,boot_o_4 P,boot_o_5 P,boot_o_6 P,boot_o_7 P,boot_o_8 P,boot_o_9 P,boot_o_10 P,oT #[],oN,oC #[(oS "<module>" 182),(oS "<module>" 183),(oS "/claim/cut.py" 184),(oI 1),(oI 0),(oI 0),(oI 0),(oI 0),(oR 11),(.bool Bool.false),(oI 181),(oR 12),.none,.none,.none,.none,(oI 185),(oI 1),(oS "/claim/cut.py" 186)],(Obj.mk (.type "frame") none Data.plain #[(some (oR 13)),(some (oR 3)),(some (oR 3)),none,(some (oS "__main__" 164)),none,(some (oR 0))])]
def qQh (os:List Obj):Nat→Nat→Nat→BT
 | 0,_,_=>.nil
 | f+1,a,b=>match os[b]? with
  | some o=>.node o (qQh os f (2 * a) (a+b)) (qQh os f (2 * a) (2 * a+b))
  | none=>.nil
def qYd:Life:=(Life.mk [] [] [] 0 [] [] Bool.false #[] [] 0 Bool.false Bool.false Bool.false 0 [2000,10,10] Bool.false 0 Bool.true [] [] 0 Bool.false)
def topEnv:Env:={ scope:=PySem.Challenge.pw_forkplan_k23_whole_runs_go_on.main.scope,locals:=mainNs,globals:=mainNs,cells:=[],code:=(Value.ref 13),frame:=some 14 }
def qQi:List Stmt:=behindTheImports PySem.Challenge.pw_forkplan_k23_whole_runs_go_on
def vG:Code:=.body qQi topEnv
def topA (w:World)(os:OsState):Shared:=⟨⟨⟨qGx w.params⟩,qYd⟩,⟨[]⟩,(Drawn.mk 0 0 0 0),187,os⟩
def topB (w:World)(os:OsState):SharedT:=⟨qQh (qGx w.params) 12 1 0,15,qYd,⟨[]⟩,(Drawn.mk 0 0 0 0),187,os⟩
def topZ (w:World)(os:OsState):SharedT:=⟨qQh (qGz w.params) 12 1 0,387,qYd,⟨[]⟩,(Drawn.mk 0 0 0 0),713,os⟩
theorem topPre (w:World)(os:OsState):topGo treeTable PySem.Challenge.pw_forkplan_k23_whole_runs_go_on w 11 (some (Value.ref 6)) 12 ⟨boot_heap w.params,⟨[]⟩,boot_drawn,boot_toks,os⟩ (topStub PySem.Challenge.pw_forkplan_k23_whole_runs_go_on)=some (topA w os,⟨denote treeTable vG,vG,(Pos.mk 0 0 0 0),[topFrame (Pos.mk 0 0 0 0)]⟩):=by kernel_rfl
theorem qPl (w:World)(os:OsState):segRun treeTable PySem.Challenge.pw_forkplan_k23_whole_runs_go_on w 11 (some (Value.ref 6)) 1 1 (topA w os) (blockOf qQi topEnv vG (Pos.mk 0 0 0 0) [topFrame (Pos.mk 0 0 0 0)])=some (.next,(topB w os).abs,vG,(Pos.mk 0 0 0 0)):=by kernel_rfl
theorem topSeg (w:World)(os:OsState):segRunT treeTable PySem.Challenge.pw_forkplan_k23_whole_runs_go_on w 11 (some (Value.ref 6)) 1 2522 (topB w os) (piecesOf qQi topEnv vG (Pos.mk 0 0 0 0) [topFrame (Pos.mk 0 0 0 0)])=some (.next,topZ w os,vG,(Pos.mk 351 0 361 38)):=by kernel_rfl
theorem topFin (w:World)(os:OsState):topRun treeTable PySem.Challenge.pw_forkplan_k23_whole_runs_go_on w 11 (some (Value.ref 6)) 2 (topZ w os).abs ⟨doneF .next,vG,(Pos.mk 351 0 361 38),[topFrame (Pos.mk 0 0 0 0)]⟩=some (topZ w os).abs:=by kernel_rfl
def qWn (P:Params):yZO:=
 (nat_lit 2,(Obj.mk .none none (Data.dict #[] 0) #[]))::
 (nat_lit 3,(Obj.mk (.type "dict") none (Data.dict #[(oE P "__name__" 165 (.str (Str.ofString "law_forkplan_k23_whole_runs_go_on") 534)),(oE P "__doc__" 166 .none),(oE P "__package__" 167 .none),(oE P "__loader__" 168 (.builtin "__main__.__loader__#opaque")),(oE P "__spec__" 169 .none),(oE P "__annotations__" 170 (.ref 6)),(oE P "__builtins__" 171 (.ref 4)),(oE P "__file__" 173 (.str (Str.ofString "/claim/cut.py") 172)),(oE P "__cached__" 174 .none),(oE P "ForkError" 206 (.ref 24)),(oE P "NoName" 222 (.ref 37)),(oE P "NoPlan" 238 (.ref 49)),(oE P "worth" 249 (.ref 58)),(oE P "holds" 258 (.ref 65)),(oE P "values_by_name" 264 (.ref 70)),(oE P "worth_by" 275 (.ref 77)),(oE P "holds_by" 286 (.ref 84)),(oE P "comes_of" 294 (.ref 89)),(oE P "shown" 303 (.ref 96)),(oE P "named" 313 (.ref 103)),(oE P "behind_way" 319 (.ref 108)),(oE P "is_whole" 326 (.ref 115)),(oE P "plan_of" 337 (.ref 122)),(oE P "run" 349 (.ref 129)),(oE P "followers_of" 355 (.ref 134)),(oE P "is_node_number" 363 (.ref 141)),(oE P "refuse_followers" 372 (.ref 148)),(oE P "refuse_forks" 379 (.ref 155)),(oE P "refuse_name" 387 (.ref 162)),(oE P "thing_named_at" 395 (.ref 169)),(oE P "Course" 467 (.ref 212)),(oE P "Player" 533 (.ref 254)),(oE P "_law_cell" 543 (.ref 265)),(oE P "_law_stir" 552 (.ref 272)),(oE P "_law_state" 559 (.ref 279)),(oE P "_law_take" 568 (.ref 286)),(oE P "_law_expression" 579 (.ref 293)),(oE P "_law_condition" 590 (.ref 300)),(oE P "_law_deed" 607 (.ref 307)),(oE P "_law_words" 623 (.ref 314)),(oE P "_law_world" 629 (.ref 319)),(oE P "_law_standings" 635 (.ref 324)),(oE P "_law_worth" 641 (.ref 329)),(oE P "_law_holds" 652 (.ref 336)),(oE P "_law_comes" 658 (.ref 341)),(oE P "_law_shown" 664 (.ref 346)),(oE P "_law_let" 670 (.ref 351)),(oE P "_law_first" 676 (.ref 356)),(oE P "_law_node" 682 (.ref 361)),(oE P "_law_plan" 688 (.ref 366)),(oE P "_law_played" 694 (.ref 371)),(oE P "_law_many" 700 (.ref 376)),(oE P "_law_pieces" 706 (.ref 381)),(oE P "law" 712 (.ref 386))] 54) #[]))::
 (nat_lit 15,(Obj.mk (.type "tuple") none (Data.seq #[(.type "ValueError")] 0) #[]))::
 (nat_lit 22,(Obj.mk (.type "tuple") none (Data.seq #[] 0) #[]))::
 (nat_lit 23,(Obj.mk (.type "dict") none (Data.dict #[(oE P "__module__" 196 (.str (Str.ofString "forkplan.errors") 187)),(oE P "__firstlineno__" 200 (.int 2 199)),(oE P "__static_attributes__" 201 (.ref 22)),(oE P "__weakref__" 203 (.ref 25)),(oE P "__doc__" 204 .none)] 3) #[]))::
 (nat_lit 24,(Obj.mk (.type "type") none (Data.cls (ClassData.mk (Str.ofString "ForkError") [(.type "ValueError")] [(.ref 24),(.type "ValueError"),(.type "Exception"),(.type "BaseException"),(.type "object")] 23 (Str.ofString "ForkError") Bool.true [] [(.ref 37),(.ref 49)] Bool.false none Bool.false)) #[(some (.ref 15)),none,(some (.str (Str.ofString "ForkError") 189)),(some (.str (Str.ofString "ForkError") 197)),(some (.builtin "ValueError.__new__")),(some (.bool Bool.true))]))::
 (nat_lit 25,(Obj.mk (.type "getset_descriptor") none (Data.fields #[(.str (Str.ofString "__weakref__") 202),(.ref 24),(.builtin "ExceptionGroup.__weakref__"),.none]) #[]))::
 (nat_lit 28,(Obj.mk (.type "tuple") none (Data.seq #[(.ref 24)] 0) #[]))::
 (nat_lit 35,(Obj.mk (.type "tuple") none (Data.seq #[] 0) #[]))::
 (nat_lit 36,(Obj.mk (.type "dict") none (Data.dict #[(oE P "__module__" 214 (.str (Str.ofString "forkplan.errors") 187)),(oE P "__firstlineno__" 218 (.int 4 217)),(oE P "__static_attributes__" 219 (.ref 35)),(oE P "__doc__" 220 .none)] 2) #[]))::
 (nat_lit 37,(Obj.mk (.type "type") none (Data.cls (ClassData.mk (Str.ofString "NoName") [(.ref 24)] [(.ref 37),(.ref 24),(.type "ValueError"),(.type "Exception"),(.type "BaseException"),(.type "object")] 36 (Str.ofString "NoName") Bool.true [] [] Bool.false none Bool.false)) #[(some (.ref 28)),none,(some (.str (Str.ofString "NoName") 207)),(some (.str (Str.ofString "NoName") 215)),(some (.builtin "ValueError.__new__")),(some (.bool Bool.true))]))::
 (nat_lit 40,(Obj.mk (.type "tuple") none (Data.seq #[(.ref 24)] 0) #[]))::
 (nat_lit 47,(Obj.mk (.type "tuple") none (Data.seq #[] 0) #[]))::
 (nat_lit 48,(Obj.mk (.type "dict") none (Data.dict #[(oE P "__module__" 230 (.str (Str.ofString "forkplan.errors") 187)),(oE P "__firstlineno__" 234 (.int 6 233)),(oE P "__static_attributes__" 235 (.ref 47)),(oE P "__doc__" 236 .none)] 2) #[]))::
 (nat_lit 49,(Obj.mk (.type "type") none (Data.cls (ClassData.mk (Str.ofString "NoPlan") [(.ref 24)] [(.ref 49),(.ref 24),(.type "ValueError"),(.type "Exception"),(.type "BaseException"),(.type "object")] 48 (Str.ofString "NoPlan") Bool.true [] [] Bool.false none Bool.false)) #[(some (.ref 40)),none,(some (.str (Str.ofString "NoPlan") 223)),(some (.str (Str.ofString "NoPlan") 231)),(some (.builtin "ValueError.__new__")),(some (.bool Bool.true))]))::
 (nat_lit 57,oK "worth" "worth" 241 242 243 9 3 3 52 53 .none (oR 54) (oR 55) (oR 56) 247 248)::
 (nat_lit 58,oF "worth" 5 "forkplan.exprs" 239 57)::
 (nat_lit 64,oK "holds" "holds" 250 251 252 11 3 3 59 60 .none (oR 61) (oR 62) (oR 63) 256 257)::
 (nat_lit 65,oF "holds" 6 "forkplan.exprs" 239 64)::
 (nat_lit 69,oK "values_by_name" "values_by_name" 259 260 261 13 2 3 66 67 .none .none .none (oR 68) 262 263)::
 (nat_lit 70,oF "values_by_name" 7 "forkplan.exprs" 239 69)::
 (nat_lit 76,oK "worth_by" "worth_by" 265 266 267 15 2 3 71 72 .none (oR 73) (oR 74) (oR 75) 273 274)::
 (nat_lit 77,oF "worth_by" 8 "forkplan.exprs" 239 76)::
 (nat_lit 83,oK "holds_by" "holds_by" 276 277 278 24 2 3 78 79 .none (oR 80) (oR 81) (oR 82) 284 285)::
 (nat_lit 84,oF "holds_by" 9 "forkplan.exprs" 239 83)::
 (nat_lit 88,oK "comes_of" "comes_of" 289 290 291 36 3 3 85 86 .none .none .none (oR 87) 292 293)::
 (nat_lit 89,oF "comes_of" 11 "forkplan.worlds" 287 88)::
 (nat_lit 95,oK "shown" "shown" 295 296 297 39 3 3 90 91 .none (oR 92) (oR 93) (oR 94) 301 302)::
 (nat_lit 96,oF "shown" 12 "forkplan.worlds" 287 95)::
 (nat_lit 102,oK "named" "named" 304 305 306 41 3 3 97 98 .none (oR 99) (oR 100) (oR 101) 311 312)::
 (nat_lit 103,oF "named" 13 "forkplan.worlds" 287 102)::
 (nat_lit 107,oK "behind_way" "behind_way" 314 315 316 46 3 3 104 105 .none .none .none (oR 106) 317 318)::
 (nat_lit 108,oF "behind_way" 14 "forkplan.worlds" 287 107)::
 (nat_lit 114,oK "is_whole" "is_whole" 320 321 322 53 1 3 109 110 .none (oR 111) (oR 112) (oR 113) 324 325)::
 (nat_lit 115,oF "is_whole" 15 "forkplan.worlds" 287 114)::
 (nat_lit 121,oK "plan_of" "plan_of" 329 330 331 56 2 3 116 117 .none (oR 118) (oR 119) (oR 120) 335 336)::
 (nat_lit 122,oF "plan_of" 17 "forkplan.plans" 327 121)::
 (nat_lit 128,oK "run" "run" 338 339 340 65 4 3 123 124 .none (oR 125) (oR 126) (oR 127) 347 348)::
 (nat_lit 129,oF "run" 18 "forkplan.plans" 327 128)::
 (nat_lit 133,oK "followers_of" "followers_of" 350 351 352 71 1 3 130 131 .none .none .none (oR 132) 353 354)::
 (nat_lit 134,oF "followers_of" 19 "forkplan.plans" 327 133)::
 (nat_lit 140,oK "is_node_number" "is_node_number" 356 357 358 77 2 3 135 136 .none (oR 137) (oR 138) (oR 139) 361 362)::
 (nat_lit 141,oF "is_node_number" 20 "forkplan.plans" 327 140)::
 (nat_lit 147,oK "refuse_followers" "refuse_followers" 364 365 366 79 2 3 142 143 .none (oR 144) (oR 145) (oR 146) 370 371)::
 (nat_lit 148,oF "refuse_followers" 21 "forkplan.plans" 327 147)::
 (nat_lit 154,oK "refuse_forks" "refuse_forks" 373 374 375 83 1 3 149 150 .none (oR 151) (oR 152) (oR 153) 377 378)::
 (nat_lit 155,oF "refuse_forks" 22 "forkplan.plans" 327 154)::
 (nat_lit 161,oK "refuse_name" "refuse_name" 380 381 382 86 2 3 156 157 .none (oR 158) (oR 159) (oR 160) 385 386)::
 (nat_lit 162,oF "refuse_name" 23 "forkplan.plans" 327 161)::
 (nat_lit 168,oK "thing_named_at" "thing_named_at" 388 389 390 89 2 3 163 164 .none (oR 165) (oR 166) (oR 167) 393 394)::
 (nat_lit 169,oF "thing_named_at" 24 "forkplan.plans" 327 168)::
 (nat_lit 180,oK "__init__" "Course.__init__" 408 409 410 95 3 3 177 178 .none .none .none (oR 179) 411 412)::
 (nat_lit 181,oM "__init__" "Course.__init__" 25 0 "forkplan.plans" 327 180)::
 (nat_lit 187,oK "goal_holds" "Course.goal_holds" 414 415 416 104 2 3 182 183 .none (oR 184) (oR 185) (oR 186) 419 420)::
 (nat_lit 188,oM "goal_holds" "Course.goal_holds" 25 1 "forkplan.plans" 327 187)::
 (nat_lit 194,oK "need_holds" "Course.need_holds" 422 423 424 109 3 3 189 190 .none (oR 191) (oR 192) (oR 193) 430 431)::
 (nat_lit 195,oM "need_holds" "Course.need_holds" 25 2 "forkplan.plans" 327 194)::
 (nat_lit 201,oK "comes" "Course.comes" 433 434 435 116 3 3 196 197 .none (oR 198) (oR 199) (oR 200) 440 441)::
 (nat_lit 202,oM "comes" "Course.comes" 25 3 "forkplan.plans" 327 201)::
 (nat_lit 208,oK "shows" "Course.shows" 443 444 445 122 3 3 203 204 .none (oR 205) (oR 206) (oR 207) 450 451)::
 (nat_lit 209,oM "shows" "Course.shows" 25 4 "forkplan.plans" 327 208)::
 (nat_lit 210,(Obj.mk (.type "tuple") none (Data.seq #[(.str (Str.ofString "comings") 453),(.str (Str.ofString "forks") 454),(.str (Str.ofString "goals") 455),(.str (Str.ofString "needs") 456),(.str (Str.ofString "nodes") 457),(.str (Str.ofString "showings") 458),(.str (Str.ofString "world") 459)] 0) #[]))::
 (nat_lit 211,(Obj.mk (.type "dict") none (Data.dict #[(oE P "__module__" 403 (.str (Str.ofString "forkplan.plans") 327)),(oE P "__firstlineno__" 407 (.int 93 406)),(oE P "__init__" 413 (.ref 181)),(oE P "goal_holds" 421 (.ref 188)),(oE P "need_holds" 432 (.ref 195)),(oE P "comes" 442 (.ref 202)),(oE P "shows" 452 (.ref 209)),(oE P "__static_attributes__" 460 (.ref 210)),(oE P "__dict__" 462 (.ref 213)),(oE P "__weakref__" 464 (.ref 214)),(oE P "__doc__" 465 .none)] 4) #[]))::
 (nat_lit 212,(Obj.mk (.type "type") none (Data.cls (ClassData.mk (Str.ofString "Course") [(.type "object")] [(.ref 212),(.type "object")] 211 (Str.ofString "Course") Bool.true [] [] Bool.false none Bool.false)) #[none,none,(some (.str (Str.ofString "Course") 396)),(some (.str (Str.ofString "Course") 404)),(some (.builtin "object.__new__")),(some (.bool Bool.true))]))::
 (nat_lit 213,(Obj.mk (.type "getset_descriptor") none (Data.fields #[(.str (Str.ofString "__dict__") 461),(.ref 212),(.builtin "function.__dict__"),(.builtin "function.__dict__#set")]) #[]))::
 (nat_lit 214,(Obj.mk (.type "getset_descriptor") none (Data.fields #[(.str (Str.ofString "__weakref__") 463),(.ref 212),(.builtin "ExceptionGroup.__weakref__"),.none]) #[]))::
 (nat_lit 229,oK "__init__" "Player.__init__" 480 481 482 129 4 3 224 225 .none (oR 226) (oR 227) (oR 228) 487 488)::
 (nat_lit 230,oM "__init__" "Player.__init__" 26 0 "forkplan.plans" 327 229)::
 (nat_lit 236,oK "go_on" "Player.go_on" 490 491 492 138 1 3 231 232 .none (oR 233) (oR 234) (oR 235) 495 496)::
 (nat_lit 237,oM "go_on" "Player.go_on" 26 1 "forkplan.plans" 327 236)::
 (nat_lit 243,oK "do_deed" "Player.do_deed" 498 499 500 146 3 3 238 239 .none (oR 240) (oR 241) (oR 242) 506 507)::
 (nat_lit 244,oM "do_deed" "Player.do_deed" 26 2 "forkplan.plans" 327 243)::
 (nat_lit 250,oK "do_look" "Player.do_look" 509 510 511 160 2 3 245 246 .none (oR 247) (oR 248) (oR 249) 516 517)::
 (nat_lit 251,oM "do_look" "Player.do_look" 26 3 "forkplan.plans" 327 250)::
 (nat_lit 252,(Obj.mk (.type "tuple") none (Data.seq #[(.str (Str.ofString "choices") 519),(.str (Str.ofString "course") 520),(.str (Str.ofString "deeds_done") 521),(.str (Str.ofString "looked") 522),(.str (Str.ofString "number") 523),(.str (Str.ofString "standing") 524),(.str (Str.ofString "steps") 525)] 0) #[]))::
 (nat_lit 253,(Obj.mk (.type "dict") none (Data.dict #[(oE P "__module__" 475 (.str (Str.ofString "forkplan.plans") 327)),(oE P "__firstlineno__" 479 (.int 127 478)),(oE P "__init__" 489 (.ref 230)),(oE P "go_on" 497 (.ref 237)),(oE P "do_deed" 508 (.ref 244)),(oE P "do_look" 518 (.ref 251)),(oE P "__static_attributes__" 526 (.ref 252)),(oE P "__dict__" 528 (.ref 255)),(oE P "__weakref__" 530 (.ref 256)),(oE P "__doc__" 531 .none)] 4) #[]))::
 (nat_lit 254,(Obj.mk (.type "type") none (Data.cls (ClassData.mk (Str.ofString "Player") [(.type "object")] [(.ref 254),(.type "object")] 253 (Str.ofString "Player") Bool.true [] [] Bool.false none Bool.false)) #[none,none,(some (.str (Str.ofString "Player") 468)),(some (.str (Str.ofString "Player") 476)),(some (.builtin "object.__new__")),(some (.bool Bool.true))]))::
 (nat_lit 255,(Obj.mk (.type "getset_descriptor") none (Data.fields #[(.str (Str.ofString "__dict__") 527),(.ref 254),(.builtin "function.__dict__"),(.builtin "function.__dict__#set")]) #[]))::
 (nat_lit 256,(Obj.mk (.type "getset_descriptor") none (Data.fields #[(.str (Str.ofString "__weakref__") 529),(.ref 254),(.builtin "ExceptionGroup.__weakref__"),.none]) #[]))::
 (nat_lit 264,oK "_law_cell" "_law_cell" 536 537 538 172 2 3 259 260 .none (oR 261) (oR 262) (oR 263) 541 542)::
 (nat_lit 265,oL "_law_cell" 28 264)::
 (nat_lit 271,oK "_law_stir" "_law_stir" 544 545 546 176 2 3 266 267 .none (oR 268) (oR 269) (oR 270) 550 551)::
 (nat_lit 272,oL "_law_stir" 29 271)::
 (nat_lit 278,oK "_law_state" "_law_state" 553 554 555 181 1 3 273 274 .none (oR 275) (oR 276) (oR 277) 557 558)::
 (nat_lit 279,oL "_law_state" 30 278)::
 (nat_lit 285,oK "_law_take" "_law_take" 560 561 562 183 2 3 280 281 .none (oR 282) (oR 283) (oR 284) 566 567)::
 (nat_lit 286,oL "_law_take" 31 285)::
 (nat_lit 292,oK "_law_expression" "_law_expression" 569 570 571 190 3 3 287 288 .none (oR 289) (oR 290) (oR 291) 577 578)::
 (nat_lit 293,oL "_law_expression" 32 292)::
 (nat_lit 299,oK "_law_condition" "_law_condition" 580 581 582 198 3 3 294 295 .none (oR 296) (oR 297) (oR 298) 588 589)::
 (nat_lit 300,oL "_law_condition" 33 299)::
 (nat_lit 306,oK "_law_deed" "_law_deed" 591 592 593 209 3 3 301 302 .none (oR 303) (oR 304) (oR 305) 605 606)::
 (nat_lit 307,oL "_law_deed" 34 306)::
 (nat_lit 313,oK "_law_words" "_law_words" 608 609 610 223 2 3 308 309 .none (oR 310) (oR 311) (oR 312) 621 622)::
 (nat_lit 314,oL "_law_words" 35 313)::
 (nat_lit 318,oK "_law_world" "_law_world" 624 625 626 234 1 3 315 316 .none .none .none (oR 317) 627 628)::
 (nat_lit 319,oL "_law_world" 36 318)::
 (nat_lit 323,oK "_law_standings" "_law_standings" 630 631 632 259 1 3 320 321 .none .none .none (oR 322) 633 634)::
 (nat_lit 324,oL "_law_standings" 37 323)::
 (nat_lit 328,oK "_law_worth" "_law_worth" 636 637 638 267 3 3 325 326 .none .none .none (oR 327) 639 640)::
 (nat_lit 329,oL "_law_worth" 38 328)::
 (nat_lit 335,oK "_law_holds" "_law_holds" 642 643 644 274 3 3 330 331 .none (oR 332) (oR 333) (oR 334) 650 651)::
 (nat_lit 336,oL "_law_holds" 39 335)::
 (nat_lit 340,oK "_law_comes" "_law_comes" 653 654 655 284 3 3 337 338 .none .none .none (oR 339) 656 657)::
 (nat_lit 341,oL "_law_comes" 40 340)::
 (nat_lit 345,oK "_law_shown" "_law_shown" 659 660 661 295 3 3 342 343 .none .none .none (oR 344) 662 663)::
 (nat_lit 346,oL "_law_shown" 41 345)::
 (nat_lit 350,oK "_law_let" "_law_let" 665 666 667 298 3 3 347 348 .none .none .none (oR 349) 668 669)::
 (nat_lit 351,oL "_law_let" 42 350)::
 (nat_lit 360,oK "_law_node" "_law_node" 677 678 679 303 4 3 357 358 .none .none .none (oR 359) 680 681)::
 (nat_lit 361,oL "_law_node" 44 360)::
 (nat_lit 365,oK "_law_plan" "_law_plan" 683 684 685 321 3 3 362 363 .none .none .none (oR 364) 686 687)::
 (nat_lit 366,oL "_law_plan" 45 365)::
 (nat_lit 370,oK "_law_played" "_law_played" 689 690 691 324 3 3 367 368 .none .none .none (oR 369) 692 693)::
 (nat_lit 371,oL "_law_played" 46 370)::
 (nat_lit 375,oK "_law_many" "_law_many" 695 696 697 334 2 3 372 373 .none .none .none (oR 374) 698 699)::
 (nat_lit 376,oL "_law_many" 47 375)::
 (nat_lit 380,oK "_law_pieces" "_law_pieces" 701 702 703 336 4 3 377 378 .none .none .none (oR 379) 704 705)::
 (nat_lit 381,oL "_law_pieces" 48 380)::
 (nat_lit 385,oK "law" "law" 707 708 709 351 1 3 382 383 .none .none .none (oR 384) 710 711)::
 (nat_lit 386,oL "law" 49 385)::[]
def qQg:Program:={ PySem.Challenge.pw_forkplan_k23_whole_runs_go_on with main:={ PySem.Challenge.pw_forkplan_k23_whole_runs_go_on.main with body:=([1,2,3,5,6,7,8,9,11,12,13,14,15,17,18,19,20,21,22,23,24,25,26,28,29,30,31,32,33,34,35,36,37,38,39,40,41,42,43,44,45,46,47,48,49]:List Nat).filterMap fun i=>PySem.Challenge.pw_forkplan_k23_whole_runs_go_on.main.body[i]? } }
def wC:PySem.W.Hook:=PySem.W.kHook qWn [2,3,15,22,23,24,25,28,35,36,37,40,47,48,49,57,58,64,65,69,70,76,77,83,84,88,89,95,96,102,103,107,108,114,115,121,122,128,129,133,134,140,141,147,148,154,155,161,162,168,169,180,181,187,188,194,195,201,202,208,209,210,211,212,213,214,229,230,236,237,243,244,250,251,252,253,254,255,256,264,265,271,272,278,279,285,286,292,293,299,300,306,307,313,314,318,319,323,324,328,329,335,336,340,341,345,346,350,351,360,361,365,366,370,371,375,376,380,381,385,386] (fun _=>by kernel_rfl)
theorem xXx:LeftO (PySem.W.OpenLaw.row PySem.Challenge.rw_forkplan_k23_whole_runs_go_on).prog qQg [] (fun s=>xlAt qQg [] s && recOk (RowW.records (OpenRow.toRowW (PySem.W.OpenLaw.row PySem.Challenge.rw_forkplan_k23_whole_runs_go_on))) s) (Hook.obs wC) (Hook.val wC) 5768:=
 LeftO.of_pieces (H₀:=boot_heap) (H₁:=fun P=>absHeap (qQh (qGz P) 12 1 0) 387 qYd) (gs₀:=⟨[]⟩) (gs₁:=⟨[]⟩) (d₀:=boot_drawn) (d₁:=(Drawn.mk 0 0 0 0)) (k₀:=boot_toks) (k₁:=713) (m₀:=11) (ann:=(some (Value.ref 6))) (M:=12+(1+(2522+2)))
  (boot_open (p:=PySem.Challenge.pw_forkplan_k23_whole_runs_go_on) (by kernel_rfl) (by decide +kernel) (fun s=>by rfl)) (fun w=>by kernel_rfl)
  (fun w os=>go_top (topPre w os) (piece_block (qPl w os) (List.append_nil qQi▸piece_app (l:=qQi) (rest:=[]) (segRun_of (topSeg w os)) (topFin w os)))) (by decide +kernel) (fun w=>by kernel_rfl)
end FP
namespace L2
open PySem PySem.Spec PyProof.Rows

abbrev Key:=Sum Int Str
def keyIs:Key→Value→Bool
 | .inl k,v=>Value.isInt k v
 | .inr x,v=>Value.isStrOf x v
def keyH (w:World):Key→Int
 | .inl k=>hashInt k
 | .inr x=>hashStr w x
theorem zI:∀{k:Key} {v:Value},keyIs k v=true→(∃i t,k=Sum.inl i∧v=Value.int i t)∨(∃x t,k=Sum.inr x∧v=Value.str x t)
 | .inl i,v,h=>by
  obtain⟨t,e⟩:=Value.isInt_shape (k:=i) (v:=v) h
  exact .inl ⟨i,t,rfl,e⟩
 | .inr x,v,h=>by
  obtain⟨t,e⟩:=Value.isStrOf_shape (x:=x) (v:=v) h
  exact .inr ⟨x,t,rfl,e⟩
theorem qMd (i:Int)(t:Tok):keyIs (.inl i) (.int i t)=true:=by simp[keyIs,Value.isInt]
theorem qMc (x:Str)(t:Tok):keyIs (.inr x) (.str x t)=true:=by simp[keyIs,Value.isStrOf]
theorem xVv (a b:Int):decide ((Sum.inl a:Key)=Sum.inl b)=(a == b):=by
 by_cases e:a=b
 ·subst e;simp
 ·have h:¬(Sum.inl a:Key)=Sum.inl b:=fun q=>e (Sum.inl.inj q)
  rw[decide_eq_false h]
  exact(beq_eq_false_iff_ne.mpr e).symm
theorem xVz (a b:Str):decide ((Sum.inr a:Key)=Sum.inr b)=decide (a=b):=by
 by_cases e:a=b
 ·subst e;simp
 ·have h:¬(Sum.inr a:Key)=Sum.inr b:=fun q=>e (Sum.inr.inj q)
  rw[decide_eq_false h,decide_eq_false e]
theorem xVk (a:Int)(b:Str):decide ((Sum.inl a:Key)=Sum.inr b)=false:=decide_eq_false (fun q=>nomatch q)
theorem xVj (a:Str)(b:Int):decide ((Sum.inr a:Key)=Sum.inl b)=false:=decide_eq_false (fun q=>nomatch q)

def xN (prog:Program)(w:World):PySem.KeyKind prog w Key where
 is:=keyIs
 hash:=keyH w
 inj:=fun v a b ha hb=>by
  rcases zI ha with⟨i,t,rfl,rfl⟩ | ⟨x,t,rfl,rfl⟩
  ·rcases zI hb with⟨j,u,rfl,e⟩ | ⟨y,u,rfl,e⟩
   ·injection e with e1 _;rw[e1]
   ·exact nomatch e
  ·rcases zI hb with⟨j,u,rfl,e⟩ | ⟨y,u,rfl,e⟩
   ·exact nomatch e
   ·injection e with e1 _;rw[e1]
 byValue:=fun k v h=>by
  rcases zI h with⟨i,t,rfl,rfl⟩ | ⟨x,t,rfl,rfl⟩ <;> rfl
 pyHash:=fun hv h=>by
  rcases zI hv with⟨i,t,rfl,rfl⟩ | ⟨x,t,rfl,rfl⟩
  ·exact wpAny_pyHash_int h
  ·exact wpAny_pyHash_str h
 eqBool:=fun hu hv h=>by
  rcases zI hu with⟨i,t,rfl,rfl⟩ | ⟨x,t,rfl,rfl⟩
  ·rcases zI hv with⟨j,u,rfl,rfl⟩ | ⟨y,u,rfl,rfl⟩
   ·rw[xVv] at h;exact wpAny_eqBool_int h
   ·rw[xVk] at h;exact SeqAt.EqAt.int_str i t y u _ _ _ _ h
  ·rcases zI hv with⟨j,u,rfl,rfl⟩ | ⟨y,u,rfl,rfl⟩
   ·rw[xVj] at h;exact SeqAt.EqAt.str_int x t j u _ _ _ _ h
   ·rw[xVz] at h;exact wpAny_eqBool_str h
 «strs»:=fun k x t v h=>by
  rcases zI h with⟨i,u,rfl,e⟩ | ⟨y,u,rfl,e⟩
  ·exact nomatch e
  ·injection e with e1 _
   subst e1
   cases v <;> rfl

theorem qXe (prog:Program)(w:World)(i:Int)(t:Tok):(xN prog w).is (.inl i) (.int i t)=true:=qMd i t
theorem kC (prog:Program)(w:World)(x:Str)(t:Tok):(xN prog w).is (.inr x) (.str x t)=true:=qMc x t
end L2

namespace L2
open PySem PySem.Spec PyProof.Rows

inductive V where
 | non | bl (b:Bool) | int (i:Int) | str (x:Str) | byt (b:Array UInt8) | flt (b:UInt64) | ref (a:Addr) | ty (n:String)
 deriving DecidableEq

def RelV:V→Value→Prop
 | .non,u=>u=Value.none
 | .bl b,u=>u=Value.bool b
 | .int i,u=>∃t,u=Value.int i t
 | .str x,u=>∃t,u=Value.str x t
 | .byt b,u=>∃t,u=Value.bytes b t
 | .flt b,u=>∃t,u=Value.float b t
 | .ref a,u=>u=Value.ref a
 | .ty n,u=>u=Value.type n

abbrev Vals:List V→List Value→Prop:=Paired RelV
theorem Vals.length {xs:List V}{us:List Value}(r:Vals xs us):xs.length=us.length:=Paired.length r
theorem Vals.get:∀{xs:List V} {us:List Value} {i:Nat} {x:V},Vals xs us→xs[i]? = some x→∃u,us[i]? = some u∧RelV x u
 | _,_,_,_,.nil,e=>by simp at e
 | _,_,0,_,.cons r _,e=>by simp at e;subst e;exact⟨_,rfl,r⟩
 | _,_,i+1,x,.cons _ t,e=>by
  obtain⟨u,h1,h2⟩:=Vals.get (i:=i) (x:=x) t (by simpa using e)
  exact⟨u,by simpa using h1,h2⟩
theorem Vals.set {x:V}{u:Value}(r:RelV x u):∀{xs:List V} {us:List Value} (i:Nat),Vals xs us→Vals (xs.set i x) (us.set i u)
 | _,_,_,.nil=>.nil
 | _,_,0,.cons _ t=>.cons r t
 | _,_,i+1,.cons q t=>.cons q (Vals.set r i t)
theorem Vals.append:∀{xs ys:List V} {us ws:List Value},Vals xs us→Vals ys ws→Vals (xs++ys) (us++ws)
 | _,_,_,_,.nil,s=>s
 | _,_,_,_,.cons r t,s=>.cons r (Vals.append t s)
theorem Vals.take:∀{xs:List V} {us:List Value} (n:Nat),Vals xs us→Vals (xs.take n) (us.take n)
 | _,_,0,_=>.nil
 | _,_,_+1,.nil=>.nil
 | _,_,n+1,.cons r t=>.cons r (Vals.take n t)
theorem Vals.drop:∀{xs:List V} {us:List Value} (n:Nat),Vals xs us→Vals (xs.drop n) (us.drop n)
 | _,_,0,r=>r
 | _,_,_+1,.nil=>.nil
 | _,_,n+1,.cons _ t=>Vals.drop n t
def RelO:Option V→Option Value→Prop
 | some v,some u=>RelV v u
 | none,none=>True
 | _,_=>False
def KV {κ:Type}:List (κ×V)→List (κ×Value)→Prop:=Paired fun(p:κ×V) (q:κ×Value)=>p.1=q.1∧RelV p.2 q.2

def kV:Key→V
 | .inl i=>.int i
 | .inr x=>.str x

inductive HO where
 /-- a list -/
 | lst (xs:List V)
 /-- a tuple (never changes) -/
 | tup (xs:List V)
 /-- a dict whose keys are ints and texts; one whose keys are tuples of ints and texts (the empty one is both) -/
 | dK (kvs:List (Key×V)) | dT (kvs:List (List Key×V))
 /-- a set of ints: its members, its size -/
 | set (S:Int→Bool) (n:Nat)
 /-- an instance of the class at C, its dict at dx, its attributes -/
 | ins (C dx:Addr) (fs:List (Str×V))
 /-- the dict of the instance at x -/
 | own (x:Addr)
 /-- the dict of an exception -/
 | xd (fs:List (Str×V))
 /-- a bound method, f of x -/
 | met (f x:Addr)
 /-- a range object lo, lo + 1, .. below hi -/
 | rng (lo hi:Int)
 /-- a thing that is known to the object (the script; a dict while a loop walks it): read, never written while it is so -/
 | frz (o:Obj) (u:HO)
 /-- a code object's table -/
 | tbl (ps:Array Value)
 /-- any other thing, by what is true of its one object (a def of one's own: SetO a S n := HO.ext fun h => ..) -/
 | ext (φ:Heap→Prop)

abbrev Hp:=Addr→Option HO
def upd (H:Hp)(a:Addr)(o:HO):Hp:=fun b=>if b=a then some o else H b
theorem qW {H:Hp}{a:Addr}{o:HO}:upd H a o a=some o:=by unfold upd;rw[if_pos rfl]
theorem qA {H:Hp}{a b:Addr}{o:HO}(h:b≠a):upd H a o b=H b:=by unfold upd;rw[if_neg h]
theorem xQn {H:Hp}{a:Addr}{o u:HO}:upd (upd H a o) a u=upd H a u:=by
 funext b;unfold upd;split <;> rfl
theorem xT {H:Hp}{a b:Addr}{o u:HO}(h:H a=some o)(h':H b=some u)(d:o≠u):a≠b:=by
 intro e;subst e;rw[h] at h';exact d (Option.some.inj h')
theorem qB {H:Hp}{a b:Addr}{o:HO}(h:H a=some o)(h':H b=none):a≠b:=by
 intro e;subst e;rw[h] at h';cases h'

def TupX (h:Heap)(a:Addr)(its:Array Value):Prop:=∃o,h.get? a=some o∧o.cls=.type "tuple" ∧ ∃n,o.data=.seq its n∧o.dict=none
theorem TupX.tup {h:Heap}{a:Addr}{its:Array Value}(x:TupX h a its):IsTup h a its:=let ⟨o,e,c,n,d,_⟩:=x;⟨o,e,c,n,d⟩
theorem TupX.lt {h:Heap}{a:Addr}{its:Array Value}(x:TupX h a its):a<h.objs.size:=x.tup.lt
theorem TupX.new (h:Heap)(its:Array Value):TupX (h.push { cls:=.type "tuple",data:=.seq its }) h.objs.size its:=⟨_,yZA _ rfl,rfl,_,rfl,rfl⟩
section
variable (P:Program)(w:World)
def ObjOk (H:Hp)(h:Heap)(a:Addr):HO→Prop
 | .lst xs=>xs.length≤sizeLine∧∃(its:List Value) (n:Nat),Vals xs its∧h.get? a=some { cls:=.type "list",data:=.seq its.toArray n }
 | .tup xs=>xs.length≤sizeLine∧∃its:List Value,Vals xs its∧TupX h a its.toArray
 | .dK kvs=>kvs.length≤sizeLine∧(a == sysModules)=false∧∃vs,KV kvs vs∧h.DictOf (xN P w) a vs
 | .dT kvs=>kvs.length≤sizeLine∧(a == sysModules)=false∧∃xs:List (List Key×Addr×Value),
   Paired (fun(p:List Key×V) (q:List Key×Addr×Value)=>p.1=q.1∧H q.2.1=some (.tup (p.1.map kV))∧RelV p.2 q.2.2) kvs xs∧
   ∃o es ep,h.get? a=some o∧o.ExactDict∧o.data=.dict es ep∧es.toList=xs.map (entryOfKey (tupleKind (xN P w)))∧(xs.map (·.1)).Nodup
 | .set S n=>h.SetOf (intKind P w) a S n
 | .ins C dx fs=>H dx=some (.own a)∧fs.length≤1000∧dx≠a∧h.get? a=some (PySem.W.instObj C dx)∧
   ∃mA,h.Ns1 dx mA∧(∀f,RelO (fs.lookup f) (mA f))∧PySem.Within mA (fs.map (·.1))
 | .own _=>∃o,h.get? a=some o
 | .xd fs=>∃mA,h.Ns1 a mA∧∀f,RelO (fs.lookup f) (mA f)
 | .rng lo hi=>∃t u v,h.get? a=some { cls:=.type "range",data:=.fields #[.int lo t,.int hi u,.int 1 v] }
 | .frz o u=>h.get? a=some o∧ObjOk H h a u
 | .tbl ps=>h.get? a=some { cls:=.none,data:=.fields ps }
 | .met f x=>h.get? a=some (PySem.W.methodObj (.ref f) (.ref x))
 | .ext φ=>φ h∧(∃o,h.get? a=some o)∧∀h1 h2:Heap,φ h1→(∀o,h1.get? a=some o→h2.get? a=some o)→φ h2
def HOk (H:Hp)(h:Heap):Prop:=∀a o,H a=some o→ObjOk P w H h a o
end

section
variable {P:Program}{w:World}{H H':Hp}{h h':Heap}{a:Addr}{o:HO}
theorem ObjOk.lt (x:ObjOk P w H h a o):a<h.objs.size:=by
 cases o with
 | lst xs=>obtain⟨_,_,_,_,e⟩:=x;exact yYZ e
 | tup xs=>obtain⟨_,_,_,p⟩:=x;exact p.lt
 | dK kvs=>obtain⟨_,_,_,_,o,_,_,e,_⟩:=x;exact yYZ e
 | dT kvs=>obtain⟨_,_,_,_,o,_,_,e,_⟩:=x;exact yYZ e
 | set S n=>obtain⟨o,_,_,_,e,_⟩:=x;exact yYZ e
 | ins C dx fs=>obtain⟨_,_,_,e,_⟩:=x;exact yYZ e
 | own y=>obtain⟨_,e⟩:=x;exact yYZ e
 | xd fs=>obtain⟨_,⟨_,_,_,e,_⟩,_⟩:=x;exact yYZ e
 | rng lo hi=>obtain⟨_,_,_,e⟩:=x;exact yYZ e
 | frz ob u=>obtain⟨e,_⟩:=x;exact yYZ e
 | tbl ps=>exact yYZ (show h.get? a=some _ from x)
 | met f y=>exact yYZ (show h.get? a=some _ from x)
 | ext φ=>obtain⟨_,⟨_,e⟩,_⟩:=x;exact yYZ e
theorem Paired.mapP {α β:Type}{F G:α→β→Prop}:∀{l₁:List α} {l₂:List β},Paired F l₁ l₂→(∀a b,F a b→G a b)→Paired G l₁ l₂
 | _,_,.nil,_=>.nil
 | _,_,.cons r t,f=>.cons (f _ _ r) (Paired.mapP t f)
theorem ObjOk.stay (x:ObjOk P w H h a o)(k:∀b u,(b=a∨H b=some (.own a))→h.get? b=some u→h'.get? b=some u)
  (ho:∀b,H b=some (.own a)→H' b=some (.own a)) (ht:∀b xs,H b=some (.tup xs)→H' b=some (.tup xs)):ObjOk P w H' h' a o:=by
 induction o with
 | lst xs=>obtain⟨z,its,n,r,e⟩:=x;exact⟨z,its,n,r,k _ _ (.inl rfl) e⟩
 | tup xs=>obtain⟨z,its,r,ob,e,c⟩:=x;exact⟨z,its,r,ob,k _ _ (.inl rfl) e,c⟩
 | dK kvs=>obtain⟨z,y,vs,r,ob,es,ep,e,c⟩:=x;exact⟨z,y,vs,r,ob,es,ep,k _ _ (.inl rfl) e,c⟩
 | dT kvs=>
  obtain⟨z,y,xs,r,ob,es,ep,e,c⟩:=x
  exact⟨z,y,xs,Paired.mapP r fun p q z=>⟨z.1,ht _ _ z.2.1,z.2.2⟩,ob,es,ep,k _ _ (.inl rfl) e,c⟩
 | set S n=>obtain⟨ob,es,ep,t,e,c⟩:=x;exact⟨ob,es,ep,t,k _ _ (.inl rfl) e,c⟩
 | ins C dx fs=>
  obtain⟨d,z,ne,e,mA,⟨od,es,ep,e2,c⟩,r⟩:=x
  exact⟨ho _ d,z,ne,k _ _ (.inl rfl) e,mA,⟨od,es,ep,k _ _ (.inr d) e2,c⟩,r⟩
 | own y=>obtain⟨ob,e⟩:=x;exact⟨ob,k _ _ (.inl rfl) e⟩
 | xd fs=>obtain⟨mA,⟨od,es,ep,e,c⟩,r⟩:=x;exact⟨mA,⟨od,es,ep,k _ _ (.inl rfl) e,c⟩,r⟩
 | rng lo hi=>obtain⟨t,u,v,e⟩:=x;exact⟨t,u,v,k _ _ (.inl rfl) e⟩
 | frz ob u ih=>obtain⟨e,q⟩:=x;exact⟨k _ _ (.inl rfl) e,ih q⟩
 | tbl ps=>
  have e:h.get? a=some { cls:=.none,data:=.fields ps }:=x
  show h'.get? a=some { cls:=.none,data:=.fields ps }
  exact k a _ (.inl rfl) e
 | met f y=>
  have e:h.get? a=some (PySem.W.methodObj (.ref f) (.ref y)):=x
  show h'.get? a=some (PySem.W.methodObj (.ref f) (.ref y))
  exact k a _ (.inl rfl) e
 | ext φ=>obtain⟨p,⟨o,e⟩,st⟩:=x;exact⟨st _ _ p fun o q=>k _ _ (.inl rfl) q,⟨o,k _ _ (.inl rfl) e⟩,st⟩
theorem HOk.lt (x:HOk P w H h)(e:H a=some o):a<h.objs.size:=(x a o e).lt
theorem HOk.fresh (x:HOk P w H h)(e:h.objs.size≤a):H a=none:=by
 cases q:H a with
 | none=>rfl
 | some u=>exact absurd (yZD (x.lt q) e) (Nat.lt_irrefl _)
theorem HOk.kept (x:HOk P w H h)(k:∀b u,h.get? b=some u→h'.get? b=some u):HOk P w H h':=fun a o e=>
 (x a o e).stay (fun b u _ q=>k b u q) (fun _ q=>q) fun _ _ q=>q
theorem HOk.laid (x:HOk P w H h)(k:∀b u,h.get? b=some u→h'.get? b=some u)(hp:h.objs.size≤a)(new:ObjOk P w (upd H a o) h' a o):HOk P w (upd H a o) h':=fun b u e=>by
 have hn:=x.fresh hp
 by_cases hb:b=a
 ·subst hb;rw[qW] at e;cases e;exact new
 ·rw[qA hb] at e
  exact(x b u e).stay (fun c v _ q=>k c v q) (fun c q=>by rw[qA (qB q hn)];exact q) fun c xs q=>by rw[qA (qB q hn)];exact q
end

def Rd (H:Hp)(a:Addr)(u:HO):Prop:=H a=some u∨∃o,H a=some (.frz o u)
theorem Rd.ok {P:Program}{w:World}{H:Hp}{h:Heap}{a:Addr}{u:HO}(r:Rd H a u)(x:HOk P w H h):ObjOk P w H h a u:=by
 rcases r with r | ⟨o,r⟩
 ·exact x a u r
 ·obtain⟨_,q⟩:=x a _ r
  exact q
def Mut:Option HO→Prop
 | some (.lst _)=>True
 | some (.dK _)=>True
 | some (.dT _)=>True
 | some (.set _ _)=>True
 | some (.ins _ _ _)=>True
 | some (.ext _)=>True
 | _=>False
section
variable {P:Program}{w:World}{H:Hp}{h h':Heap}{x e:Addr}{o':HO}
theorem HOk.write (ok:HOk P w H h)(mu:Mut (H x))(he:e=x∨H e=some (.own x))(k:∀b u,b≠e→h.get? b=some u→h'.get? b=some u)(heo:∃u,h'.get? e=some u)
  (new:ObjOk P w (upd H x o') h' x o'):HOk P w (upd H x o') h':=fun b u q=>by
 have nown:∀c y,H c=some (.own y)→c≠x:=fun c y r z=>by subst z;rw[r] at mu;exact mu
 have ntup:∀c xs,H c=some (.tup xs)→c≠x:=fun c xs r z=>by subst z;rw[r] at mu;exact mu
 by_cases hb:b=x
 ·subst hb;rw[qW] at q;cases q;exact new
 ·rw[qA hb] at q
  by_cases hbe:b=e
  ·have q':H b=some (.own x):=by
    rcases he with z | z
    ·exact absurd (hbe.trans z) hb
    ·rw[hbe];exact z
   rw[q] at q';cases q'
   obtain⟨v,hv⟩:=heo
   exact⟨v,by rw[hbe];exact hv⟩
  ·refine(ok b u q).stay (fun c v hc r=>k c v ?_ r) (fun c r=>by rw[qA (nown c b r)];exact r) fun c xs r=>by rw[qA (ntup c xs r)];exact r
   rcases hc with rfl | hc
   ·exact hbe
   ·rintro rfl
    rcases he with z | z
    ·exact nown c b hc z
    ·rw[hc] at z;cases z;exact hb rfl
end

structure Un (fs ex:List Addr)(H H':Hp)(h h':Heap):Prop where
 keep:∀b o,h.get? b=some o→H b=none→b∉fs→b∉ex→h'.get? b=some o
 slot:∀b o,h.get? b=some o→H b=none→b∈fs→b∉ex→∃sl,h'.get? b=some { o with slots:=sl }
 free:∀b o,h.get? b=some o→H b=none→b∉ex→H' b=none
 there:∀b o,h.get? b=some o→b∉ex→∃o',h'.get? b=some o'
 tups:∀b xs,H b=some (.tup xs)→H' b=some (.tup xs)
 frzs:∀b o u,H b=some (.frz o u)→H' b=some (.frz o u)
 tbls:∀b ps,H b=some (.tbl ps)→∃more,H' b=some (.tbl (ps++more))
section
variable {fs fs' ex ex':List Addr}{H H1 H2:Hp}{h h1 h2 h':Heap}{a x e:Addr}{o:HO}
theorem Un.any (u:Un fs ex H H1 h h1){b:Addr}{ob:Obj}(q:h.get? b=some ob)(n:H b=none)(hx:b∉ex):∃sl,h1.get? b=some { ob with slots:=sl }:=by
 by_cases hb:b∈fs
 ·exact u.slot b ob q n hb hx
 ·exact⟨ob.slots,u.keep b ob q n hb hx⟩
theorem Un.trans (a:Un fs ex H H1 h h1)(b:Un fs ex H1 H2 h1 h2):Un fs ex H H2 h h2 where
 keep:=fun c ob q n hc hx=>b.keep c ob (a.keep c ob q n hc hx) (a.free c ob q n hx) hc hx
 slot:=fun c ob q n hc hx=>by
  obtain⟨sl,e1⟩:=a.slot c ob q n hc hx
  obtain⟨sl',e2⟩:=b.slot c _ e1 (a.free c ob q n hx) hc hx
  exact⟨sl',e2⟩
 free:=fun c ob q n hx=>by
  obtain⟨o',e1⟩:=a.there c ob q hx
  exact b.free c o' e1 (a.free c ob q n hx) hx
 there:=fun c ob q hx=>by
  obtain⟨o',e1⟩:=a.there c ob q hx
  exact b.there c o' e1 hx
 tups:=fun c xs q=>b.tups c xs (a.tups c xs q)
 frzs:=fun c ob xs q=>b.frzs c ob xs (a.frzs c ob xs q)
 tbls:=fun c ps q=>by
  obtain⟨m1,e1⟩:=a.tbls c ps q
  obtain⟨m2,e2⟩:=b.tbls c _ e1
  exact⟨m1++m2,by rw[e2,Array.append_assoc]⟩
theorem Un.kept (k:∀b u,h.get? b=some u→h'.get? b=some u):Un fs ex H H h h':=
 ⟨fun b ob q _ _ _=>k b ob q,fun b ob q _ _ _=>⟨ob.slots,k b ob q⟩,fun _ _ _ n _=>n,fun b ob q _=>⟨ob,k b ob q⟩,fun _ _ q=>q,fun _ _ _ q=>q,fun _ ps q=>⟨#[],by rw[q];simp⟩⟩
theorem Un.refl:Un fs ex H H h h:=Un.kept fun _ _ q=>q
theorem Un.laid (k:∀b u,h.get? b=some u→h'.get? b=some u)(hp:h.objs.size≤a)(hn:H a=none):Un fs ex H (upd H a o) h h' where
 keep:=fun b u q _ _ _=>k b u q
 slot:=fun b u q _ _ _=>⟨u.slots,k b u q⟩
 free:=fun b u q n _=>by rw[qA (yZE (yZD (yYZ q) hp))];exact n
 there:=fun b u q _=>⟨u,k b u q⟩
 tups:=fun b xs q=>by rw[qA (qB q hn)];exact q
 frzs:=fun b u xs q=>by rw[qA (qB q hn)];exact q
 tbls:=fun b ps q=>⟨#[],by rw[qA (qB q hn),q];simp⟩
theorem Un.write (mu:Mut (H x))(he:e=x∨H e=some (.own x))(k:∀b u,b≠e→h.get? b=some u→h'.get? b=some u)(heo:∃u,h'.get? e=some u):Un fs ex H (upd H x o) h h':=by
 have hx:∀b,H b=none→b≠x:=fun b n z=>by subst z;rw[n] at mu;exact mu
 have hb:∀b,H b=none→b≠e:=fun b n z=>by
  subst z
  rcases he with r | r
  ·exact hx b n r
  ·rw[n] at r;cases r
 have hm:∀b u,H b=some u→¬Mut (some u)→b≠x:=fun b u q nm z=>by subst z;rw[q] at mu;exact nm mu
 refine⟨fun b u q n _ _=>k b u (hb b n) q,fun b u q n _ _=>⟨u.slots,k b u (hb b n) q⟩,fun b u q n _=>by rw[qA (hx b n)];exact n,fun b u q _=>?_,
  fun b xs q=>by rw[qA (hm b _ q fun z=>z)];exact q,fun b u xs q=>by rw[qA (hm b _ q fun z=>z)];exact q,fun b ps q=>⟨#[],by rw[qA (hm b _ q fun z=>z),q];simp⟩⟩
 by_cases hbe:b=e
 ·subst hbe;exact heo
 ·exact⟨u,k b u hbe q⟩
end

def trk (h:Heap)(H:Hp):List Addr:=(List.range h.objs.size).filter fun a=>(H a).isSome
def hidT (h:Heap)(H:Hp):Heap:=PySem.W.hideAll h (trk h H)
theorem qMl (h:Heap)(H:Hp):(hidT h H).objs.size=h.objs.size:=PySem.W.hideAll_size _ _
theorem qTx {h:Heap}{H:Hp}{b:Addr}{o:Obj}(e:h.get? b=some o)(n:H b=none):(hidT h H).get? b=some o:=
 PySem.W.hideAll_get _ e fun hm=>by
  have q:(H b).isSome=true:=(yYQ.mp hm).2
  rw[n] at q;simp at q
theorem xZv {h:Heap}{H:Hp}{b:Addr}{o:Obj}(e:(hidT h H).get? b=some o):h.get? b=some o∧H b=none:=by
 have e':h.get? b=some o:=PySem.W.of_hideAll (trk h H) e
 refine⟨e',?_⟩
 cases q:H b with
 | none=>rfl
 | some x=>
  have hm:b∈trk h H:=yYQ.mpr ⟨List.mem_range.mpr (yYZ e'),by simp[q]⟩
  have z:(hidT h H).get? b=none:=PySem.W.hideAll_none (trk h H) hm
  rw[z] at e;cases e

end L2

namespace L2
open PySem PySem.Spec PyProof.Rows

structure Mod (K:yZO)(mg:Str→Option Value)(base:Heap):Prop where
 kin:K.In base
 glob:base.Ns mainGlobals mg
 blt:∃mb,base.Ns builtinsNs mb∧∀x:Str,x ≠ "__name__" → mb x=bootBuiltins x
 nolimit:base.NoLimit

/-- the context: a def's body (or a comprehension's block) running. base: fixed through the whole law; s₀, H₀: the entry; outer: the frames whose slots others may change (a def's callers); stack: all frames that run;
   ex: iterators that were made ahead of the entry and are walked here (a comprehension's); fn: the names whose cells were made at the entry (a def: all; a comprehension's block: its own); calm: not within an except suite; pn: pins that every state bears; xe: what is wanted of an exception that leaves the code -/
structure Cx where
 prog:Program
 w:World
 K:yZO
 mg:Str→Option Value
 base:Heap
 A:Around
 N:List Str
 s₀:Shared
 H₀:Hp
 env:Env
 outer:List Env
 stack:List Env
 ex:List Addr
 fn:Str→Bool
 calm:Bool
 pn:List (Addr×Obj)
 xe:Value→Shared→Prop
def frs (l:List Env):List Addr:=l.filterMap (·.frame)
abbrev Cx.fs (X:Cx):List Addr:=frs X.outer

def Vis (sc:Scope)(x:Str):Prop:=sc.names.lookup x=some .local∨sc.names.lookup x=some .cell∨sc.names.lookup x=some .free
def Loc (sc:Scope)(x:Str):Prop:=sc.names.lookup x=some .local∨sc.names.lookup x=some .cell
def Look (env:Env)(h:Heap)(m:Str→Option Value)(x:Str)(u:Value):Prop:=
 (env.kindOf x=some .local∧m x=some u)∨((env.kindOf x=some .cell∨env.kindOf x=some .free)∧∃c,env.cells.lookup x=some c∧h.IsCell c (some u))

structure Cx.Ok (X:Cx):Prop where
 mod:Mod X.K X.mg X.base
 kind:X.env.scope.kind=.function
 glob:X.env.globals=mainGlobals
 blt:X.env.builtins=builtinsNs
 above:X.s₀.heap.objs.size≤X.env.locals
 inj:∀x y c,X.env.cells.lookup x=some c→X.env.cells.lookup y=some c→x=y
 has:∀x,(X.env.kindOf x=some .cell∨X.env.kindOf x=some .free)→∃c,X.env.cells.lookup x=some c
 cab:∀x c,X.fn x=true→X.env.cells.lookup x=some c→X.s₀.heap.objs.size≤c
 hd:X.calm=true→X.A.handled=none
 frames:X.A.frames=some X.stack
 stk:X.stack=X.outer∨(X.stack=X.env::X.outer∧X.env.frame=some X.env.locals)
 exf:∀b∈X.ex,b≠X.env.locals∧∀x c,X.env.cells.lookup x=some c→c≠b
 bs:∀b o,X.base.get? b=some o→X.s₀.heap.get? b=some o∧X.H₀ b=none
 bsz:X.base.objs.size≤X.s₀.heap.objs.size
 noex:∀b o,X.base.get? b=some o→b∉X.ex
 exfs:∀b∈X.ex,b∉X.fs
 funs:X.s₀.heap.FunFrames X.base X.outer
 frf:∀b∈X.fs,X.H₀ b=none

structure Inv (X:Cx)(pins:List (Addr×Obj))(σ:List (Option V))(H:Hp)(s:Shared):Prop where
 ok:X.Ok
 os:s.os=X.s₀.os
 bare:AllBare s.gens
 base:Un X.fs X.ex X.H₀ H X.s₀.heap s.heap
 loc:∃m,s.heap.Ns X.env.locals m∧∀(i:Nat) (x:Str) (v:V),X.N[i]? = some x→σ[i]? = some (some v)→Vis X.env.scope x→∃u,RelV v u∧Look X.env s.heap m x u
 cell:∀x c,X.env.cells.lookup x=some c→∃v,s.heap.IsCell c v
 free:H X.env.locals=none
 freeC:∀x c,X.env.cells.lookup x=some c→H c=none
 pin:∀p∈X.pn++pins,s.heap.get? p.1=some p.2∧H p.1=none∧p.1≠X.env.locals∧p.1∉X.fs∧∀v,p.2.data≠.cell v
 hok:HOk X.prog X.w H s.heap
 len:σ.length=X.N.length

section
variable {X:Cx}{pins:List (Addr×Obj)}{σ:List (Option V)}{H H':Hp}{s:Shared}{h':Heap}

theorem Cx.Ok.nofr (ok:X.Ok){b:Addr}{o:Obj}(e:X.base.get? b=some o):b∉X.fs:=fun hb=>by
 have:=(ok.funs.mem hb).1
 rw[e] at this;cases this
theorem Inv.bs (I:Inv X pins σ H s):∀b o,X.base.get? b=some o→s.heap.get? b=some o∧H b=none:=fun b o e=>
 ⟨I.base.keep b o (I.ok.bs b o e).1 (I.ok.bs b o e).2 (I.ok.nofr e) (I.ok.noex b o e),I.base.free b o (I.ok.bs b o e).1 (I.ok.bs b o e).2 (I.ok.noex b o e)⟩
theorem Inv.bk (I:Inv X pins σ H s):∀b o,X.base.get? b=some o→s.heap.get? b=some o:=fun b o e=>(I.bs b o e).1
theorem Inv.mod (I:Inv X pins σ H s):Mod X.K X.mg X.base:=I.ok.mod
theorem Inv.kIn (I:Inv X pins σ H s):X.K.In s.heap:=I.ok.mod.kin.keeps I.bk
theorem Inv.lt (I:Inv X pins σ H s):X.env.locals<s.heap.objs.size:=let ⟨_,hn,_⟩:=I.loc;hn.lt
theorem Inv.sz (I:Inv X pins σ H s):X.s₀.heap.objs.size≤s.heap.objs.size:=yZI I.ok.above (Nat.le_of_lt I.lt)
theorem Inv.nofs (I:Inv X pins σ H s){a:Addr}(h:s.heap.objs.size≤a):a∉X.fs:=fun hb=>by
 obtain⟨_,o,ho,_⟩:=I.ok.funs.mem hb
 exact absurd (yZD (yYZ ho) (yZI I.sz h)) (Nat.lt_irrefl _)
theorem Inv.cne (I:Inv X pins σ H s):∀x c,X.env.cells.lookup x=some c→c≠X.env.locals:=fun x c e z=>by
 obtain⟨v,o,ho,hd⟩:=I.cell x c e
 obtain⟨m,⟨o',es,ep,ho',hd',_⟩,_⟩:=I.loc
 rw[z,ho'] at ho;cases ho;rw[hd'] at hd;cases hd
theorem Inv.funs (I:Inv X pins σ H s):s.heap.FunFrames X.base X.outer:=by
 have all:∀(l:List Env),(∀b∈frs l,b∈X.fs)→X.s₀.heap.FunFrames X.base l→s.heap.FunFrames X.base l:=by
  intro l
  induction l with
  | nil=>intro _ _;trivial
  | cons env r ih=>
   intro hs hl
   obtain⟨hk,⟨L,o,hf,hn,ho,hd⟩,hr⟩:=hl
   have hL:L∈X.fs:=hs L (by unfold frs;rw[List.filterMap_cons,hf];exact yYG)
   obtain⟨sl,e⟩:=I.base.slot L o ho (I.ok.frf L hL) hL fun z=>I.ok.exfs L z hL
   exact⟨hk,⟨L,_,hf,hn,e,hd⟩,ih (fun b hb=>hs b (by unfold frs;rw[List.filterMap_cons,hf];exact yYH _ hb)) hr⟩
 exact all X.outer (fun _ hb=>hb) I.ok.funs

theorem Inv.stack (I:Inv X pins σ H s):s.heap.FunFrames X.base X.stack:=by
 rcases I.ok.stk with e | ⟨e,hf⟩
 ·rw[e];exact I.funs
 ·rw[e]
  obtain⟨m,hn,_⟩:=I.loc
  refine .cons (by rw[I.ok.kind];decide) hf hn ?_ I.funs
  exact Heap.get?_none_of_le (yZI I.ok.bsz I.ok.above)
theorem Inv.stkSub (I:Inv X pins σ H s):∀b∈frs X.stack,b∈X.env.locals::X.fs:=fun b hb=>by
 rcases I.ok.stk with e | ⟨e,hf⟩
 ·rw[e] at hb;exact yYH _ hb
 ·rw[e] at hb
  unfold frs at hb
  rw[List.filterMap_cons,hf] at hb
  exact hb
theorem Inv.stkFree (I:Inv X pins σ H s):∀b∈frs X.stack,H b=none:=fun b hb=>by
 rcases yYK.mp (I.stkSub b hb) with e | hb
 ·rw[e];exact I.free
 ·obtain⟨_,o,ho,_⟩:=I.ok.funs.mem hb
  exact I.base.free b o ho (I.ok.frf b hb) fun z=>I.ok.exfs b z hb

theorem Inv.step {g':Array GenState}{t':Nat}{d':Drawn}{ch:List Addr}(I:Inv X pins σ H s)
  (hch:∀b∈ch,(b∈X.ex∨X.s₀.heap.objs.size≤b)∧b≠X.env.locals∧(∀x c,X.env.cells.lookup x=some c→c≠b)∧∀p∈X.pn++pins,p.1≠b)
  (keep:∀b o,b≠X.env.locals→b∉X.fs→b∉ch→s.heap.get? b=some o→H b=none→h'.get? b=some o)
  (slot:∀b o,b≠X.env.locals→b∈X.fs→b∉ch→s.heap.get? b=some o→H b=none→∃sl,h'.get? b=some { o with slots:=sl }) (free:∀b o,b∉ch→s.heap.get? b=some o→H b=none→H' b=none)
  (there:∀b o,b∉ch→s.heap.get? b=some o→∃o',h'.get? b=some o')
  (tups:∀b xs,H b=some (.tup xs)→H' b=some (.tup xs)) (frzs:∀b o u,H b=some (.frz o u)→H' b=some (.frz o u)) (tbls:∀b ps,H b=some (.tbl ps)→∃more,H' b=some (.tbl (ps++more)))
  (ns:∀m,s.heap.Ns X.env.locals m→h'.Ns X.env.locals m) (hok:HOk X.prog X.w H' h') (hg:AllBare g'):
  Inv X pins σ H' { s with heap:=h',gens:=g',drawn:=d',toks:=t' }:=by
 have neL:∀b o,X.s₀.heap.get? b=some o→b≠X.env.locals:=fun b o e=>yZE (yZD (yYZ e) I.ok.above)
 have neC:∀b o,X.s₀.heap.get? b=some o→b∉X.ex→b∉ch:=fun b o e hx hb=>by
  rcases(hch b hb).1 with z | z
  ·exact hx z
  ·exact absurd (yZD (yYZ e) z) (Nat.lt_irrefl _)
 have cellK:∀x c,X.env.cells.lookup x=some c→∀v,s.heap.IsCell c v→h'.IsCell c v:=fun x c e v ⟨o,ho,hd⟩=>by
  have nch:c∉ch:=fun z=>(hch c z).2.2.1 x c e rfl
  by_cases hc:c∈X.fs
  ·obtain⟨sl,q⟩:=slot c o (I.cne x c e) hc nch ho (I.freeC x c e)
   exact⟨_,q,hd⟩
  ·exact⟨o,keep c o (I.cne x c e) hc nch ho (I.freeC x c e),hd⟩
 refine⟨I.ok,I.os,hg,⟨fun b o e n hb hx=>?_,fun b o e n hb hx=>?_,fun b o e n hx=>?_,fun b o e hx=>?_,fun b xs e=>tups b xs (I.base.tups b xs e),fun b o xs e=>frzs b o xs (I.base.frzs b o xs e),fun b ps e=>?_⟩,?_,fun x c e=>?_,?_,fun x c e=>?_,fun p hp=>?_,hok,I.len⟩
 ·exact keep b o (neL b o e) hb (neC b o e hx) (I.base.keep b o e n hb hx) (I.base.free b o e n hx)
 ·obtain⟨sl,e1⟩:=I.base.slot b o e n hb hx
  obtain⟨sl',e2⟩:=slot b _ (neL b o e) hb (neC b o e hx) e1 (I.base.free b o e n hx)
  exact⟨sl',e2⟩
 ·obtain⟨o',e1⟩:=I.base.there b o e hx
  exact free b o' (neC b o e hx) e1 (I.base.free b o e n hx)
 ·obtain⟨o',e1⟩:=I.base.there b o e hx
  exact there b o' (neC b o e hx) e1
 ·obtain⟨m1,e1⟩:=I.base.tbls b ps e
  obtain⟨m2,e2⟩:=tbls b _ e1
  exact⟨m1++m2,by rw[e2,Array.append_assoc]⟩
 ·obtain⟨m,hn,hl⟩:=I.loc
  refine⟨m,ns m hn,fun i x v e1 e2 e3=>?_⟩
  obtain⟨u,r,l⟩:=hl i x v e1 e2 e3
  refine⟨u,r,?_⟩
  rcases l with l | ⟨k,c,e,z⟩
  ·exact .inl l
  ·exact .inr ⟨k,c,e,cellK x c e _ z⟩
 ·obtain⟨v,z⟩:=I.cell x c e
  exact⟨v,cellK x c e v z⟩
 ·obtain⟨m,⟨o,_,_,ho,_⟩,_⟩:=I.loc
  exact free _ o (fun z=>(hch _ z).2.1 rfl) ho I.free
 ·obtain⟨v,o,ho,hd⟩:=I.cell x c e
  exact free c o (fun z=>(hch c z).2.2.1 x c e rfl) ho (I.freeC x c e)
 ·obtain⟨e,n,ne,nf,d⟩:=I.pin p hp
  have nch:p.1∉ch:=fun z=>(hch p.1 z).2.2.2 p hp rfl
  exact⟨keep p.1 p.2 ne nf nch e n,free p.1 p.2 nch e n,ne,nf,d⟩
theorem Inv.un {t':Nat}(I:Inv X pins σ H s)(u:Un X.fs [] H H' s.heap h')(hok:HOk X.prog X.w H' h'):Inv X pins σ H' { s with heap:=h',toks:=t' }:=by
 obtain⟨m,⟨o,es,ep,ho,r⟩,_⟩:=id I.loc
 obtain⟨sl,hL⟩:=u.any ho I.free (by simp)
 exact I.step (g':=s.gens) (d':=s.drawn) (ch:=[]) (fun _ z=>nomatch z) (fun b o _ hb _ e n=>u.keep b o e n hb (by simp)) (fun b o _ hb _ e n=>u.slot b o e n hb (by simp)) (fun b o _ e n=>u.free b o e n (by simp)) (fun b o _ e=>u.there b o e (by simp)) u.tups u.frzs u.tbls (fun m' hm=>by
  obtain⟨o',es',ep',ho',r'⟩:=hm
  rw[ho] at ho';cases ho'
  exact⟨_,es',ep',hL,r'⟩) hok I.bare
theorem Inv.call {g':Array GenState}{t':Nat}{d':Drawn}{ch:List Addr}(I:Inv X pins σ H s)(u:Un (frs X.stack) ch H H' s.heap h')(hok:HOk X.prog X.w H' h')(hg:AllBare g')
  (hch:∀b∈ch,(b∈X.ex∨X.s₀.heap.objs.size≤b)∧b≠X.env.locals∧(∀x c,X.env.cells.lookup x=some c→c≠b)∧∀p∈X.pn++pins,p.1≠b):
  Inv X pins σ H' { s with heap:=h',gens:=g',drawn:=d',toks:=t' }:=by
 obtain⟨m,⟨o,es,ep,ho,r⟩,_⟩:=id I.loc
 obtain⟨sl,hL⟩:=u.any ho I.free fun z=>(hch _ z).2.1 rfl
 exact I.step (ch:=ch) hch (fun b o hL hb hc e n=>u.keep b o e n (fun z=>(yYK.mp (I.stkSub b z)).elim hL hb) hc) (fun b o _ _ hc e n=>u.any e n hc) (fun b o hc e n=>u.free b o e n hc) (fun b o hc e=>u.there b o e hc) u.tups u.frzs u.tbls (fun m' hm=>by
  obtain⟨o',es',ep',ho',r'⟩:=hm
  rw[ho] at ho';cases ho'
  exact⟨_,es',ep',hL,r'⟩) hok hg
theorem Inv.turned {t':Nat}{it:Addr}(I:Inv X pins σ H s)(k:∀b o,b≠it→s.heap.get? b=some o→h'.get? b=some o)(hn:H it=none)(hL:it≠X.env.locals)
  (h1:it∈X.ex∨X.s₀.heap.objs.size≤it) (h2:∀x c,X.env.cells.lookup x=some c→c≠it) (h3:∀p∈X.pn++pins,p.1≠it):Inv X pins σ H { s with heap:=h',toks:=t' }:=by
 have nit:∀b u,H b=some u→b≠it:=fun b u e z=>by rw[z,hn] at e;cases e
 refine I.step (g':=s.gens) (d':=s.drawn) (ch:=[it]) (fun b hb=>?_) (fun b o _ _ hc e _=>k b o (fun z=>hc (by simp[z])) e) (fun b o _ _ hc e _=>⟨o.slots,k b o (fun z=>hc (by simp[z])) e⟩) (fun _ _ _ _ n=>n)
  (fun b o hc e=>⟨o,k b o (fun z=>hc (by simp[z])) e⟩) (fun _ _ e=>e) (fun _ _ _ e=>e) (fun b ps e=>⟨#[],by rw[e];simp⟩) (fun m hm=>?_) (fun b u e=>?_) I.bare
 ·have e:b=it:=by simpa using hb
  subst e
  exact⟨h1,hL,h2,h3⟩
 ·obtain⟨o,es,ep,ho,r⟩:=hm
  exact⟨o,es,ep,k _ o (Ne.symm hL) ho,r⟩
 ·refine(I.hok b u e).stay (fun c v hc q=>k c v ?_ q) (fun _ q=>q) fun _ _ q=>q
  rcases hc with z | z
  ·rw[z];exact nit b u e
  ·exact nit c _ z
theorem Inv.tok (I:Inv X pins σ H s)(t:Nat):Inv X pins σ H { s with toks:=t }:=I.un (h':=s.heap) (t':=t) Un.refl I.hok
theorem Inv.kept {t':Nat}(I:Inv X pins σ H s)(k:∀b u,s.heap.get? b=some u→h'.get? b=some u):Inv X pins σ H { s with heap:=h',toks:=t' }:=I.un (Un.kept k) (I.hok.kept k)
theorem Inv.laid {a:Addr}{o:HO}{t':Nat}(I:Inv X pins σ H s)(k:∀b u,s.heap.get? b=some u→h'.get? b=some u)(hp:s.heap.objs.size≤a)(new:ObjOk X.prog X.w (upd H a o) h' a o):
  Inv X pins σ (upd H a o) { s with heap:=h',toks:=t' }:=I.un (Un.laid k hp (I.hok.fresh hp)) (I.hok.laid k hp new)
theorem Inv.write {x e:Addr}{o:HO}{t':Nat}(I:Inv X pins σ H s)(mu:Mut (H x))(he:e=x∨H e=some (.own x))(k:∀b u,b≠e→s.heap.get? b=some u→h'.get? b=some u)(heo:∃u,h'.get? e=some u)
  (new:ObjOk X.prog X.w (upd H x o) h' x o):Inv X pins σ (upd H x o) { s with heap:=h',toks:=t' }:=I.un (Un.write mu he k heo) (I.hok.write mu he k heo new)
theorem Inv.weak {σ':List (Option V)}(I:Inv X pins σ H s)(hl:σ'.length=σ.length)(w:∀(i:Nat) v,σ'[i]? = some (some v)→σ[i]? = some (some v)):Inv X pins σ' H s:=
 ⟨I.ok,I.os,I.bare,I.base,let ⟨m,hn,hl'⟩:=I.loc;⟨m,hn,fun i x v e1 e2 e3=>hl' i x v e1 (w i v e2) e3⟩,I.cell,I.free,I.freeC,I.pin,I.hok,hl.trans I.len⟩
theorem Inv.pins_of {pins':List (Addr×Obj)}(I:Inv X pins σ H s)(h:∀p∈pins',s.heap.get? p.1=some p.2∧H p.1=none∧p.1≠X.env.locals∧p.1∉X.fs∧∀v,p.2.data≠.cell v):Inv X pins' σ H s:=
 ⟨I.ok,I.os,I.bare,I.base,I.loc,I.cell,I.free,I.freeC,fun p hp=>(yYR.mp hp).elim (fun z=>I.pin p (List.mem_append_left _ z)) (h p),I.hok,I.len⟩

theorem qDk {N:List Str}(hN:N.Nodup){i j:Nat}{x:Str}(a:N[i]? = some x)(b:N[j]? = some x):i=j:=by
 obtain⟨h1,e1⟩:=yYB.mp a
 obtain⟨h2,e2⟩:=yYB.mp b
 exact(List.getElem_inj hN).mp (e1.trans e2.symm)

theorem qVj {M:Model}{A:Around}{E:Value→Shared→Prop}{i:Nat}{x:Str}{v:V}{u:Value}{Q:Unit→Shared→Prop}(I:Inv X pins σ H s)(hN:X.N.Nodup)(hi:X.N[i]? = some x)(hx:Loc X.env.scope x)(r:RelV v u)
  (h:∀s',Inv X pins (σ.set i (some v)) H s'→(∃a,Heap.SameBut a s.heap s'.heap∧(a=X.env.locals∨X.env.cells.lookup x=some a))→Q () s') (hf:X.fn x=true∨X.env.scope.names.lookup x=some .local:=by first | exact .inl rfl | exact .inr rfl | assumption):wpAny M A (storeName X.env x u) Q E s:=by
 obtain⟨m,hn,hl⟩:=id I.loc
 have hcls:(X.env.scope.kind == .class || (X.env.scope.kind == .module && X.env.locals != X.env.globals))=false:=by rw[I.ok.kind];rfl
 have hiσ:i<σ.length:=by rw[I.len];exact(yYB.mp hi).1
 have cne:=I.cne
 have tracked:∀{a:Addr} {h':Heap},(∃o,s.heap.get? a=some o∧H a=none)→Heap.SameBut a s.heap h'→HOk X.prog X.w H h':=fun{a h'} ha hs b ob e=>by
  obtain⟨_,_,hfree⟩:=ha
  refine(I.hok b ob e).stay (fun c w' hc q=>(hs.2 c ?_).trans q) (fun _ q=>q) fun _ _ q=>q
  rintro rfl
  rcases hc with rfl | hc
  ·rw[hfree] at e;cases e
  ·rw[hfree] at hc;cases hc
 rcases hx with hk | hk
 ·refine wpAny_storeName_local hk hn (fun h' hn' hs=>?_) hcls
  obtain⟨oL,_,_,hoL,_⟩:=id hn
  refine h _ ⟨I.ok,I.os,I.bare,⟨fun b o e n hb hx=>?_,fun b o e n hb hx=>?_,I.base.free,fun b o e hx=>?_,I.base.tups,I.base.frzs,I.base.tbls⟩,⟨_,hn',fun j y v' e1 e2 e3=>?_⟩,fun y c e=>?_,I.free,I.freeC,fun p hp=>?_,tracked ⟨oL,hoL,I.free⟩ hs,by simpa using I.len⟩ ⟨_,hs,.inl rfl⟩
  ·exact(hs.2 b (yZE (yZD (yYZ e) I.ok.above))).trans (I.base.keep b o e n hb hx)
  ·obtain⟨sl,e1⟩:=I.base.slot b o e n hb hx
   exact⟨sl,(hs.2 b (yZE (yZD (yYZ e) I.ok.above))).trans e1⟩
  ·obtain⟨o',e1⟩:=I.base.there b o e hx
   exact⟨o',(hs.2 b (yZE (yZD (yYZ e) I.ok.above))).trans e1⟩
  ·by_cases hj:j=i
   ·subst hj
    rw[hi] at e1;cases e1
    rw[List.getElem?_set_self hiσ] at e2
    cases e2
    exact⟨u,r,.inl ⟨hk,by simp⟩⟩
   ·rw[List.getElem?_set_ne (Ne.symm hj)] at e2
    obtain⟨u',r',q⟩:=hl j y v' e1 e2 e3
    refine⟨u',r',?_⟩
    rcases q with⟨k,e⟩ | ⟨k,c,e,z⟩
    ·refine .inl ⟨k,?_⟩
     have:y≠x:=fun e=>hj (qDk hN e1 (e▸hi))
     simp[this,e]
    ·exact .inr ⟨k,c,e,z.sameBut hs (cne y c e)⟩
  ·obtain⟨w',z⟩:=I.cell y c e
   exact⟨w',z.sameBut hs (cne y c e)⟩
  ·obtain⟨e,n,ne,nf,d⟩:=I.pin p hp
   exact⟨(hs.2 p.1 ne).trans e,n,ne,nf,d⟩
 ·have hfn:X.fn x=true:=by
   rcases hf with z | z
   ·exact z
   ·rw[z] at hk;cases hk
  obtain⟨c,hc⟩:=I.ok.has x (.inl hk)
  obtain⟨w',z⟩:=I.cell x c hc
  refine wpAny_storeName_cell I.ok.kind hk hc z (fun h' hc' hs=>?_)
  obtain⟨oc,hoc,hocd⟩:=id z
  refine h { s with heap:=h' } ⟨I.ok,I.os,I.bare,⟨fun b o e n hb hx=>?_,fun b o e n hb hx=>?_,I.base.free,fun b o e hx=>?_,I.base.tups,I.base.frzs,I.base.tbls⟩,⟨m,hn.sameBut hs (Ne.symm (cne x c hc)),fun j y v' e1 e2 e3=>?_⟩,fun y c' e=>?_,I.free,I.freeC,fun p hp=>?_,tracked ⟨oc,hoc,I.freeC x c hc⟩ hs,by simpa using I.len⟩ ⟨c,hs,.inr hc⟩
  ·exact(hs.2 b (yZE (yZD (yYZ e) (I.ok.cab x c hfn hc)))).trans (I.base.keep b o e n hb hx)
  ·obtain⟨sl,e1⟩:=I.base.slot b o e n hb hx
   exact⟨sl,(hs.2 b (yZE (yZD (yYZ e) (I.ok.cab x c hfn hc)))).trans e1⟩
  ·obtain⟨o',e1⟩:=I.base.there b o e hx
   exact⟨o',(hs.2 b (yZE (yZD (yYZ e) (I.ok.cab x c hfn hc)))).trans e1⟩
  ·by_cases hj:j=i
   ·subst hj
    rw[hi] at e1;cases e1
    rw[List.getElem?_set_self hiσ] at e2
    cases e2
    exact⟨u,r,.inr ⟨.inl hk,c,hc,hc'⟩⟩
   ·rw[List.getElem?_set_ne (Ne.symm hj)] at e2
    obtain⟨u',r',q⟩:=hl j y v' e1 e2 e3
    refine⟨u',r',?_⟩
    rcases q with q | ⟨k,c',e,z'⟩
    ·exact .inl q
    ·refine .inr ⟨k,c',e,z'.sameBut hs ?_⟩
     rintro rfl
     exact hj (qDk hN e1 (I.ok.inj _ _ _ e hc▸hi))
  ·by_cases hcc:c'=c
   ·subst hcc;exact⟨_,hc'⟩
   ·obtain⟨w2,z2⟩:=I.cell y c' e
    exact⟨w2,z2.sameBut hs hcc⟩
  ·obtain⟨e,n,ne,nf,d⟩:=I.pin p hp
   refine⟨(hs.2 p.1 ?_).trans e,n,ne,nf,d⟩
   intro q
   rw[q,hoc] at e
   have q':oc=p.2:=Option.some.inj e
   exact d w' (by rw[← q'];exact hocd)
theorem qCq {M:Model}{A:Around}{E:Value→Shared→Prop}{i:Nat}{x:Str}{v:V}{u:Value}{Q:Unit→Shared→Prop}(I:Inv X pins σ H s)(hN:X.N.Nodup)(hi:X.N[i]? = some x)(hx:Loc X.env.scope x)(r:RelV v u)
  (h:∀s',Inv X pins (σ.set i (some v)) H s'→Q () s') (hf:X.fn x=true∨X.env.scope.names.lookup x=some .local:=by first | exact .inl rfl | exact .inr rfl | assumption):wpAny M A (storeName X.env x u) Q E s:=
 qVj I hN hi hx r (fun s' I' _=>h s' I') hf
theorem Inv.call' {s':Shared}{ch:List Addr}(I:Inv X pins σ H s)(ho:s'.os=s.os)(u:Un (frs X.stack) ch H H' s.heap s'.heap)(hok:HOk X.prog X.w H' s'.heap)(hg:AllBare s'.gens)
  (hch:∀b∈ch,(b∈X.ex∨X.s₀.heap.objs.size≤b)∧b≠X.env.locals∧(∀x c,X.env.cells.lookup x=some c→c≠b)∧∀p∈X.pn++pins,p.1≠b):Inv X pins σ H' s':=by
 obtain⟨h',g',d',t',o'⟩:=s'
 have e:o'=s.os:=ho
 subst e
 exact I.call (g':=g') (t':=t') (d':=d') u hok hg hch
end

abbrev XK:=Value→Option Addr→Hp→Prop
abbrev St:=List (Option V)
abbrev VK:=V→Hp→Prop
abbrev TE:=St→Hp→VK→Prop
abbrev TT:=St→Hp→(Bool→Hp→Prop)→Prop
abbrev TA:=St→Hp→(List V→Hp→Prop)→Prop
structure Ends where
 nx:St→Hp→Prop
 rt:VK
 bk:St→Hp→Prop:=fun _ _=>False
 ct:St→Hp→Prop:=fun _ _=>False
abbrev TS:=Ends→St→Hp→Prop

def EP (X:Cx)(pins:List (Addr×Obj))(σ:St)(Q:VK)(u:Value)(s':Shared):Prop:=∃v H',Inv X pins σ H' s'∧RelV v u∧Q v H'
def TP (X:Cx)(pins:List (Addr×Obj))(σ:St)(Q:Bool→Hp→Prop)(b:Bool)(s':Shared):Prop:=∃H',Inv X pins σ H' s'∧Q b H'
def AP (X:Cx)(pins:List (Addr×Obj))(σ:St)(Q:List V→Hp→Prop)(us:List Value)(s':Shared):Prop:=∃vs H',Inv X pins σ H' s'∧Vals vs us∧Q vs H'
def SP (X:Cx)(pins:List (Addr×Obj))(D:Ends)(f:Flow)(s':Shared):Prop:=
 match f with
 | .next=>∃σ' H',Inv X pins σ' H' s'∧D.nx σ' H'
 | .brk=>∃σ' H',Inv X pins σ' H' s'∧D.bk σ' H'
 | .cont=>∃σ' H',Inv X pins σ' H' s'∧D.ct σ' H'
 | .ret u=>∃v σ' H',Inv X pins σ' H' s'∧RelV v u∧D.rt v H'

def PE (X:Cx)(e:Expr)(t:TE):Prop:=
 ∀(pins:List (Addr×Obj)) (s:Shared) (σ:St) (H:Hp) (Q:VK),Inv X pins σ H s→t σ H Q→wpAny (model X.prog X.w) X.A (eval e X.env) (EP X pins σ Q) X.xe s
def PT (X:Cx)(e:Expr)(t:TT):Prop:=
 ∀(pins:List (Addr×Obj)) (s:Shared) (σ:St) (H:Hp) (Q:Bool→Hp→Prop),Inv X pins σ H s→t σ H Q→wpAny (model X.prog X.w) X.A (isTrue e X.env (eval e X.env)) (TP X pins σ Q) X.xe s
def PW (X:Cx)(e:Expr)(t:TT):Prop:=
 ∀(whole:Sem Value) (pins:List (Addr×Obj)) (s:Shared) (σ:St) (H:Hp) (Q:Bool→Hp→Prop),Inv X pins σ H s→t σ H Q→wpAny (model X.prog X.w) X.A (isTrue e X.env whole) (TP X pins σ Q) X.xe s
theorem PW.pt {X:Cx}{e:Expr}{t:TT}(h:PW X e t):PT X e t:=h _
def PA (X:Cx)(es:List Expr)(t:TA):Prop:=
 ∀(pos:Pos) (pins:List (Addr×Obj)) (s:Shared) (σ:St) (H:Hp) (Q:List V→Hp→Prop),Inv X pins σ H s→t σ H Q→wpAny (model X.prog X.w) X.A (spliced (backTo pos (starEach es X.env))) (AP X pins σ Q) X.xe s
def PS (X:Cx)(st:Stmt)(t:TS):Prop:=
 ∀(pins:List (Addr×Obj)) (s:Shared) (σ:St) (H:Hp) (D:Ends),Inv X pins σ H s→t D σ H→wpAny (model X.prog X.w) X.A (exec st X.env) (SP X pins D) X.xe s
def PSs (X:Cx)(st:List Stmt)(t:TS):Prop:=
 ∀(pins:List (Addr×Obj)) (s:Shared) (σ:St) (H:Hp) (D:Ends),Inv X pins σ H s→t D σ H→wpAny (model X.prog X.w) X.A (execs st X.env) (SP X pins D) X.xe s
theorem thn {α:Type}{t:Sem α}{Q Q':α→Shared→Prop}{M:Model}{A:Around}{E:Value→Shared→Prop}{s:Shared}(h:wpAny M A t Q E s)(hQ:∀a s,Q a s→Q' a s):wpAny M A t Q' E s:=wpAny_mono h hQ fun _ _ x=>x
end L2

namespace L2
open PySem PySem.Spec PyProof.Rows
section
variable {X:Cx}

def tVar (i:Nat):TE:=fun σ H Q=>∃v,σ[i]? = some (some v)∧Q v H
def tC (v:V):TE:=fun _ H Q=>Q v H
theorem xKv {i:Nat}{x:Str}{pos:Pos}(hN:X.N[i]? = some x)(hv:Vis X.env.scope x)(hd:(x == ("__debug__" : Str))=false:=by decide)(hcd:(x == ("__classdict__" : Str))=false:=by decide):PE X (.Name x pos) (tVar i):=by
 intro pins s σ H Q I h
 obtain⟨v,e,h⟩:=h
 obtain⟨m,hn,hl⟩:=I.loc
 obtain⟨u,r,l⟩:=hl i x v hN e hv
 have fin:EP X pins σ Q u s:=⟨v,H,I,r,h⟩
 rcases l with⟨hk,hm⟩ | ⟨hk,c,hc,hcell⟩
 ·exact wpAny_Name (wpAny_loadName_local I.ok.kind hk hn hm fin) hd
 ·rcases hk with hk | hk
  ·exact wpAny_Name (wpAny_loadName_cell I.ok.kind hk hc hcell fin) hd
  ·exact wpAny_Name (wpAny_loadName_free I.ok.kind hk hc hcell fin hcd) hd
theorem qE {i j pos}:PE X (.Constant (.int i) j pos) (tC (.int i)):=fun _ _ _ H _ I h=>wpAny_Constant_int ⟨.int i,H,I.tok _,⟨_,rfl⟩,h⟩
theorem qAd {b j pos}:PE X (.Constant (.bool b) j pos) (tC (.bl b)):=fun _ _ _ H _ I h=>Constant_bool ⟨.bl b,H,I,rfl,h⟩
theorem wO {j pos}:PE X (.Constant .none j pos) (tC .non):=fun _ _ _ H _ I h=>Constant_none ⟨.non,H,I,rfl,h⟩
theorem qF {x j pos}:PE X (.Constant (.str x) j pos) (tC (.str x)):=fun _ _ _ H _ I h=>Calls.Constant_str ⟨.str x,H,I.tok _,⟨_,rfl⟩,h⟩

def Gl (X:Cx)(x:Str):Prop:=X.env.kindOf x=some .globalImplicit
theorem qMw {E:Value→Shared→Prop}{pins:List (Addr×Obj)}{s:Shared}{σ:St}{H:Hp}{x:Str}{u:Value}{pos:Pos}{Q:Value→Shared→Prop}(I:Inv X pins σ H s)(hg:Gl X x)(hm:X.mg x=some u)(h:Q u s)
  (hd:(x == ("__debug__" : Str))=false:=by decide):wpAny (model X.prog X.w) X.A (eval (.Name x pos) X.env) Q E s:=
 Calls.Name_function_global I.ok.kind hg (Calls.loadGlobal_global (by rw[I.ok.glob];exact I.mod.glob.keeps I.bk) hm h) hd
theorem qXm {E:Value→Shared→Prop}{pins:List (Addr×Obj)}{s:Shared}{σ:St}{H:Hp}{x:Str}{u:Value}{pos:Pos}{Q:Value→Shared→Prop}(I:Inv X pins σ H s)(hg:Gl X x)(hm:X.mg x=none)(hv:bootBuiltins x=some u)(h:Q u s)
  (hn:x ≠ "__name__" := by decide) (hd:(x == ("__debug__" : Str))=false:=by decide):wpAny (model X.prog X.w) X.A (eval (.Name x pos) X.env) Q E s:=by
 obtain⟨mb,h1,h2⟩:=I.mod.blt
 exact Calls.Name_function_global I.ok.kind hg (Calls.loadGlobal_builtin (by rw[I.ok.glob];exact I.mod.glob.keeps I.bk) hm (by rw[I.ok.blt];exact h1.keeps I.bk) ((h2 x hn).trans hv) h) hd
theorem xXn {x:Str}{v:V}{u:Value}{pos:Pos}(hg:Gl X x)(hm:X.mg x=none)(hv:bootBuiltins x=some u)(r:RelV v u)(hn:x ≠ "__name__" := by decide)(hd:(x == ("__debug__" : Str))=false:=by decide):PE X (.Name x pos) (tC v):=
 fun _ _ _ H _ I h=>qXm I hg hm hv ⟨v,H,I,r,h⟩ hn hd

variable {a b:Expr}{ta tb:TE}{pos:Pos}
def PC (X:Cx)(op:CmpOp)(a b:Expr)(t:TE):Prop:=
 ∀(pins:List (Addr×Obj)) (s:Shared) (σ:St) (H:Hp) (Q:VK),Inv X pins σ H s→t σ H Q→
  wpAny (model X.prog X.w) X.A (eval a X.env) (fun v s₁=>wpAny (model X.prog X.w) X.A (eval b X.env) (fun u s₂=>wpAny (model X.prog X.w) X.A (compareOp op v u) (EP X pins σ Q) X.xe s₂) X.xe s₁) X.xe s
def tB (t:TE):TT:=fun σ H Q=>t σ H fun x H1=>∃c,x=.bl c∧Q c H1
theorem qJv {op:CmpOp}{t:TE}(h:PC X op a b t)(h1:behindInMarks op b=false:=by first | exact nobehind _ (by decide) (by decide) | rfl):PT X (.Compare a [op] [b] pos) (tB t):=by
 intro pins s σ H Q I hw
 refine wpAny_isTrue_Compare1 (thn (h pins s σ H _ I hw) fun v s1 h1=>thn h1 fun u s2 h2=>thn h2 fun c s3 ⟨x,H1,I1,r1,q1⟩=>?_) h1
 obtain⟨d,rfl,q⟩:=q1
 cases r1
 exact wpAny_truthy_bool ⟨H1,I1,q⟩
theorem qJk {e:Expr}{t:TE}(h:PE X e t)(he:∀whole,isTrue e X.env whole=(do let v ← whole;standAt e.pos;holding [v] (truthy v)):=by intro _;rfl):PT X e (tB t):=by
 intro pins s σ H Q I hw
 refine isTrue_plain (thn (h pins s σ H _ I hw) fun v s1 ⟨x,H1,I1,r1,q1⟩=>?_) (he _)
 obtain⟨d,rfl,q⟩:=q1
 cases r1
 exact wpAny_truthy_bool ⟨H1,I1,q⟩

variable {tA tB':TT}{rest:List Expr}
def tAnd (t u:TT):TT:=fun σ H Q=>t σ H fun c H1=>if c=true then u σ H1 Q else Q false H1
def tOr (t u:TT):TT:=fun σ H Q=>t σ H fun c H1=>if c=true then Q true H1 else u σ H1 Q
def tNot (t:TT):TT:=fun σ H Q=>t σ H fun c H1=>Q (!c) H1
theorem qAv (ha:PT X a tA):PW X (.BoolOp .And [a] pos) tA:=by
 intro wh pins s σ H Q I h
 refine isTrue_and (thn (ha pins s σ H Q I h) fun c s1 e=>?_)
 cases c with
 | true=>exact isTrue_and_nil e
 | false=>exact e
theorem qXv (ha:PT X a tA):PW X (.BoolOp .Or [a] pos) tA:=by
 intro wh pins s σ H Q I h
 refine isTrue_or (thn (ha pins s σ H Q I h) fun c s1 e=>?_)
 cases c with
 | false=>exact isTrue_or_nil e
 | true=>exact e
theorem qHi (ha:PT X a tA)(hb:PW X (.BoolOp .And (b::rest) pos) tB'):PW X (.BoolOp .And (a::b::rest) pos) (tAnd tA tB'):=by
 intro wh pins s σ H Q I h
 refine isTrue_and (thn (ha pins s σ H _ I h) fun c s1 ⟨H1,I1,q1⟩=>?_)
 cases c with
 | true=>exact hb wh pins s1 σ H1 Q I1 q1
 | false=>exact⟨H1,I1,q1⟩
theorem qYh (ha:PT X a tA)(hb:PW X (.BoolOp .Or (b::rest) pos) tB'):PW X (.BoolOp .Or (a::b::rest) pos) (tOr tA tB'):=by
 intro wh pins s σ H Q I h
 refine isTrue_or (thn (ha pins s σ H _ I h) fun c s1 ⟨H1,I1,q1⟩=>?_)
 cases c with
 | true=>exact⟨H1,I1,q1⟩
 | false=>exact hb wh pins s1 σ H1 Q I1 q1
theorem qVa (ha:PT X a tA):PT X (.UnaryOp .Not a pos) (tNot tA):=by
 intro pins s σ H Q I h
 exact isTrue_not (ha pins s σ H (fun c H1=>Q (!c) H1) I h)
def tAndV (ta tb:TE):TE:=fun σ H Q=>ta σ H fun x H1=>∃c,x=.bl c∧if c=true then tb σ H1 Q else Q (.bl false) H1
def tNotV (ta:TE):TE:=fun σ H Q=>ta σ H fun x H1=>∃c,x=.bl c∧Q (.bl (!c)) H1
theorem qDx {op}{t:TE}(h:PE X a t):PE X (.BoolOp op [a] pos) t:=fun pins s σ H Q I hw=>BoolOp_one (h pins s σ H Q I hw)
theorem qVc (ha:PE X a ta)(hb:PE X (.BoolOp .And (b::rest) pos) tb):PE X (.BoolOp .And (a::b::rest) pos) (tAndV ta tb):=by
 intro pins s σ H Q I h
 refine BoolOp_and (thn (ha pins s σ H _ I h) fun v s1 ⟨x,H1,I1,r1,q1⟩=>?_)
 obtain⟨c,rfl,q1⟩:=q1
 cases r1
 refine wpAny_truthy_bool ?_
 cases c with
 | true=>exact hb pins s1 σ H1 Q I1 q1
 | false=>exact⟨.bl false,H1,I1,rfl,q1⟩
theorem qIc (ha:PE X a ta):PE X (.UnaryOp .Not a pos) (tNotV ta):=by
 intro pins s σ H Q I h
 refine UnaryOp_ (thn (ha pins s σ H _ I h) fun v s1 ⟨x,H1,I1,r1,q1⟩=>?_)
 obtain⟨c,rfl,q1⟩:=q1
 cases r1
 exact not_of (wpAny_truthy_bool ⟨.bl (!c),H1,I1,rfl,q1⟩)
def tIf (t:TT)(ta tb:TE):TE:=fun σ H Q=>t σ H fun c H1=>if c=true then ta σ H1 Q else tb σ H1 Q
theorem qQc {c:Expr}(hc:PT X c tA)(ha:PE X a ta)(hb:PE X b tb):PE X (.IfExp c a b pos) (tIf tA ta tb):=by
 intro pins s σ H Q I h
 refine wpAny_IfExp (thn (hc pins s σ H _ I h) fun d s1 ⟨H1,I1,q1⟩=>?_)
 cases d with
 | true=>exact ha pins s1 σ H1 Q I1 q1
 | false=>exact hb pins s1 σ H1 Q I1 q1
end
end L2

namespace L2
open PySem PySem.Spec PyProof.Rows

def SqL (K:yZO)(H:Hp)(a:Addr)(xs:List V):Prop:=
 Rd H a (.lst xs)∨
  ∃(o:Obj) (its:Array Value) (n:Nat),K.lookup a=some o∧o.cls=.type "list" ∧ o.dict=none∧o.data=.seq its n∧its.size≤sizeLine∧Vals xs its.toList
def SqT (K:yZO)(H:Hp)(a:Addr)(xs:List V):Prop:=
 Rd H a (.tup xs)∨
  ∃(o:Obj) (its:Array Value) (n:Nat),K.lookup a=some o∧o.cls=.type "tuple" ∧ o.data=.seq its n∧its.size≤sizeLine∧Vals xs its.toList
def absV:Value→Option V
 | .none=>some .non
 | .bool b=>some (.bl b)
 | .int i _=>some (.int i)
 | .str x _=>some (.str x)
 | .bytes b _=>some (.byt b)
 | .float b _=>some (.flt b)
 | .ref a=>some (.ref a)
 | .type n=>some (.ty n)
 | _=>none
theorem RelV.abs {x:V}{u:Value}(r:RelV x u):absV u=some x:=by
 cases x with
 | non=>cases r;rfl
 | bl _=>cases r;rfl
 | int _=>obtain⟨t,rfl⟩:=r;rfl
 | str _=>obtain⟨t,rfl⟩:=r;rfl
 | byt _=>obtain⟨t,rfl⟩:=r;rfl
 | flt _=>obtain⟨t,rfl⟩:=r;rfl
 | ref _=>cases r;rfl
 | ty _=>cases r;rfl
theorem RelV.inj {x y:V}{u:Value}(r:RelV x u)(q:RelV y u):x=y:=Option.some.inj (r.abs.symm.trans q.abs)
theorem Vals.inj {xs ys:List V}{us:List Value}(h:Vals xs us)(h':Vals ys us):xs=ys:=by
 induction h generalizing ys with
 | nil=>cases h';rfl
 | cons r _ ih=>
  cases h' with
  | cons r' t'=>rw[r.inj r',ih t']
section
variable {X:Cx}{pins:List (Addr×Obj)}{σ:St}{H:Hp}{s:Shared}{a:Addr}{xs ys:List V}
theorem SqL.of {K:yZO}(h:H a=some (.lst xs)):SqL K H a xs:=.inl (.inl h)
theorem SqT.of {K:yZO}(h:H a=some (.tup xs)):SqT K H a xs:=.inl (.inl h)
theorem Inv.list (I:Inv X pins σ H s)(h:SqL X.K H a xs):∃its:List Value,Vals xs its∧PlainL s.heap a its.toArray∧xs.length≤sizeLine:=by
 rcases h with h | ⟨o,its,n,hk,hc,hd,hs,hz,r⟩
 ·obtain⟨z,its,n,r,e⟩:=h.ok I.hok
  exact⟨its,r,⟨_,n,e,rfl,rfl,rfl⟩,z⟩
 ·refine⟨its.toList,r,⟨o,n,I.kIn a o hk,hc,hd,by simpa using hs⟩,?_⟩
  have e:=r.length
  simp only[yZL] at e
  omega
theorem Inv.tuple (I:Inv X pins σ H s)(h:SqT X.K H a xs):∃its:List Value,Vals xs its∧IsTup s.heap a its.toArray∧xs.length≤sizeLine:=by
 rcases h with h | ⟨o,its,n,hk,hc,hs,hz,r⟩
 ·obtain⟨z,its,r,p⟩:=h.ok I.hok
  exact⟨its,r,p.tup,z⟩
 ·refine⟨its.toList,r,⟨o,I.kIn a o hk,hc,n,by simpa using hs⟩,?_⟩
  have e:=r.length
  simp only[yZL] at e
  omega
theorem Inv.list_inj (I:Inv X pins σ H s)(h:SqL X.K H a xs)(h':SqL X.K H a ys):xs=ys:=by
 obtain⟨its,r,⟨o,n,e,_,_,d⟩,_⟩:=I.list h
 obtain⟨its',r',⟨o',n',e',_,_,d'⟩,_⟩:=I.list h'
 rw[e] at e';cases e'
 rw[d] at d'
 injection d' with d1 _
 have:its=its':=by simpa using congrArg Array.toList d1
 subst this
 exact r.inj r'
theorem Inv.tuple_inj (I:Inv X pins σ H s)(h:SqT X.K H a xs)(h':SqT X.K H a ys):xs=ys:=by
 obtain⟨its,r,⟨o,e,_,n,d⟩,_⟩:=I.tuple h
 obtain⟨its',r',⟨o',e',_,n',d'⟩,_⟩:=I.tuple h'
 rw[e] at e';cases e'
 rw[d] at d'
 injection d' with d1 _
 have:its=its':=by simpa using congrArg Array.toList d1
 subst this
 exact r.inj r'
end

abbrev Cx.wish (X:Cx)(E:Value→Shared→Prop):Cx:={ X with xe:=E }
abbrev Cx.nox (X:Cx):Cx:=X.wish fun _ _=>False
theorem Cx.Ok.wish {X:Cx}(ok:X.Ok)(E:Value→Shared→Prop):(X.wish E).Ok:=
 ⟨ok.mod,ok.kind,ok.glob,ok.blt,ok.above,ok.inj,ok.has,ok.cab,ok.hd,ok.frames,ok.stk,ok.exf,ok.bs,ok.bsz,ok.noex,ok.exfs,ok.funs,ok.frf⟩
theorem Cx.Ok.unwish {X:Cx}{E:Value→Shared→Prop}(ok:(X.wish E).Ok):X.Ok:=
 ⟨ok.mod,ok.kind,ok.glob,ok.blt,ok.above,ok.inj,ok.has,ok.cab,ok.hd,ok.frames,ok.stk,ok.exf,ok.bs,ok.bsz,ok.noex,ok.exfs,ok.funs,ok.frf⟩
section
variable {X:Cx}{pins:List (Addr×Obj)}{σ:St}{H:Hp}{s:Shared}{E:Value→Shared→Prop}
theorem Inv.wish (I:Inv X pins σ H s)(E:Value→Shared→Prop):Inv (X.wish E) pins σ H s:=⟨I.ok.wish E,I.os,I.bare,I.base,I.loc,I.cell,I.free,I.freeC,I.pin,I.hok,I.len⟩
theorem Inv.unwish (I:Inv (X.wish E) pins σ H s):Inv X pins σ H s:=⟨I.ok.unwish,I.os,I.bare,I.base,I.loc,I.cell,I.free,I.freeC,I.pin,I.hok,I.len⟩
theorem SP.unwish {D:Ends}{f:Flow}{s':Shared}(h:SP (X.wish E) pins D f s'):SP X pins D f s':=by
 cases f with
 | next=>obtain⟨σ',H',I,q⟩:=h;exact⟨σ',H',I.unwish,q⟩
 | brk=>obtain⟨σ',H',I,q⟩:=h;exact⟨σ',H',I.unwish,q⟩
 | cont=>obtain⟨σ',H',I,q⟩:=h;exact⟨σ',H',I.unwish,q⟩
 | ret u=>obtain⟨v,σ',H',I,r,q⟩:=h;exact⟨v,σ',H',I.unwish,r,q⟩
theorem PSs.nox {st:List Stmt}{t:TS}(h:PSs X.nox st t):PSs X st t:=fun pins s σ H D I hw=>
 wpAny_mono (h pins s σ H D (I.wish _) hw) (fun _ _ q=>q.unwish) fun _ _ z=>False.elim z
end

section
variable {X:Cx}{st:Stmt}{rest:List Stmt}{t u:TS}{e:Expr}{te:TE}{pos:Pos}
def tNext:TS:=fun D σ H=>D.nx σ H
def tSeq (t u:TS):TS:=fun D σ H=>t { D with nx:=u D } σ H
theorem qY:PSs X [] tNext:=fun _ _ σ H _ I h=>wpAny_execs_nil ⟨σ,H,I,h⟩
theorem qZ (h1:PS X st t)(h2:PSs X rest u):PSs X (st::rest) (tSeq t u):=by
 intro pins s σ H D I h
 refine wpAny_execs_cons (thn (h1 pins s σ H { D with nx:=u D } I h) fun f s1 q=>?_)
 cases f with
 | next=>
  obtain⟨σ',H',I',q⟩:=q
  exact h2 pins s1 σ' H' D I' q
 | ret v=>exact q
 | brk=>exact q
 | cont=>exact q
theorem qJ (h1:PS X st t):PSs X [st] t:=by
 intro pins s σ H D I h
 refine wpAny_execs_cons (thn (h1 pins s σ H D I h) fun f s1 q=>?_)
 cases f with
 | next=>exact wpAny_execs_nil q
 | ret v=>exact q
 | brk=>exact q
 | cont=>exact q
theorem Inv.quiet {pins:List (Addr×Obj)}{σ:St}{H:Hp}{s:Shared}(I:Inv X pins σ H s):interactive X.env=false:=by simp[interactive,I.ok.kind]
def tDrop (te:TE):TS:=fun D σ H=>te σ H fun _ H1=>D.nx σ H1
theorem qP (he:PE X e te)(hs:swapsWith e none pos.line X.env=pure false:=by rfl):PS X (.Expr e pos) (tDrop te):=by
 intro pins s σ H D I h
 exact wpAny_Expr_any (thn (he pins s σ H _ I h) fun v s1 ⟨x,H1,I1,r1,q1⟩=>⟨σ,H1,I1,q1⟩) I.quiet hs
def tRet (te:TE):TS:=fun D σ H=>te σ H D.rt
theorem qN (he:PE X e te):PS X (.Return (some e) pos) (tRet te):=by
 intro pins s σ H D I h
 exact wpAny_Return_some (thn (he pins s σ H _ I h) fun v s1 ⟨x,H1,I1,r1,q1⟩=>⟨x,σ,H1,I1,r1,q1⟩)
def tIfS (c:TT)(t u:TS):TS:=fun D σ H=>c σ H fun b H1=>if b=true then t D σ H1 else u D σ H1
theorem xU {c:Expr}{a b:List Stmt}{tc:TT}(hc:PT X c tc)(ha:PSs X a t)(hb:PSs X b u):PS X (.If c a b pos) (tIfS tc t u):=by
 intro pins s σ H D I h
 refine wpAny_If (thn (hc pins s σ H _ I h) fun d s1 ⟨H1,I1,q1⟩=>?_)
 cases d with
 | true=>exact ha pins s1 σ H1 D I1 q1
 | false=>exact hb pins s1 σ H1 D I1 q1
def tNever:TS:=fun _ _ _=>False
theorem qQb:PS X st tNever:=fun _ _ _ _ _ _ h=>h.elim
end

abbrev TG:=V→St→Hp→(St→Hp→Prop)→Prop
abbrev TGs:=List V→St→Hp→(St→Hp→Prop)→Prop
def PG (X:Cx)(target:Expr)(t:TG):Prop:=
 ∀(pins:List (Addr×Obj)) (s:Shared) (σ:St) (H:Hp) (v:V) (u:Value) (Q:St→Hp→Prop),Inv X pins σ H s→RelV v u→t v σ H Q→
  wpAny (model X.prog X.w) X.A (assign target X.env u) (fun _ s'=>∃σ' H',Inv X pins σ' H' s'∧Q σ' H') X.xe s
def PGs (X:Cx)(ts:List Expr)(t:TGs):Prop:=
 ∀(pins:List (Addr×Obj)) (s:Shared) (σ:St) (H:Hp) (vs:List V) (us:List Value) (Q:St→Hp→Prop),Inv X pins σ H s→Vals vs us→t vs σ H Q→
  wpAny (model X.prog X.w) X.A (assignInOrder ((assignEach ts X.env).map (·.2)) us) (fun _ s'=>∃σ' H',Inv X pins σ' H' s'∧Q σ' H') X.xe s
abbrev TSet:=V→V→V→Hp→(Hp→Prop)→Prop
def PSet (X:Cx)(t:TSet):Prop:=
 ∀(pins:List (Addr×Obj)) (s:Shared) (σ:St) (H:Hp) (o i v:V) (ov iv u:Value) (Q:Hp→Prop),Inv X pins σ H s→RelV o ov→RelV i iv→RelV v u→t o i v H Q→
  wpAny (model X.prog X.w) X.A (setItem ov iv u) (fun _ s'=>∃H',Inv X pins σ H' s'∧Q H') X.xe s
section
variable {X:Cx}{pos:Pos}
def gName (i:Nat):TG:=fun v σ H Q=>Q (σ.set i (some v)) H
theorem qG {i:Nat}{x:Str}(hN:X.N.Nodup)(hi:X.N[i]? = some x)(hx:Loc X.env.scope x)(hf:X.fn x=true∨X.env.scope.names.lookup x=some .local:=by first | exact .inl rfl | exact .inr rfl | assumption):PG X (.Name x pos) (gName i):=by
 intro pins s σ H v u Q I r h
 exact wpAny_assign_Name (qCq I hN hi hx r (fun s' I'=>⟨_,H,I',h⟩) hf)
def gNil:TGs:=fun vs σ H Q=>vs=[]∧Q σ H
def gCons (t:TG)(u:TGs):TGs:=fun vs σ H Q=>∃v r,vs=v::r∧t v σ H fun σ' H'=>u r σ' H' Q
theorem qI:PGs X [] gNil:=by
 intro pins s σ H vs us Q I r h
 obtain⟨e,h⟩:=h
 subst e
 cases r
 exact assignInOrder_nil ⟨σ,H,I,h⟩
theorem qH {e:Expr}{es:List Expr}{t:TG}{u:TGs}(h1:PG X e t)(h2:PGs X es u)
  (hs:(assignEach (e::es) X.env).map (·.2)=assign e X.env::(assignEach es X.env).map (·.2):=by rfl):PGs X (e::es) (gCons t u):=by
 intro pins s σ H vs us Q I r h
 obtain⟨v,vr,e1,h⟩:=h
 subst e1
 cases r with
 | cons r rr=>
  rw[hs]
  refine assignInOrder_cons (thn (h1 pins s σ H _ _ _ I r h) fun _ s1 ⟨σ1,H1,I1,q1⟩=>?_)
  exact h2 pins s1 σ1 H1 _ _ Q I1 rr q1
def gTup (K:yZO)(n:Nat)(t:TGs):TG:=fun v σ H Q=>∃a xs,v=.ref a∧SqT K H a xs∧xs.length=n∧t xs σ H Q
theorem qUo {es:List Expr}{k:Nat}{t:TGs}{n:Nat}(hc:X.calm=true)(h:PGs X es t)
  (hn:(assignEach es X.env).length=n:=by rfl) (hst:(assignEach es X.env).findIdx? (·.1)=none:=by rfl):PG X (.Tuple es k pos) (gTup X.K n t):=by
 intro pins s σ H v u Q I r hw
 obtain⟨a,xs,e1,hq,hl,hw⟩:=hw
 subst e1
 cases r
 obtain⟨its,rv,ht,hz⟩:=I.tuple hq
 refine assign_Tuple_tuple (I.ok.hd hc) ht (by simp[hn,← hl,rv.length]) hst fun h' hx=>?_
 have I1:Inv X pins σ H { s with heap:=h' }:=I.kept (t':=s.toks) fun b o e=>hx b o (yZE (yYZ e)) e
 exact h pins _ σ H xs _ Q I1 (by simpa using rv) hw
def gSub (to ti:TE)(t:TSet):TG:=fun v σ H Q=>to σ H fun o H1=>ti σ H1 fun i H2=>t o i v H2 fun H3=>Q σ H3
theorem qIa {o i:Expr}{to ti:TE}{t:TSet}(ho:PE X o to)(hi:PE X i ti)(hs:PSet X t)
  (ha:∀v,assign (.Subscript o i pos) X.env v=(do
   let ov ← holding [v] (eval o X.env)
   let iv ← holding [v,ov] (eval i X.env)
   standAt pos
   holding [v,ov,iv] (setItem ov iv v)
   release [v,ov,iv] []):=by intro _;rfl):PG X (.Subscript o i pos) (gSub to ti t):=by
 intro pins s σ H v u Q I r h
 rw[ha]
 refine yYW (wpAny_holding (thn (ho pins s σ H _ I h) fun ov s1 ⟨x,H1,I1,r1,q1⟩=>?_))
 refine yYW (wpAny_holding (thn (hi pins s1 σ H1 _ I1 q1) fun iv s2 ⟨y,H2,I2,r2,q2⟩=>?_))
 refine yYW (wpAny_standAt (yYW (wpAny_holding (thn (hs pins s2 σ H2 x y v ov iv u _ I2 r1 r2 r q2) fun _ s3 ⟨H3,I3,q3⟩=>?_))))
 exact wpAny_release ⟨σ,H3,I3,q3⟩
def tAsg (te:TE)(g:TG):TS:=fun D σ H=>te σ H fun x H1=>g x σ H1 D.nx
theorem qO {tg e:Expr}{te:TE}{g:TG}(he:PE X e te)(hg:PG X tg g)(hs:swapsWithSole [tg] e pos.line X.env=pure false:=by rfl)(hw:swappedStores [tg] e X.env=pure none:=by rfl)
  (h1:(assignEach [tg] X.env).map (·.2)=[assign tg X.env]:=by rfl):PS X (.Assign [tg] e pos) (tAsg te g):=by
 intro pins s σ H D I h
 refine wpAny_Assign_stores (thn (he pins s σ H _ I h) fun v s1 ⟨x,H1,I1,r1,q1⟩=>?_) hs hw
 rw[h1]
 exact thn (hg pins s1 σ H1 x v _ I1 r1 q1) fun _ s2 q=>q
theorem qM {i:Nat}{x:Str}{e:Expr}{te:TE}{pos':Pos}(hN:X.N.Nodup)(hi:X.N[i]? = some x)(hx:Loc X.env.scope x)(he:PE X e te)(hs:swapsWith e (some (.Name x pos')) pos.line X.env=pure false:=by rfl)(hf:X.fn x=true∨X.env.scope.names.lookup x=some .local:=by first | exact .inl rfl | exact .inr rfl | assumption):
  PS X (.Assign [.Name x pos'] e pos) (tAsg te (gName i)):=by
 intro pins s σ H D I h
 refine wpAny_Assign_Name (thn (he pins s σ H _ I h) fun v s1 ⟨y,H1,I1,r1,q1⟩=>?_) hs
 exact qCq I1 hN hi hx r1 (fun s2 I2=>⟨_,H1,I2,q1⟩) hf
end

section
variable {X:Cx}{pos:Pos}
def tWhile (c:TT)(tb:TS):TS:=fun D σ H=>∃W:Nat→St→Hp→Prop,(∃m,W m σ H)∧∀m σ H,W m σ H→
 c σ H fun b H1=>if b=true then ∃N:St→Hp→Prop,(∀σ' H',N σ' H'→∃m',m'<m∧W m' σ' H')∧tb { D with nx:=N,ct:=N,bk:=D.nx } σ H1 else D.nx σ H1
theorem qRh {c:Expr}{body:List Stmt}{tc:TT}{tb:TS}(hp:PassesOwn (model X.prog X.w) X.A X.env X.xe)(hc:PT X c tc)(hb:PSs X body tb):PS X (.While c body [] pos) (tWhile tc tb):=by
 intro pins s σ H D I h
 obtain⟨W,⟨m0,w0⟩,turn⟩:=h
 refine wpAny_While (codeAny_whileLoop (fun n s'=>∃σ' H',Inv X pins σ' H' s'∧W n σ' H') ?_ m0 ⟨σ,H,I,w0⟩)
 rintro n s1 ⟨σ1,H1,I1,w1⟩
 refine wpAny_passesOwn hp (thn (hc pins s1 σ1 H1 _ I1 (turn n σ1 H1 w1)) fun b s2 ⟨H2,I2,q2⟩=>?_)
 cases b with
 | true=>
  obtain⟨N,hN,q2⟩:=q2
  rw[if_pos rfl]
  refine wpAny_passesOwn hp (thn (hb pins s2 σ1 H2 _ I2 q2) fun f s3 q3=>?_)
  cases f with
  | next=>
   obtain⟨σ3,H3,I3,n3⟩:=q3
   obtain⟨m',hm,w3⟩:=hN σ3 H3 n3
   exact⟨m',hm,σ3,H3,I3,w3⟩
  | cont=>
   obtain⟨σ3,H3,I3,n3⟩:=q3
   obtain⟨m',hm,w3⟩:=hN σ3 H3 n3
   exact⟨m',hm,σ3,H3,I3,w3⟩
  | brk=>exact q3
  | ret v=>exact q3
 | false=>
  rw[if_neg yZK]
  exact wpAny_execs_nil ⟨σ1,H2,I2,q2⟩
end

structure It where
 go:Nat→Hp→Prop
 yld:Nat→Hp→V→Hp→Prop
 stop:Nat→Hp→Prop
def FpOk (X:Cx)(pins:List (Addr×Obj))(H:Hp)(b:Addr):Prop:=
 H b=none∧b≠X.env.locals∧b∉X.fs∧(b∈X.ex∨X.s₀.heap.objs.size≤b)∧(∀x c,X.env.cells.lookup x=some c→c≠b)∧∀p∈X.pn++pins,p.1≠b
theorem Inv.fpOk {X:Cx}{pins:List (Addr×Obj)}{σ:St}{H H':Hp}{s:Shared}{b:Addr}(I:Inv X pins σ H s)(hb:s.heap.objs.size≤b)(hn:H' b=none):FpOk X pins H' b:=by
 refine⟨hn,yZG (yZD I.lt hb),I.nofs hb,.inr (yZI I.sz hb),fun x c e z=>?_,fun p hp z=>?_⟩
 ·obtain⟨v,q⟩:=I.cell x c e
  exact absurd (yZD q.lt (by rw[z];exact hb)) (Nat.lt_irrefl _)
 ·exact absurd (yZD (yYZ (I.pin p hp).1) (by rw[z];exact hb)) (Nat.lt_irrefl _)
structure Turn (P:Program)(w:World)(K:yZO)(tg:Expr)(J:It)(fp:List Addr)(it:Addr)(tn:Nat→Heap→Prop):Prop where
 mem:it∈fp
 obj:∀i h,tn i h→∀b∈fp,∃o,h.get? b=some o∧∀v,o.data≠.cell v
 keep:∀i h h',tn i h→(∀b∈fp,∀o,h.get? b=some o→h'.get? b=some o)→tn i h'
 item:∀(X:Cx),X.prog=P→X.w=w→X.K=K→X.calm=true→∀(i:Nat) (pins:List (Addr×Obj)) (s:Shared) (σ:St) (H:Hp) (E:Value→Shared→Prop),Inv X pins σ H s→(∀b∈fp,FpOk X pins H b)→tn i s.heap→J.go i H→
  wpAny (model P w) X.A (pyNext (.ref it)) (fun r s1=>∃u,r=some u∧
   wpAny (model P w) X.A (letOwnedTupleGo tg (.ref it) u) (fun _ s2=>∃x H',Inv X pins σ H' s2∧RelV x u∧J.yld i H x H'∧tn (i+1) s2.heap∧∀b∈fp,H' b=none) E s1) E s
 done:∀(X:Cx),X.prog=P→X.w=w→X.K=K→X.calm=true→∀(i:Nat) (pins:List (Addr×Obj)) (s:Shared) (σ:St) (H:Hp) (E:Value→Shared→Prop),Inv X pins σ H s→(∀b∈fp,FpOk X pins H b)→tn i s.heap→J.stop i H→
  wpAny (model P w) X.A (pyNext (.ref it)) (fun r s1=>r=none∧Inv X pins σ H s1) E s
 self:∀(A:Around) (i:Nat) (s:Shared) (Q:Value→Shared→Prop) (E:Value→Shared→Prop),tn i s.heap→Q (.ref it) s→wpAny (model P w) A (pyIter (.ref it)) Q E s
abbrev TI:=St→Hp→(It→Hp→Prop)→Prop
def PIE (X:Cx)(pins:List (Addr×Obj))(σ:St)(tg:Expr)(R:It→Hp→Prop)(itv:Value)(s2:Shared):Prop:=
 ∃(it:Addr) (fp:List Addr) (tn:Nat→Heap→Prop) (J:It) (H':Hp),itv=.ref it∧Inv X pins σ H' s2∧Turn X.prog X.w X.K tg J fp it tn∧tn 0 s2.heap∧(∀b∈fp,FpOk X pins H' b)∧R J H'
def PI (X:Cx)(tg iter:Expr)(wi:TI):Prop:=
 ∀(pins:List (Addr×Obj)) (s:Shared) (σ:St) (H:Hp) (R:It→Hp→Prop),Inv X pins σ H s→wi σ H R→
  wpAny (model X.prog X.w) X.A (eval iter X.env) (fun v s1=>wpAny (model X.prog X.w) X.A (pyIter v) (PIE X pins σ tg R) X.xe s1) X.xe s

theorem xZh {M:Model}{A:Around}{E:Value→Shared→Prop}{s:Shared}{tg:Expr}{it:Addr}{u:Value}{o:Obj}{n:String}{vs:Array Value}{Q:Unit→Shared→Prop}(ho:s.heap.get? it=some o)(hc:o.cls=.type n)(hd:o.data=.fields vs)
  (hn:["enumerate","zip","dict_itemiterator","dict_reverseitemiterator","odict_iterator","itertools.zip_longest","itertools.pairwise"].contains n=false) (hQ:Q () s):wpAny M A (letOwnedTupleGo tg (.ref it) u) Q E s:=by
 unfold letOwnedTupleGo
 cases tg <;> first
  | exact yYX hQ
  | (cases u <;> first
    | exact yYX hQ
    | (refine yYW (wpAny_load ho ?_)
       rw[hc,hd]
       show wpAny M A (if (["enumerate","zip","dict_itemiterator","dict_reverseitemiterator","odict_iterator","itertools.zip_longest","itertools.pairwise"].contains n && vs[0]? == some (rawInt _))=true then _ else _) Q E s
       rw[if_neg (by intro h;rw[hn,Bool.false_and] at h;cases h)]
       exact yYX hQ))

def Itl (K:yZO)(a:Addr):It:=
 ⟨fun i H=>∃xs x,SqL K H a xs∧xs[i]? = some x,fun i H x H'=>H'=H∧∀xs,SqL K H a xs→xs[i]? = some x,fun i H=>∃xs,SqL K H a xs∧xs.length≤i⟩
def Itt (K:yZO)(a:Addr):It:=
 ⟨fun i H=>∃xs x,SqT K H a xs∧xs[i]? = some x,fun i H x H'=>H'=H∧∀xs,SqT K H a xs→xs[i]? = some x,fun i H=>∃xs,SqT K H a xs∧xs.length≤i⟩
def Itr (lo:Int)(n:Nat):It:=⟨fun i _=>i<n,fun i H x H'=>H'=H∧x=.int (lo+i),fun i _=>n≤i⟩
theorem qFo {P:Program}{w:World}{K:yZO}{tg:Expr}(a it:Addr):Turn P w K tg (Itl K a) [it] it (fun i h=>h.IsListIter it a i) where
 mem:=by simp
 obj:=fun i h st b hb=>by
  have e:b=it:=by simpa using hb
  subst e
  obtain⟨o,e,c,d⟩:=st
  exact⟨o,e,fun v z=>by rw[d] at z;cases z⟩
 keep:=fun i h h' st k=>st.at fun o e=>k it (by simp) o e
 item:=by
  intro X hP hw hK hc i pins s σ H E I hf st hg
  subst hP hw hK
  obtain⟨xs,x,hq,hx⟩:=hg
  obtain⟨its,rv,p,hz⟩:=I.list hq
  obtain⟨u,hu,ru⟩:=rv.get hx
  obtain⟨f0,f1,f2,f3,f4,f5⟩:=hf it (by simp)
  refine wpAny_pyNext_list_item st p.isList (x:=u) (by simpa using hu) fun h' st' sb=>?_
  have I1:Inv X pins σ H { s with heap:=h' }:=I.turned (t':=s.toks) (fun b o hb e=>(sb.2 b hb).trans e) f0 f1 f3 f4 f5
  obtain⟨o,e,c,d⟩:=id st'
  exact⟨u,rfl,xZh (s:={ s with heap:=h' }) e c d (by decide) ⟨x,H,I1,ru,⟨rfl,fun ys hy=>by rw[I.list_inj hy hq];exact hx⟩,st',fun b hb=>(hf b hb).1⟩⟩
 done:=by
  intro X hP hw hK hc i pins s σ H E I hf st hg
  subst hP hw hK
  obtain⟨xs,hq,hx⟩:=hg
  obtain⟨its,rv,p,hz⟩:=I.list hq
  obtain⟨f0,f1,f2,f3,f4,f5⟩:=hf it (by simp)
  have hl:=rv.length
  exact wpAny_pyNext_list_end (I.ok.hd hc) st p.isList (by simp;omega) fun h' eb=>⟨rfl,I.turned (t':=s.toks) (fun b o hb e=>eb b o hb e) f0 f1 f3 f4 f5⟩
 self:=fun _ _ _ _ _ st h=>wpAny_pyIter_listiter st h
theorem qDm {P:Program}{w:World}{K:yZO}{tg:Expr}(a it:Addr):Turn P w K tg (Itt K a) [it] it (fun i h=>h.IsTupleIter it a i) where
 mem:=by simp
 obj:=fun i h st b hb=>by
  have e:b=it:=by simpa using hb
  subst e
  obtain⟨o,e,c,d⟩:=st
  exact⟨o,e,fun v z=>by rw[d] at z;cases z⟩
 keep:=fun i h h' st k=>st.at fun o e=>k it (by simp) o e
 item:=by
  intro X hP hw hK hc i pins s σ H E I hf st hg
  subst hP hw hK
  obtain⟨xs,x,hq,hx⟩:=hg
  obtain⟨its,rv,p,hz⟩:=I.tuple hq
  obtain⟨u,hu,ru⟩:=rv.get hx
  obtain⟨f0,f1,f2,f3,f4,f5⟩:=hf it (by simp)
  refine wpAny_pyNext_tuple_item st (show s.heap.IsTuple a its.toArray from p) (x:=u) (by simpa using hu) fun h' st' sb=>?_
  have I1:Inv X pins σ H { s with heap:=h' }:=I.turned (t':=s.toks) (fun b o hb e=>(sb.2 b hb).trans e) f0 f1 f3 f4 f5
  obtain⟨o,e,c,d⟩:=id st'
  exact⟨u,rfl,xZh (s:={ s with heap:=h' }) e c d (by decide) ⟨x,H,I1,ru,⟨rfl,fun ys hy=>by rw[I.tuple_inj hy hq];exact hx⟩,st',fun b hb=>(hf b hb).1⟩⟩
 done:=by
  intro X hP hw hK hc i pins s σ H E I hf st hg
  subst hP hw hK
  obtain⟨xs,hq,hx⟩:=hg
  obtain⟨its,rv,p,hz⟩:=I.tuple hq
  obtain⟨f0,f1,f2,f3,f4,f5⟩:=hf it (by simp)
  have hl:=rv.length
  exact wpAny_pyNext_tuple_end (I.ok.hd hc) st (show s.heap.IsTuple a its.toArray from p) (by simp;omega) fun h' eb=>⟨rfl,I.turned (t':=s.toks) (fun b o hb e=>eb b o hb e) f0 f1 f3 f4 f5⟩
 self:=fun _ _ _ _ _ st h=>wpAny_pyIter_tupleiter st h
theorem qDn {P:Program}{w:World}{K:yZO}{tg:Expr}(it:Addr)(lo:Int)(n:Nat):Turn P w K tg (Itr lo n) [it] it (fun i h=>IsRangeIter h it (lo+(i:Nat) * 1) ((n:Int) - (i:Nat)) 1) where
 mem:=by simp
 obj:=fun i h st b hb=>by
  have e:b=it:=by simpa using hb
  subst e
  exact⟨_,st,fun v z=>by
   have z':Data.fields _=Data.cell v:=z
   cases z'⟩
 keep:=fun i h h' st k=>k it (by simp) _ st
 item:=by
  intro X hP hw hK hc i pins s σ H E I hf st hg
  subst hP hw hK
  obtain⟨f0,f1,f2,f3,f4,f5⟩:=hf it (by simp)
  have W:=Walks.range (prog:=X.prog) (w:=X.w) (I.ok.hd hc) it lo 1 n
  refine W.item i s _ _ hg st fun v h' tk hv st' kk=>?_
  obtain⟨t,rfl⟩:=hv
  have I1:Inv X pins σ H { s with heap:=h',toks:=tk }:=I.turned (fun b o hb e=>kk b o (by simpa using hb) e) f0 f1 f3 f4 f5
  refine⟨_,rfl,xZh (s:={ s with heap:=h',toks:=tk }) (n := "range_iterator") st' rfl rfl (by decide) ⟨.int (lo+i),H,I1,⟨t,?_⟩,⟨rfl,rfl⟩,st',fun b hb=>(hf b hb).1⟩⟩
  rw[Int.mul_one]
 done:=by
  intro X hP hw hK hc i pins s σ H E I hf st hg
  subst hP hw hK
  obtain⟨f0,f1,f2,f3,f4,f5⟩:=hf it (by simp)
  exact wpAny_pyNext_range_end (I.ok.hd hc) st (by have:n≤i:=hg;omega) fun h' eb=>⟨rfl,I.turned (t':=s.toks) (fun b o hb e=>eb b o hb e) f0 f1 f3 f4 f5⟩
 self:=fun _ _ _ _ _ st h=>wpAny_pyIter_rangeiter st h
end L2

namespace L2
open PySem PySem.Spec PyProof.Rows
section
variable {X:Cx}{tg:Expr}
def iList (K:yZO)(tl:TE):TI:=fun σ H R=>tl σ H fun x H1=>∃a,x=.ref a∧(∃xs,SqL K H1 a xs)∧R (Itl K a) H1
def iTup (K:yZO)(tl:TE):TI:=fun σ H R=>tl σ H fun x H1=>∃a,x=.ref a∧(∃xs,SqT K H1 a xs)∧R (Itt K a) H1
theorem qIw {l:Expr}{tl:TE}(hl:PE X l tl):PI X tg l (iList X.K tl):=by
 intro pins s σ H R I h
 refine thn (hl pins s σ H _ I h) fun v s1 ⟨x,H1,I1,r1,q1⟩=>?_
 obtain⟨a,e,⟨xs,hq⟩,q⟩:=q1
 subst e
 cases r1
 obtain⟨its,rv,p,hz⟩:=I1.list hq
 refine wpAny_pyIter_list p.isList ?_
 refine⟨s1.heap.objs.size,[s1.heap.objs.size],_,_,H1,rfl,I1.kept (t':=s1.toks) fun b o e=>yYY _ e,qFo a _,⟨_,yZA _ rfl,rfl,rfl⟩,fun b hb=>?_,q⟩
 have e:b=s1.heap.objs.size:=by simpa using hb
 subst e
 exact I1.fpOk (yZC _) (I1.hok.fresh (yZC _))
theorem xKk {l:Expr}{tl:TE}(hl:PE X l tl):PI X tg l (iTup X.K tl):=by
 intro pins s σ H R I h
 refine thn (hl pins s σ H _ I h) fun v s1 ⟨x,H1,I1,r1,q1⟩=>?_
 obtain⟨a,e,⟨xs,hq⟩,q⟩:=q1
 subst e
 cases r1
 obtain⟨its,rv,p,hz⟩:=I1.tuple hq
 refine wpAny_pyIter_tuple (show s1.heap.IsTuple a its.toArray from p) ?_
 refine⟨s1.heap.objs.size,[s1.heap.objs.size],_,_,H1,rfl,I1.kept (t':=s1.toks) fun b o e=>yYY _ e,qDm a _,⟨_,yZA _ rfl,rfl,rfl⟩,fun b hb=>?_,q⟩
 have e:b=s1.heap.objs.size:=by simpa using hb
 subst e
 exact I1.fpOk (yZC _) (I1.hok.fresh (yZC _))
theorem qRe {pins:List (Addr×Obj)}{σ:St}{H:Hp}{s:Shared}{R:It→Hp→Prop}{E:Value→Shared→Prop}{lo hi:Int}{t u v:Tok}{tk:Nat}(I:Inv X pins σ H s)(h1 : -(2 ^ 62)≤lo)(h2:lo<2 ^ 62)(h3 : -(2 ^ 62)≤hi)(h4:hi<2 ^ 62)
  (q:R (Itr lo (hi - lo).toNat) H):wpAny (model X.prog X.w) X.A (pyIter (.ref s.heap.objs.size)) (PIE X pins σ tg R) E { s with heap:=s.heap.push { cls:=.type "range",data:=.fields #[.int lo t,.int hi u,.int 1 v] },toks:=tk }:=by
 refine wpAny_pyIter_range (IsRange.new ..) (small_one h1 h2 h3 h4) ?_
 have I1:Inv X pins σ H { s with heap:=s.heap.push { cls:=.type "range",data:=.fields #[.int lo t,.int hi u,.int 1 v] },toks:=tk }:=I.kept fun b o e=>yYY _ e
 refine⟨(s.heap.push { cls:=.type "range",data:=.fields #[.int lo t,.int hi u,.int 1 v] }).objs.size,[(s.heap.push { cls:=.type "range",data:=.fields #[.int lo t,.int hi u,.int 1 v] }).objs.size],_,_,H,rfl,
  I1.kept (t':=tk) fun b o e=>yYY _ e,qDn _ lo (hi - lo).toNat,?_,fun b hb=>?_,q⟩
 ·have e1:lo+((0:Nat):Int) * 1=lo:=by simp
  have e2:(((hi - lo).toNat:Nat):Int) - ((0:Nat):Int)=Builtin.Range.rangeSize lo hi 1:=by rw[rangeSize_one];split <;> omega
  show IsRangeIter _ _ (lo+((0:Nat):Int) * 1) ((((hi - lo).toNat:Nat):Int) - ((0:Nat):Int)) 1
  rw[e1,e2]
  exact yZA _ rfl
 ·have e:b=(s.heap.push { cls:=.type "range",data:=.fields #[.int lo t,.int hi u,.int 1 v] }).objs.size:=by simpa using hb
  subst e
  exact I1.fpOk (yZC _) (I1.hok.fresh (yZC _))
def iRng1 (ta:TA):TI:=fun σ H R=>ta σ H fun vs H1=>∃j:Int,vs=[.int j]∧-(2 ^ 62)≤j∧j<2 ^ 62∧R (Itr 0 j.toNat) H1
theorem zK {a:Expr}{ta:TA}{p pos:Pos}(hg:Gl X "range")(hm:X.mg "range" = none)(ha:PA X [a] ta)(hs:starEach [a] X.env=[(false,eval a X.env)]:=by rfl):PI X tg (.Call (.Name "range" p) [a] [] pos) (iRng1 ta):=by
 intro pins s σ H R I h
 refine Call_ (qXm I hg hm boot_range (PyProof.Rows.callWith_type1 (thn (ha pos pins s σ H _ I h) fun us s1 ⟨vs,H1,I1,r1,q1⟩=>?_) hs rfl))
 obtain⟨j,e,q1,q2,q⟩:=q1
 subst e
 cases r1 with
 | cons r rr=>
  cases rr
  obtain⟨t,rfl⟩:=r
  exact call_range_1 (qRe I1 (by omega) (by omega) q1 q2 (by simpa using q))
def tFor (wi:TI)(g:TG)(tb:TS):TS:=fun D σ H=>wi σ H fun J H1=>∃W:Nat→Nat→St→Hp→Prop,(∃m,W 0 m σ H1)∧∀i m σ H,W i m σ H→
 (J.stop i H∧D.nx σ H)∨(J.go i H∧∃N:St→Hp→Prop,(∀σ' H',N σ' H'→∃m',m'<m∧W (i+1) m' σ' H')∧∀x H',J.yld i H x H'→g x σ H' fun σ2 H2=>tb { D with nx:=N,ct:=N,bk:=D.nx } σ2 H2)
def pinsAt (fp:List Addr)(h:Heap):List (Addr×Obj):=fp.filterMap fun b=>(h.get? b).map fun o=>(b,o)
theorem vJ {fp:List Addr}{h:Heap}{b:Addr}{o:Obj}(hb:b∈fp)(e:h.get? b=some o):(b,o)∈pinsAt fp h:=List.mem_filterMap.mpr ⟨b,hb,by rw[e];rfl⟩
theorem qMq {fp:List Addr}{h:Heap}{p:Addr×Obj}(hp:p∈pinsAt fp h):p.1∈fp∧h.get? p.1=some p.2:=by
 obtain⟨b,hb,e⟩:=List.mem_filterMap.mp hp
 cases q:h.get? b with
 | none=>rw[q] at e;cases e
 | some o=>
  rw[q] at e
  have e':(b,o)=p:=Option.some.inj e
  subst e'
  exact⟨hb,q⟩
theorem Inv.pinned {pins:List (Addr×Obj)}{σ:St}{H:Hp}{s:Shared}{fp:List Addr}(I:Inv X pins σ H s)(hf:∀b∈fp,FpOk X pins H b)(ho:∀b∈fp,∃o,s.heap.get? b=some o∧∀v,o.data≠.cell v):Inv X (pins++pinsAt fp s.heap) σ H s:=
 I.pins_of fun p hp=>(yYR.mp hp).elim (fun z=>I.pin p (yYN _ z)) fun z=>by
  obtain⟨hb,e⟩:=qMq z
  obtain⟨f0,f1,f2,_⟩:=hf p.1 hb
  obtain⟨o,e',d⟩:=ho p.1 hb
  rw[e] at e';cases e'
  exact⟨e,f0,f1,f2,d⟩
theorem Inv.unpinned {pins pl:List (Addr×Obj)}{σ:St}{H:Hp}{s:Shared}(I:Inv X (pins++pl) σ H s):Inv X pins σ H s:=I.pins_of fun p hp=>I.pin p (yYN _ (List.mem_append_left _ hp))
theorem jK {iter:Expr}{body:List Stmt}{wi:TI}{g:TG}{tb:TS}{pos:Pos}(hp:PassesOwn (model X.prog X.w) X.A X.env X.xe)(hc:X.calm=true)(hi:PI X tg iter wi)(hg:PG X tg g)(hb:PSs X body tb)
  (hs:∀x,foldedSetIterable iter X.env x=pure x:=by intro _;rfl):PS X (.For tg iter body [] pos) (tFor wi g tb):=by
 intro pins s σ H D I h
 refine wpAny_For (thn (hi pins s σ H _ I h) fun v s1 h1=>thn h1 fun itv s2 h2=>?_) hs
 obtain⟨it,fp,tn,J,H2,e,I2,T,st2,f2,W,⟨m0,w0⟩,turn⟩:=h2
 subst e
 have stat:∀{H':Hp},(∀b∈fp,H' b=none)→∀b∈fp,FpOk X pins H' b:=fun hn b hb=>⟨hn b hb,(f2 b hb).2⟩
 refine codeAny_forLoop_any (fun n s'=>∃i σ' H',Inv X pins σ' H' s'∧tn i s'.heap∧(∀b∈fp,H' b=none)∧W i n σ' H') ?_ m0 ⟨0,σ,H2,I2,st2,fun b hb=>(f2 b hb).1,w0⟩
 rintro n s3 ⟨i,σ3,H3,I3,st3,fr3,w3⟩
 rcases turn i n σ3 H3 w3 with⟨stop,qn⟩ | ⟨go,N,hN,step⟩
 ·refine wpAny_passesOwn hp (thn (T.done X rfl rfl rfl hc i pins s3 σ3 H3 X.xe I3 (stat fr3) st3 stop) fun r s4 ⟨hr,I4⟩=>?_)
  subst hr
  exact wpAny_execs_nil ⟨σ3,H3,I4,qn⟩
 ·refine wpAny_passesOwn hp (thn (T.item X rfl rfl rfl hc i pins s3 σ3 H3 X.xe I3 (stat fr3) st3 go) fun r s4 ⟨u,hr,h4⟩=>?_)
  subst hr
  refine wpAny_passesOwn hp (thn h4 fun _ s5 ⟨x,H5,I5,r5,y5,st5,fr5⟩=>?_)
  have I5':=I5.pinned (stat fr5) (T.obj _ _ st5)
  refine wpAny_passesOwn hp (thn (hg _ s5 σ3 H5 x u _ I5' r5 (step x H5 y5)) fun _ s6 ⟨σ6,H6,I6,q6⟩=>?_)
  refine wpAny_passesOwn hp (thn (hb _ s6 σ6 H6 _ I6 q6) fun f s7 q7=>?_)
  have again:∀{σ7:St} {H7:Hp},Inv X (pins++pinsAt fp s5.heap) σ7 H7 s7→N σ7 H7→∃m,m<n∧∃i σ' H',Inv X pins σ' H' s7∧tn i s7.heap∧(∀b∈fp,H' b=none)∧W i m σ' H':=fun{σ7 H7} I7 n7=>by
   obtain⟨m',hm,w7⟩:=hN σ7 H7 n7
   refine⟨m',hm,i+1,σ7,H7,I7.unpinned,T.keep _ _ _ st5 fun b hb o e=>(I7.pin (b,o) (yYN _ (yYN _ (vJ hb e)))).1,fun b hb=>?_,w7⟩
   obtain⟨o,e,d⟩:=T.obj _ _ st5 b hb
   exact(I7.pin (b,o) (yYN _ (yYN _ (vJ hb e)))).2.1
  cases f with
  | next=>obtain⟨σ7,H7,I7,n7⟩:=q7;exact again I7 n7
  | cont=>obtain⟨σ7,H7,I7,n7⟩:=q7;exact again I7 n7
  | brk=>obtain⟨σ7,H7,I7,q7⟩:=q7;exact⟨σ7,H7,I7.unpinned,q7⟩
  | ret v=>obtain⟨x7,σ7,H7,I7,r7,q7⟩:=q7;exact⟨x7,σ7,H7,I7.unpinned,r7,q7⟩
end

theorem vY {K:yZO}{a:Addr}{xs:List V}{g:TG}{tb:TS}{D:Ends}{σ:St}{H:Hp}(Pv:Nat→St→Hp→Prop)(h0:Pv 0 σ H)(hl:∀i σ H,i≤xs.length→Pv i σ H→SqL K H a xs)
  (hs:∀i x σ H,xs[i]? = some x→Pv i σ H→g x σ H fun σ2 H2=>tb { D with nx:=Pv (i+1),ct:=Pv (i+1),bk:=D.nx } σ2 H2) (hd:∀σ H,Pv xs.length σ H→D.nx σ H):
  ∃W:Nat→Nat→St→Hp→Prop,(∃m,W 0 m σ H)∧∀i m σ H,W i m σ H→
   ((Itl K a).stop i H∧D.nx σ H)∨((Itl K a).go i H∧∃N:St→Hp→Prop,(∀σ' H',N σ' H'→∃m',m'<m∧W (i+1) m' σ' H')∧∀x H',(Itl K a).yld i H x H'→g x σ H' fun σ2 H2=>tb { D with nx:=N,ct:=N,bk:=D.nx } σ2 H2):=by
 refine⟨fun i m σ H=>m=xs.length - i∧i≤xs.length∧Pv i σ H,⟨xs.length,by simp,yZF _,h0⟩,?_⟩
 rintro i m σ H ⟨rfl,hi,p⟩
 have q:=hl i σ H hi p
 by_cases hlt:i<xs.length
 ·refine .inr ⟨⟨xs,xs[i],q,by simp[hlt]⟩,Pv (i+1),fun σ' H' p'=>⟨xs.length - (i+1),by omega,rfl,hlt,p'⟩,fun x H' y=>?_⟩
  obtain⟨e,y⟩:=y
  subst e
  exact hs i x σ _ (y xs q) p
 ·have e:i=xs.length:=by omega
  subst e
  exact .inl ⟨⟨xs,q,yZC _⟩,hd σ H p⟩
theorem qNz {lo:Int}{n:Nat}{g:TG}{tb:TS}{D:Ends}{σ:St}{H:Hp}(Pv:Nat→St→Hp→Prop)(h0:Pv 0 σ H)
  (hs:∀i σ H,i<n→Pv i σ H→g (.int (lo+i)) σ H fun σ2 H2=>tb { D with nx:=Pv (i+1),ct:=Pv (i+1),bk:=D.nx } σ2 H2) (hd:∀σ H,Pv n σ H→D.nx σ H):
  ∃W:Nat→Nat→St→Hp→Prop,(∃m,W 0 m σ H)∧∀i m σ H,W i m σ H→
   ((Itr lo n).stop i H∧D.nx σ H)∨((Itr lo n).go i H∧∃N:St→Hp→Prop,(∀σ' H',N σ' H'→∃m',m'<m∧W (i+1) m' σ' H')∧∀x H',(Itr lo n).yld i H x H'→g x σ H' fun σ2 H2=>tb { D with nx:=N,ct:=N,bk:=D.nx } σ2 H2):=by
 refine⟨fun i m σ H=>m=n - i∧i≤n∧Pv i σ H,⟨n,by simp,yZF _,h0⟩,?_⟩
 rintro i m σ H ⟨rfl,hi,p⟩
 by_cases hlt:i<n
 ·refine .inr ⟨hlt,Pv (i+1),fun σ' H' p'=>⟨n - (i+1),by omega,rfl,hlt,p'⟩,fun x H' y=>?_⟩
  obtain⟨e,y⟩:=y
  subst e y
  exact hs i σ _ hlt p
 ·have e:i=n:=by omega
  subst e
  exact .inl ⟨yZC _,hd σ H p⟩
end L2

namespace L2
open PySem PySem.Spec PyProof.Rows

abbrev R2:=V→V→Hp→VK→Prop
def OpR (X:Cx)(f:Value→Value→Sem Value)(r:R2):Prop:=
 ∀(pins:List (Addr×Obj)) (s:Shared) (σ:St) (H:Hp) (x y:V) (v u:Value) (Q:VK),Inv X pins σ H s→RelV x v→RelV y u→r x y H Q→
  wpAny (model X.prog X.w) X.A (f v u) (EP X pins σ Q) X.xe s
def UnR (X:Cx)(f:Value→Sem Value)(r:V→Hp→VK→Prop):Prop:=
 ∀(pins:List (Addr×Obj)) (s:Shared) (σ:St) (H:Hp) (x:V) (v:Value) (Q:VK),Inv X pins σ H s→RelV x v→r x H Q→
  wpAny (model X.prog X.w) X.A (f v) (EP X pins σ Q) X.xe s
def CallR (X:Cx)(f:Value)(r:List V→Hp→VK→Prop):Prop:=
 ∀(pins:List (Addr×Obj)) (s:Shared) (σ:St) (H:Hp) (xs:List V) (us:List Value) (Q:VK),Inv X pins σ H s→Vals xs us→r xs H Q→
  wpAny (model X.prog X.w) X.A (call f us) (EP X pins σ Q) X.xe s
def tOp (r:R2)(ta tb:TE):TE:=fun σ H Q=>ta σ H fun x H1=>tb σ H1 fun y H2=>r x y H2 Q
def tUn (r:V→Hp→VK→Prop)(ta:TE):TE:=fun σ H Q=>ta σ H fun x H1=>r x H1 Q
def rI (C:Int→Int→Prop)(g:Int→Int→V):R2:=fun x y H Q=>∃i j,x=.int i∧y=.int j∧C i j∧Q (g i j) H
def rI0 (g:Int→Int→V):R2:=fun x y H Q=>∃i j,x=.int i∧y=.int j∧Q (g i j) H
def rU (g:Int→V):V→Hp→VK→Prop:=fun x H Q=>∃i,x=.int i∧Q (g i) H

section
variable {X:Cx}{a b c:Expr}{ta tb tc:TE}{pos:Pos}

theorem binT (ha:PE X a ta)(hb:PE X b tb){pins:List (Addr×Obj)}{s:Shared}{σ:St}{H:Hp}{R:V→V→Hp→Prop}(I:Inv X pins σ H s)
  (h:ta σ H fun x H1=>tb σ H1 fun y H2=>R x y H2) {Q:Value→Shared→Prop} {f:Value→Value→Sem Value}
  (hf:∀v u s2 x y H2,Inv X pins σ H2 s2→RelV x v→RelV y u→R x y H2→wpAny (model X.prog X.w) X.A (f v u) Q X.xe s2):
  wpAny (model X.prog X.w) X.A (eval a X.env) (fun v s₁=>wpAny (model X.prog X.w) X.A (eval b X.env) (fun u s₂=>wpAny (model X.prog X.w) X.A (f v u) Q X.xe s₂) X.xe s₁) X.xe s:=by
 refine thn (ha pins s σ H _ I h) fun v s1 ⟨x,H1,I1,r1,q1⟩=>?_
 refine thn (hb pins s1 σ H1 _ I1 q1) fun u s2 ⟨y,H2,I2,r2,q2⟩=>?_
 exact hf v u s2 x y H2 I2 r1 r2 q2

theorem xQ {op:Operator}{r:R2}(ho:OpR X (binaryOp op) r)(ha:PE X a ta)(hb:PE X b tb):PE X (.BinOp a op b pos) (tOp r ta tb):=by
 intro pins s σ H Q I h
 exact wpAny_BinOp (binT ha hb I h fun v u s2 x y H2 I2 rx ry q=>ho pins s2 σ H2 x y v u Q I2 rx ry q)
theorem xKw {op:UnaryOp}{r:V→Hp→VK→Prop}(ho:UnR X (unaryOp op) r)(ha:PE X a ta):PE X (.UnaryOp op a pos) (tUn r ta):=by
 intro pins s σ H Q I h
 exact UnaryOp_ (thn (ha pins s σ H _ I h) fun v s1 ⟨x,H1,I1,r1,q1⟩=>ho pins s1 σ H1 x v Q I1 r1 q1)
theorem opI {f:Value→Value→Sem Value}{C:Int→Int→Prop}{g:Int→Int→Int}
  (rule:∀(i j:Int) (t u:Tok) (s:Shared) (Q:Value→Shared→Prop) (E:Value→Shared→Prop),C i j→Q (.int (g i j) s.toks) { s with toks:=s.toks+1 }→wpAny (model X.prog X.w) X.A (f (.int i t) (.int j u)) Q E s):
  OpR X f (rI C fun i j=>.int (g i j)):=by
 intro pins s σ H x y v u Q I rx ry h
 obtain⟨i,j,rfl,rfl,hc,q⟩:=h
 obtain⟨t,rfl⟩:=rx
 obtain⟨t',rfl⟩:=ry
 exact rule i j t t' s _ _ hc ⟨.int (g i j),H,I.tok _,⟨_,rfl⟩,q⟩
theorem opI0 {f:Value→Value→Sem Value}{g:Int→Int→Int}
  (rule:∀(i j:Int) (t u:Tok) (s:Shared) (Q:Value→Shared→Prop) (E:Value→Shared→Prop),Q (.int (g i j) s.toks) { s with toks:=s.toks+1 }→wpAny (model X.prog X.w) X.A (f (.int i t) (.int j u)) Q E s):
  OpR X f (rI0 fun i j=>.int (g i j)):=by
 intro pins s σ H x y v u Q I rx ry h
 obtain⟨i,j,rfl,rfl,q⟩:=h
 obtain⟨t,rfl⟩:=rx
 obtain⟨t',rfl⟩:=ry
 exact rule i j t t' s _ _ ⟨.int (g i j),H,I.tok _,⟨_,rfl⟩,q⟩
theorem opB0 {f:Value→Value→Sem Value}{g:Int→Int→Bool}
  (rule:∀(i j:Int) (t u:Tok) (s:Shared) (Q:Value→Shared→Prop) (E:Value→Shared→Prop),Q (.bool (g i j)) s→wpAny (model X.prog X.w) X.A (f (.int i t) (.int j u)) Q E s):
  OpR X f (rI0 fun i j=>.bl (g i j)):=by
 intro pins s σ H x y v u Q I rx ry h
 obtain⟨i,j,rfl,rfl,q⟩:=h
 obtain⟨t,rfl⟩:=rx
 obtain⟨t',rfl⟩:=ry
 exact rule i j t t' s _ _ ⟨.bl (g i j),H,I,rfl,q⟩

def CPow (i j:Int):Prop:=0≤j∧j≤1000000∧i.natAbs<2 ^ 64
theorem zC:OpR X (binaryOp .Add) (rI0 fun i j=>.int (i+j)):=opI0 fun _ _ _ _ _ _ _ q=>add_int q
theorem yP:OpR X (binaryOp .Sub) (rI0 fun i j=>.int (i - j)):=opI0 fun _ _ _ _ _ _ _ q=>sub_int q
theorem yE:OpR X (binaryOp .Mod) (rI (fun _ j=>0<j) fun i j=>.int (i % j)):=opI fun i j _ _ _ _ _ hc q=>by
 have h1:(0:Int)<j:=hc
 exact mod_int' (by omega) (by rw[Int.fmod_eq_emod_of_nonneg i (by omega)];exact q)
theorem qDj:OpR X (binaryOp .Pow) (rI CPow fun i j=>.int (i ^ j.toNat)):=opI fun _ _ _ _ _ _ _ hc q=>pow_int_small hc.1 hc.2.1 hc.2.2 q
theorem unI {f:Value→Sem Value}{g:Int→Int}
  (rule:∀(i:Int) (t:Tok) (s:Shared) (Q:Value→Shared→Prop) (E:Value→Shared→Prop),Q (.int (g i) s.toks) { s with toks:=s.toks+1 }→wpAny (model X.prog X.w) X.A (f (.int i t)) Q E s):
  UnR X f (rU fun i=>.int (g i)):=by
 intro pins s σ H x v Q I rx h
 obtain⟨i,rfl,q⟩:=h
 obtain⟨t,rfl⟩:=rx
 exact rule i t s _ _ ⟨.int (g i),H,I.tok _,⟨_,rfl⟩,q⟩
theorem qUi:UnR X (unaryOp .USub) (rU fun i=>.int (-i)):=unI fun _ _ _ _ _ q=>neg_int q
end

def scal:V→V→Bool
 | .non,.non=>true | .non,.int _=>true | .int _,.non=>true | .non,.bl _=>true | .bl _,.non=>true | .non,.str _=>true | .str _,.non=>true
 | .int _,.int _=>true | .bl _,.bl _=>true | .str _,.str _=>true | .byt _,.byt _=>true
 | .int _,.str _=>true | .str _,.int _=>true | .bl _,.str _=>true | .str _,.bl _=>true
 | _,_=>false
def rEq:R2:=fun x y H Q=>scal x y=true∧Q (.bl (decide (x=y))) H
def rNe:R2:=fun x y H Q=>scal x y=true∧Q (.bl (!decide (x=y))) H

theorem qOw {i j:Int}:decide (V.int i=V.int j)=(i == j):=by
 rw[Bool.eq_iff_iff]
 simp
theorem xQb {i j:Bool}:decide (V.bl i=V.bl j)=(i == j):=by
 rw[Bool.eq_iff_iff]
 simp
theorem qOv {i j:Str}:decide (V.str i=V.str j)=(i == j):=by
 rw[Bool.eq_iff_iff]
 simp
theorem qOa {i j:Array UInt8}:decide (V.byt i=V.byt j)=(i.toList == j.toList):=by
 rw[Bool.eq_iff_iff]
 cases i
 cases j
 simp

section
variable {X:Cx}{a b c:Expr}{ta tb tc:TE}{pos:Pos}
theorem zJ {pins:List (Addr×Obj)}{σ:St}{H:Hp}{s:Shared}{Q:VK}{k k':Bool}(I:Inv X pins σ H s)(q:Q (.bl k) H)(e:k=k'):EP X pins σ Q (.bool k') s:=by
 subst e
 exact⟨.bl k,H,I,rfl,q⟩
theorem zA:OpR X (compareOp .Eq) rEq:=by
 intro pins s σ H x y v u Q I rx ry h
 obtain⟨hs,q⟩:=h
 cases x with
 | non=>
  cases rx
  cases y with
  | non=>cases ry;exact PySem.EqNone.eq_none_none (zJ I q (by simp))
  | bl j=>cases ry;exact PySem.EqNone.eq_none_bool (zJ I q (by simp))
  | int j=>obtain⟨t',rfl⟩:=ry;exact PySem.EqNone.eq_none_int (zJ I q (by simp))
  | str j=>obtain⟨t',rfl⟩:=ry;exact PySem.EqNone.eq_none_str (zJ I q (by simp))
  | _=>exact absurd (show false=true from hs) yZK
 | bl i=>
  cases rx
  cases y with
  | non=>cases ry;exact PySem.EqNone.eq_bool_none (zJ I q (by simp))
  | bl j=>cases ry;exact eq_bool (zJ I q xQb)
  | str j=>obtain⟨t',rfl⟩:=ry;exact PySem.EqMixed.eq_bool_str (zJ I q (by simp))
  | _=>exact absurd (show false=true from hs) yZK
 | int i=>
  obtain⟨t,rfl⟩:=rx
  cases y with
  | non=>cases ry;exact PySem.EqNone.eq_int_none (zJ I q (by simp))
  | int j=>obtain⟨t',rfl⟩:=ry;exact eq_int (zJ I q qOw)
  | str j=>obtain⟨t',rfl⟩:=ry;exact PySem.EqMixed.eq_int_str (zJ I q (by simp))
  | _=>exact absurd (show false=true from hs) yZK
 | str i=>
  obtain⟨t,rfl⟩:=rx
  cases y with
  | non=>cases ry;exact PySem.EqNone.eq_str_none (zJ I q (by simp))
  | bl j=>cases ry;exact PySem.EqMixed.eq_str_bool (zJ I q (by simp))
  | int j=>obtain⟨t',rfl⟩:=ry;exact PySem.EqMixed.eq_str_int (zJ I q (by simp))
  | str j=>obtain⟨t',rfl⟩:=ry;exact eq_str (zJ I q qOv)
  | _=>exact absurd (show false=true from hs) yZK
 | byt i=>
  obtain⟨t,rfl⟩:=rx
  cases y with
  | byt j=>obtain⟨t',rfl⟩:=ry;exact PySem.W.eq_bytes (zJ I q qOa)
  | _=>exact absurd (show false=true from hs) yZK
 | _=>cases y <;> exact absurd (show false=true from hs) yZK
theorem qSj:OpR X (compareOp .NotEq) rNe:=by
 intro pins s σ H x y v u Q I rx ry h
 obtain⟨hs,q⟩:=h
 cases x with
 | non=>
  cases rx
  cases y with
  | non=>cases ry;exact PySem.EqNone.ne_none_none (zJ I q (by simp))
  | bl j=>cases ry;exact PySem.EqNone.ne_none_bool (zJ I q (by simp))
  | int j=>obtain⟨t',rfl⟩:=ry;exact PySem.EqNone.ne_none_int (zJ I q (by simp))
  | str j=>obtain⟨t',rfl⟩:=ry;exact PySem.EqNone.ne_none_str (zJ I q (by simp))
  | _=>exact absurd (show false=true from hs) yZK
 | bl i=>
  cases rx
  cases y with
  | non=>cases ry;exact PySem.EqNone.ne_bool_none (zJ I q (by simp))
  | bl j=>cases ry;exact ne_bool (zJ I q (congrArg not xQb))
  | str j=>obtain⟨t',rfl⟩:=ry;exact PySem.EqMixed.ne_bool_str (zJ I q (by simp))
  | _=>exact absurd (show false=true from hs) yZK
 | int i=>
  obtain⟨t,rfl⟩:=rx
  cases y with
  | non=>cases ry;exact PySem.EqNone.ne_int_none (zJ I q (by simp))
  | int j=>obtain⟨t',rfl⟩:=ry;exact ne_int (zJ I q (congrArg not qOw))
  | str j=>obtain⟨t',rfl⟩:=ry;exact PySem.EqMixed.ne_int_str (zJ I q (by simp))
  | _=>exact absurd (show false=true from hs) yZK
 | str i=>
  obtain⟨t,rfl⟩:=rx
  cases y with
  | non=>cases ry;exact PySem.EqNone.ne_str_none (zJ I q (by simp))
  | bl j=>cases ry;exact PySem.EqMixed.ne_str_bool (zJ I q (by simp))
  | int j=>obtain⟨t',rfl⟩:=ry;exact PySem.EqMixed.ne_str_int (zJ I q (by simp))
  | str j=>obtain⟨t',rfl⟩:=ry;exact ne_str (zJ I q (congrArg not qOv))
  | _=>exact absurd (show false=true from hs) yZK
 | byt i=>
  obtain⟨t,rfl⟩:=rx
  cases y with
  | byt j=>obtain⟨t',rfl⟩:=ry;exact PySem.W.ne_bytes (zJ I q (congrArg not qOa))
  | _=>exact absurd (show false=true from hs) yZK
 | _=>cases y <;> exact absurd (show false=true from hs) yZK

theorem qKz:OpR X (compareOp .Lt) (rI0 fun i j=>.bl (decide (i<j))):=opB0 fun _ _ _ _ _ _ _ q=>lt_int q
theorem xZx:OpR X (compareOp .LtE) (rI0 fun i j=>.bl (decide (i≤j))):=opB0 fun _ _ _ _ _ _ _ q=>le_int q
theorem xZj:OpR X (compareOp .Gt) (rI0 fun i j=>.bl (decide (j<i))):=opB0 fun _ _ _ _ _ _ _ q=>gt_int q
theorem xKf:OpR X (compareOp .GtE) (rI0 fun i j=>.bl (decide (j≤i))):=opB0 fun _ _ _ _ _ _ _ q=>ge_int q
theorem xKe:OpR X (compareOp .Is) (fun x y H Q=>y=.non∧Q (.bl (decide (x=.non))) H):=by
 intro pins s σ H x y v u Q I rx ry h
 obtain⟨rfl,q⟩:=h
 cases ry
 refine is_none_gen (zJ I q ?_)
 cases x <;> first
  | (cases rx;rfl)
  | (obtain⟨t,rfl⟩:=rx;rfl)
theorem xZq:OpR X (compareOp .IsNot) (fun x y H Q=>y=.non∧Q (.bl (!decide (x=.non))) H):=by
 intro pins s σ H x y v u Q I rx ry h
 obtain⟨rfl,q⟩:=h
 cases ry
 refine isnot_none_gen (zJ I q ?_)
 cases x <;> first
  | (cases rx;rfl)
  | (obtain⟨t,rfl⟩:=rx;rfl)

theorem xD (b:Expr){op:CmpOp}(h:op≠.In:=by decide)(h2:op≠.NotIn:=by decide):behindInMarks op b=false:=by
 have e1:(op == CmpOp.In)=false:=by cases op <;> first | rfl | exact absurd rfl h
 have e2:(op == CmpOp.NotIn)=false:=by cases op <;> first | rfl | exact absurd rfl h2
 cases b <;> simp[behindInMarks,e1,e2]
theorem yG {op:CmpOp}{r:R2}(ho:OpR X (compareOp op) r)(ha:PE X a ta)(hb:PE X b tb)(hm:behindInMarks op b=false):PE X (.Compare a [op] [b] pos) (tOp r ta tb):=by
 intro pins s σ H Q I h
 exact wpAny_Compare1 (binT ha hb I h fun v u s2 x y H2 I2 rx ry q=>ho pins s2 σ H2 x y v u Q I2 rx ry q) hm
def tTest (t:TE):TT:=fun σ H Q=>t σ H fun x H'=>∃k,x=.bl k∧Q k H'
theorem qR {op:CmpOp}{r:R2}(ho:OpR X (compareOp op) r)(ha:PE X a ta)(hb:PE X b tb)(hm:behindInMarks op b=false):PT X (.Compare a [op] [b] pos) (tTest (tOp r ta tb)):=by
 intro pins s σ H Q I h
 refine wpAny_isTrue_Compare1 (thn (ha pins s σ H _ I h) fun v s1 ⟨x,H1,I1,r1,q1⟩=>thn (hb pins s1 σ H1 _ I1 q1) fun u s2 ⟨y,H2,I2,r2,q2⟩=>
  thn (ho pins s2 σ H2 x y v u _ I2 r1 r2 q2) fun c s3 ⟨z,H3,I3,r3,k,e,q3⟩=>?_) hm
 subst e
 cases r3
 exact wpAny_truthy_bool ⟨H3,I3,q3⟩
def tChain (r r':R2)(ta tb tc:TE):TE:=fun σ H Q=>ta σ H fun x H1=>tb σ H1 fun y H2=>r x y H2 fun z H3=>∃k,z=.bl k∧
 (if k=true then tc σ H3 fun w' H4=>r' y w' H4 Q else Q (.bl false) H3)
theorem qCo {op op':CmpOp}{r r':R2}(ho:OpR X (compareOp op) r)(ho':OpR X (compareOp op') r')(ha:PE X a ta)(hb:PE X b tb)(hc:PE X c tc)
  (hm:lastMarks [op,op'] [b,c]=false:=by with_unfolding_all rfl):PT X (.Compare a [op,op'] [b,c] pos) (tTest (tChain r r' ta tb tc)):=by
 intro pins s σ H Q I h
 refine isTrue_chain (thn (ha pins s σ H _ I h) fun v s1 ⟨x,H1,I1,r1,q1⟩=>test_link (thn (hb pins s1 σ H1 _ I1 q1) fun u s2 ⟨y,H2,I2,r2,q2⟩=>
  thn (ho pins s2 σ H2 x y v u _ I2 r1 r2 q2) fun d s3 ⟨z,H3,I3,r3,k,e,q3⟩=>?_)) hm
 subst e
 cases r3
 refine wpAny_truthy_bool ?_
 cases k with
 | false=>
  obtain⟨k',e',q'⟩:=q3
  cases e'
  exact ite_ff ⟨H3,I3,q'⟩
 | true=>
  refine ite_tt (test_last (thn (hc pins s3 σ H3 _ I3 q3) fun w' s4 ⟨z',H4,I4,r4,q4⟩=>thn (ho' pins s4 σ H4 y z' u w' _ I4 r2 r4 q4) fun d' s5 ⟨z2,H5,I5,r5,k2,e2,q5⟩=>?_))
  subst e2
  cases r5
  exact wpAny_truthy_bool ⟨H5,I5,q5⟩

theorem line63:(sizeLine:Nat)<2 ^ 63:=by rw[sizeLine_eq];decide
theorem qJd:OpR X (binaryOp .Add) (fun x y H Q=>∃i j,x=.str i∧y=.str j∧i.length+j.length≤sizeLine∧Q (.str (i++j)) H):=by
 intro pins s σ H x y v u Q I rx ry h
 obtain⟨i,j,rfl,rfl,hz,q⟩:=h
 obtain⟨t,rfl⟩:=rx
 obtain⟨t',rfl⟩:=ry
 exact add_str (fun t' tk=>⟨.str (i++j),H,I.tok _,⟨_,rfl⟩,q⟩) hz
theorem vals1 {x:V}{us:List Value}(r:Vals [x] us):∃u,us=[u]∧RelV x u:=by
 cases r with
 | cons r1 r2=>cases r2;exact⟨_,rfl,r1⟩
theorem vals2 {x y:V}{us:List Value}(r:Vals [x,y] us):∃u w',us=[u,w']∧RelV x u∧RelV y w':=by
 cases r with
 | cons r1 r2=>
  cases r2 with
  | cons r3 r4=>cases r4;exact⟨_,_,rfl,r1,r3⟩
theorem qOl (hc:X.calm=true):CallR X (.builtin "min") (fun xs H Q=>∃i j,xs=[.int i,.int j]∧Q (.int (if j<i then j else i)) H):=by
 intro pins s σ H xs us Q I r h
 obtain⟨i,j,rfl,q⟩:=h
 obtain⟨u,w',rfl,⟨t,rfl⟩,⟨t',rfl⟩⟩:=vals2 r
 refine min_two_ints (I.ok.hd hc) fun h' tk k=>⟨_,H,I.kept k,?_,q⟩
 by_cases hj:j<i
 ·rw[if_pos hj,if_pos hj];exact⟨_,rfl⟩
 ·rw[if_neg hj,if_neg hj];exact⟨_,rfl⟩
theorem qWc:CallR X (.type "int") (fun xs H Q=>(∃i,xs=[.int i]∧Q (.int i) H)∨∃k,xs=[.bl k]∧Q (.int (if k then 1 else 0)) H):=by
 intro pins s σ H xs us Q I r h
 rcases h with⟨i,rfl,q⟩ | ⟨k,rfl,q⟩
 ·obtain⟨u,rfl,t,rfl⟩:=vals1 r
  exact call_int_int ⟨.int i,H,I,⟨_,rfl⟩,q⟩
 ·obtain⟨u,rfl,r1⟩:=vals1 r
  cases r1
  exact call_int_bool ⟨.int (if k then 1 else 0),H,I.tok _,⟨_,rfl⟩,q⟩
end
end L2

namespace L2
open PySem PySem.Spec PyProof.Rows

structure ObjM (h:Heap)(x dx C:Addr)(mA:Str→Option Value):Prop where
 obj:h.get? x=some (PySem.W.instObj C dx)
 ns:h.Ns1 dx mA
 ne:dx≠x

theorem qMv {h:Heap}{dx:Addr}{mA:Str→Option Value}(n:h.Ns1 dx mA):∃od,h.get? dx=some od∧∀name,PySem.W.lookIn name od=some (mA name):=by
 obtain⟨o,es,ep,ho,hd,hk,_,hm⟩:=n
 refine⟨o,ho,fun name=>?_⟩
 have e:=hm name
 unfold nsFind findBy at e
 rw[← Array.find?_toList] at e
 unfold PySem.W.lookIn
 rw[hd]
 dsimp only
 split
 ·rename_i y q
  rw[q] at e
  exact congrArg some e
 ·rename_i q
  rw[q] at e
  have a:es.toList.any (·.refKey)=false:=by
   rw[List.any_eq_false]
   intro y hy
   obtain⟨z,t,hkey⟩:=hk y (Array.mem_toList_iff.mp hy)
   simp[DictEntry.refKey,hkey]
  have a':¬es.toList.any (·.refKey)=true:=by rw[a];exact yZK
  rw[if_neg a']
  exact congrArg some e

theorem ObjM.look {h:Heap}{x dx C:Addr}{mA:Str→Option Value}(I:ObjM h x dx C mA):∃od,PySem.W.InstAt h x (PySem.W.instObj C dx) C (some od)∧∀name,PySem.W.lookIn name od=some (mA name):=
 let ⟨od,ho,hl⟩:=qMv I.ns
 ⟨od,⟨I.obj,rfl,rfl,ho⟩,hl⟩

section
variable {prog:Program}{w:World}{A:Around}{E:Value→Shared→Prop}{s:Shared}{K:yZO}{x dx C f:Addr}{mA:Str→Option Value}{name:Str}{v:Value}

theorem xZi {expr:Bool}{Q:Value→Shared→Prop}(X:K.In s.heap)(I:ObjM s.heap x dx C mA)(hg:PySem.W.plainGet K C name=true)(hh:PySem.W.hasDictIn K C=true)
  (ha:PySem.W.findIn K (.ref C) name=some none) (hv:mA name=some v) (hv':PySem.W.handedIn v=true) (h:Q v { s with toks:=s.toks+1 }):
  wpAny (model prog w) A (getAttr (.ref x) name expr) Q E s:=by
 obtain⟨od,J,hl⟩:=I.look
 exact PySem.W.get_value X J (PySem.W.plainGet_of hg).1 (PySem.W.findObj_own hh ha rfl (by rw[hl,hv])) hv' h

theorem qTj {pl:Sem Bool}{Q:Value×List Value→Shared→Prop}(X:K.In s.heap)(I:ObjM s.heap x dx C mA)(hg:PySem.W.plainGet K C name=true)
  (hf:PySem.W.findIn K (.ref C) name=some (some (.ref f))) (ht:PySem.W.isFn K (.ref f)=true) (hv:mA name=none) (h:Q (.ref f,[.ref x]) s):
  wpAny (model prog w) A (getMethod (.ref x) name pl) Q E s:=by
 obtain⟨od,J,hl⟩:=I.look
 exact PySem.W.method_fn X J (PySem.W.plainGet_of hg).1 (PySem.W.plainGet_of hg).2 hf (beq_iff_eq.mp ht) (by show(PySem.W.lookIn name od).map (·.isSome)=some false;rw[hl,hv];rfl) h

theorem xXw {ns:List Str}{Q:Unit→Shared→Prop}(X:K.In s.heap)(I:ObjM s.heap x dx C mA)
  (hs:PySem.W.findIn K (.ref C) "__setattr__" = some (some (.builtin "object.__setattr__"))) (hp:PySem.W.plainOver K C=true) (ht:PySem.W.takerIn K C name=some none) (hh:PySem.W.hasDictIn K C=true)
  (hw:PySem.Within mA ns) (hsz:ns.length≤sizeLine)
  (h:∀h',ObjM h' x dx C (fun y=>if y=name then some v else mA y)→Heap.SameBut dx s.heap h'→Q () { s with heap:=h',toks:=s.toks+2 }):
  wpAny (model prog w) A (setAttr (.ref x) name v) Q E s:=by
 obtain⟨od,J,hl⟩:=I.look
 refine PySem.W.set_plain X J hs (PySem.W.osa_open (s:={ s with toks:=s.toks+1 }) (r:=none) X J hp ht fun b=>?_)
 obtain⟨cd,hc,hd'⟩:=PySem.W.any_some hh
 have hx:s.heap.get? x=some ⟨.ref C,some dx,.plain,#[]⟩:=I.obj
 refine yYW (yYX (yYW (yYW (wpAny_loadPart hx (yYW (PySem.W.Looks.here (s:={ s with toks:=s.toks+1 }) (PySem.W.looks_clsIn X hc) ?_))))))
 rw[hd']
 refine yYX (a:=some dx) (yYW (yYX (yYW ?_)))
 refine wpAny_nsSet1 (s:={ s with toks:=s.toks+1 }) I.ns fun h' hn2 hs2=>?_
 obtain⟨oD,esD,epD,hoD,hdD,hcD⟩:=hn2.count (PySem.Within.cons name v hw)
 refine yYW (wpAny_lookBehind hoD (by rw[hdD];exact pastItsLine_dict (yZI hcD (by rw[yYS];omega))) ?_)
 exact yYX (h _ ⟨(hs2.2 _ (Ne.symm I.ne)).trans I.obj,hn2,I.ne⟩ hs2)

theorem qSe {R:Result→Shared→Prop}{vs:List Value}{kw:List (Str×Value)}(X:K.In s.heap)(hm:PySem.W.makesIn K C=true)
  (hi:PySem.W.findIn K (.ref C) "__init__" = some (some (.ref f))) (hf:PySem.W.typeIn K (.ref f)=some (.type "function"))
  (h:codeAny (model prog w) (A.under (.builtin "type.__call__" ⟨.ref C::vs,kw⟩)) (.call (.ref f) ⟨.ref (s.heap.objs.size+1)::vs,kw⟩) (PySem.W.InitBack (s.heap.objs.size+1) R)
   { s with heap:=(s.heap.push PySem.W.emptyDict).push (PySem.W.instObj C s.heap.objs.size) }):
  codeAny (model prog w) A (.call (.ref C) ⟨vs,kw⟩) R s:=by
 obtain⟨hh,g,d,t,os⟩:=s
 exact PySem.W.make_core (PySem.W.makes_of X hm) (PySem.W.looks_findIn X hi) (fun self=>PySem.W.bind_fn X self hf) (.inl rfl) h
end

def putF (f:Str)(v:V):List (Str×V)→List (Str×V)
 | []=>[(f,v)]
 | (g,x)::r=>if g=f then (g,v)::r else (g,x)::putF f v r
theorem qXg (f g:Str)(v:V):∀fs:List (Str×V),(putF f v fs).lookup g=if g=f then some v else fs.lookup g
 | []=>by
  show List.lookup g [(f,v)]=_
  by_cases h:g=f
  ·have hb:(g == f)=true:=beq_iff_eq.mpr h
   simp only[List.lookup,hb,if_pos h]
  ·have hb:(g == f)=false:=beq_eq_false_iff_ne.mpr h
   simp only[List.lookup,hb,if_neg h]
 | (k,x)::r=>by
  have ih:=qXg f g v r
  rw[show putF f v ((k,x)::r)=(if k=f then (k,v)::r else (k,x)::putF f v r) from rfl]
  by_cases hk:k=f
  ·rw[if_pos hk]
   by_cases h:g=k
   ·have hb:(g == k)=true:=beq_iff_eq.mpr h
    simp only[List.lookup,hb,if_pos (h.trans hk)]
   ·have hb:(g == k)=false:=beq_eq_false_iff_ne.mpr h
    simp only[List.lookup,hb,if_neg (fun e:g=f=>h (e.trans hk.symm))]
  ·rw[if_neg hk]
   by_cases h:g=k
   ·have hb:(g == k)=true:=beq_iff_eq.mpr h
    simp only[List.lookup,hb,if_neg (fun e:g=f=>hk (h.symm.trans e))]
   ·have hb:(g == k)=false:=beq_eq_false_iff_ne.mpr h
    simp only[List.lookup,hb]
    exact ih
theorem qXn (f:Str)(v:V):∀fs:List (Str×V),f∈(putF f v fs).map (·.1)∧∀g,g∈fs.map (·.1)→g∈(putF f v fs).map (·.1)
 | []=>⟨by simp[putF],fun g h=>by simp at h⟩
 | (k,x)::r=>by
  obtain⟨i1,i2⟩:=qXn f v r
  rw[show putF f v ((k,x)::r)=(if k=f then (k,v)::r else (k,x)::putF f v r) from rfl]
  by_cases hk:k=f
  ·rw[if_pos hk]
   subst hk
   exact⟨by simp,fun g h=>by simpa using h⟩
  ·rw[if_neg hk]
   refine⟨?_,fun g h=>?_⟩
   ·rw[List.map_cons]
    exact yYH _ i1
   ·rw[List.map_cons] at h ⊢
    rcases yYK.mp h with e | e
    ·exact yYK.mpr (.inl e)
    ·exact yYH _ (i2 g e)
theorem qXl (f:Str)(v:V):∀fs:List (Str×V),(putF f v fs).length≤fs.length+1
 | []=>by simp[putF]
 | (k,x)::r=>by
  have ih:=qXl f v r
  rw[show putF f v ((k,x)::r)=(if k=f then (k,v)::r else (k,x)::putF f v r) from rfl]
  by_cases hk:k=f
  ·rw[if_pos hk,yYS,yYS];omega
  ·rw[if_neg hk,yYS,yYS];omega

theorem RelO.some_of {v:V}{o:Option Value}(r:RelO (some v) o):∃u,o=some u∧RelV v u:=by
 cases o with
 | none=>exact(show False from r).elim
 | some u=>exact⟨u,rfl,r⟩
theorem RelO.none_of {o:Option Value}(r:RelO none o):o=none:=by
 cases o with
 | none=>rfl
 | some u=>exact(show False from r).elim
theorem qMn {v:V}{u:Value}(r:RelV v u):PySem.W.handedIn u=true:=by
 cases v with
 | non=>cases(show u=Value.none from r);rfl
 | bl b=>cases(show u=Value.bool b from r);rfl
 | int i=>obtain⟨t,e⟩:=(show∃t,u=Value.int i t from r);cases e;rfl
 | str x=>obtain⟨t,e⟩:=(show∃t,u=Value.str x t from r);cases e;rfl
 | byt b=>obtain⟨t,e⟩:=(show∃t,u=Value.bytes b t from r);cases e;rfl
 | flt b=>obtain⟨t,e⟩:=(show∃t,u=Value.float b t from r);cases e;rfl
 | ref a=>cases(show u=Value.ref a from r);rfl
 | ty n=>cases(show u=Value.type n from r);rfl

section
variable {P:Program}{w:World}{H H':Hp}{h h':Heap}{a C dx:Addr}{fs fs':List (Str×V)}
theorem qKa (hok:HOk P w H h)(e:H a=some (.ins C dx fs)):∃mA,ObjM h a dx C mA∧(∀f,RelO (fs.lookup f) (mA f))∧PySem.Within mA (fs.map (·.1))∧fs.length≤1000∧H dx=some (.own a):=by
 obtain⟨d,z,ne,ob,mA,n,r,q⟩:=(show ObjOk P w H h a (.ins C dx fs) from hok a _ e)
 exact⟨mA,⟨ob,n,ne⟩,r,q,z,d⟩
end

structure Cls (K:yZO)(C:Addr):Prop where
 pg:PySem.W.plainGet K C Str.empty=true
 hd:PySem.W.hasDictIn K C=true
 po:PySem.W.plainOver K C=true
 sa:PySem.W.findIn K (.ref C) "__setattr__" = some (some (.builtin "object.__setattr__"))
theorem Cls.get {K:yZO}{C:Addr}(c:Cls K C)(f:Str):PySem.W.plainGet K C f=true:=c.pg
def NoAttr (K:yZO)(C:Addr)(f:Str):Prop:=PySem.W.findIn K (.ref C) f=some none
theorem NoAttr.taker {K:yZO}{C:Addr}{f:Str}(n:NoAttr K C f):PySem.W.takerIn K C f=some none:=by
 unfold PySem.W.takerIn
 rw[show PySem.W.findIn K (.ref C) f=some none from n]
 rfl
structure Meth (K:yZO)(C:Addr)(m:Str)(f:Addr):Prop where
 at_:PySem.W.findIn K (.ref C) m=some (some (.ref f))
 fn:PySem.W.isFn K (.ref f)=true
 kp:PySem.W.keepIn K (.ref f)=true

section
variable {X:Cx}{pins:List (Addr×Obj)}{σ:St}{H:Hp}{s:Shared}{a C dx:Addr}{fs:List (Str×V)}{f:Str}{v:V}{A:Around}{E:Value→Shared→Prop}

theorem qJm {b:Bool}{Q:Value→Shared→Prop}(I:Inv X pins σ H s)(e:H a=some (.ins C dx fs))(c:Cls X.K C)(n:NoAttr X.K C f)(l:fs.lookup f=some v)
  (h:∀u s',Inv X pins σ H s'→RelV v u→Q u s'):wpAny (model X.prog X.w) A (getAttr (.ref a) f b) Q E s:=by
 obtain⟨mA,O,r,_,_,_⟩:=qKa I.hok e
 obtain⟨u,hu,ru⟩:=RelO.some_of (v:=v) (o:=mA f) (by rw[← l];exact r f)
 exact xZi I.kIn O (c.get f) c.hd n hu (qMn ru) (h u _ (I.tok _) ru)

theorem qJl {m:Str}{g:Addr}{pl:Sem Bool}{Q:Value×List Value→Shared→Prop}(I:Inv X pins σ H s)(e:H a=some (.ins C dx fs))(c:Cls X.K C)(k:Meth X.K C m g)(l:fs.lookup m=none)
  (h:Q (.ref g,[.ref a]) s):wpAny (model X.prog X.w) A (getMethod (.ref a) m pl) Q E s:=by
 obtain⟨mA,O,r,_,_,_⟩:=qKa I.hok e
 have hn:mA m=none:=RelO.none_of (by rw[← l];exact r m)
 exact qTj I.kIn O (c.get m) k.at_ k.fn hn h

theorem qJq {y:V}{u:Value}{Q:Unit→Shared→Prop}(I:Inv X pins σ H s)(e:H a=some (.ins C dx fs))(c:Cls X.K C)(n:NoAttr X.K C f)(hl:fs.length<1000)(ry:RelV y u)
  (h:∀s',Inv X pins σ (upd H a (.ins C dx (putF f y fs))) s'→Q () s'):wpAny (model X.prog X.w) A (setAttr (.ref a) f u) Q E s:=by
 obtain⟨mA,O,r,wi,_,ho⟩:=qKa I.hok e
 have hz:(fs.map (·.1)).length≤sizeLine:=by rw[yYC,sizeLine_eq];omega
 refine xXw I.kIn O c.sa c.po n.taker c.hd wi hz fun h' O' sb=>h _ ?_
 have hd:∃o,h'.get? dx=some o:=let ⟨o,_,_,e',_⟩:=O'.ns;⟨o,e'⟩
 refine I.write (x:=a) (e:=dx) (by rw[e];exact True.intro) (.inr ho) (fun b q hb z=>(sb.2 b hb).trans z) hd ?_
 refine⟨by rw[qA O.ne];exact ho,?_,O.ne,O'.obj,_,O'.ns,fun g=>?_,fun g hg=>?_⟩
 ·have:=qXl f y fs;omega
 ·show RelO ((putF f y fs).lookup g) (if g=f then some u else mA g)
  rw[qXg]
  by_cases q:g=f
  ·rw[if_pos q,if_pos q];exact ry
  ·rw[if_neg q,if_neg q];exact r g
 ·by_cases q:g=f
  ·rw[q];exact(qXn f y fs).1
  ·refine(qXn f y fs).2 g (wi g fun z=>hg ?_)
   show(if g=f then some u else mA g)=none
   rw[if_neg q];exact z

theorem Inv.made (I:Inv X pins σ H s):Inv X pins σ (upd (upd H s.heap.objs.size (.own (s.heap.objs.size+1))) (s.heap.objs.size+1) (.ins C s.heap.objs.size []))
  { s with heap:=(s.heap.push PySem.W.emptyDict).push (PySem.W.instObj C s.heap.objs.size) }:=by
 have e1:(s.heap.push PySem.W.emptyDict).get? s.heap.objs.size=some PySem.W.emptyDict:=yZA s.heap rfl
 have e2:((s.heap.push PySem.W.emptyDict).push (PySem.W.instObj C s.heap.objs.size)).get? (s.heap.objs.size+1)=some (PySem.W.instObj C s.heap.objs.size):=by
  have:=yZA (s.heap.push PySem.W.emptyDict) (o:=PySem.W.instObj C s.heap.objs.size) rfl
  rwa [yZB] at this
 have e3:(s.heap.push PySem.W.emptyDict).Ns s.heap.objs.size (fun _=>none):=⟨PySem.W.emptyDict,#[],_,e1,rfl,(fun e he=>absurd he (by simp)),fun _=>rfl⟩
 have I1:=I.laid (a:=s.heap.objs.size) (o:=.own (s.heap.objs.size+1)) (h':=s.heap.push PySem.W.emptyDict) (t':=s.toks) (fun b u q=>yYY _ q) (yZC _) ⟨_,e1⟩
 refine I1.laid (a:=s.heap.objs.size+1) (o:=.ins C s.heap.objs.size []) (t':=s.toks) (fun b u q=>yYY _ q) (Nat.le_of_eq (yZB _ _)) ?_
 have ne:s.heap.objs.size≠s.heap.objs.size+1:=yZE (Nat.lt_succ_self _)
 refine⟨by rw[qA ne,qW],yZF _,ne,e2,fun _=>none,(Heap.Ns1.of_empty e3).at fun o q=>yYY _ q,fun _=>True.intro,fun y hy=>absurd rfl hy⟩

theorem xYq {prog:Program}{w:World}{env:Env}{e:Expr}{f:Str}{pos:Pos}{s:Shared}{Q:Value→Shared→Prop}(hb:attributeBase e f env (eval e env)=eval e env)
  (h:wpAny (model prog w) A (eval e env) (fun o s₁=>wpAny (model prog w) A (getAttr o f true) Q E s₁) E s):wpAny (model prog w) A (eval (.Attribute e f pos) env) Q E s:=
 Attribute_any_ h (by rw[arm_eval_Attribute,hb])
end

def tFld (K:yZO)(ta:TE)(f:Str):TE:=fun σ H Q=>ta σ H fun x H1=>∃a C dx fs v,x=.ref a∧H1 a=some (.ins C dx fs)∧Cls K C∧NoAttr K C f∧fs.lookup f=some v∧Q v H1
def sFld (K:yZO)(ta tv:TE)(f:Str):TS:=fun D σ H=>tv σ H fun y H1=>ta σ H1 fun x H2=>∃a C dx fs,x=.ref a∧H2 a=some (.ins C dx fs)∧Cls K C∧NoAttr K C f∧fs.length<1000∧
 D.nx σ (upd H2 a (.ins C dx (putF f y fs)))
def InOp (X:Cx)(op:Operator)(rd:V→V→Hp→VK→Prop):Prop:=
 ∀(pins:List (Addr×Obj)) (s:Shared) (σ:St) (H:Hp) (x y:V) (u v:Value) (Q:VK),Inv X pins σ H s→RelV x u→RelV y v→rd x y H Q→wpAny (model X.prog X.w) X.A (inplaceOp op u v) (EP X pins σ Q) X.xe s
def qHv (K:yZO)(ta tv:TE)(rd:V→V→Hp→VK→Prop)(f:Str):TS:=fun D σ H=>ta σ H fun x H1=>∃a C dx fs v,x=.ref a∧H1 a=some (.ins C dx fs)∧Cls K C∧NoAttr K C f∧fs.lookup f=some v∧
 tv σ H1 fun y H2=>rd v y H2 fun z H3=>∃dx' fs',H3 a=some (.ins C dx' fs')∧fs'.length<1000∧D.nx σ (upd H3 a (.ins C dx' (putF f z fs')))

section
variable {X:Cx}{o e value:Expr}{f:Str}{pos pos' tpos:Pos}{ta tv:TE}
theorem xKb (he:PE X e ta)(hb:attributeBase e f X.env (eval e X.env)=eval e X.env):PE X (.Attribute e f pos) (tFld X.K ta f):=by
 intro pins s σ H Q I h
 refine xYq hb (thn (he pins s σ H _ I h) fun u s1 ⟨x,H1,I1,rx,a,C,dx,fs,v,ex,ea,c,n,l,q⟩=>?_)
 subst ex
 obtain rfl:u=Value.ref a:=rx
 exact qJm I1 ea c n l fun u' s2 I2 ru=>⟨v,H1,I2,ru,q⟩
theorem xKj (ha:PE X o ta)(hv:PE X value tv)(hs:swapsWith value (some (.Attribute o f pos')) pos.line X.env=pure false):PS X (.Assign [.Attribute o f pos'] value pos) (sFld X.K ta tv f):=by
 intro pins s σ H D I h
 refine plainObj_wpAny_Assign_Attribute (thn (hv pins s σ H _ I h) fun u s1 ⟨y,H1,I1,ry,q⟩=>thn (ha pins s1 σ H1 _ I1 q) fun ov s2 ⟨x,H2,I2,rx,a,C,dx,fs,ex,ea,c,n,l,q2⟩=>?_) hs
 subst ex
 obtain rfl:ov=Value.ref a:=rx
 exact qJq I2 ea c n l ry fun s3 I3=>⟨σ,_,I3,q2⟩
theorem qHn {op:Operator}{rd:V→V→Hp→VK→Prop}(ha:PE X o ta)(hv:PE X value tv)(hop:InOp X op rd):PS X (.AugAssign (.Attribute o f tpos) op value pos) (qHv X.K ta tv rd f):=by
 intro pins s σ H D I h
 refine wpAny_AugAssign_AttributeAny (thn (ha pins s σ H _ I h) fun ov s1 ⟨x,H1,I1,rx,a,C,dx,fs,v,ex,ea,c,n,l,q⟩=>?_)
 subst ex
 obtain rfl:ov=Value.ref a:=rx
 refine qJm I1 ea c n l fun u s2 I2 ru=>thn (hv pins s2 σ H1 _ I2 q) fun w3 s3 ⟨y,H2,I3,ry,q3⟩=>thn (hop pins s3 σ H2 v y u w3 _ I3 ru ry q3) fun w4 s4 ⟨z,H3,I4,rz,dx',fs',ea',l',q4⟩=>?_
 exact qJq I4 ea' c n l' rz fun s5 I5=>⟨σ,_,I5,q4⟩
def rAdd:V→V→Hp→VK→Prop:=fun x y H Q=>∃i j,x=.int i∧y=.int j∧Q (.int (i+j)) H
theorem xVa:InOp X .Add rAdd:=by
 rintro pins s σ H x y u v Q I rx ry ⟨i,j,rfl,rfl,q⟩
 obtain⟨t,rfl⟩:=(show∃t,u=Value.int i t from rx)
 obtain⟨t',rfl⟩:=(show∃t',v=Value.int j t' from ry)
 exact PyProof.Rows.iadd_int ⟨.int (i+j),H,I.tok _,⟨_,rfl⟩,q⟩
end

section
variable {X:Cx}{pins:List (Addr×Obj)}{σ:St}{H:Hp}{s:Shared}{A:Around}{E:Value→Shared→Prop}{Q:Value→Shared→Prop}{c:Value}{b:Bool}
inductive TyOf (K:yZO)(H:Hp):V→Value→Prop where
 | non:TyOf K H .non (.type "NoneType")
 | bl (x:Bool):TyOf K H (.bl x) (.type "bool")
 | int (i:Int):TyOf K H (.int i) (.type "int")
 | str (x:Str):TyOf K H (.str x) (.type "str")
 | flt (x:UInt64):TyOf K H (.flt x) (.type "float")
 | lst {a:Addr} {xs:List V} (e:H a=some (.lst xs)):TyOf K H (.ref a) (.type "list")
 | frz {a:Addr} {o:Obj} {xs:List V} (e:H a=some (.frz o (.lst xs))):TyOf K H (.ref a) (.type "list")
 | tup {a:Addr} {xs:List V} (e:H a=some (.tup xs)):TyOf K H (.ref a) (.type "tuple")
 | dK {a:Addr} {kvs:List (Key×V)} (e:H a=some (.dK kvs)):TyOf K H (.ref a) (.type "dict")
 | dT {a:Addr} {kvs:List (List Key×V)} (e:H a=some (.dT kvs)):TyOf K H (.ref a) (.type "dict")
 | ins {a C dx:Addr} {fs:List (Str×V)} (e:H a=some (.ins C dx fs)) (cl:Cls K C) (ha:PySem.W.findIn K (.ref C) "__class__" = some (some (.builtin "object.__class__")))
   (hn:PySem.W.specialIn K (.builtin "object.__class__") "__get__" = some (some (.builtin "getset_descriptor.__get__"))) (htk:PySem.W.takesIn K (.builtin "object.__class__")=some true)
   (hm:PySem.W.mroIn K C (.type "object")=some true):TyOf K H (.ref a) (.ref C)
theorem qMg {x:V}{u t:Value}(I:Inv X pins σ H s)(rx:RelV x u)(ty:TyOf X.K H x t)(e:PySem.W.kitOne X.K t c=some b)(h:∀tk,Q (.bool b) { s with toks:=tk }):
  wpAny (model X.prog X.w) A (call (.builtin "isinstance") [u,c]) Q E s:=by
 cases ty with
 | non=>cases(show u=Value.none from rx);exact PySem.W.kia_one PySem.W.kitx_none I.kIn True.intro e (fun z=>nomatch z) h
 | bl y=>cases(show u=Value.bool y from rx);exact PySem.W.kia_one PySem.W.kitx_bool I.kIn True.intro e (fun z=>nomatch z) h
 | int i=>obtain⟨t,q⟩:=(show∃t,u=Value.int i t from rx);cases q;exact PySem.W.kia_one PySem.W.kitx_int I.kIn True.intro e (fun z=>nomatch z) h
 | str y=>obtain⟨t,q⟩:=(show∃t,u=Value.str y t from rx);cases q;exact PySem.W.kia_one PySem.W.kitx_str I.kIn True.intro e (fun z=>nomatch z) h
 | flt y=>obtain⟨t,q⟩:=(show∃t,u=Value.float y t from rx);cases q;exact PySem.W.kia_one PySem.W.kitx_float I.kIn True.intro e (fun z=>nomatch z) h
 | @lst a xs ea=>
  cases(show u=Value.ref a from rx)
  obtain⟨_,_,n,_,h1⟩:=(show ObjOk X.prog X.w H s.heap a (.lst xs) from I.hok a _ ea)
  exact PySem.W.kia_one PySem.W.kitx_list I.kIn ⟨_,h1,rfl⟩ e (fun z=>nomatch z) h
 | @frz a ob xs ea=>
  cases(show u=Value.ref a from rx)
  obtain⟨_,_,_,n,_,h1⟩:=(show ObjOk X.prog X.w H s.heap a (.frz ob (.lst xs)) from I.hok a _ ea)
  exact PySem.W.kia_one PySem.W.kitx_list I.kIn ⟨_,h1,rfl⟩ e (fun z=>nomatch z) h
 | @tup a xs ea=>
  cases(show u=Value.ref a from rx)
  obtain⟨_,_,_,p⟩:=(show ObjOk X.prog X.w H s.heap a (.tup xs) from I.hok a _ ea)
  obtain⟨o,h1,h2,_⟩:=p
  exact PySem.W.kia_one PySem.W.kitx_tuple I.kIn ⟨o,h1,h2⟩ e (fun z=>nomatch z) h
 | @dK a kvs ea=>
  cases(show u=Value.ref a from rx)
  obtain⟨_,_,vs,_,p⟩:=(show ObjOk X.prog X.w H s.heap a (.dK kvs) from I.hok a _ ea)
  obtain⟨o,es,ep,h1,h2,_⟩:=p
  exact PySem.W.kia_one PySem.W.kitx_dict I.kIn ⟨o,h1,h2.1⟩ e (fun z=>nomatch z) h
 | @dT a kvs ea=>
  cases(show u=Value.ref a from rx)
  obtain⟨_,_,xs,_,o,es,ep,h1,h2,_⟩:=(show ObjOk X.prog X.w H s.heap a (.dT kvs) from I.hok a _ ea)
  exact PySem.W.kia_one PySem.W.kitx_dict I.kIn ⟨o,h1,h2.1⟩ e (fun z=>nomatch z) h
 | @ins a C dx fs ea cl ha hn htk hm=>
  cases(show u=Value.ref a from rx)
  obtain⟨mA,O,_⟩:=qKa I.hok ea
  obtain⟨od,J,_⟩:=O.look
  exact PySem.W.kia_one (PySem.W.kitx_own (cl.get _) cl.hd ha hn htk hm) I.kIn J e (fun z=>nomatch z) h
end
end L2

namespace L2
open PySem PySem.Spec PyProof.Rows

structure Room (k:Nat)(A:Around):Prop where
 hd:A.handled=none
 dp:A.depth+3 * k+5<recursionLimit
 un:A.units+16 * k+200<cLine
theorem Room.mono {j k:Nat}{A:Around}(r:Room k A)(h:j≤k):Room j A:=⟨r.hd,by have:=r.dp;omega,by have:=r.un;omega⟩
theorem Room.deeper {k:Nat}{A:Around}(r:Room (k+1) A)(env:Env):Room k (A.deeper env):=
 ⟨r.hd,by have:=r.dp;show A.depth+1+3 * k+5<_;omega,by have:=r.un;show A.units+3+16 * k+200<_;omega⟩
theorem qEm {A:Around}{C:Addr}{us:List Value}{kw:List (Str×Value)}:(A.under (.builtin "type.__call__" ⟨.ref C::us,kw⟩)).depth=A.depth+1:=by
 first | rfl | simp[Around.under,Code.weight,Code.isCreation,Code.isGuard,Code.isCaller,Code.frames,Code.isFrame,guardIds]
theorem qEl {A:Around}{C:Addr}{us:List Value}{kw:List (Str×Value)}:(A.under (.builtin "type.__call__" ⟨.ref C::us,kw⟩)).units=A.units+1:=by
 first | rfl | simp[Around.under,Code.cUnits,Code.frames,Code.isFrame]
theorem Room.make {k:Nat}{A:Around}(r:Room (k+1) A)(C:Addr)(us:List Value)(kw:List (Str×Value)):Room k (A.under (.builtin "type.__call__" ⟨.ref C::us,kw⟩)):=
 ⟨r.hd,by have:=r.dp;rw[qEm];omega,by have:=r.un;rw[qEl];omega⟩
theorem Room.depth {k:Nat}{A:Around}(r:Room k A):A.depth<recursionLimit:=by have:=r.dp;omega
theorem Room.units {k:Nat}{A:Around}(r:Room k A):A.units+64<cLine:=by have:=r.un;omega
def tNil:TA:=fun _ H Q=>Q [] H
def tCons (ta:TE)(tr:TA):TA:=fun σ H Q=>ta σ H fun x H1=>tr σ H1 fun xs H2=>Q (x::xs) H2
section
variable {X:Cx}{e:Expr}{es:List Expr}{te:TE}{t:TA}{pos:Pos}
theorem qX:PA X [] tNil:=fun _ _ _ _ H Q I h=>Calls.spliced_nil ⟨[],H,I,.nil,h⟩
theorem qQ (ha:PE X e te)(hr:PA X es t)(hs:starEach (e::es) X.env=(false,eval e X.env)::starEach es X.env:=by rfl):PA X (e::es) (tCons te t):=by
 intro pos pins s σ H Q I h
 rw[hs]
 show wpAny _ _ (spliced ((false,eval e X.env)::backTo pos (starEach es X.env))) _ _ s
 refine Calls.spliced_cons (thn (ha pins s σ H _ I h) fun u s1 ⟨x,H1,I1,r1,q1⟩=>?_)
 exact thn (hr pos pins s1 σ H1 _ I1 q1) fun us s2 ⟨xs,H2,I2,r2,q2⟩=>⟨x::xs,H2,I2,.cons r1 r2,q2⟩

def tTup (t:TA):TE:=fun σ H Q=>t σ H fun xs H1=>xs.length≤sizeLine∧∀p,H1 p=none→Q (.ref p) (upd H1 p (.tup xs))
def tLst (t:TA):TE:=fun σ H Q=>t σ H fun xs H1=>xs.length≤sizeLine∧∀p,H1 p=none→Q (.ref p) (upd H1 p (.lst xs))
theorem zV {x1}(h:PA X es t):PE X (.Tuple es x1 pos) (tTup t):=by
 intro pins s σ H Q I hq
 refine wpAny_Tuple_spliced (thn (h pos pins s σ H _ I hq) fun us s1 ⟨xs,H1,I1,r,z,q⟩=>⟨by rw[← r.length];exact z,?_⟩)
 have hf:H1 s1.heap.objs.size=none:=I1.hok.fresh (yZC _)
 refine⟨.ref s1.heap.objs.size,upd H1 s1.heap.objs.size (.tup xs),I1.laid (t':=s1.toks) (fun b u e=>yYY _ e) (yZC _) ?_,rfl,q _ hf⟩
 exact⟨z,us,r,⟨_,yZA _ rfl,rfl,_,rfl,rfl⟩⟩
theorem zE (h:PA X es t):PE X (.List es pos) (tLst t):=by
 intro pins s σ H Q I hq
 refine wpAny_List_spliced (thn (h pos pins s σ H _ I hq) fun us s1 ⟨xs,H1,I1,r,z,q⟩=>⟨by rw[← r.length];exact z,?_⟩)
 have hf:H1 s1.heap.objs.size=none:=I1.hok.fresh (yZC _)
 refine⟨.ref s1.heap.objs.size,upd H1 s1.heap.objs.size (.lst xs),I1.laid (t':=s1.toks) (fun b u e=>yYY _ e) (yZC _) ?_,rfl,q _ hf⟩
 exact⟨z,us,0,r,yZA _ rfl⟩
end

abbrev Sp:=List V→Hp→VK→XK→Prop
abbrev CXT:=List Env→Hp→Shared→XK→Value→Shared→Prop

structure Env0 (P:Program)(w:World)(K:yZO)(mg:Str→Option Value)(base:Heap)(A:Around)(outer:List Env)(s:Shared)(H:Hp):Prop where
 frames:A.frames=some outer
 mod:Mod K mg base
 bs:∀b o,base.get? b=some o→s.heap.get? b=some o∧H b=none
 bsz:base.objs.size≤s.heap.objs.size
 funs:s.heap.FunFrames base outer
 frf:∀b∈frs outer,H b=none
 hok:HOk P w H s.heap
 bare:AllBare s.gens
def CE (outer:List Env)(P:Program)(w:World)(H:Hp)(s:Shared)(Q:VK)(u:Value)(s':Shared):Prop:=
 ∃v H',s'.os=s.os∧AllBare s'.gens∧Un (frs outer) [] H H' s.heap s'.heap∧HOk P w H' s'.heap∧RelV v u∧Q v H'
def CR (CX:CXT)(outer:List Env)(P:Program)(w:World)(H:Hp)(s:Shared)(Q:VK)(E:XK)(r:Result)(s':Shared):Prop:=
 match r with
 | .ok (.ret u)=>CE outer P w H s Q u s'
 | .ok _=>False
 | .error e=>CX outer H s E e s'
structure FnOk (P:Program)(w:World)(K:yZO)(mg:Str→Option Value)(base:Heap)(CX:CXT)(k:Nat)(f:Addr)(fd:FuncData)(ps:List Str)(sp:Sp):Prop where
 len:∀vs H Q E,sp vs H Q E→vs.length=ps.length
 run:∀(A:Around) (outer:List Env) (s:Shared) (H:Hp) (args:Args) (us:List Value) (vs:List V) (Q:VK) (E:XK),Room k A→Env0 P w K mg base A outer s H→BindsTo s fd args (ps.zip us)→Vals vs us→sp vs H Q E→
  codeAny (model P w) A (.call (.ref f) args) (CR CX outer P w H s Q E) s
theorem FnOk.mono {P:Program}{w:World}{K:yZO}{mg:Str→Option Value}{base:Heap}{CX:CXT}{j k:Nat}{f:Addr}{fd:FuncData}{ps:List Str}{sp:Sp}(F:FnOk P w K mg base CX j f fd ps sp)(h:j≤k):
  FnOk P w K mg base CX k f fd ps sp:=⟨F.len,fun A outer s H args us vs Q E hr=>F.run A outer s H args us vs Q E (hr.mono h)⟩
theorem Env0.make {P:Program}{w:World}{K:yZO}{mg:Str→Option Value}{base:Heap}{A:Around}{outer:List Env}{s:Shared}{H:Hp}(e:Env0 P w K mg base A outer s H)(C:Addr)(us:List Value)(kw:List (Str×Value)):
  Env0 P w K mg base (A.under (.builtin "type.__call__" ⟨.ref C::us,kw⟩)) outer s H:=⟨by first | exact e.frames | (simpa [Around.under,Code.envs,Code.isFrame,pushEnvs] using e.frames),e.mod,e.bs,e.bsz,e.funs,e.frf,e.hok,e.bare⟩
section
variable {X:Cx}{pins:List (Addr×Obj)}{σ:St}{H:Hp}{s s':Shared}
theorem Inv.env0 (I:Inv X pins σ H s):Env0 X.prog X.w X.K X.mg X.base X.A X.stack s H:=
 ⟨I.ok.frames,I.ok.mod,I.bs,yZI I.ok.bsz I.sz,I.stack,I.stkFree,I.hok,I.bare⟩
theorem Inv.after {Q:VK}{u:Value}(I:Inv X pins σ H s)(h:CE X.stack X.prog X.w H s Q u s'):EP X pins σ Q u s':=by
 obtain⟨v,H',os,bare,un,hok,r,q⟩:=h
 obtain⟨hh,g,d,t,os'⟩:=s'
 obtain rfl:os'=s.os:=os
 exact⟨v,H',I.call (h':=hh) (g':=g) (d':=d) (t':=t) (ch:=[]) un hok bare (fun b z=>absurd z (by simp)),r,q⟩
end

def tCall (sp:Sp)(dvs:List V)(E:XK)(t:TA):TE:=fun σ H Q=>t σ H fun vs H1=>sp (vs++dvs) H1 Q E
def tMeth (C:Addr)(m:Str)(sp:Sp)(dvs:List V)(E:XK)(ta:TE)(t:TA):TE:=fun σ H Q=>ta σ H fun x H1=>∃a dx fs,x=.ref a∧H1 a=some (.ins C dx fs)∧fs.lookup m=none∧
 t σ H1 fun vs H2=>sp (x::(vs++dvs)) H2 Q E
def tMake (C:Addr)(sp:Sp)(dvs:List V)(E:XK)(t:TA):TE:=fun σ H Q=>t σ H fun vs H1=>∀x dx,H1 x=none→H1 dx=none→dx≠x→
 sp (.ref x::(vs++dvs)) (upd (upd H1 dx (.own x)) x (.ins C dx [])) (fun v H2=>v=.non∧Q (.ref x) H2) E

def Binds (K:yZO)(fd:FuncData)(ps:List Str)(ds:List Value):Prop:=
 ∀(s:Shared) (us:List Value),K.In s.heap→(us++ds).length=ps.length→BindsTo s fd ⟨us,[]⟩ (ps.zip (us++ds))
theorem Binds.all {K:yZO}{fd:FuncData}{ps:List Str}(h:∀us:List Value,us.length=ps.length→bindArgs fd ⟨us,[]⟩=pure (ps.zip us)):Binds K fd ps []:=fun s us _ hl=>by
 rw[List.append_nil] at hl ⊢
 exact .of_eq (h us hl)

def Passes (CX:CXT)(X:Cx)(E:XK):Prop:=∀(pins:List (Addr×Obj)) (σ:St) (H:Hp) (s:Shared) (e:Value) (s':Shared),Inv X pins σ H s→CX X.stack H s E e s'→X.xe e s'

section
variable {X:Cx}{CX:CXT}{k:Nat}{f C:Addr}{fd:FuncData}{ps:List Str}{sp:Sp}{dvs:List V}{ds:List Value}{E:XK}{x m:Str}{p pos apos:Pos}{e o:Expr}{es:List Expr}{ta:TE}{t:TA}

theorem qHa {pins:List (Addr×Obj)}{σ:St}{H:Hp}{s:Shared}{Q:VK}{us:List Value}{vs:List V}(F:FnOk X.prog X.w X.K X.mg X.base CX k f fd ps sp)(hr:Room k X.A)(hb:Binds X.K fd ps ds)(hd:Vals dvs ds)(hx:Passes CX X E)
  (I:Inv X pins σ H s) (r:Vals vs us) (h:sp (vs++dvs) H Q E):wpAny (model X.prog X.w) X.A (call (.ref f) us) (EP X pins σ Q) X.xe s:=by
 have r2:Vals (vs++dvs) (us++ds):=r.append hd
 have hl:(us++ds).length=ps.length:=by rw[← r2.length];exact F.len _ _ _ _ h
 refine wpAny_call (codeAny_mono (F.run X.A X.stack s H ⟨us,[]⟩ (us++ds) (vs++dvs) Q E hr I.env0 (hb s us I.kIn hl) r2 h) fun r s' hq=>?_)
 cases r with
 | error e=>exact hx pins σ H s e s' I hq
 | ok fl=>
  cases fl with
  | ret u=>exact I.after hq
  | next=>exact False.elim hq
  | brk=>exact False.elim hq
  | cont=>exact False.elim hq

theorem qXb (F:FnOk X.prog X.w X.K X.mg X.base CX k f fd ps sp)(hr:Room k X.A)(hg:Gl X x)(hm:X.mg x=some (.ref f))(hk:PySem.W.keepIn X.K (.ref f)=true)(hb:Binds X.K fd ps ds)(hd:Vals dvs ds)(hx:Passes CX X E)
  (ha:PA X (e::es) t) (hdb:(x == ("__debug__" : Str))=false:=by decide) (he:starEach (e::es) X.env=(false,eval e X.env)::starEach es X.env:=by rfl) (hpl:(backTo pos (starEach es X.env)).any (·.1)=false:=by rfl):
  PE X (.Call (.Name x p) (e::es) [] pos) (tCall sp dvs E t):=by
 intro pins s σ H Q I h
 refine wpAny_Call_Name_kw (qMw I hg hm ?_ hdb)
 refine PySem.W.callWith_K (h₀:=X.base) I.ok.mod.kin hk (thn (ha pos pins s σ H _ I h) fun us s1 ⟨vs,H1,I1,r,q⟩=>⟨I1.kIn,?_⟩) he hpl
 exact qHa F hr hb hd hx I1 r q
theorem xXl {pl:Sem Bool}(he:PE X o ta)(c:Cls X.K C)(hm:Meth X.K C m f)(F:FnOk X.prog X.w X.K X.mg X.base CX k f fd ps sp)(hr:Room k X.A)(hb:Binds X.K fd ps ds)(hd:Vals dvs ds)(hx:Passes CX X E)(ha:PA X (e::es) t)
  (hst:starEach (e::es) X.env=(false,eval e X.env)::starEach es X.env:=by rfl) (hpl:(backTo pos (starEach es X.env)).any (·.1)=false:=by rfl)
  (ht:eval (.Call (.Attribute o m apos) (e::es) [] pos) X.env=(do
   let ov ← eval o X.env
   standAt apos.atName
   let (f,first) ← holding [ov] (getMethod ov m pl)
   callWith pos f first (backTo pos (starEach (e::es) X.env)) (backToKw pos (keywordEach [] X.env))):=by rfl):
  PE X (.Call (.Attribute o m apos) (e::es) [] pos) (tMeth C m sp dvs E ta t):=by
 intro pins s σ H Q I h
 refine PySem.W.methodCall_KW (pl:=pl) (thn (he pins s σ H _ I h) fun u s1 ⟨x,H1,I1,rx,a,dx,fs,ex,ea,l,q⟩=>?_) ht
 subst ex
 obtain rfl:u=Value.ref a:=rx
 refine qJl I1 ea c hm l ?_
 refine PySem.W.callWith_K (first:=[.ref a]) (h₀:=X.base) I.ok.mod.kin hm.kp (thn (ha pos pins s1 σ H1 _ I1 q) fun us s2 ⟨vs,H2,I2,r,q2⟩=>⟨I2.kIn,?_⟩) hst hpl
 exact qHa (us:=.ref a::us) (vs:=.ref a::vs) F hr hb hd hx I2 (.cons rfl r) q2
theorem qRm {pl:Sem Bool}(he:PE X o ta)(c:Cls X.K C)(hm:Meth X.K C m f)(F:FnOk X.prog X.w X.K X.mg X.base CX k f fd ps sp)(hr:Room k X.A)(hb:Binds X.K fd ps ds)(hd:Vals dvs ds)(hx:Passes CX X E)
  (ht:eval (.Call (.Attribute o m apos) [] [] pos) X.env=(do
   let ov ← eval o X.env
   standAt apos.atName
   let (f,first) ← holding [ov] (getMethod ov m pl)
   callWith pos f first (backTo pos (starEach [] X.env)) (backToKw pos (keywordEach [] X.env))):=by rfl):
  PE X (.Call (.Attribute o m apos) [] [] pos) (tMeth C m sp dvs E ta tNil):=by
 intro pins s σ H Q I h
 refine PySem.W.methodCall_KW (pl:=pl) (thn (he pins s σ H _ I h) fun u s1 ⟨x,H1,I1,rx,a,dx,fs,ex,ea,l,q⟩=>?_) ht
 subst ex
 obtain rfl:u=Value.ref a:=rx
 refine qJl I1 ea c hm l ?_
 exact PySem.W.callWith_K0 (first:=[.ref a]) I1.kIn hm.kp (qHa (us:=[.ref a]) (vs:=[.ref a]) F hr hb hd hx I1 (.cons rfl .nil) q)

structure Mk (K:yZO)(C f:Addr):Prop where
 makes:PySem.W.makesIn K C=true
 init:PySem.W.findIn K (.ref C) "__init__" = some (some (.ref f))
 fn:PySem.W.isFn K (.ref f)=true
 kp:PySem.W.keepIn K (.ref C)=true

theorem qRw {pins:List (Addr×Obj)}{σ:St}{H:Hp}{s:Shared}{Q:VK}{us:List Value}{vs:List V}(M:Mk X.K C f)(F:FnOk X.prog X.w X.K X.mg X.base CX k f fd ps sp)(hr:Room (k+1) X.A)(hb:Binds X.K fd ps ds)(hd:Vals dvs ds)
  (hx:Passes CX X E) (I:Inv X pins σ H s) (r:Vals vs us)
  (h:∀x dx,H x=none→H dx=none→dx≠x→sp (.ref x::(vs++dvs)) (upd (upd H dx (.own x)) x (.ins C dx [])) (fun v H2=>v=.non∧Q (.ref x) H2) E):
  wpAny (model X.prog X.w) X.A (call (.ref C) us) (EP X pins σ Q) X.xe s:=by
 have hq:=h (s.heap.objs.size+1) s.heap.objs.size (I.hok.fresh (Nat.le_succ _)) (I.hok.fresh (yZC _)) (yZE (Nat.lt_succ_self _))
 have I2:=Inv.made (C:=C) I
 have r2:Vals (V.ref (s.heap.objs.size+1)::(vs++dvs)) (Value.ref (s.heap.objs.size+1)::(us++ds)):=.cons rfl (r.append hd)
 have hl:(Value.ref (s.heap.objs.size+1)::us++ds).length=ps.length:=by
  have e:=r2.length
  rw[F.len _ _ _ _ hq] at e
  exact e.symm
 refine wpAny_call (qSe (f:=f) I.kIn M.makes M.init (beq_iff_eq.mp M.fn) (codeAny_mono (F.run _ X.stack _ _ ⟨Value.ref (s.heap.objs.size+1)::us,[]⟩ (Value.ref (s.heap.objs.size+1)::(us++ds)) _ _ E (hr.make C us [])
  (I2.env0.make C us []) (hb _ (Value.ref (s.heap.objs.size+1)::us) I2.kIn hl) r2 hq) fun r s' hq'=>?_))
 cases r with
 | error e=>exact hx pins σ _ _ e s' I2 hq'
 | ok fl=>
  cases fl with
  | ret u=>
   obtain⟨v,H',I3,rv,ev,q3⟩:=I2.after hq'
   subst ev
   exact⟨rv,⟨V.ref (s.heap.objs.size+1),H',I3,rfl,q3⟩⟩
  | next=>exact False.elim hq'
  | brk=>exact False.elim hq'
  | cont=>exact False.elim hq'
theorem xXm (M:Mk X.K C f)(F:FnOk X.prog X.w X.K X.mg X.base CX k f fd ps sp)(hr:Room (k+1) X.A)(hg:Gl X x)(hm:X.mg x=some (.ref C))(hb:Binds X.K fd ps ds)(hd:Vals dvs ds)(hx:Passes CX X E)
  (ha:PA X (e::es) t) (hdb:(x == ("__debug__" : Str))=false:=by decide) (he:starEach (e::es) X.env=(false,eval e X.env)::starEach es X.env:=by rfl) (hpl:(backTo pos (starEach es X.env)).any (·.1)=false:=by rfl):
  PE X (.Call (.Name x p) (e::es) [] pos) (tMake C sp dvs E t):=by
 intro pins s σ H Q I h
 refine wpAny_Call_Name_kw (qMw I hg hm ?_ hdb)
 refine PySem.W.callWith_K (h₀:=X.base) I.ok.mod.kin M.kp (thn (ha pos pins s σ H _ I h) fun us s1 ⟨vs,H1,I1,r,q⟩=>⟨I1.kIn,?_⟩) he hpl
 exact qRw M F hr hb hd hx I1 r q
end


structure xH (N P:List Str)(sc:Scope):Prop where
 kind:sc.kind=.function
 co:sc.isCoroutine=false
 gen:sc.isGenerator=false
 nd:N.Nodup
 pre:N.take P.length=P
 par:∀x∈P,sc.names.lookup x=some .local∨sc.names.lookup x=some .cell
 nofree:∀y∈sc.names,y.2≠.free

theorem qWf {kindOf:Str→Option NameKind}{x:Str}:∀{binds:List (Str×Value)} {m:Str→Option Value},(∀v,(x,v)∉binds)→bindL kindOf binds m x=m x
 | [],_,_=>rfl
 | (n,v)::r,m,h=>by
  unfold bindL
  rw[qWf fun w hw=>h w (yYH _ hw)]
  split
  ·have:x≠n:=by rintro rfl;exact h v yYG
   simp[this]
  ·rfl
theorem qWh {kindOf:Str→Option NameKind}{x:Str}:∀{binds:List (Str×Value)} {m:Str→Option Value},(∀v,(x,v)∉binds)→bindC kindOf binds m x=m x
 | [],_,_=>rfl
 | (n,v)::r,m,h=>by
  unfold bindC
  rw[qWh fun w hw=>h w (yYH _ hw)]
  split
  ·rfl
  ·have:x≠n:=by rintro rfl;exact h v yYG
   simp[this]
theorem qWg {kindOf:Str→Option NameKind}{x:Str}{v:Value}:∀{P:List Str} {vs:List Value} {i:Nat} {m:Str→Option Value},P.Nodup→P[i]? = some x→vs[i]? = some v→kindOf x=some .local→
  bindL kindOf (P.zip vs) m x=some v
 | [],_,_,_,_,h,_,_=>by simp at h
 | _::_,[],_,_,_,_,h,_=>by simp at h
 | p::P,w::vs,0,m,nd,h1,h2,hk=>by
  simp at h1 h2;subst h1;subst h2
  show bindL kindOf ((p,w)::P.zip vs) m p=_
  unfold bindL
  rw[qWf fun v hv=>(List.nodup_cons.mp nd).1 (List.of_mem_zip hv).1,if_pos hk]
  simp
 | p::P,w::vs,i+1,m,nd,h1,h2,hk=>by
  show bindL kindOf ((p,w)::P.zip vs) m x=_
  unfold bindL
  exact qWg (i:=i) (List.nodup_cons.mp nd).2 (by simpa using h1) (by simpa using h2) hk
theorem qWi {kindOf:Str→Option NameKind}{x:Str}{v:Value}:∀{P:List Str} {vs:List Value} {i:Nat} {m:Str→Option Value},P.Nodup→P[i]? = some x→vs[i]? = some v→kindOf x≠some .local→
  bindC kindOf (P.zip vs) m x=some v
 | [],_,_,_,_,h,_,_=>by simp at h
 | _::_,[],_,_,_,_,h,_=>by simp at h
 | p::P,w::vs,0,m,nd,h1,h2,hk=>by
  simp at h1 h2;subst h1;subst h2
  show bindC kindOf ((p,w)::P.zip vs) m p=_
  unfold bindC
  rw[qWh fun v hv=>(List.nodup_cons.mp nd).1 (List.of_mem_zip hv).1,if_neg hk]
  simp
 | p::P,w::vs,i+1,m,nd,h1,h2,hk=>by
  show bindC kindOf ((p,w)::P.zip vs) m x=_
  unfold bindC
  exact qWi (i:=i) (List.nodup_cons.mp nd).2 (by simpa using h1) (by simpa using h2) hk

def start (N:List Str)(vs:List V):St:=vs.map some++List.replicate (N.length - vs.length) none

def cxOf (CX:CXT)(P:Program)(w:World)(K:yZO)(mg:Str→Option Value)(base:Heap)(N:List Str)(qual:Str)(scope:Scope)(f:Addr)(cd:Value)(A:Around)(outer:List Env)(s:Shared)(H:Hp)(E:XK):Cx where
 prog:=P
 w:=w
 K:=K
 mg:=mg
 base:=base
 A:=A.deeper (envOfC qual scope s.heap.objs.size f cd)
 N:=N
 s₀:=s
 H₀:=H
 env:=envOfC qual scope s.heap.objs.size f cd
 outer:=outer
 stack:=envOfC qual scope s.heap.objs.size f cd::outer
 ex:=[]
 calm:=true
 fn:=fun _=>true
 pn:=[]
 xe:=fun e s'=>wpAny (model P w) (A.deeper (envOfC qual scope s.heap.objs.size f cd)) (leaving (envOfC qual scope s.heap.objs.size f cd) e) (fun _ s''=>CX outer H s E e s'') (fun e' s''=>CX outer H s E e' s'') s'

theorem qDf {sc:Scope}{n:Nat}{x:Str}(h:sc.names.lookup x=some .cell):∃c,(cellsFrom n sc.names []).lookup x=some c:=by
 have q:=PySem.W.cellsFrom_some sc.names n [] (.inl h)
 exact Option.isSome_iff_exists.mp q

theorem qMh {CX:CXT}{P:Program}{w:World}{K:yZO}{mg:Str→Option Value}{base:Heap}{N ps:List Str}{qual:Str}{scope:Scope}{f:Addr}{cd:Value}{A:Around}{outer:List Env}{s s1:Shared}{H:Hp}{E:XK}{us:List Value}{vs:List V}
  (S:xH N ps scope) (hd:A.handled=none) (e0:Env0 P w K mg base A outer s H) (hl:vs.length=ps.length) (r:Vals vs us)
  (x:InCallC s s.heap.objs.size (bindL (envOfC qual scope s.heap.objs.size f cd).kindOf (ps.zip us) fun _=>none) (cellsFrom (s.heap.objs.size+1) scope.names []) (bindC (envOfC qual scope s.heap.objs.size f cd).kindOf (ps.zip us) fun _=>none) s1):
  Inv (cxOf CX P w K mg base N qual scope f cd A outer s H E) [] (start N vs) H s1:=by
 have hpl:ps.length≤N.length:=by have:=congrArg List.length S.pre;rw[yYF] at this;omega
 obtain⟨h1,tk,rfl,hk⟩:=x.done
 have noA:∀b:Addr,b∉(cxOf CX P w K mg base N qual scope f cd A outer s H E).ex:=fun b z=>absurd (show b∈([]:List Addr) from z) (by simp)
 refine⟨⟨e0.mod,S.kind,rfl,rfl,yZC _,fun y z c h1 h2=>?_,fun y hy=>?_,fun y c _ h=>?_,fun _=>hd,Around.frames_deeper e0.frames,.inr ⟨rfl,rfl⟩,fun b z=>absurd z (noA b),e0.bs,e0.bsz,fun b _ _=>noA b,fun b z=>absurd z (noA b),e0.funs,e0.frf⟩,
  rfl,e0.bare,Un.kept hk,⟨_,x.toInCall.ns,fun i y v h1 h2 h3=>?_⟩,fun y c h=>⟨_,x.cell y c h⟩,e0.hok.fresh (yZC _),fun y c h=>?_,fun p hp=>absurd (show p∈([]:List (Addr×Obj)) from hp) (by simp),e0.hok.kept hk,?_⟩
 ·exact name_of_addr x.apart (PySem.mem_of_lookup h1) (PySem.mem_of_lookup h2)
 ·have hy:scope.names.lookup y=some .cell∨scope.names.lookup y=some .free:=hy
  rcases hy with hy | hy
  ·exact qDf hy
  ·exact absurd rfl (S.nofree _ (PySem.mem_of_lookup hy))
 ·exact Nat.le_of_lt (x.above y c (PySem.mem_of_lookup h))
 ·have hi:i<vs.length:=by
   unfold start at h2
   by_cases hi:i<vs.length
   ·exact hi
   ·rw[List.getElem?_append_right (by simpa using hi)] at h2
    rw[List.getElem?_replicate] at h2
    split at h2 <;> cases h2
  have ha:vs[i]? = some v:=by
   unfold start at h2
   rw[List.getElem?_append_left (by simpa using hi),yYO] at h2
   cases e:vs[i]? with
   | none=>rw[e] at h2;cases h2
   | some a=>rw[e] at h2;cases h2;rfl
  obtain⟨u,hu,rv⟩:=r.get ha
  have hp:ps[i]? = some y:=by
   rw[← S.pre,List.getElem?_take_of_lt (by omega)];exact h1
  have ndP:ps.Nodup:=by rw[← S.pre];exact S.nd.sublist (List.take_sublist _ _)
  refine⟨u,rv,?_⟩
  rcases S.par y (yYE hp) with k | k
  ·exact .inl ⟨k,qWg ndP hp hu k⟩
  ·obtain⟨c,e⟩:=qDf (n:=s.heap.objs.size+1) k
   refine .inr ⟨.inl k,c,e,?_⟩
   have q:=x.cell y c e
   rw[qWi ndP hp hu (by show scope.names.lookup y≠_;rw[k];decide)] at q
   exact q
 ·exact e0.hok.fresh (Nat.le_of_lt (x.above y c (PySem.mem_of_lookup h)))
 ·unfold start
  show _=N.length
  rw[yYI,yYC,List.length_replicate]
  omega

theorem xWg {CX:CXT}{P:Program}{w:World}{K:yZO}{mg:Str→Option Value}{base:Heap}{k:Nat}{f:Addr}{name qual:Str}{params:Arguments}{body:List Stmt}{scope:Scope}{dV kV doc pm cdv ct oc:Value}{an od:Option Addr}
  {osl:Array (Option Value)} {N ps:List Str} {sp:Sp} (lk:K.lookup f=some ⟨oc,od,.func (PySem.W.fnOf name qual params body scope dV kV doc pm an cdv ct),osl⟩) (hcd:PySem.W.codeIn K cdv qual=true) (S:xH N ps scope)
  (len:∀vs H Q E,sp vs H Q E→vs.length=ps.length)
  (hbody:∀(A:Around) (outer:List Env) (s:Shared) (H:Hp) (vs:List V) (Q:VK) (E:XK),Room k (A.deeper (envOfC qual scope s.heap.objs.size f cdv))→sp vs H Q E→
   ∃t,PSs (cxOf CX P w K mg base N qual scope f cdv A outer s H E) body t∧t { nx:=fun _ H'=>Q .non H',rt:=Q } (start N vs) H):
  FnOk P w K mg base CX (k+1) f (PySem.W.fnOf name qual params body scope dV kV doc pm an cdv ct) ps sp:=by
 refine⟨len,fun A outer s H args us vs Q E hr e0 hb r hsp=>?_⟩
 have hl:=len _ _ _ _ hsp
 have KX:K.In s.heap:=e0.mod.kin.keeps fun b o e=>(e0.bs b o e).1
 have lim:s.heap.NoLimit:=e0.mod.nolimit.keeps fun b o e=>(e0.bs b o e).1
 have hkind:∀y∈ps.zip us,scope.names.lookup y.1=some .local∨(scope.names.lookup y.1=some .cell∧((cellsFrom (s.heap.objs.size+1) scope.names []).lookup y.1).isSome=true):=fun⟨n,v⟩ hy=>by
  rcases S.par n (List.of_mem_zip hy).1 with q | q
  ·exact .inl q
  ·exact .inr ⟨q,PySem.W.cellsFrom_some _ _ _ (.inl q)⟩
 refine codeAny_call_function hr.depth (KX _ _ lk) rfl S.co S.gen rfl (PySem.W.codeRec_of KX hcd) (hb _ _ _ _ ?_)
 refine wpAny_newFunctionEnv_cells S.kind hkind fun env he s1 x=>?_
 subst he
 refine⟨lim.keeps x.toInCall.keep,codeAny_func ?_⟩
 obtain⟨t,ht,hq⟩:=hbody A outer s H vs Q E (hr.deeper _) hsp
 have I:Inv (cxOf CX P w K mg base N qual scope f cdv A outer s H E) [] (start N vs) H s1:=qMh S hr.hd e0 hl r x
 refine wpAny_mono (ht [] s1 (start N vs) H _ I hq) (fun fl s' hs=>?_) fun e s' hs=>hs
 have fin:∀{σ':St} {H':Hp} {v:V} {u:Value},Inv (cxOf CX P w K mg base N qual scope f cdv A outer s H E) [] σ' H' s'→RelV v u→Q v H'→CE outer P w H s Q u s':=
  fun{σ' H' v u} J rv q=>⟨v,H',J.os,J.bare,J.base,J.hok,rv,q⟩
 cases fl with
 | ret u=>
  obtain⟨v,σ',H',J,rv,q⟩:=hs
  exact fin J rv q
 | next=>
  obtain⟨σ',H',J,q⟩:=hs
  exact fin (v:=V.non) (u:=Value.none) J rfl q
 | brk=>
  obtain⟨_,_,_,q⟩:=hs
  exact False.elim q
 | cont=>
  obtain⟨_,_,_,q⟩:=hs
  exact False.elim q
end L2

namespace L2
open PySem PySem.Spec PyProof.Rows
section
variable {X:Cx}{x:Str}{p pos:Pos}{e:Expr}{es:List Expr}{t:TA}{id T:String}{r:List V→Hp→VK→Prop}

def tCB (r:List V→Hp→VK→Prop)(t:TA):TE:=fun σ H Q=>t σ H fun vs H1=>r vs H1 Q
theorem xZ (hc:CallR X (.builtin id) r)(hg:Gl X x)(hm:X.mg x=none)(hv:bootBuiltins x=some (.builtin id))(ha:PA X (e::es) t)(hn:x ≠ "__name__" := by decide)(hdb:(x == ("__debug__" : Str))=false:=by decide)
  (he:starEach (e::es) X.env=(false,eval e X.env)::starEach es X.env:=by rfl) (hpl:(backTo pos (starEach es X.env)).any (·.1)=false:=by rfl):PE X (.Call (.Name x p) (e::es) [] pos) (tCB r t):=by
 intro pins s σ H Q I h
 refine wpAny_Call_Name_kw (qXm I hg hm hv ?_ hn hdb)
 exact PyProof.Rows.callWith_builtin1 (thn (ha pos pins s σ H _ I h) fun us s1 ⟨vs,H1,I1,r1,q1⟩=>hc pins s1 σ H1 vs us Q I1 r1 q1) he hpl
theorem xX (hc:CallR X (.type T) r)(hg:Gl X x)(hm:X.mg x=none)(hv:bootBuiltins x=some (.type T))(ha:PA X (e::es) t)(hn:x ≠ "__name__" := by decide)(hdb:(x == ("__debug__" : Str))=false:=by decide)
  (he:starEach (e::es) X.env=(false,eval e X.env)::starEach es X.env:=by rfl) (hpl:(backTo pos (starEach es X.env)).any (·.1)=false:=by rfl):PE X (.Call (.Name x p) (e::es) [] pos) (tCB r t):=by
 intro pins s σ H Q I h
 refine wpAny_Call_Name_kw (qXm I hg hm hv ?_ hn hdb)
 exact PyProof.Rows.callWith_type1 (thn (ha pos pins s σ H _ I h) fun us s1 ⟨vs,H1,I1,r1,q1⟩=>hc pins s1 σ H1 vs us Q I1 r1 q1) he hpl
end
end L2

namespace HT
open PySem PyProof.Rows

section
open PySem.SeqAt
open PySem.AutoSeq1 (wpAny_loadPart')
open PySem.MeetsSeq PySem.MeetsSeq2 PySem.MeetsSeq3

end

section
variable {prog:Program}{w:World}{A:Around}{E:Value→Shared→Prop}{s:Shared}

theorem cat_tup {t b:Addr}{vs ws:List Value}{Q:Value→Shared→Prop}(ht:IsTup s.heap t vs.toArray)(hb:IsTup s.heap b ws.toArray)(hv:vs≠[])
  (h1:ws=[]→Q (.ref t) s) (h2:ws≠[]→Q (.ref s.heap.objs.size) { s with heap:=s.heap.push { cls:=.type "tuple",data:=.seq (vs++ws).toArray } })
  (hsz:vs.length+ws.length≤sizeLine):wpAny (model prog w) A (binaryOp .Add (.ref t) (.ref b)) Q E s:=by
 obtain⟨⟨cls,dd,data,sl⟩,ho,hc,n,hd⟩:=id ht
 obtain⟨⟨cls2,dd2,data2,sl2⟩,ho2,hc2,n2,hd2⟩:=id hb
 simp only at hc hd hc2 hd2
 subst hc hd hc2 hd2
 have e:vs.toArray++ws.toArray=(vs++ws).toArray:=by simp
 by_cases hw:ws=[]
 ·exact concat_meets ⟨_,ho,rfl⟩ ⟨_,ho2,rfl⟩ noFill_tuple_add seq_tuple_add PySem.F.slot_tuple_add PySem.F.entry_tuple_add (PySem.F.args_tuple_add_2 _ _)
   (tuple_addW1 t b vs.toArray ws.toArray n n2 dd dd2 sl sl2 (by simpa using hv) (by simp[hw])) ⟨ho,ho2,h1 hw⟩
 ·refine concat_meets ⟨_,ho,rfl⟩ ⟨_,ho2,rfl⟩ noFill_tuple_add seq_tuple_add PySem.F.slot_tuple_add PySem.F.entry_tuple_add (PySem.F.args_tuple_add_2 _ _)
   (tuple_addW2 t b vs.toArray ws.toArray n n2 dd dd2 sl sl2 (by simpa using hv) (by simpa using hw) (by rw[yYD,yYD];exact hsz)) ⟨ho,ho2,?_⟩
  rw[e]
  exact h2 hw

def sIx (n d:Nat):Option Int→Nat
 | none=>d
 | some v=>if v<0 then (v+(n:Int)).toNat else min v.toNat n
theorem sIx_none (n d:Nat):sIx n d none=d:=rfl
theorem sIx_nat (n d k:Nat):sIx n d (some (k:Int))=min k n:=by
 show(if (k:Int)<0 then ((k:Int)+(n:Int)).toNat else min (k:Int).toNat n)=min k n
 rw[if_neg (by omega),Int.toNat_natCast]
end
end HT

namespace L2
open PySem PySem.Spec PyProof.Rows

abbrev TO:=St→Hp→(Option Int→Hp→Prop)→Prop
def PO (X:Cx)(e:Option Expr)(t:TO):Prop:=
 ∀(pins:List (Addr×Obj)) (s:Shared) (σ:St) (H:Hp) (Q:Option Int→Hp→Prop),Inv X pins σ H s→t σ H Q→
  wpAny (model X.prog X.w) X.A (evalPart e X.env) (fun u s'=>∃o H',Inv X pins σ H' s'∧IsPart u o∧Q o H') X.xe s
def qGa:TO:=fun _ H Q=>Q none H
def tPart (t:TE):TO:=fun σ H Q=>t σ H fun x H1=>∃i,x=.int i∧Q (some i) H1

section
variable {X:Cx}{e:Expr}{te:TE}{lo hi:Option Expr}{tl th:TO}{pos p2:Pos}

theorem qYm:PO X none qGa:=by
 intro pins s σ H Q I h
 rw[evalPart_none]
 exact yYX ⟨none,H,I,.none,h⟩
theorem qYl (h:PE X e te):PO X (some e) (tPart te):=by
 intro pins s σ H Q I hw
 rw[evalPart_some]
 refine thn (h pins s σ H _ I hw) fun u s1 ⟨x,H1,I1,r1,q1⟩=>?_
 obtain⟨i,rfl,q⟩:=q1
 obtain⟨t,rfl⟩:=r1
 exact⟨some i,H1,I1,.int i t,q⟩

def SlR (X:Cx)(r:V→Option Int→Option Int→Hp→VK→Prop):Prop:=
 ∀(pins:List (Addr×Obj)) (s:Shared) (σ:St) (H:Hp) (x:V) (v vl vu:Value) (lo hi:Option Int) (sl:Addr) (Q:VK),Inv X pins σ H s→RelV x v→s.heap.IsSliceOf sl vl vu .none→IsPart vl lo→IsPart vu hi→r x lo hi H Q→
  ∃T id,typeLookup (.type T) "__getitem__" = pure (some (.builtin id))∧s.TypeIs v T∧wpAny (model X.prog X.w) X.A (getItem v (.ref sl)) (EP X pins σ Q) X.xe s
def tSl (r:V→Option Int→Option Int→Hp→VK→Prop)(te:TE)(tl th:TO):TE:=fun σ H Q=>te σ H fun x H1=>tl σ H1 fun l H2=>th σ H2 fun u H3=>r x l u H3 Q
theorem qYn {r:V→Option Int→Option Int→Hp→VK→Prop}(hr:SlR X r)(he:PE X e te)(hl:PO X lo tl)(hu:PO X hi th):PE X (.Subscript e (.Slice lo hi none p2) pos) (tSl r te tl th):=by
 intro pins s σ H Q I h
 refine Subscript_ (thn (he pins s σ H _ I h) fun v s1 ⟨x,H1,I1,r1,q1⟩=>?_)
 refine wpAny_Slice (thn (hl pins s1 σ H1 _ I1 q1) fun vl s2 ⟨l,H2,I2,pl,q2⟩=>thn (hu pins s2 σ H2 _ I2 q2) fun vu s3 ⟨u,H3,I3,pu,q3⟩=>?_)
 rw[evalPart_none]
 refine yYX ?_
 have I4:Inv X pins σ H3 { s3 with heap:=s3.heap.push { cls:=.type "slice",data:=.fields #[vl,vu,.none] } }:=I3.kept (t':=s3.toks) fun b ob q=>yYY _ q
 obtain⟨T,id,hT,ht,hg⟩:=hr pins { s3 with heap:=s3.heap.push { cls:=.type "slice",data:=.fields #[vl,vu,.none] } } σ H3 x v vl vu l u s3.heap.objs.size Q I4 r1 (Heap.IsSliceOf.new ..) pl pu q3
 show wpAny (model X.prog X.w) X.A (subscriptTail e (.Slice lo hi none p2) v (.ref s3.heap.objs.size)) (EP X pins σ Q) X.xe { s3 with heap:=s3.heap.push { cls:=.type "slice",data:=.fields #[vl,vu,.none] } }
 exact tail_any (ops:=[.ref s3.heap.objs.size,v]) ht hT hg (by with_unfolding_all rfl)

def cutV (xs:List V)(lo hi:Option Int):List V:=(xs.drop (HT.sIx xs.length 0 lo)).take (HT.sIx xs.length xs.length hi - HT.sIx xs.length 0 lo)
theorem qBj (xs:List V)(lo hi:Option Int):(cutV xs lo hi).length≤xs.length:=by
 unfold cutV
 rw[yYF,List.length_drop]
 omega
def rCatT (K:yZO):R2:=fun x y H Q=>∃a b xs ys,x=.ref a∧y=.ref b∧SqT K H a xs∧SqT K H b ys∧xs≠[]∧xs.length+ys.length≤sizeLine∧
 (ys=[]→Q (.ref a) H)∧(ys≠[]→∀p,H p=none→Q (.ref p) (upd H p (.tup (xs++ys))))
theorem Vals.nil_iff {xs:List V}{us:List Value}(r:Vals xs us):us=[]↔xs=[]:=by
 cases r with
 | nil=>simp
 | cons _ _=>simp
theorem xZk:OpR X (binaryOp .Add) (rCatT X.K):=by
 intro pins s σ H x y v u Q I rx ry h
 obtain⟨a,b,xs,ys,rfl,rfl,ha,hb,hx,hz,q1,q2⟩:=h
 cases rx
 cases ry
 obtain⟨its,r1,p1,_⟩:=I.tuple ha
 obtain⟨its2,r2,p2,_⟩:=I.tuple hb
 refine HT.cat_tup p1 p2 (fun z=>hx (r1.nil_iff.mp z)) (fun z=>⟨.ref a,H,I,rfl,q1 (r2.nil_iff.mp z)⟩) (fun z=>?_) (by rw[← r1.length,← r2.length];exact hz)
 refine⟨.ref s.heap.objs.size,_,I.laid (t':=s.toks) (o:=.tup (xs++ys)) (fun b ob q=>yYY _ q) (yZC _) ?_,rfl,q2 (fun w=>z (r2.nil_iff.mpr w)) _ (I.hok.fresh (yZC _))⟩
 exact⟨by rw[yYI];exact hz,_,r1.append r2,TupX.new _ _⟩
end
end L2

namespace L2
open PySem PySem.Spec PyProof.Rows

def ixN (n:Nat)(i:Int):Option Nat:=if 0≤i then (if i<n then some i.toNat else none) else if -(n:Int)≤i then some (i+n).toNat else none
def atI {α:Type}(xs:List α)(i:Int):Option α:=(ixN xs.length i).bind fun j=>xs[j]?
theorem qMf {n:Nat}{i:Int}{j:Nat}(h:ixN n i=some j):seqIndex? i n=some j∧j<n∧-(n:Int)≤i∧i<n:=by
 unfold ixN at h
 by_cases h0:0≤i
 ·rw[if_pos h0] at h
  by_cases h1:i<n
  ·rw[if_pos h1] at h
   have e:i.toNat=j:=Option.some.inj h
   exact⟨by rw[seqIndex_of h0 h1,e],by omega,by omega,h1⟩
  ·rw[if_neg h1] at h;cases h
 ·rw[if_neg h0] at h
  by_cases h1 : -(n:Int)≤i
  ·rw[if_pos h1] at h
   have e:(i+n).toNat=j:=Option.some.inj h
   exact⟨by rw[seqIndex_neg (by omega) h1,e],by omega,h1,by omega⟩
  ·rw[if_neg h1] at h;cases h
theorem qBe {α:Type}{xs:List α}{i:Int}{v:α}(h:atI xs i=some v):∃j,seqIndex? i xs.length=some j∧xs[j]? = some v∧j<xs.length∧-(xs.length:Int)≤i∧i<xs.length:=by
 unfold atI at h
 cases e:ixN xs.length i with
 | none=>rw[e] at h;cases h
 | some j=>
  rw[e] at h
  obtain⟨h1,h2,h3,h4⟩:=qMf e
  exact⟨j,h1,h,h2,h3,h4⟩
theorem zQ {α:Type}{xs:List α}{j:Nat}{v:α}(h:xs[j]? = some v):atI xs (j:Int)=some v:=by
 have hj:j<xs.length:=(yYB.mp h).1
 have e:ixN xs.length (j:Int)=some j:=by
  unfold ixN
  rw[if_pos (by omega),if_pos (by omega)];simp
 unfold atI;rw[e];exact h
def xYz (b:Expr):Prop:=∀o i,subscripted b false o i=operate [o,i] (getItem o i)
def IxR (X:Cx)(r:R2):Prop:=
 ∀(value slice:Expr) (pins:List (Addr×Obj)) (s:Shared) (σ:St) (H:Hp) (x y:V) (v u:Value) (Q:VK),Inv X pins σ H s→RelV x v→RelV y u→r x y H Q→
  subscripted slice false v u=operate [v,u] (getItem v u)→wpAny (model X.prog X.w) X.A (subscriptTail value slice v u) (EP X pins σ Q) X.xe s
def MtR (X:Cx)(id:String)(r:V→List V→Hp→VK→Prop):Prop:=
 ∀(pins:List (Addr×Obj)) (s:Shared) (σ:St) (H:Hp) (x:V) (xs:List V) (v:Value) (us:List Value) (Q:VK),Inv X pins σ H s→RelV x v→Vals xs us→r x xs H Q→
  wpAny (model X.prog X.w) X.A (call (.builtin id) (v::us)) (EP X pins σ Q) X.xe s
section
variable {X:Cx}{a b:Expr}{ta tb:TE}{pos:Pos}
theorem xE {r:R2}(hr:IxR X r)(ha:PE X a ta)(hb:PE X b tb)(hs:xYz b):PE X (.Subscript a b pos) (tOp r ta tb):=by
 intro pins s σ H Q I h
 exact Subscript_ (binT ha hb I h fun v u s2 x y H2 I2 rx ry q=>hr a b pins s2 σ H2 x y v u Q I2 rx ry q (hs _ _))

def rIxL (K:yZO):R2:=fun x y H Q=>∃p xs i v,x=.ref p∧y=.int i∧SqL K H p xs∧atI xs i=some v∧Q v H
def rIxT (K:yZO):R2:=fun x y H Q=>∃p xs i v,x=.ref p∧y=.int i∧SqT K H p xs∧atI xs i=some v∧Q v H
def rIxS:R2:=fun x y H Q=>∃z i c,x=.str z∧y=.int i∧z.length≤sizeLine∧atI z.cps.toList i=some c∧Q (.str ⟨#[c]⟩) H
theorem xZf:IxR X (rIxL X.K):=by
 intro value slice pins s σ H x y v u Q I rx ry h hs
 obtain⟨p,xs,i,z,rfl,rfl,hq,he,q⟩:=h
 cases rx
 obtain⟨t,rfl⟩:=ry
 obtain⟨its,r,pl,hz⟩:=I.list hq
 obtain⟨j,h1,h2,h3,h4,h5⟩:=qBe he
 obtain⟨w,ew,rw'⟩:=r.get h2
 have hl:=r.length
 have hn:=line63
 have fin:EP X pins σ Q w s:=⟨z,H,I,rw',q⟩
 by_cases h0:0≤i
 ·have hj:i.toNat=j:=by
   rw[seqIndex_of h0 h5] at h1
   exact Option.some.inj h1
  exact item_listR pl.isList h0 (by omega) (by rw[hj];simpa using ew) fin hs
 ·have hj:(i+(its.toArray.size:Int)).toNat=j:=by
   rw[seqIndex_neg (by omega) h4] at h1
   rw[yYD,← hl]
   exact Option.some.inj h1
  exact subscriptTail_builtinR (x:=w) pl.isList.typeIs slot_list_getitem.lookup
   (wpAny_getItem_list_neg (Q:=fun r s'=>r=w∧EP X pins σ Q r s') pl.isList (by omega) (by rw[yYD] <;> omega) (by omega) (by rw[hj];simpa using ew) ⟨rfl,fin⟩) hs
theorem xVw:IxR X (rIxT X.K):=by
 intro value slice pins s σ H x y v u Q I rx ry h hs
 obtain⟨p,xs,i,z,rfl,rfl,hq,he,q⟩:=h
 cases rx
 obtain⟨t,rfl⟩:=ry
 obtain⟨its,r,pl,hz⟩:=I.tuple hq
 obtain⟨j,h1,h2,h3,h4,h5⟩:=qBe he
 obtain⟨w,ew,rw'⟩:=r.get h2
 have hl:=r.length
 have hn:=line63
 have fin:EP X pins σ Q w s:=⟨z,H,I,rw',q⟩
 exact subscriptTail_builtinR (x:=w) pl.typeIs slot_tuple_getitem.lookup
  (getItem_tuple (j:=j) (Q:=fun r s'=>r=w∧EP X pins σ Q r s') pl (by omega) (by omega) (by rw[yYD,← hl];exact h1) (by simpa using ew) ⟨rfl,fin⟩) hs
theorem xQz:IxR X rIxS:=by
 intro value slice pins s σ H x y v u Q I rx ry h hs
 obtain⟨z,i,c,rfl,rfl,hz,he,q⟩:=h
 obtain⟨t,rfl⟩:=rx
 obtain⟨t',rfl⟩:=ry
 obtain⟨j,h1,h2,h3,h4,h5⟩:=qBe he
 have hl:z.cps.toList.length=z.length:=by simp[Str.length]
 rw[hl] at h1 h4 h5
 have hn:=line63
 exact tail_any (typeIs_str s z t) slot_str_getitem.lookup (getItem_str (c:=c) (by
  have e1:decide (i < -(2 ^ 63:Int))=false:=decide_eq_false (by omega)
  have e2:decide (i≥2 ^ 63)=false:=decide_eq_false (by omega)
  rw[e1,e2,Bool.or_false]) (by rw[h1];simpa using h2) ⟨.str ⟨#[c]⟩,H,I.tok _,⟨_,rfl⟩,q⟩) hs
theorem qEi (its:List Value)(n j:Nat)(u:Value):Obj.mapSeq (·.setIfInBounds j u) { cls:=.type "list",data:=.seq its.toArray n }={ cls:=.type "list",data:=.seq (its.set j u).toArray n }:=by
 simp[Obj.mapSeq]
theorem Inv.lst {pins:List (Addr×Obj)}{σ:St}{H:Hp}{s:Shared}{p:Addr}{xs:List V}(I:Inv X pins σ H s)(h:H p=some (.lst xs)):
  ∃(its:List Value) (n:Nat),Vals xs its∧s.heap.get? p=some { cls:=.type "list",data:=.seq its.toArray n }∧xs.length≤sizeLine:=by
 obtain⟨z,its,n,r,e⟩:=I.hok p _ h
 exact⟨its,n,r,e,z⟩
theorem Inv.lstUpd {pins:List (Addr×Obj)}{σ:St}{H:Hp}{s:Shared}{p:Addr}{xs ys:List V}{its its':List Value}{n n':Nat}{f:Obj→Obj}(I:Inv X pins σ H s)(h:H p=some (.lst xs))
  (ho:s.heap.get? p=some { cls:=.type "list",data:=.seq its.toArray n }) (hf:f { cls:=.type "list",data:=.seq its.toArray n }={ cls:=.type "list",data:=.seq its'.toArray n' }) (r:Vals ys its') (hz:ys.length≤sizeLine) (t:Nat):
  Inv X pins σ (upd H p (.lst ys)) { s with heap:=s.heap.update p f,toks:=t }:=by
 have e:(s.heap.update p f).get? p=some { cls:=.type "list",data:=.seq its'.toArray n' }:=by
  rw[Heap.get?_update_self f ho (by rw[hf] <;> rfl),hf]
 refine I.write (x:=p) (e:=p) (by rw[h];trivial) (.inl rfl) (fun b u hb q=>(Heap.get?_update_other _ _ (Ne.symm hb)).trans q) ⟨_,e⟩ ?_
 exact⟨hz,its',n',r,e⟩
def rSetL:V→V→V→Hp→(Hp→Prop)→Prop:=fun o i v H Q=>∃p xs k j,o=.ref p∧i=.int k∧H p=some (.lst xs)∧ixN xs.length k=some j∧Q (upd H p (.lst (xs.set j v)))
theorem qYg:PSet X rSetL:=by
 intro pins s σ H o i v ov iv u Q I ro ri rv h
 obtain⟨p,xs,k,j,rfl,rfl,hp,hj,q⟩:=h
 cases ro
 obtain⟨t,rfl⟩:=ri
 obtain⟨its,n,r,ho,hz⟩:=I.lst hp
 obtain⟨h1,h2,h3,h4⟩:=qMf hj
 have hl:=r.length
 have hn:=line63
 have I':Inv X pins σ (upd H p (.lst (xs.set j v))) { s with heap:=s.heap.update p (Obj.mapSeq (·.setIfInBounds j u)) }:=
  I.lstUpd hp ho (qEi its n j u) (r.set rv j) (by rw[List.length_set];exact hz) s.toks
 by_cases h0:0≤k
 ·have hk:k.toNat=j:=by
   rw[seqIndex_of h0 h4] at h1
   exact Option.some.inj h1
  exact PySem.W.ki_setAt ho h0 (by omega) (by rw[yYD,← hl];exact h4) (by rw[hk];exact⟨_,I',q⟩)
 ·have hk:(k+(its.toArray.size:Int)).toNat=j:=by
   rw[seqIndex_neg (by omega) h3] at h1
   rw[yYD,← hl]
   exact Option.some.inj h1
  exact PySem.W.ki_setBack ho (by omega) (by rw[yYD,← hl];exact h3) (by omega) (by rw[hk];exact⟨_,I',q⟩)

theorem qVk (lo hi:Option Int)(n:Nat):(sliceBounds lo hi none n).1=((HT.sIx n 0 lo:Nat):Int)∧(sliceBounds lo hi none n).2.1=((HT.sIx n n hi:Nat):Int)∧(sliceBounds lo hi none n).2.2=1:=by
 refine⟨?_,?_,rfl⟩
 ·cases lo with
  | none=>simp[sliceBounds,HT.sIx]
  | some i=>
   simp only[sliceBounds,HT.sIx,Option.getD_none,show(1:Int)>0 by decide,if_true]
   by_cases h:i<0
   ·simp only[h,if_true] <;> omega
   ·simp only[h,if_false] <;> omega
 ·cases hi with
  | none=>simp[sliceBounds,HT.sIx]
  | some i=>
   simp only[sliceBounds,HT.sIx,Option.getD_none,show(1:Int)>0 by decide,if_true]
   by_cases h:i<0
   ·simp only[h,if_true] <;> omega
   ·simp only[h,if_false] <;> omega
theorem qYe (its:List Value)(lo hi:Option Int):slicePick its.toArray lo hi none=((its.drop (HT.sIx its.length 0 lo)).take (HT.sIx its.length its.length hi - HT.sIx its.length 0 lo)).toArray:=by
 obtain⟨h1,h2,h3⟩:=qVk lo hi its.toArray.size
 unfold slicePick
 rw[h1,h2,h3]
 simp only[sliceRange_one,pick_run,yYD] <;> rfl
def rSlL (K:yZO):V→Option Int→Option Int→Hp→VK→Prop:=fun x lo hi H Q=>∃a xs,x=.ref a∧SqL K H a xs∧∀p,H p=none→Q (.ref p) (upd H p (.lst (cutV xs lo hi)))
theorem xXv:SlR X (rSlL X.K):=by
 intro pins s σ H x v vl vu lo hi sl Q I rx hs pl pu h
 obtain⟨a,xs,rfl,hx,q⟩:=h
 cases rx
 obtain⟨its,r,ht,hz⟩:=I.list hx
 have hlen:=r.length
 refine⟨"list",_,slot_list_getitem.lookup,ht.isList.typeIs,?_⟩
 refine wpAny_getItem_list_slice ht.isList hs pl pu .none (by simp) ?_ (by rw[yYD] <;> omega)
 rw[qYe,← hlen]
 refine⟨.ref s.heap.objs.size,_,I.laid (t':=s.toks) (o:=.lst (cutV xs lo hi)) (fun b ob q=>yYY _ q) (yZC _) ?_,rfl,q _ (I.hok.fresh (yZC _))⟩
 exact⟨yZI (qBj xs lo hi) hz,_,0,(r.drop (HT.sIx xs.length 0 lo)).take (HT.sIx xs.length xs.length hi - HT.sIx xs.length 0 lo),yZA _ rfl⟩

def flatV:V→Bool
 | .non=>true
 | .bl _=>true
 | .int _=>true
 | .str _=>true
 | _=>false
def eqV:V→V→Bool
 | .non,.non=>true
 | .bl a,.bl b=>a == b
 | .bl a,.int b=>(if a then 1 else 0) == b
 | .int a,.bl b=>a == (if b then 1 else 0)
 | .int a,.int b=>a == b
 | .str a,.str b=>a == b
 | _,_=>false
theorem xVc {A:Around}{s:Shared}{y x:V}{u v:Value}(ry:RelV y u)(rx:RelV x v)(fy:flatV y=true)(fx:flatV x=true):SeqAt.EqAt A s u v (eqV y x):=by
 cases y with
 | non=>
  cases ry
  cases x with
  | non=>cases rx;exact SeqAt.EqAt.same _
  | bl b=>cases rx;exact SeqAt.EqAt.none_bool b
  | int b=>obtain⟨t,rfl⟩:=rx;exact SeqAt.EqAt.none_int b t
  | str b=>obtain⟨t,rfl⟩:=rx;exact SeqAt.EqAt.none_str b t
  | _=>exact absurd (show false=true from fx) yZK
 | bl a=>
  cases ry
  cases x with
  | non=>cases rx;exact SeqAt.EqAt.bool_none a
  | bl b=>cases rx;exact SeqAt.EqAt.bool_bool a b
  | int b=>obtain⟨t,rfl⟩:=rx;exact SeqAt.EqAt.bool_int a b t
  | str b=>obtain⟨t,rfl⟩:=rx;exact SeqAt.EqAt.bool_str a b t
  | _=>exact absurd (show false=true from fx) yZK
 | int a=>
  obtain⟨t',rfl⟩:=ry
  cases x with
  | non=>cases rx;exact SeqAt.EqAt.int_none a t'
  | bl b=>cases rx;exact SeqAt.EqAt.int_bool a t' b
  | int b=>obtain⟨t,rfl⟩:=rx;exact SeqAt.EqAt.int_int a t' b t
  | str b=>obtain⟨t,rfl⟩:=rx;exact SeqAt.EqAt.int_str a t' b t
  | _=>exact absurd (show false=true from fx) yZK
 | str a=>
  obtain⟨t',rfl⟩:=ry
  cases x with
  | non=>cases rx;exact SeqAt.EqAt.str_none a t'
  | bl b=>cases rx;exact SeqAt.EqAt.str_bool a t' b
  | int b=>obtain⟨t,rfl⟩:=rx;exact SeqAt.EqAt.str_int a t' b t
  | str b=>obtain⟨t,rfl⟩:=rx;exact SeqAt.EqAt.str_str a t' b t
  | _=>exact absurd (show false=true from fx) yZK
 | _=>exact absurd (show false=true from fy) yZK
def eqU (x:V)(u:Value):Bool:=match u with
 | .none=>eqV .non x
 | .bool b=>eqV (.bl b) x
 | .int i _=>eqV (.int i) x
 | .str z _=>eqV (.str z) x
 | _=>false
theorem xQw {x y:V}{u:Value}(r:RelV y u)(f:flatV y=true):eqU x u=eqV y x:=by
 cases y with
 | non=>cases r;rfl
 | bl b=>cases r;rfl
 | int i=>obtain⟨t,rfl⟩:=r;rfl
 | str z=>obtain⟨t,rfl⟩:=r;rfl
 | _=>exact absurd (show false=true from f) yZK
theorem qBf {x:V}:∀{xs:List V} {us:List Value},Vals xs us→xs.all flatV=true→us.any (eqU x)=xs.any fun y=>eqV y x
 | _,_,.nil,_=>rfl
 | y::xs,u::us,.cons r t,f=>by
  rw[List.all_cons,Bool.and_eq_true] at f
  rw[List.any_cons,List.any_cons,xQw r f.1,qBf t f.2]
theorem qKk {A:Around}{s:Shared}{x:V}{v:Value}(rx:RelV x v)(fx:flatV x=true):∀{xs:List V} {us:List Value},Vals xs us→xs.all flatV=true→∀u∈us,SeqAt.EqAt A s u v (eqU x u)
 | _,_,.nil,_=>fun u hu=>by cases hu
 | y::xs,u::us,.cons r t,f=>fun u' hu=>by
  rw[List.all_cons,Bool.and_eq_true] at f
  rcases yYK.mp hu with rfl | hu
  ·rw[xQw r f.1];exact xVc r rx f.1 fx
  ·exact qKk rx fx t f.2 u' hu
def inV (x:V)(xs:List V):Bool:=xs.any fun y=>eqV y x
def rIn (K:yZO)(neg:Bool):R2:=fun x y H Q=>∃p xs,y=.ref p∧(SqL K H p xs∨SqT K H p xs)∧flatV x=true∧xs.all flatV=true∧Q (.bl (if neg then !inV x xs else inV x xs)) H
theorem qIl:OpR X (compareOp .In) (rIn X.K false):=by
 intro pins s σ H x y v u Q I rx ry h
 obtain⟨p,xs,rfl,hq,fx,fs,q⟩:=h
 cases ry
 rcases hq with hq | hq
 ·obtain⟨its,r,pl,hz⟩:=I.list hq
  refine SeqAt.in_listAt (eqU x) pl.isList (fun w hw=>qKk rx fx r fs w (by simpa using hw)) ⟨.bl _,H,I,rfl,?_⟩
  rw[show its.toArray.any (eqU x)=its.any (eqU x) by simp,qBf r fs]
  exact q
 ·obtain⟨its,r,pl,hz⟩:=I.tuple hq
  refine SeqAt.in_tupleAt (eqU x) pl (fun w hw=>qKk rx fx r fs w (by simpa using hw)) ⟨.bl _,H,I,rfl,?_⟩
  rw[show its.toArray.any (eqU x)=its.any (eqU x) by simp,qBf r fs]
  exact q
theorem qWb:CallR X (.builtin "len") (fun xs H Q=>∃p ys,xs=[.ref p]∧(SqL X.K H p ys∨SqT X.K H p ys)∧Q (.int ys.length) H):=by
 intro pins s σ H xs us Q I r h
 obtain⟨p,ys,rfl,hq,q⟩:=h
 obtain⟨u,rfl,rx⟩:=vals1 r
 cases rx
 have hn:=line63
 rcases hq with hq | hq
 ·obtain⟨its,r',pl,hz⟩:=I.list hq
  have hlen:=r'.length
  exact Calls.call_len_list pl.isList (by simp only[yYD] <;> omega) ⟨.int ys.length,H,I.tok _,⟨s.toks+1,by rw[yYD,hlen]⟩,q⟩
 ·obtain⟨its,r',pl,hz⟩:=I.tuple hq
  have hlen:=r'.length
  exact len_tuple pl (by simp only[yYD] <;> omega) ⟨.int ys.length,H,I.tok _,⟨s.toks+1,by rw[yYD,hlen]⟩,q⟩
theorem qWa:CallR X (.type "list") (fun xs H Q=>∃p ys,xs=[.ref p]∧(SqL X.K H p ys∨SqT X.K H p ys)∧∀l,H l=none→Q (.ref l) (upd H l (.lst ys))):=by
 intro pins s σ H xs us Q I r h
 obtain⟨p,ys,rfl,hq,q⟩:=h
 obtain⟨u,rfl,rx⟩:=vals1 r
 cases rx
 have fin:∀(its:List Value),Vals ys its→ys.length≤sizeLine→∀(h':Heap) (c':Nat),(∀b o',s.heap.get? b=some o'→h'.get? b=some o')→
   h'.get? s.heap.objs.size=some { cls:=.type "list",dict:=none,data:=.seq its.toArray c',slots:=#[] }→EP X pins σ Q (.ref s.heap.objs.size) { s with heap:=h' }:=fun its r' hz h' c' kp e=>
  ⟨.ref s.heap.objs.size,_,I.laid (t':=s.toks) kp (yZC _) (show ObjOk X.prog X.w _ h' _ (.lst ys) from⟨hz,its,c',r',e⟩),rfl,q _ (I.hok.fresh (yZC _))⟩
 rcases hq with hq | hq
 ·obtain⟨its,r',pl,hz⟩:=I.list hq
  have hlen:=r'.length
  obtain⟨o,ho,hc,n,hd⟩:=pl.isList
  exact call_list_seq p (.inl rfl) ho hc hd (fun h' c' kp e=>fin its r' hz h' c' kp e) (by simp only[yYD] <;> omega)
 ·obtain⟨its,r',pl,hz⟩:=I.tuple hq
  have hlen:=r'.length
  obtain⟨o,ho,hc,n,hd⟩:=pl
  exact call_list_seq p (.inr rfl) ho hc hd (fun h' c' kp e=>fin its r' hz h' c' kp e) (by simp only[yYD] <;> omega)
theorem qKb:CallR X (.type "tuple") (fun xs H Q=>∃p ys,xs=[.ref p]∧((SqL X.K H p ys∧∀l,H l=none→Q (.ref l) (upd H l (.tup ys)))∨(SqT X.K H p ys∧Q (.ref p) H))):=by
 intro pins s σ H xs us Q I r h
 obtain⟨p,ys,rfl,h⟩:=h
 obtain⟨u,rfl,rx⟩:=vals1 r
 cases rx
 rcases h with⟨hq,q⟩ | ⟨hq,q⟩
 ·obtain⟨its,r',pl,hz⟩:=I.list hq
  have hlen:=r'.length
  refine call_tuple_list pl.isList (fun h' kp=>?_) (by simp only[yYD] <;> omega)
  have I1:Inv X pins σ H { s with heap:=h' }:=I.kept (t':=s.toks) kp
  have I2:Inv X pins σ (upd H h'.objs.size (.tup ys)) { s with heap:=h'.push { cls:=.type "tuple",data:=.seq its.toArray } }:=
   I1.laid (t':=s.toks) (fun b o e=>yYY _ e) (yZC _) (show ObjOk X.prog X.w _ _ _ (.tup ys) from⟨hz,its,r',TupX.new _ _⟩)
  exact⟨.ref h'.objs.size,_,I2,rfl,q _ (I1.hok.fresh (yZC _))⟩
 ·obtain⟨its,r',pl,hz⟩:=I.tuple hq
  exact call_tuple_same pl ⟨.ref p,H,I,rfl,q⟩

def tyV (K:yZO)(T:String)(x:V)(H:Hp):Prop:=match x with
 | .str _=>T = "str"
 | .int _=>T = "int"
 | .ref p=>(T = "list" ∧ ∃xs,SqL K H p xs)∨(T = "tuple" ∧ ∃o,K.lookup p=some o∧o.cls=.type "tuple" ∧ o.dict=none)∨
   (T = "dict" ∧ ((∃kvs,H p=some (.dK kvs))∨∃kvs,H p=some (.dT kvs)))∨(T = "set" ∧ ∃S n,H p=some (.set S n))
 | _=>False
theorem xKq {pins:List (Addr×Obj)}{σ:St}{H:Hp}{s:Shared}{T:String}{x:V}{v:Value}(I:Inv X pins σ H s)(r:RelV x v)(ty:tyV X.K T x H):
  s.TypeIs v T∧∀a,v=.ref a→∃ob,s.heap.get? a=some ob∧ob.dict=none:=by
 cases x with
 | str z=>
  obtain⟨t,rfl⟩:=r
  cases(show T = "str" from ty)
  exact⟨typeIs_str s z t,fun _ e=>nomatch e⟩
 | int i=>
  obtain⟨t,rfl⟩:=r
  cases(show T = "int" from ty)
  exact⟨typeIs_int s i t,fun _ e=>nomatch e⟩
 | ref p=>
  cases r
  rcases ty with⟨rfl,xs,hq⟩ | ⟨rfl,o,hk,hc,hd⟩ | ⟨rfl,hk⟩ | ⟨rfl,S,n,hk⟩
  ·obtain⟨its,_,pl,_⟩:=I.list hq
   refine⟨pl.isList.typeIs,fun a e=>?_⟩
   cases e
   obtain⟨o,n,e,c,hd,_⟩:=pl
   exact⟨o,e,hd⟩
  ·refine⟨⟨o,I.kIn p o hk,hc⟩,fun a e=>?_⟩
   cases e
   exact⟨o,I.kIn _ o hk,hd⟩
  ·have z:∃o,s.heap.get? p=some o∧o.ExactDict:=by
    rcases hk with⟨kvs,hk⟩ | ⟨kvs,hk⟩
    ·obtain⟨_,_,_,_,o,_,_,e,ex,_⟩:=I.hok p _ hk
     exact⟨o,e,ex⟩
    ·obtain⟨_,_,_,_,o,_,_,e,ex,_⟩:=I.hok p _ hk
     exact⟨o,e,ex⟩
   obtain⟨o,e,ex⟩:=z
   refine⟨⟨o,e,ex.1⟩,fun a e2=>?_⟩
   cases e2
   exact⟨o,e,ex.2.1⟩
  ·obtain⟨o,_,_,_,e,ex,_⟩:=I.hok p _ hk
   refine⟨⟨o,e,ex.1⟩,fun a e2=>?_⟩
   cases e2
   exact⟨o,e,ex.2.1⟩
 | _=>exact False.elim ty
def tBM (K:yZO)(T:String)(r:V→List V→Hp→VK→Prop)(to:TE)(t:TA):TE:=fun σ H Q=>to σ H fun x H1=>tyV K T x H1∧t σ H1 fun xs H2=>r x xs H2 Q
variable {o e:Expr}{es:List Expr}{to:TE}{t:TA}{name:Str}{apos cpos:Pos}{T id:String}{r:V→List V→Hp→VK→Prop}
theorem xWc (pa:PlainAttrs T)(slot:Slot T name id)(hty:typeOf (.builtin id)=pure (.type "method_descriptor"))(hm:MtR X id r)(ho:PE X o to)(ha:PA X (e::es) t)
  (hbase:attributeBase o name X.env (eval o X.env)=eval o X.env:=by rfl)
  (hfew:((backTo cpos (starEach (e::es) X.env)).all (fun x=>!x.1) && (backToKw cpos (keywordEach [] X.env)).all (fun x=>x.1.isSome)
   && decide ((e::es).length+([]:List Keyword).length+(if ([]:List Keyword).isEmpty then 0 else 1)<30))=true:=by rfl)
  (hline:(apos.endLine == cpos.line)=true:=by rfl) (hs:starEach (e::es) X.env=(false,eval e X.env)::starEach es X.env:=by rfl) (hplain:(backTo cpos (starEach es X.env)).any (·.1)=false:=by rfl):
  PE X (.Call (.Attribute o name apos) (e::es) [] cpos) (tBM X.K T r to t):=by
 intro pins s σ H Q I h
 refine wpAny_Call_method_late hbase hfew hline rfl (thn (ho pins s σ H _ I h) fun v s1 ⟨x,H1,I1,r1,ty,q1⟩=>?_)
 obtain⟨h1,h2⟩:=xKq I1 r1 ty
 refine⟨T,id,pa,slot,hty,h1,h2,?_⟩
 have hA:=ha cpos pins s1 σ H1 _ I1 q1
 rw[hs] at hA ⊢
 refine Calls.callWith_builtin (by show(false || (backTo cpos (starEach es X.env)).any (·.1))=false;rw[hplain] <;> rfl) (Calls.evalArgs_plain ?_)
 exact thn hA fun us s2 ⟨vs,H2,I2,r2,q2⟩=>hm pins s2 σ H2 x vs v us Q I2 r1 r2 q2
end
end L2

namespace L2
open PySem PySem.Spec PyProof.Rows

def MtM (X:Cx)(id:String)(r:V→List V→Hp→VK→Prop):Prop:=
 ∀(pins:List (Addr×Obj)) (s:Shared) (σ:St) (H:Hp) (x:V) (xs:List V) (v:Value) (us:List Value) (Q:VK),Inv X pins σ H s→RelV x v→Vals xs us→r x xs H Q→
  wpAny (model X.prog X.w) X.A (call (.builtin id) (v::us)) (EP X pins σ Q) X.xe s

theorem Vals.one {x:V}{us:List Value}(h:Vals [x] us):∃u,us=[u]∧RelV x u:=by
 cases h with
 | cons r t=>
  cases t
  exact⟨_,rfl,r⟩
section
variable {X:Cx}{pins:List (Addr×Obj)}{σ:St}{H:Hp}{s:Shared}{l b:Addr}{xs ys zs:List V}

theorem Inv.lset {its its':List Value}{n:Nat}{f:Array Value→Array Value}{t':Nat}(I:Inv X pins σ H s)(hH:H l=some (.lst xs))
  (e:s.heap.get? l=some { cls:=.type "list",data:=.seq its.toArray n }) (hf:f its.toArray=its'.toArray) (hv:Vals ys its') (hz:ys.length≤sizeLine):
  Inv X pins σ (upd H l (.lst ys)) { s with heap:=s.heap.update l (Obj.mapSeq f),toks:=t' }:=by
 have q:=PySem.IsL.update e f
 rw[hf] at q
 refine I.write (x:=l) (e:=l) (by rw[hH];exact trivial) (.inl rfl) (fun b' u hb hu=>(Heap.get?_update_other s.heap (Obj.mapSeq f) (Ne.symm hb)).trans hu) ⟨_,q⟩ ?_
 exact⟨hz,its',_,hv,q⟩
theorem Inv.lnew {its:List Value}{t':Nat}(I:Inv X pins σ H s)(hv:Vals ys its)(hz:ys.length≤sizeLine):
  Inv X pins σ (upd H s.heap.objs.size (.lst ys)) { s with heap:=s.heap.push { cls:=.type "list",data:=.seq its.toArray },toks:=t' }:=
 I.laid (fun _ _ q=>yYY _ q) (yZC _) ⟨hz,its,0,hv,yZA _ rfl⟩
theorem Inv.fresh (I:Inv X pins σ H s):H s.heap.objs.size=none:=I.hok.fresh (yZC _)
theorem Inv.lstM (I:Inv X pins σ H s)(hH:H l=some (.lst xs)):xs.length≤sizeLine∧∃(its:List Value) (n:Nat),Vals xs its∧xs.length=its.length∧s.heap.get? l=some { cls:=.type "list",data:=.seq its.toArray n }:=by
 obtain⟨z,its,n,r,e⟩:=I.hok l _ hH
 exact⟨z,its,n,r,r.length,e⟩

end

section
variable {X:Cx}

def qHh:V→List V→Hp→VK→Prop:=fun x vs H Q=>∃l xs y,x=.ref l∧vs=[y]∧H l=some (.lst xs)∧xs.length<sizeLine∧Q .non (upd H l (.lst (xs++[y])))
theorem zP:MtM X "list.append" qHh:=by
 intro pins s σ H x vs v us Q I rx rv h
 obtain⟨l,xs,y,rfl,rfl,hH,hz,q⟩:=h
 cases rx
 obtain⟨u,rfl,ru⟩:=rv.one
 obtain⟨z,its,n,r,hl,e⟩:=I.lstM hH
 refine call_meets F.slot_list_append ⟨_,e,rfl⟩ F.entry_list_append (F.args_list_append_2 _ _) (PySem.list_append l its.toArray n u (by rw[yYD];omega)) ⟨e,?_⟩
 refine⟨.non,_,I.lset (its':=its++[u]) hH e (by simp) (r.append (.cons ru .nil)) ?_,rfl,q⟩
 rw[yYI,List.length_singleton]
 omega

def rCat:R2:=fun x y H Q=>∃l b xs zs,x=.ref l∧y=.ref b∧H l=some (.lst xs)∧H b=some (.lst zs)∧xs.length+zs.length≤sizeLine∧∀p,H p=none→Q (.ref p) (upd H p (.lst (xs++zs)))
theorem qIo:OpR X (binaryOp .Add) rCat:=by
 intro pins s σ H x y v u Q I rx ry h
 obtain⟨l,b,xs,zs,rfl,rfl,hH,hB,hz,q⟩:=h
 cases rx
 cases ry
 obtain⟨z,its,n,r,hl,e⟩:=I.lstM hH
 obtain⟨z2,its2,n2,r2,hl2,e2⟩:=I.lstM hB
 refine PySem.P.add_list e e2 ?_ (by rw[yYD,yYD];omega)
 have ea:its.toArray++its2.toArray=(its++its2).toArray:=by simp
 rw[ea]
 exact⟨.ref _,_,I.lnew (t':=s.toks) (r.append r2) (by rw[yYI];omega),rfl,q _ I.fresh⟩
end


end L2

namespace L2
open PySem PySem.Spec PyProof.Rows

section
variable {κ:Type}[DecidableEq κ]
def valV (kvs:List (κ×V))(k:κ):Option V:=(kvs.find? fun kv=>decide (kv.1=k)).map (·.2)
def putK (kvs:List (κ×V))(k:κ)(v:V):List (κ×V):=
 if (kvs.any fun kv=>decide (kv.1=k))=true then kvs.map (fun kv=>if kv.1=k then (kv.1,v) else kv) else kvs++[(k,v)]
theorem jX {p:κ×V}{r:List (κ×V)}{k:κ}(e:p.1=k):valV (p::r) k=some p.2:=by simp[valV,List.find?_cons,e]
theorem jZ {p:κ×V}{r:List (κ×V)}{k:κ}(e:¬p.1=k):valV (p::r) k=valV r k:=by simp[valV,List.find?_cons,e]
theorem qQv (k:κ):∀kvs:List (κ×V),(kvs.any fun kv=>decide (kv.1=k))=(valV kvs k).isSome
 | []=>rfl
 | p::r=>by
  rw[List.any_cons]
  by_cases e:p.1=k
  ·simp only[jX e,decide_eq_true e,Bool.true_or,Option.isSome_some]
  ·rw[jZ e,decide_eq_false e,Bool.false_or];exact qQv k r
theorem qBm (k j:κ)(y:V):∀kvs:List (κ×V),valV (kvs.map fun kv=>if kv.1=k then (kv.1,y) else kv) j=(valV kvs j).map fun x=>if j=k then y else x
 | []=>rfl
 | p::r=>by
  have ih:=qBm k j y r
  rw[List.map_cons]
  by_cases h:p.1=k
  ·rw[if_pos h]
   by_cases e:p.1=j
   ·rw[jX (p:=(p.1,y)) e,jX e,yZN,if_pos (e.symm.trans h)]
   ·rw[jZ (p:=(p.1,y)) e,jZ e,ih]
  ·rw[if_neg h]
   by_cases e:p.1=j
   ·rw[jX (p:=p) e,jX e,yZN,if_neg (fun z=>h (e.trans z))]
   ·rw[jZ (p:=p) e,jZ e,ih]
theorem qVx (k j:κ)(y:V):∀kvs:List (κ×V),valV kvs k=none→valV (kvs++[(k,y)]) j=if j=k then some y else valV kvs j
 | [],_=>by
  by_cases e:k=j
  ·rw[if_pos e.symm];exact jX (p:=(k,y)) e
  ·rw[if_neg (fun z=>e z.symm)];exact jZ (p:=(k,y)) e
 | p::r,hn=>by
  rw[List.cons_append]
  have hk:¬p.1=k:=fun z=>by rw[jX z] at hn;cases hn
  rw[jZ hk] at hn
  have ih:=qVx k j y r hn
  by_cases e:p.1=j
  ·rw[jX e,jX e,if_neg (fun z=>hk (e.trans z))]
  ·rw[jZ e,jZ e,ih]
theorem jT (kvs:List (κ×V))(k j:κ)(y:V):valV (putK kvs k y) j=if j=k then some y else valV kvs j:=by
 unfold putK
 by_cases a:(kvs.any fun kv=>decide (kv.1=k))=true
 ·rw[if_pos a,qBm]
  rw[qQv] at a
  by_cases e:j=k
  ·obtain⟨x,hx⟩:=Option.isSome_iff_exists.mp a
   rw[if_pos e,e,hx,yZN,if_pos rfl]
  ·rw[if_neg e]
   cases valV kvs j with
   | none=>rfl
   | some x=>rw[yZN,if_neg e]
 ·rw[if_neg a]
  refine qVx k j y kvs ?_
  rw[qQv] at a
  cases q:valV kvs k with
  | none=>rfl
  | some x=>rw[q] at a;exact(a rfl).elim
theorem yJ (kvs:List (κ×V))(k:κ)(v:V):(putK kvs k v).length≤kvs.length+1:=by
 unfold putK
 split
 ·rw[yYC];omega
 ·rw[yYI,yYS,yYT];omega
theorem RelO.isSome_eq {o:Option V}{u:Option Value}(r:RelO o u):o.isSome=u.isSome:=by
 cases o with
 | none=>cases u with
  | none=>rfl
  | some _=>exact(show False from r).elim
 | some _=>cases u with
  | none=>exact(show False from r).elim
  | some _=>rfl
theorem KV.val {kvs:List (κ×V)}{vs:List (κ×Value)}(r:KV kvs vs)(k:κ):RelO (valV kvs k) (valueAt vs k):=by
 unfold KV at r
 induction r with
 | nil=>exact True.intro
 | @cons p q ps qs h t ih=>
  obtain⟨h1,h2⟩:=h
  by_cases e:p.1=k
  ·have e':q.1=k:=h1.symm.trans e
   have b:valueAt (q::qs) k=some q.2:=by simp[valueAt,List.find?_cons,e']
   rw[jX e,b];exact h2
  ·have e':¬q.1=k:=fun z=>e (h1.trans z)
   have b:valueAt (q::qs) k=valueAt qs k:=by simp[valueAt,List.find?_cons,e']
   rw[jZ e,b];exact ih
theorem KV.any {kvs:List (κ×V)}{vs:List (κ×Value)}(r:KV kvs vs)(k:κ):(kvs.any fun kv=>decide (kv.1=k))=vs.any fun kv=>decide (kv.1=k):=by
 unfold KV at r
 induction r with
 | nil=>rfl
 | cons h t ih=>rw[List.any_cons,List.any_cons,ih,h.1]
theorem KV.repl {kvs:List (κ×V)}{vs:List (κ×Value)}(r:KV kvs vs)(k:κ){y:V}{u:Value}(ry:RelV y u):
  KV (kvs.map fun kv=>if kv.1=k then (kv.1,y) else kv) (vs.map fun kv=>if kv.1=k then (kv.1,u) else kv):=by
 unfold KV at r ⊢
 induction r with
 | nil=>exact .nil
 | @cons p q ps qs h t ih=>
  rw[List.map_cons,List.map_cons]
  refine .cons ?_ ih
  obtain⟨h1,h2⟩:=h
  by_cases e:p.1=k
  ·rw[if_pos e,if_pos (h1.symm.trans e)];exact⟨h1,ry⟩
  ·rw[if_neg e,if_neg (fun z=>e (h1.trans z))];exact⟨h1,h2⟩
theorem KV.put {kvs:List (κ×V)}{vs:List (κ×Value)}(r:KV kvs vs)(k:κ){y:V}{u:Value}(ry:RelV y u):KV (putK kvs k y) (stored vs k u):=by
 unfold putK stored
 rw[r.any k]
 by_cases e:(vs.any fun kv=>decide (kv.1=k))=true
 ·rw[if_pos e,if_pos e];exact r.repl k ry
 ·rw[if_neg e,if_neg e];exact Paired.snoc r ⟨rfl,ry⟩
theorem KV.length {kvs:List (κ×V)}{vs:List (κ×Value)}(r:KV kvs vs):kvs.length=vs.length:=Paired.length r
end

theorem qMe {P:Program}{w:World}{k:Key}{u:Value}(r:RelV (kV k) u):(xN P w).is k u=true:=by
 cases k with
 | inl i=>obtain⟨t,e⟩:=(show∃t,u=Value.int i t from r);subst e;exact qXe P w i t
 | inr x=>obtain⟨t,e⟩:=(show∃t,u=Value.str x t from r);subst e;exact kC P w x t
theorem qVo {P:Program}{w:World}:∀{ks:List Key} {us:List Value},Vals (ks.map kV) us→ItemsAre (xN P w) ks us
 | [],_,r=>by rw[List.map_nil] at r;cases r;exact .nil
 | k::ks,_,r=>by
  rw[List.map_cons] at r
  cases r with
  | cons h t=>exact .cons (qMe h) (qVo t)

abbrev KT (H:Hp):List (List Key×V)→List (List Key×Addr×Value)→Prop:=Paired fun p q=>p.1=q.1∧H q.2.1=some (.tup (p.1.map kV))∧RelV p.2 q.2.2
theorem KT.val {H:Hp}{kvs:List (List Key×V)}{xs:List (List Key×Addr×Value)}(r:KT H kvs xs)(k:List Key):RelO (valV kvs k) ((atKey xs k).map (·.2)):=by
 induction r with
 | nil=>exact True.intro
 | @cons p q ps qs h t ih=>
  obtain⟨h1,_,h2⟩:=h
  by_cases e:p.1=k
  ·have e':q.1=k:=h1.symm.trans e
   have b:atKey (q::qs) k=some q.2:=by simp[atKey,List.find?_cons,e']
   rw[jX e,b];exact h2
  ·have e':¬q.1=k:=fun z=>e (h1.trans z)
   have b:atKey (q::qs) k=atKey qs k:=by simp[atKey,List.find?_cons,e']
   rw[jZ e,b];exact ih
theorem KT.repl {H:Hp}{kvs:List (List Key×V)}{xs:List (List Key×Addr×Value)}(r:KT H kvs xs)(k:List Key){y:V}{u:Value}(ry:RelV y u):
  KT H (kvs.map fun kv=>if kv.1=k then (kv.1,y) else kv) (xs.map (putAt k u)):=by
 induction r with
 | nil=>exact .nil
 | @cons p q ps qs h t ih=>
  rw[List.map_cons,List.map_cons]
  refine .cons ?_ ih
  obtain⟨h1,h2,h3⟩:=h
  unfold putAt
  by_cases e:p.1=k
  ·rw[if_pos e,if_pos (h1.symm.trans e)];exact⟨h1,h2,ry⟩
  ·rw[if_neg e,if_neg (fun z=>e (h1.trans z))];exact⟨h1,h2,h3⟩
theorem KT.put {H:Hp}{kvs:List (List Key×V)}{xs:List (List Key×Addr×Value)}(r:KT H kvs xs)(k:List Key){b:Addr}{y:V}{u:Value}(hb:H b=some (.tup (k.map kV)))(ry:RelV y u):
  KT H (putK kvs k y) (storedH xs k b u):=by
 have e:(kvs.any fun kv=>decide (kv.1=k))=(atKey xs k).isSome:=by
  rw[qQv,(r.val k).isSome_eq,Option.isSome_map]
 unfold putK storedH
 rw[e]
 by_cases q:(atKey xs k).isSome=true
 ·rw[if_pos q,if_pos q];exact r.repl k ry
 ·rw[if_neg q,if_neg q];exact Paired.snoc r ⟨rfl,hb,ry⟩
theorem KT.keeps {H H':Hp}{kvs:List (List Key×V)}{xs:List (List Key×Addr×Value)}(r:KT H kvs xs)(ht:∀b ys,H b=some (.tup ys)→H' b=some (.tup ys)):KT H' kvs xs:=
 Paired.mapP r fun _ _ z=>⟨z.1,ht _ _ z.2.1,z.2.2⟩

section
variable {P:Program}{w:World}{H:Hp}{h:Heap}{a:Addr}
theorem xKz {u:HO}(ok:HOk P w H h)(e:Rd H a u):ObjOk P w H h a u:=e.ok ok
theorem qAo {kvs:List (Key×V)}(ok:HOk P w H h)(e:Rd H a (.dK kvs)):kvs.length≤sizeLine∧(a == sysModules)=false∧∃vs,KV kvs vs∧h.DictOf (xN P w) a vs:=
 show ObjOk P w H h a (.dK kvs) from xKz ok e
theorem xWi {kvs:List (Key×V)}(ok:HOk P w H h)(e:H a=some (.dK kvs)):kvs.length≤sizeLine∧(a == sysModules)=false∧∃vs,KV kvs vs∧h.DictOf (xN P w) a vs:=qAo ok (.inl e)
theorem qJh {ks:List Key}(ok:HOk P w H h)(e:H a=some (.tup (ks.map kV))):(tupleKind (xN P w)).is h ks a:=by
 obtain⟨_,its,r,o,h1,h2,n,h3,_⟩:=(show ObjOk P w H h a (.tup (ks.map kV)) from ok a _ e)
 exact⟨o,its.toArray,n,h1,h2,h3,by simpa using qVo r⟩
theorem qNa {kvs:List (List Key×V)}(ok:HOk P w H h)(e:Rd H a (.dT kvs)):kvs.length≤sizeLine∧(a == sysModules)=false∧
  ∃xs,KT H kvs xs∧h.DictOfH (tupleKind (xN P w)) a xs:=by
 obtain⟨z,y,xs,r,o,es,ep,h1,h2,h3,h4,h5⟩:=(show ObjOk P w H h a (.dT kvs) from xKz ok e)
 refine⟨z,y,xs,r,o,es,ep,h1,h2,h3,h4,fun x hx=>?_,h5⟩
 have all:∀{l:List (List Key×V)} {m:List (List Key×Addr×Value)},KT H l m→∀x∈m,(tupleKind (xN P w)).is h x.1 x.2.1:=by
  intro l m q
  induction q with
  | nil=>intro x hx;exact nomatch hx
  | @cons p q ps qs hq t ih=>
   intro x hx
   rcases yYK.mp hx with e | hx
   ·subst e
    exact qJh ok (by rw[← hq.1];exact hq.2.1)
   ·exact ih x hx
 exact all r x hx
theorem xWh {kvs:List (List Key×V)}(ok:HOk P w H h)(e:H a=some (.dT kvs)):kvs.length≤sizeLine∧(a == sysModules)=false∧
  ∃xs,KT H kvs xs∧h.DictOfH (tupleKind (xN P w)) a xs:=qNa ok (.inl e)
end

def DGet (H:Hp)(a:Addr)(y:V)(r:Option V):Prop:=
 (∃kvs k,Rd H a (.dK kvs)∧y=kV k∧r=valV kvs k)∨∃kvs k b,Rd H a (.dT kvs)∧y=.ref b∧H b=some (.tup (k.map kV))∧r=valV kvs k
def DPut (H:Hp)(a:Addr)(y v:V)(H':Hp):Prop:=
 (∃kvs k,H a=some (.dK kvs)∧y=kV k∧kvs.length<sizeLine∧H'=upd H a (.dK (putK kvs k v)))∨
 ∃kvs k b,H a=some (.dT kvs)∧y=.ref b∧H b=some (.tup (k.map kV))∧kvs.length<sizeLine∧H'=upd H a (.dT (putK kvs k v))
theorem DGet.k {H:Hp}{a:Addr}{kvs:List (Key×V)}{k:Key}(e:H a=some (.dK kvs)):DGet H a (kV k) (valV kvs k):=.inl ⟨kvs,k,.inl e,rfl,rfl⟩
theorem DGet.t {H:Hp}{a b:Addr}{kvs:List (List Key×V)}{k:List Key}(e:H a=some (.dT kvs))(eb:H b=some (.tup (k.map kV))):DGet H a (.ref b) (valV kvs k):=.inr ⟨kvs,k,b,.inl e,rfl,eb,rfl⟩
theorem DPut.k {H:Hp}{a:Addr}{kvs:List (Key×V)}{k:Key}{v:V}(e:H a=some (.dK kvs))(hl:kvs.length<sizeLine):DPut H a (kV k) v (upd H a (.dK (putK kvs k v))):=.inl ⟨kvs,k,e,rfl,hl,rfl⟩
theorem DPut.t {H:Hp}{a b:Addr}{kvs:List (List Key×V)}{k:List Key}{v:V}(e:H a=some (.dT kvs))(eb:H b=some (.tup (k.map kV)))(hl:kvs.length<sizeLine):
  DPut H a (.ref b) v (upd H a (.dT (putK kvs k v))):=.inr ⟨kvs,k,b,e,rfl,eb,hl,rfl⟩

section
variable {X:Cx}{pins:List (Addr×Obj)}{σ:St}{H:Hp}{s:Shared}{a:Addr}{y v:V}{u r:Value}{o:Option V}{A:Around}{E:Value→Shared→Prop}

theorem Inv.big (I:Inv X pins σ H s):sysModules<s.heap.objs.size:=by
 have h:mainGlobals<s.heap.objs.size:=(I.mod.glob.keeps I.bk).lt
 exact Nat.lt_trans (by decide) h

theorem qOc {Q:Value→Shared→Prop}(hu:A.units+1<cLine)(I:Inv X pins σ H s)(g:DGet H a y (some v))(ry:RelV y u)(h:∀w' s',Inv X pins σ H s'→RelV v w'→Q w' s'):
  wpAny (model X.prog X.w) A (getItem (.ref a) u) Q E s:=by
 rcases g with⟨kvs,k,e,ey,l⟩ | ⟨kvs,k,b,e,ey,eb,l⟩
 ·subst ey
  obtain⟨z,hd,vs,rel,dd⟩:=qAo I.hok e
  obtain⟨w',hw,rw'⟩:=RelO.some_of (v:=v) (o:=valueAt vs k) (by rw[l];exact rel.val k)
  exact wpAny_getItem_of (qMe ry) dd.mapOf hw (h w' _ (I.tok _) rw')
 ·subst ey
  cases(show u=Value.ref b from ry)
  obtain⟨z,hd,xs,rel,dd⟩:=qNa I.hok e
  obtain⟨w',hw,rw'⟩:=RelO.some_of (v:=v) (o:=(atKey xs k).map (·.2)) (by rw[l];exact rel.val k)
  obtain⟨p,hp,hp2⟩:=Option.map_eq_some_iff.mp hw
  refine wpAny_getItem_heap (tupleKind_room_in1 hu) (qJh I.hok eb) dd hp ?_
  rw[hp2]
  exact h w' _ (I.tok _) rw'
theorem d_in {Q:Value→Shared→Prop}(hu:A.units+1<cLine)(I:Inv X pins σ H s)(g:DGet H a y o)(ry:RelV y u)(h:∀s',Inv X pins σ H s'→Q (.bool o.isSome) s'):
  wpAny (model X.prog X.w) A (compareOp .In u (.ref a)) Q E s:=by
 rcases g with⟨kvs,k,e,ey,l⟩ | ⟨kvs,k,b,e,ey,eb,l⟩
 ·subst ey
  obtain⟨z,hd,vs,rel,dd⟩:=qAo I.hok e
  refine wpAny_in_of (qMe ry) hd dd.mapOf ?_
  rw[← (rel.val k).isSome_eq,← l]
  exact h _ (I.tok _)
 ·subst ey
  cases(show u=Value.ref b from ry)
  obtain⟨z,hd,xs,rel,dd⟩:=qNa I.hok e
  refine wpAny_in_heap (tupleKind_room_in1 hu) (qJh I.hok eb) hd dd ?_
  have q:=(rel.val k).isSome_eq
  rw[Option.isSome_map] at q
  rw[← q,← l]
  exact h _ (I.tok _)
theorem xJi {Q:Value→Shared→Prop}(hu:A.units+1<cLine)(I:Inv X pins σ H s)(g:DGet H a y o)(ry:RelV y u)(h:∀s',Inv X pins σ H s'→Q (.bool (!o.isSome)) s'):
  wpAny (model X.prog X.w) A (compareOp .NotIn u (.ref a)) Q E s:=by
 rcases g with⟨kvs,k,e,ey,l⟩ | ⟨kvs,k,b,e,ey,eb,l⟩
 ·subst ey
  obtain⟨z,hd,vs,rel,dd⟩:=qAo I.hok e
  refine wpAny_notIn_of (qMe ry) hd dd.mapOf ?_
  rw[← (rel.val k).isSome_eq,← l]
  exact h _ (I.tok _)
 ·subst ey
  cases(show u=Value.ref b from ry)
  obtain⟨z,hd,xs,rel,dd⟩:=qNa I.hok e
  refine wpAny_notIn_heap (tupleKind_room_in1 hu) (qJh I.hok eb) hd dd ?_
  have q:=(rel.val k).isSome_eq
  rw[Option.isSome_map] at q
  rw[← q,← l]
  exact h _ (I.tok _)
theorem qBz {h':Heap}{t':Nat}{ob:HO}(I:Inv X pins σ H s)(mu:Mut (H a))(hs:Heap.SameBut a s.heap h')(he:∃q,h'.get? a=some q)(new:ObjOk X.prog X.w (upd H a ob) h' a ob):
  Inv X pins σ (upd H a ob) { s with heap:=h',toks:=t' }:=
 I.write (x:=a) (e:=a) mu (.inl rfl) (fun b q hb z=>(hs.2 b hb).trans z) he new
theorem xQa {P:Program}{w:World}{H':Hp}{h':Heap}{kvs:List (Key×V)}{vs:List (Key×Value)}(z:kvs.length≤sizeLine)(hd:(a == sysModules)=false)(rel:KV kvs vs)(dd:h'.DictOf (xN P w) a vs):
  ObjOk P w H' h' a (.dK kvs):=⟨z,hd,vs,rel,dd⟩
theorem qOb {H':Hp}{Q:Unit→Shared→Prop}(hu:A.units+1<cLine)(I:Inv X pins σ H s)(g:DPut H a y v H')(ry:RelV y u)(rv:RelV v r)(h:∀s',Inv X pins σ H' s'→Q () s'):
  wpAny (model X.prog X.w) A (setItem (.ref a) u r) Q E s:=by
 rcases g with⟨kvs,k,e,ey,l,eH⟩ | ⟨kvs,k,b,e,ey,eb,l,eH⟩
 ·subst ey eH
  obtain⟨z,hd,vs,rel,dd⟩:=xWi I.hok e
  have hz:vs.length≤sizeLine:=by rw[← rel.length];exact z
  have hl:(putK kvs k v).length≤sizeLine:=by have:=yJ kvs k v;omega
  refine wpAny_setItem_pairs (hsz:=hz) (qMe ry) dd fun h' dd' hs=>h _ ?_
  have he:∃q,h'.get? a=some q:=let ⟨q,_,_,hq,_⟩:=dd';⟨q,hq⟩
  exact qBz I (by rw[e];exact True.intro) hs he (xQa hl hd (rel.put k rv) dd')
 ·subst ey eH
  cases(show u=Value.ref b from ry)
  obtain⟨z,hd,xs,rel,dd⟩:=xWh I.hok e
  have hz:xs.length≤sizeLine:=by rw[← Paired.length rel];exact z
  have hl:(putK kvs k v).length≤sizeLine:=by have:=yJ kvs k v;omega
  refine wpAny_setItem_heap (hsz:=hz) (tupleKind_room_in1 hu) (qJh I.hok eb) dd fun h' dd' hs=>h _ ?_
  obtain⟨q,es,ep,hq,h2,h3,h4,_,h5⟩:=dd'
  refine qBz I (by rw[e];exact True.intro) hs ⟨q,hq⟩ ⟨hl,hd,_,(rel.put k eb rv).keeps fun c ys ec=>?_,q,es,ep,hq,h2,h3,h4,h5⟩
  rw[qA (xT ec e (fun z=>nomatch z))]
  exact ec
end

section
variable {X:Cx}{pins:List (Addr×Obj)}{σ:St}{H:Hp}{s:Shared}{a:Addr}{kvs:List (Key×V)}{k:Key}{u:Value}{A:Around}{E:Value→Shared→Prop}
theorem xWl {Q:Value→Shared→Prop}(I:Inv X pins σ H s)(e:Rd H a (.dK kvs))(h:∀t s',Inv X pins σ H s'→Q (.int kvs.length t) s'):wpAny (model X.prog X.w) A (call (.builtin "len") [.ref a]) Q E s:=by
 obtain⟨z,hd,vs,rel,dd⟩:=qAo I.hok e
 refine call_len_dict hd dd (by rw[← rel.length];rw[sizeLine_eq] at z;omega) ?_
 rw[← rel.length]
 exact h _ _ (I.tok _)
end

def NoSl (i:Expr):Prop:=∀ov iv,subscripted i false ov iv=operate [ov,iv] (getItem ov iv)
theorem qGb {prog:Program}{w:World}{A:Around}{E:Value→Shared→Prop}{s:Shared}{env:Env}{value slice:Expr}{pos:Pos}{T id:String}{Q:Value→Shared→Prop}
  (hl:typeLookup (.type T) "__getitem__" = pure (some (.builtin id))) (hs:NoSl slice)
  (h:wpAny (model prog w) A (eval value env) (fun o s₁=>wpAny (model prog w) A (eval slice env) (fun i s₂=>s₂.TypeIs o T∧wpAny (model prog w) A (getItem o i) Q E s₂) E s₁) E s):
  wpAny (model prog w) A (eval (.Subscript value slice pos) env) Q E s:=by
 refine Subscript_ (wpAny_mono h (fun o s₁ h₁=>wpAny_mono h₁ (fun i s₂ h₂=>?_) fun _ _ x=>x) fun _ _ x=>x)
 obtain⟨hT,h₂⟩:=h₂
 unfold subscriptTail
 refine yYW ?_
 rw[getitemInPython_of_ne hT.not_modules]
 refine yYW (wpAny_specialOf hT hl ?_)
 have fin:wpAny (model prog w) A (subscripted slice false o i) (fun r s₃=>wpAny (model prog w) A (letTemporaryGo value o r >>= fun _=>pure r) Q E s₃) E s₂:=by
  rw[hs o i]
  exact wpAny_operating (wpAny_mono h₂ (fun r s₃ h₃=>yYW (wpAny_letTemporaryGo (yYX h₃))) fun _ _ x=>x)
 first
  | exact yYX (yYW fin)
  | exact yYW (yYX (yYW fin))
  | exact yYW fin

theorem qBq {X:Cx}{pins:List (Addr×Obj)}{σ:St}{H:Hp}{s:Shared}{a:Addr}{y:V}{o:Option V}(I:Inv X pins σ H s)(g:DGet H a y o):s.TypeIs (.ref a) "dict" := by
 rcases g with⟨kvs,k,e,_,_⟩ | ⟨kvs,k,b,e,_,_,_⟩
 ·obtain⟨_,_,vs,_,dd⟩:=qAo I.hok e
  exact dd.typeIs
 ·obtain⟨_,_,xs,_,dd⟩:=qNa I.hok e
  exact dd.typeIs
def tDGet (td ty:TE):TE:=fun σ H Q=>td σ H fun x H1=>ty σ H1 fun y H2=>∃a v,x=.ref a∧DGet H2 a y (some v)∧Q v H2
def tDIn (ty td:TE):TE:=fun σ H Q=>ty σ H fun y H1=>td σ H1 fun x H2=>∃a o,x=.ref a∧DGet H2 a y o∧Q (.bl o.isSome) H2
def xXj (ty td:TE):TE:=fun σ H Q=>ty σ H fun y H1=>td σ H1 fun x H2=>∃a o,x=.ref a∧DGet H2 a y o∧Q (.bl (!o.isSome)) H2
def sDPut (td ty tv:TE):TS:=fun D σ H=>tv σ H fun v H1=>td σ H1 fun x H2=>ty σ H2 fun y H3=>∃a H4,x=.ref a∧DPut H3 a y v H4∧D.nx σ H4
section
variable {X:Cx}{o i e value:Expr}{pos pos' tpos:Pos}{td ty tv:TE}
theorem qXa (hu:X.A.units+1<cLine)(ho:PE X o td)(hi:PE X i ty)(hs:NoSl i):PE X (.Subscript o i pos) (tDGet td ty):=by
 intro pins s σ H Q I h
 refine qGb PySem.F.slot_dict_getitem.lookup hs (thn (ho pins s σ H _ I h) fun u s1 ⟨x,H1,I1,rx,q1⟩=>thn (hi pins s1 σ H1 _ I1 q1) fun iv s2 ⟨y,H2,I2,ry,a,v,ex,g,q2⟩=>?_)
 subst ex
 obtain rfl:u=Value.ref a:=rx
 exact⟨qBq I2 g,qOc hu I2 g ry fun w' s3 I3 rw'=>⟨v,H2,I3,rw',q2⟩⟩
theorem xKc (hu:X.A.units+1<cLine)(hi:PE X i ty)(ho:PE X o td):PC X .In i o (tDIn ty td):=by
 intro pins s σ H Q I h
 refine thn (hi pins s σ H _ I h) fun iv s1 ⟨y,H1,I1,ry,q1⟩=>thn (ho pins s1 σ H1 _ I1 q1) fun u s2 ⟨x,H2,I2,rx,a,ov,ex,g,q2⟩=>?_
 subst ex
 obtain rfl:u=Value.ref a:=rx
 exact d_in hu I2 g ry fun s3 I3=>⟨.bl ov.isSome,H2,I3,rfl,q2⟩
theorem qVd (hu:X.A.units+1<cLine)(hi:PE X i ty)(ho:PE X o td):PC X .NotIn i o (xXj ty td):=by
 intro pins s σ H Q I h
 refine thn (hi pins s σ H _ I h) fun iv s1 ⟨y,H1,I1,ry,q1⟩=>thn (ho pins s1 σ H1 _ I1 q1) fun u s2 ⟨x,H2,I2,rx,a,ov,ex,g,q2⟩=>?_
 subst ex
 obtain rfl:u=Value.ref a:=rx
 exact xJi hu I2 g ry fun s3 I3=>⟨.bl (!ov.isSome),H2,I3,rfl,q2⟩
theorem qAa (hu:X.A.units+1<cLine)(ho:PE X o td)(hi:PE X i ty)(hv:PE X value tv)(hs:swapsWith value (some (.Subscript o i pos')) pos.line X.env=pure false):
  PS X (.Assign [.Subscript o i pos'] value pos) (sDPut td ty tv):=by
 intro pins s σ H D I h
 refine wpAny_Assign_Subscript (thn (hv pins s σ H _ I h) fun r s1 ⟨v,H1,I1,rv,q1⟩=>thn (ho pins s1 σ H1 _ I1 q1) fun u s2 ⟨x,H2,I2,rx,q2⟩=>thn (hi pins s2 σ H2 _ I2 q2) fun iv s3 ⟨y,H3,I3,ry,a,H4,ex,g,q3⟩=>?_) hs
 subst ex
 obtain rfl:u=Value.ref a:=rx
 exact qOb hu I3 g ry rv fun s4 I4=>⟨σ,H4,I4,q3⟩
end

theorem qUa {P:Program}{w:World}{H:Hp}(h:Heap)(hb:sysModules<h.objs.size):ObjOk P w H (h.push { cls:=.type "dict",data:=.dict #[] }) h.objs.size (.dK []):=
 ⟨yZF _,beq_eq_false_iff_ne.mpr (Ne.symm (yZE hb)),[],.nil,Heap.DictOf.new h⟩
theorem qTb {P:Program}{w:World}{H:Hp}(h:Heap)(hb:sysModules<h.objs.size):ObjOk P w H (h.push { cls:=.type "dict",data:=.dict #[] }) h.objs.size (.dT []):=
 ⟨yZF _,beq_eq_false_iff_ne.mpr (Ne.symm (yZE hb)),[],.nil,_,#[],0,yZA _ rfl,⟨rfl,rfl,rfl⟩,rfl,rfl,List.nodup_nil⟩
def tDNewK:TE:=fun _ H Q=>∀p,H p=none→Q (.ref p) (upd H p (.dK []))
def tDNewT:TE:=fun _ H Q=>∀p,H p=none→Q (.ref p) (upd H p (.dT []))
section
variable {X:Cx}{pos:Pos}
theorem qKq:PE X (.Dict [] [] pos) tDNewK:=fun pins s σ H Q I h=>
 wpAny_Dict_empty ⟨.ref s.heap.objs.size,_,I.laid (a:=s.heap.objs.size) (o:=.dK []) (t':=s.toks) (fun _ _ q=>yYY _ q) (yZC _) (qUa s.heap I.big),rfl,h _ (I.hok.fresh (yZC _))⟩
theorem qRn:PE X (.Dict [] [] pos) tDNewT:=fun pins s σ H Q I h=>
 wpAny_Dict_empty ⟨.ref s.heap.objs.size,_,I.laid (a:=s.heap.objs.size) (o:=.dT []) (t':=s.toks) (fun _ _ q=>yYY _ q) (yZC _) (qTb s.heap I.big),rfl,h _ (I.hok.fresh (yZC _))⟩
end

def mergeK (kvs more:List (Key×V)):List (Key×V):=more.foldl (fun acc kv=>putK acc kv.1 kv.2) kvs
theorem KV.merge:∀{more:List (Key×V)} {rs:List (Key×Value)} {kvs:List (Key×V)} {vs:List (Key×Value)},KV more rs→KV kvs vs→KV (mergeK kvs more) (merged vs rs):=by
 intro more rs kvs vs r
 unfold KV at r
 induction r generalizing kvs vs with
 | nil=>intro q;exact q
 | @cons p q ps qs h t ih=>
  intro r0
  have e:KV (putK kvs p.1 p.2) (stored vs q.1 q.2):=by
   have:=r0.put p.1 h.2
   rw[← h.1];exact this
  exact ih e
theorem kF:∀(more kvs:List (Key×V)),(mergeK kvs more).length≤kvs.length+more.length
 | [],kvs=>by show kvs.length≤kvs.length+0;omega
 | p::r,kvs=>by
  have h1:=kF r (putK kvs p.1 p.2)
  have h2:=yJ kvs p.1 p.2
  show(mergeK (putK kvs p.1 p.2) r).length≤_
  rw[yYS];omega


section
variable {X:Cx}{pins:List (Addr×Obj)}{σ:St}{H:Hp}{s:Shared}{a:Addr}{kvs:List (Key×V)}{A:Around}{E:Value→Shared→Prop}
theorem qUd {Q:Value→Shared→Prop}(I:Inv X pins σ H s)(e:Rd H a (.dK kvs))(h:∀p s',H p=none→Inv X pins σ (upd H p (.dK kvs)) s'→Q (.ref p) s'):wpAny (model X.prog X.w) A (call (.type "dict") [.ref a]) Q E s:=by
 obtain⟨z,hd,vs,rel,dd⟩:=qAo I.hok e
 refine kt_call_dict hd dd (by rw[← rel.length];exact z) fun h' dd' hs=>?_
 refine h _ _ (I.hok.fresh (yZC _)) (I.laid (a:=s.heap.objs.size) (o:=.dK kvs) (t':=s.toks) (fun b q hq=>?_) (yZC _) (xQa z (beq_eq_false_iff_ne.mpr (Ne.symm (yZE I.big))) rel dd'))
 exact(hs.2 b (yZE (yYZ hq))).trans (yYY _ hq)
end

end L2

namespace Att
open PySem PySem.W PySem.Calls PyProof.Rows

theorem qZq {P:Params}{h:Heap}:∀(ns:List Int) (vs:List Value),WellAll P h vs (ns.map WData.int)→IntsAre vs ns:=by
 intro ns
 induction ns with
 | nil=>
  intro vs w
  rw[List.map_nil] at w
  cases w
  exact .nil
 | cons n ns ih=>
  intro vs w
  rw[List.map_cons] at w
  cases w with
  | cons a b=>
   cases a
   exact .cons _ _ (ih _ b)

theorem qHj {l:OpenLaw}{n:Nat}(hn:l.most=some n){P:Params}{h:Heap}{args:List WData}{vals:List Value}
  (hpre:l.row.toRowW.claim.pre args=true) (hwl:WellAll P h vals args):
  ∃a vs ns,vals=[Value.ref a]∧args=[WData.list (ns.map WData.int)]∧h.get? a=some { cls:=.type "list",data:=.seq vs.toArray }∧IntsAre vs ns∧ns.length≤n:=by
 have hsh:WShape.hasAll [] args [.list .int]=true:=(pre_splitW hpre).1
 have hc:l.pre.holds [] { args:=args }=true:=(pre_splitW hpre).2
 obtain⟨d,r,rfl,h1,h2⟩:=hasAllW_cons hsh
 obtain rfl:=hasAllW_nil h2
 obtain⟨xs,rfl,h3⟩:=hasW_list h1
 obtain⟨ns,rfl⟩:=items_int h3
 have hlen:ns.length≤n:=by
  unfold OpenLaw.pre at hc
  have h4:(WTm.not (.lt (.lit (.int (n:Int))) (.len (.arg 0)))).holds [] { args:=[.list (ns.map .int)] }=true:=by
   have h4:=(holds_andW hc).1
   rw[hn] at h4
   exact h4
  have h5:=condW_of h4 (w_not (w_lt w_lit (w_len_list (w_arg rfl))))
  rw[yYC] at h5
  refine Nat.le_of_not_lt fun q=>?_
  have q':(n:Int)<((ns.length:Nat):Int):=by omega
  first
   | (rw[decide_eq_true q'] at h5;exact absurd h5 (by decide))
   | (simp at h5;omega)
 cases hwl with
 | cons w1 w2=>
  cases w2
  cases w1 with
  | list ho hall=>exact⟨_,_,ns,rfl,rfl,ho,qZq ns _ hall,hlen⟩

theorem qHo (l:OpenLaw)(args:List WData):l.row.toRowW.claim.post args (.bool true) args=true:=
 postW_of (r:=l.row.toRowW) (X:=(true == true))
  (show WShape.has [] (.bool true) .bool=true by first | rfl | decide | simp[WShape.has,WShape.arms,WShape.armsAll])
  (show(WTm.eq .res (.lit (.bool true))).value [] { args:=args,res:=some (.bool true),after:=args }=some (.bool (true == true)) from w_eq_bool (w_res rfl) w_lit) rfl

theorem attach_call {l:OpenLaw}{n:Nat}{q:Program}{loose:List Str}{XP:(Str→Option Value)→Heap→Prop}{YP:World→Heap→Prop}{d:DefRec}
  (hn:l.most=some n) (hdf:d.params.defaults=[])
  (call:∀(w:World) (s₀ s₁:Shared) (mg mb:Str→Option Value) (fa:Addr) (o:Obj) (pm cd doc:Value) (a:Addr) (vs:List Value) (ns:List Int),
   Ground q loose [] XP w s₀ mg mb s₁.heap→YP w s₁.heap→
   s₁.heap.get? fa=some o→o.data=.func (docDef d.name d.params d.body d.scope pm cd doc)→s₁.heap.CodeRec cd d.name→mg d.name=some (.ref fa)→
   s₁.heap.get? a=some { cls:=.type "list",data:=.seq vs.toArray }→IntsAre vs ns→ns.length≤n→s₁.gens=#[]→
   codeAny (model l.prog w) callerA (.call (.ref fa) ⟨[.ref a],[]⟩) (fun r s'=>r=.ok (.ret (.bool true))∧OldK s₁.heap s'.heap∧s'.os=s₁.os∧AllBare s'.gens) s₁):
  WalkO q loose XP YP l.row.toRowW d [] (fun f vs=>PySem.call f vs):=by
 intro w s₀ s₁ mg mb G Y fa o pm cd doc dV kV ho hd hcd hD hmg hg args vals as hpre hlay hrd hwl hlo
 obtain rfl:dV=.none:=Dflts.none hD hdf
 obtain rfl:kV=.none:=Dflts.noKw hD
 obtain⟨a,vs,ns,rfl,rfl,hobj,hints,hlen⟩:=qHj hn hpre hwl
 refine enter_call (codeAny_mono (call w s₀ s₁ mg mb fa o pm cd doc a vs ns G Y ho (fd_plain hd) hcd hmg hobj hints hlen hg) fun r s' hq=>?_)
 obtain⟨rfl,h2,h3,h4⟩:=hq
 exact⟨.inl ⟨.bool true,.bool true,[],rfl,fun _=>rfl,.bool true,qHo l _,fun _=>⟨List.Pairwise.nil,fun _ hm=>(nomatch hm)⟩⟩,h2,h3,h4⟩

section
variable {prog:Program}{w:World}{A:Around}{E:Value→Shared→Prop}{s:Shared}{K:Frag}

end
end Att

namespace L2
open PySem PySem.Spec PyProof.Rows

theorem qVq:∀{vs:List Value} {ns:List Int},IntsAre vs ns→Vals (ns.map V.int) vs
 | _,_,.nil=>.nil
 | _,_,.cons n t h=>.cons ⟨t,rfl⟩ (qVq h)

def Only (H:Hp):Prop:=∀b,H b=none∨∃o xs,H b=some (.frz o (.lst xs))

theorem qSh {P:Program}{w:World}{K:yZO}{mg mb:Str→Option Value}{CX:CXT}{k:Nat}{fa a:Addr}{fd:FuncData}{x:Str}{sp:Sp}{s₁:Shared}{vs:List Value}{ns:List Int}
  (KX:K.In s₁.heap) (hns:s₁.heap.Ns mainGlobals mg) (hb:s₁.heap.Ns builtinsNs mb) (hbb:∀x:Str,x ≠ "__name__" → mb x=bootBuiltins x) (hlim:s₁.heap.NoLimit) (hg:s₁.gens=#[])
  (ha:s₁.heap.get? a=some { cls:=.type "list",data:=.seq vs.toArray }) (hi:IntsAre vs ns) (hl:ns.length≤sizeLine) (hr:Room k callerA)
  (F:∀base:Heap,K.In base→base.Ns mainGlobals mg→FnOk P w K mg base CX k fa fd [x] sp) (hbind:∀(s:Shared) (u:Value),BindsTo s fd ⟨[u],[]⟩ [(x,u)])
  (hsp:∀H:Hp,Only H→SqL K H a (ns.map V.int)→sp [.ref a] H (fun v _=>v=.bl true) fun _ _ _=>False)
  (hCX:∀H e s',CX [] H s₁ (fun _ _ _=>False) e s'→False):
  codeAny (model P w) callerA (.call (.ref fa) ⟨[.ref a],[]⟩) (fun r s'=>r=.ok (.ret (.bool true))∧OldK s₁.heap s'.heap∧s'.os=s₁.os∧AllBare s'.gens) s₁:=by
 have rv:=qVq hi
 have lenV:=hi.length
 have core:∀H:Hp,Only H→SqL K H a (ns.map V.int)→HOk P w H s₁.heap→(∀b,H b≠none→b=a)→(H a≠none→K.lookup a=none)→
   codeAny (model P w) callerA (.call (.ref fa) ⟨[.ref a],[]⟩) (fun r s'=>r=.ok (.ret (.bool true))∧OldK s₁.heap s'.heap∧s'.os=s₁.os∧AllBare s'.gens) s₁:=by
  intro H hO hS hok hA hK
  have base_of:∀{b:Addr} {o:Obj},s₁.heap.get? b=some o→H b=none→(hidT s₁.heap H).get? b=some o:=fun e n=>qTx e n
  have noA:∀{b:Addr} {o:Obj} {es:Array DictEntry} {ep:Nat},s₁.heap.get? b=some o→o.data=.dict es ep→H b=none:=fun{b o es ep} e d=>by
   cases q:H b with
   | none=>rfl
   | some u=>
    have e':b=a:=hA b (by rw[q];simp)
    subst e'
    rw[ha] at e;cases e
    have d':Data.seq vs.toArray _=Data.dict es ep:=d
    cases d'
  have nsK:∀{b:Addr} {m:Str→Option Value},s₁.heap.Ns b m→(hidT s₁.heap H).Ns b m:=fun{b m} ⟨o,es,ep,e,d,r⟩=>⟨o,es,ep,base_of e (noA e d),d,r⟩
  have hKb:K.In (hidT s₁.heap H):=fun b o e=>base_of (KX b o e) (by
   cases q:H b with
   | none=>rfl
   | some u=>
    have e':b=a:=hA b (by rw[q];simp)
    subst e'
    rw[hK (by rw[q];simp)] at e;cases e)
  have hM:Mod K mg (hidT s₁.heap H):=⟨hKb,nsK hns,⟨mb,nsK hb,hbb⟩,let ⟨mc,h1,h2⟩:=hlim;⟨mc,nsK h1,h2⟩⟩
  have e0:Env0 P w K mg (hidT s₁.heap H) callerA [] s₁ H:=⟨rfl,hM,fun b o e=>xZv e,Nat.le_of_eq (qMl _ _),trivial,fun b hb=>absurd (show b∈([]:List Addr) from hb) (by simp),hok,.of_eq hg⟩
  refine codeAny_mono ((F _ hKb (nsK hns)).run callerA [] s₁ H ⟨[.ref a],[]⟩ [.ref a] [.ref a] _ _ hr e0 (hbind s₁ (.ref a)) (.cons rfl .nil) (hsp H hO hS)) fun r s' h=>?_
  cases r with
  | error e=>exact(hCX H e s' h).elim
  | ok fl=>
   cases fl with
   | next=>exact False.elim h
   | brk=>exact False.elim h
   | cont=>exact False.elim h
   | ret u=>
    obtain⟨v,H',os,bare,un,hok',r',q⟩:=h
    have q':v=.bl true:=q
    subst q'
    obtain rfl:u=Value.bool true:=r'
    refine⟨rfl,OldK.of_keep fun b o e=>?_,os,bare⟩
    cases q:H b with
    | none=>exact un.keep b o e q (by intro z;exact absurd (show b∈([]:List Addr) from z) (by simp)) (by simp)
    | some u=>
     rcases hO b with z | ⟨ob,xs,z⟩
     ·rw[q] at z;cases z
     ·have z2:=un.frzs b ob _ z
      obtain⟨e1,_⟩:=hok b _ z
      obtain⟨e2,_⟩:=hok' b _ z2
      rw[e] at e1;cases e1
      exact e2
 cases hk:K.lookup a with
 | some o=>
  have e:=KX a o hk
  rw[ha] at e
  cases e
  refine core (fun _=>none) (fun _=>.inl rfl) (.inr ⟨_,vs.toArray,_,hk,rfl,rfl,rfl,by rw[yYD,lenV];exact hl,by simpa using rv⟩) (fun b u z=>by have z':(none:Option HO)=some u:=z;cases z') (fun b z=>absurd rfl z) fun z=>absurd rfl z
 | none=>
  refine core (fun b=>if b=a then some (.frz { cls:=.type "list",data:=.seq vs.toArray } (.lst (ns.map V.int))) else none) (fun b=>?_) (.inl (.inr ⟨{ cls:=.type "list",data:=.seq vs.toArray },if_pos rfl⟩)) (fun b u z=>?_) (fun b z=>?_) fun _=>hk
  ·by_cases hb:b=a
   ·exact .inr ⟨_,_,if_pos hb⟩
   ·exact .inl (if_neg hb)
  ·by_cases hb:b=a
   ·have z':=(if_pos hb).symm.trans z
    cases z'
    subst hb
    exact⟨ha,by rw[yYC];exact hl,vs,_,rv,ha⟩
   ·have z':=(if_neg hb).symm.trans z
    cases z'
  ·by_cases hb:b=a
   ·exact hb
   ·exact absurd (if_neg hb) z
end L2

namespace L2
open PySem PySem.Spec PyProof.Rows

theorem xQe {l:PySem.W.OpenLaw}{n k:Nat}{q:Program}{loose:List Str}{XP:(Str→Option Value)→Heap→Prop}{YP:World→Heap→Prop}{d:DefRec}{K:Params→yZO}{CX:World→CXT}{sp:World→Sp}{x:Str}
  (hn:l.most=some n) (hn2:n≤sizeLine) (hdf:d.params.defaults=[]) (hr:Room k callerA)
  (hY:∀(w:World) (h:Heap),YP w h→(K w.params).In h)
  (F:∀(w:World) (mg:Str→Option Value) (fa:Addr) (h:Heap),(K w.params).In h→h.Ns mainGlobals mg→mg d.name=some (.ref fa)→
   ∃fd:FuncData,(∀(s:Shared) (u:Value),BindsTo s fd ⟨[u],[]⟩ [(x,u)])∧
    ∀base:Heap,(K w.params).In base→base.Ns mainGlobals mg→FnOk l.prog w (K w.params) mg base (CX w) k fa fd [x] (sp w))
  (hsp:∀(w:World) (H:Hp) (a:Addr) (ns:List Int),ns.length≤n→Only H→SqL (K w.params) H a (ns.map V.int)→sp w [.ref a] H (fun v _=>v=.bl true) fun _ _ _=>False)
  (hCX:∀(w:World) (H:Hp) (s:Shared) (e:Value) (s':Shared),CX w [] H s (fun _ _ _=>False) e s'→False):
  PySem.W.WalkO q loose XP YP l.row.toRowW d [] (fun f vs=>PySem.call f vs):=by
 refine Att.attach_call hn hdf fun w s₀ s₁ mg mb fa o pm cd doc a vs ns G Y ho hd hcd hmg hobj hints hlen hg=>?_
 have KX:=hY w _ Y
 obtain⟨fd,hb,hF⟩:=F w mg fa _ KX G.T.g hmg
 exact qSh KX G.T.g G.T.b G.T.builtins G.T.nolimit hg hobj hints (yZI hlen hn2) hr hF hb (fun H hO hS=>hsp w H a ns hlen hO hS) fun H e s'=>hCX w H s₁ e s'
end L2

namespace L2
open PySem PySem.Spec PyProof.Rows

abbrev CX0:CXT:=fun _ _ _ _ _ _=>False
abbrev E0:XK:=fun _ _ _=>False
theorem pass0 {X:Cx}:Passes CX0 X E0:=fun _ _ _ _ _ _ _ h=>h.elim

structure Fun (K:yZO)(x qual:Str)(st:Stmt)(f:Addr)(fd:FuncData):Prop where
 ex:∃(oc:Value) (od:Option Addr) (kV doc pm:Value) (an:Option Addr) (cdv ct:Value) (osl:Array (Option Value)),
  fd=PySem.W.fnOf x qual (xC st) (xB st) (xA st) .none kV doc pm an cdv ct∧K.lookup f=some ⟨oc,od,.func fd,osl⟩∧PySem.W.codeIn K cdv qual=true
 kp:PySem.W.keepIn K (.ref f)=true
section
variable {P:Program}{w:World}{K:yZO}{mg:Str→Option Value}{base:Heap}
theorem Fun.ok {x qual:Str}{st:Stmt}{f:Addr}{fd:FuncData}{N ps:List Str}{k:Nat}{sp:Sp}(F:Fun K x qual st f fd)(S:xH N ps (xA st))(len:∀vs H Q E,sp vs H Q E→vs.length=ps.length)
  (hbody:∀(cdv:Value) (A:Around) (outer:List Env) (s:Shared) (H:Hp) (vs:List V) (Q:VK) (E:XK),Room k (A.deeper (envOfC qual (xA st) s.heap.objs.size f cdv))→sp vs H Q E→
   ∃t,PSs (cxOf CX0 P w K mg base N qual (xA st) f cdv A outer s H E).nox (xB st) t∧t { nx:=fun _ H'=>Q .non H',rt:=Q } (start N vs) H):FnOk P w K mg base CX0 (k+1) f fd ps sp:=by
 obtain⟨oc,od,kV,doc,pm,an,cdv,ct,osl,rfl,lk,hcd⟩:=F.ex
 refine xWg lk hcd S len fun A outer s H vs Q E hr hsp=>?_
 obtain⟨t,h,q⟩:=hbody cdv A outer s H vs Q E hr hsp
 exact⟨t,h.nox,q⟩
theorem Fun.binds {x qual:Str}{st:Stmt}{f:Addr}{fd:FuncData}{ps:List Str}(F:Fun K x qual st f fd)
  (h:∀(kV doc pm:Value) (an:Option Addr) (cdv ct:Value) (us:List Value),us.length=ps.length→bindArgs (PySem.W.fnOf x qual (xC st) (xB st) (xA st) .none kV doc pm an cdv ct) ⟨us,[]⟩=pure (ps.zip us)):Binds K fd ps []:=by
 obtain⟨oc,od,kV,doc,pm,an,cdv,ct,osl,rfl,lk,hcd⟩:=F.ex
 exact .all (h kV doc pm an cdv ct)
theorem qNq {x qual:Str}{st:Stmt}{f:Addr}{oc:Value}{od an:Option Addr}{osl:Array (Option Value)}{kV doc pm cdv ct:Value}(l:K.lookup f=some ⟨oc,od,.func (PySem.W.fnOf x qual (xC st) (xB st) (xA st) .none kV doc pm an cdv ct),osl⟩)
  (c:PySem.W.codeIn K cdv qual=true) (k:PySem.W.keepIn K (.ref f)=true):Fun K x qual st f (PySem.W.fnOf x qual (xC st) (xB st) (xA st) .none kV doc pm an cdv ct):=⟨⟨oc,od,kV,doc,pm,an,cdv,ct,osl,rfl,l,c⟩,k⟩
end
theorem qSo {A:Around}{k:Nat}(hr:Room k A):A.units+1<cLine:=yZH (Nat.add_le_add_left (by decide:1≤64) _) hr.units
section
variable {X:Cx}
theorem pv (i:Nat){x:Str}{pos:Pos}(hN:X.N[i]? = some x:=by rfl)(hv:Vis X.env.scope x:=by first | exact Or.inl rfl | exact Or.inr (Or.inl rfl) | exact Or.inr (Or.inr rfl))(hd:(x == ("__debug__" : Str))=false:=by decide)
  (hcd:(x == ("__classdict__" : Str))=false:=by decide):PE X (.Name x pos) (tVar i):=xKv hN hv hd hcd
end

theorem iteF {A B:Prop}(h:B):if false=true then A else B:=by
 rw[if_neg yZK]
 exact h
theorem iteT {A B:Prop}(h:A):if true=true then A else B:=by
 rw[if_pos rfl]
 exact h
theorem ite2 {c A B:Prop}[Decidable c](h1:c→A)(h2:¬c→B):if c then A else B:=by
 by_cases h:c
 ·rw[if_pos h]
  exact h1 h
 ·rw[if_neg h]
  exact h2 h
def Same (H H':Hp):Prop:=∀b o,H b=some o→H' b=some o
theorem Same.refl (H:Hp):Same H H:=fun _ _ h=>h
theorem Same.trans {H H1 H2:Hp}(a:Same H H1)(b:Same H1 H2):Same H H2:=fun c o h=>b c o (a c o h)
theorem Same.free {H H':Hp}(e:Same H H'){l:Addr}(h:H' l=Option.none):H l=Option.none:=by
 cases q:H l with
 | none=>rfl
 | some o=>
  rw[e l o q] at h
  cases h
theorem Same.seq {K:yZO}{H H':Hp}{a:Addr}{xs:List V}(e:Same H H')(h:SqL K H a xs):SqL K H' a xs:=by
 rcases h with(h | ⟨o,h⟩) | h
 ·exact .inl (.inl (e _ _ h))
 ·exact .inl (.inr ⟨o,e _ _ h⟩)
 ·exact .inr h

end L2

namespace L2
open PySem PySem.Spec PyProof.Rows
section
variable {X:Cx}
theorem qOm:CallR X (.builtin "len") (fun xs H Q=>∃a kvs,xs=[V.ref a]∧H a=some (.dK kvs)∧Q (.int kvs.length) H):=by
 intro pins s σ H xs us Q I r h
 obtain⟨a,kvs,rfl,ha,q⟩:=h
 obtain⟨u,rfl,ru⟩:=vals1 r
 cases ru
 exact xWl I (.inl ha) fun t s' I'=>⟨.int kvs.length,H,I',⟨t,rfl⟩,q⟩
end
end L2

namespace L2
open PySem PySem.Spec PyProof.Rows

theorem qYz {scope:Scope}{env:Env}(h:∀p∈scope.names,p.2=.free→∃c,env.cells.lookup p.1=some c):
  ∃cl,closureFor scope env=pure cl∧(∀x c,cl.lookup x=some c→env.cells.lookup x=some c)∧(∀p∈scope.names,p.2=.free→∃c,cl.lookup p.1=some c):=by
 have key:∀(names:List (Str×NameKind)) (acc:List (Str×Addr)),(∀p∈names,p.2=.free→∃c,env.cells.lookup p.1=some c)→(∀x c,acc.lookup x=some c→env.cells.lookup x=some c)→
   ∃cl,(forIn names acc (fun(x:Str×NameKind) (r:List (Str×Addr))=>(if (x.2 == NameKind.free)=true then (do let a ← cellOf env x.1;pure (ForInStep.yield ((x.1,a)::r))) else pure (ForInStep.yield r):Sem (ForInStep (List (Str×Addr))))):Sem (List (Str×Addr)))=pure cl∧
    (∀x c,cl.lookup x=some c→env.cells.lookup x=some c)∧(∀x c,acc.lookup x=some c→∃c,cl.lookup x=some c)∧(∀p∈names,p.2=.free→∃c,cl.lookup p.1=some c):=by
  intro names
  induction names with
  | nil=>intro acc _ ha;exact⟨acc,rfl,ha,fun x c e=>⟨c,e⟩,fun p hp=>by cases hp⟩
  | cons p r ih=>
   intro acc hn ha
   obtain⟨n,k⟩:=p
   by_cases hk:k=.free
   ·subst hk
    obtain⟨c,hc⟩:=hn (n,.free) yYG rfl
    have ha':∀x d,((n,c)::acc).lookup x=some d→env.cells.lookup x=some d:=fun x d e=>by
     rw[List.lookup_cons] at e
     cases hx:x == n with
     | true=>rw[hx] at e;cases e;rw[eq_of_beq hx];exact hc
     | false=>rw[hx] at e;exact ha x d e
    obtain⟨cl,e,h1,h2,h3⟩:=ih ((n,c)::acc) (fun p hp=>hn p (yYH _ hp)) ha'
    have hcell:cellOf env n=pure c:=by unfold cellOf;rw[hc]
    refine⟨cl,?_,h1,fun x d ex=>?_,fun p hp hf=>?_⟩
    ·rw[List.forIn_cons]
     show(if (NameKind.free == NameKind.free)=true then (do let a ← cellOf env n;pure (ForInStep.yield ((n,a)::acc))) else _) >>= _=_
     rw[if_pos (show(NameKind.free == NameKind.free)=true from rfl),hcell]
     exact e
    ·cases hx:x == n with
     | true=>exact h2 x c (by rw[List.lookup_cons,hx])
     | false=>exact h2 x d (by rw[List.lookup_cons,hx];exact ex)
    ·rcases yYK.mp hp with rfl | hp
     ·exact h2 n c (by rw[List.lookup_cons,beq_self_eq_true])
     ·exact h3 p hp hf
   ·obtain⟨cl,e,h1,h2,h3⟩:=ih acc (fun p hp=>hn p (yYH _ hp)) ha
    refine⟨cl,?_,h1,h2,fun p hp hf=>?_⟩
    ·rw[List.forIn_cons]
     show(if (k == NameKind.free)=true then _ else _) >>= _=_
     rw[if_neg (by simpa using hk)]
     exact e
    ·rcases yYK.mp hp with rfl | hp
     ·exact absurd hf hk
     ·exact h3 p hp hf
 obtain⟨cl,e,h1,_,h3⟩:=key scope.names [] h (fun x c e=>by cases e)
 refine⟨cl,?_,h1,h3⟩
 show(forIn scope.names [] _ >>= fun r=>pure r)=pure cl
 rw[bind_pure]
 exact e

theorem yR {α:Type}(x:Str)(k:α)(l:List (Str×α)):List.lookup x ((x,k)::l)=some k:=by rw[List.lookup_cons,beq_self_eq_true]
theorem yZ {α:Type}{x n:Str}(k:α)(l:List (Str×α))(h:(x == n)=false):List.lookup x ((n,k)::l)=List.lookup x l:=by rw[List.lookup_cons,h]
theorem vB {env:Env}{x:Str}:∀(names:List (Str×NameKind)),
  (names.map fun(n,k)=>if (k == NameKind.free && env.scope.kind == .function && env.kindOf n == some .cell) then (n,NameKind.cell) else (n,k)).lookup x=
   (names.lookup x).map fun k=>if (k == NameKind.free && env.scope.kind == .function && env.kindOf x == some .cell) then NameKind.cell else k
 | []=>rfl
 | (n,k)::r=>by
  have ih:=@vB env x r
  show List.lookup x ((if (k == NameKind.free && env.scope.kind == .function && env.kindOf n == some .cell)=true then (n,NameKind.cell) else (n,k))::_)=_
  cases hx:x == n with
  | true=>
   have e:x=n:=eq_of_beq hx
   subst e
   rw[yR]
   by_cases hc:(k == NameKind.free && env.scope.kind == .function && env.kindOf x == some .cell)=true
   ·rw[if_pos hc,yR]
    show _=some (if (k == NameKind.free && env.scope.kind == .function && env.kindOf x == some .cell)=true then NameKind.cell else k)
    rw[if_pos hc]
   ·rw[if_neg hc,yR]
    show _=some (if (k == NameKind.free && env.scope.kind == .function && env.kindOf x == some .cell)=true then NameKind.cell else k)
    rw[if_neg hc]
  | false=>
   rw[yZ _ _ hx]
   by_cases hc:(k == NameKind.free && env.scope.kind == .function && env.kindOf n == some .cell)=true
   ·rw[if_pos hc,yZ _ _ hx];exact ih
   ·rw[if_neg hc,yZ _ _ hx];exact ih

def cxC (X:Cx)(scope:Scope)(cl:List (Str×Addr))(N:List Str)(fp:List Addr)(s:Shared)(H:Hp):Cx where
 prog:=X.prog
 w:=X.w
 K:=X.K
 mg:=X.mg
 base:=X.base
 A:=X.A
 N:=N
 s₀:=s
 H₀:=H
 env:=compEnvC scope cl s.heap.objs.size X.env
 outer:=X.stack
 stack:=X.stack
 ex:=fp
 fn:=fun _=>false
 calm:=X.calm
 pn:=[]
 xe:=fun _ _=>False

def PTs (X:Cx)(ifs:List Expr)(t:TT):Prop:=
 ∀(pins:List (Addr×Obj)) (s:Shared) (σ:St) (H:Hp) (Q:Bool→Hp→Prop),Inv X pins σ H s→t σ H Q→
  wpAny (model X.prog X.w) X.A (forIn ifs true fun c r=>if r=true then do let ok ← isTrue c X.env (eval c X.env);pure (ForInStep.yield ok) else pure (ForInStep.yield r)) (TP X pins σ Q) X.xe s
def tYes:TT:=fun _ H Q=>Q true H
theorem zO {X:Cx}:PTs X [] tYes:=fun _ _ _ H _ I h=>wpAny_tests_nil ⟨H,I,h⟩
theorem vI {X:Cx}{c:Expr}{t:TT}(h:PT X c t):PTs X [c] t:=fun pins s σ H Q I q=>wpAny_tests_one (h pins s σ H Q I q)

def frees (js:List Nat)(σ:St):St:=js.map fun j=>σ.getD j none
abbrev stC (k:Nat)(js:List Nat)(σ:St):St:=List.replicate k none++frees js σ

def rdC (k:Nat)(js:List Nat)(g:TG)(tt:TT)(te:TE)(J:It)(σ:St)(H1:Hp)(Q:VK):Prop:=∀D,H1 D=none→
 ∃W:Nat→Nat→List V→Hp→Prop,(∃m,W 0 m [] (upd H1 D (.lst [])))∧∀i m ys H2,W i m ys H2→H2 D=some (.lst ys)∧
  ((J.stop i H2∧Q (.ref D) H2)∨(J.go i H2∧∀x H3,J.yld i H2 x H3→g x (stC k js σ) H3 fun σ4 H4=>(∃ow:St,ow.length=k∧σ4=ow++frees js σ)∧
   tt σ4 H4 fun b H5=>if b=true then te σ4 H5 fun y H6=>H6 D=some (.lst ys)∧ys.length<sizeLine∧∃m',m'<m∧W (i+1) m' (ys++[y]) (upd H6 D (.lst (ys++[y])))
    else ∃m',m'<m∧W (i+1) m' ys H5))
def tComp (k:Nat)(js:List Nat)(wi:TI)(g:TG)(tt:TT)(te:TE):TE:=fun σ H Q=>wi σ H fun J H1=>rdC k js g tt te J σ H1 Q

structure CompOk (sc:Scope)(N0:List Str)(scope:Scope)(N:List Str)(k:Nat)(js:List Nat):Prop where
 kind:scope.kind=.function
 cell:∀y∈scope.names,y.2≠.cell
 names:∀y∈scope.names,y.2=.local→scope.names.lookup y.1=some .local
 free:∀p∈scope.names,p.2=.free→sc.names.lookup p.1=some .cell∨sc.names.lookup p.1=some .free
 fn:∀x∈N.drop k,scope.names.lookup x=some .free
 at':js.map (fun j=>N0[j]?)=(N.drop k).map some
 le:k≤N.length
 nd:N.Nodup

theorem kE {names:List (Str×NameKind)}{x:Str}{k:NameKind}(h:names.lookup x=some k):(x,k)∈names:=PySem.mem_of_lookup h

section
variable {X:Cx}{elt tg iter:Expr}{ifs:List Expr}{scope:Scope}{cpos:Pos}{N:List Str}{k:Nat}{js:List Nat}{cl:List (Str×Addr)}{g:TG}{tt:TT}{te:TE}

theorem qMi {pins:List (Addr×Obj)}{σ:St}{H:Hp}{s:Shared}{fp:List Addr}{h₁:Heap}{t':Nat}{m:Str→Option Value}(C:CompOk X.env.scope X.N scope N k js)
  (hcl1:∀x c,cl.lookup x=some c→X.env.cells.lookup x=some c) (hcl2:∀p∈scope.names,p.2=.free→∃c,cl.lookup p.1=some c)
  (I:Inv X pins σ H s) (f2:∀b∈fp,FpOk X pins H b) (flt:∀b∈fp,b<s.heap.objs.size) (hns:h₁.Ns s.heap.objs.size m) (keep:∀b o,s.heap.get? b=some o→h₁.get? b=some o):
  Inv (cxC X scope cl N fp s H) [] (stC k js σ) H { s with heap:=h₁,toks:=t' }:=by
 have relk:∀x,(cxC X scope cl N fp s H).env.kindOf x=(scope.names.lookup x).map fun k=>if (k == NameKind.free && X.env.scope.kind == .function && X.env.kindOf x == some .cell) then NameKind.cell else k:=fun x=>vB scope.names
 have wasfree:∀x,((cxC X scope cl N fp s H).env.kindOf x=some .cell∨(cxC X scope cl N fp s H).env.kindOf x=some .free)→scope.names.lookup x=some .free:=fun x hx=>by
  rw[relk x] at hx
  cases e:scope.names.lookup x with
  | none=>rw[e] at hx;rcases hx with hx | hx <;> cases hx
  | some kd=>
   rw[e] at hx
   by_cases hk:kd=.free
   ·rw[hk]
   ·have hk':(kd == NameKind.free)=false:=by simpa using hk
    rw[yZN,hk',Bool.false_and,Bool.false_and,if_neg yZK] at hx
    rcases hx with hx | hx
    ·exact absurd (Option.some.inj hx) (C.cell _ (kE e))
    ·exact absurd (Option.some.inj hx) hk
 have clt:∀x c,cl.lookup x=some c→c<s.heap.objs.size:=fun x c e=>by
  obtain⟨v,z⟩:=I.cell x c (hcl1 x c e)
  exact z.lt
 have ok:(cxC X scope cl N fp s H).Ok:=
  {mod:=I.ok.mod
   kind:=by show(relabel scope X.env).kind=_;exact C.kind
   glob:=I.ok.glob
   blt:=I.ok.blt
   above:=yZC _
   inj:=fun x y c e1 e2=>I.ok.inj x y c (hcl1 x c e1) (hcl1 y c e2)
   has:=fun x hx=>hcl2 (x,.free) (kE (wasfree x hx)) rfl
   cab:=fun x c z=>by cases z
   hd:=I.ok.hd
   frames:=I.ok.frames
   stk:=.inl rfl
   exf:=fun b hb=>⟨yZE (flt b hb),fun x c e=>(f2 b hb).2.2.2.2.1 x c (hcl1 x c e)⟩
   bs:=fun b o e=>I.bs b o e
   bsz:=yZI I.ok.bsz I.sz
   noex:=fun b o e hb=>by
    rcases(f2 b hb).2.2.2.1 with z | z
    ·exact I.ok.noex b o e z
    ·exact absurd (yZD (yYZ (I.ok.bs b o e).1) z) (Nat.lt_irrefl _)
   exfs:=fun b hb z=>by
    rcases yYK.mp (I.stkSub b z) with q | q
    ·exact(f2 b hb).2.1 q
    ·exact(f2 b hb).2.2.1 q
   funs:=I.stack
   frf:=I.stkFree }
 have hlen:(stC k js σ).length=N.length:=by
  have q:=congrArg List.length C.at'
  rw[yYC,yYC,List.length_drop] at q
  have:=C.le
  show(List.replicate k none++frees js σ).length=N.length
  rw[yYI,List.length_replicate,frees,yYC]
  omega
 refine⟨ok,rfl,I.bare,Un.kept keep,⟨m,hns,fun i x v e1 e2 e3=>?_⟩,fun x c e=>?_,I.hok.fresh (yZC _),fun x c e=>I.freeC x c (hcl1 x c e),fun p hp=>absurd (show p∈([]:List (Addr×Obj)) from hp) (by simp),I.hok.kept keep,hlen⟩
 ·have e1:N[i]? = some x:=e1
  have hik:k≤i:=by
   by_cases hik:k≤i
   ·exact hik
   ·have e2':(List.replicate k (none:Option V)++frees js σ)[i]? = some (some v):=e2
    rw[List.getElem?_append_left (by rw[List.length_replicate];omega),List.getElem?_replicate] at e2'
    split at e2' <;> cases e2'
  obtain⟨d,rfl⟩:∃d,i=k+d:=⟨i - k,by omega⟩
  have e2':(List.replicate k (none:Option V)++frees js σ)[k+d]? = some (some v):=e2
  rw[List.getElem?_append_right (by rw[List.length_replicate];omega),List.length_replicate,Nat.add_sub_cancel_left,frees,yYO] at e2'
  have ed:(N.drop k)[d]? = some x:=by rw[List.getElem?_drop];exact e1
  cases ej:js[d]? with
  | none=>rw[ej] at e2';cases e2'
  | some j=>
   rw[ej] at e2'
   have ev:σ.getD j none=some v:=Option.some.inj e2'
   have ej2:X.N[j]? = some x:=by
    have q:=congrArg (fun l=>l[d]?) C.at'
    simp only[yYO,ej,ed,yZN] at q
    exact Option.some.inj q
   have eσ:σ[j]? = some (some v):=by
    rw[List.getD_eq_getElem?_getD] at ev
    cases z:σ[j]? with
    | none=>rw[z] at ev;cases ev
    | some w=>rw[z] at ev;exact congrArg some ev
   have hfx:scope.names.lookup x=some .free:=C.fn x (yYE ed)
   have hX:X.env.scope.names.lookup x=some .cell∨X.env.scope.names.lookup x=some .free:=C.free (x,.free) (kE hfx) rfl
   obtain⟨mX,_,lX⟩:=I.loc
   obtain⟨u,ru,lu⟩:=lX j x v ej2 eσ (hX.elim (fun z=>.inr (.inl z)) fun z=>.inr (.inr z))
   refine⟨u,ru,.inr ⟨?_,?_⟩⟩
   ·rw[relk x,hfx]
    show some (if _ then _ else _)=_∨some (if _ then _ else _)=_
    split
    ·exact .inl rfl
    ·exact .inr rfl
   ·rcases lu with⟨z,_⟩ | ⟨_,c,ec,ic⟩
    ·have z:X.env.scope.names.lookup x=some .local:=z
     rcases hX with q | q <;> rw[q] at z <;> cases z
    ·obtain⟨c',ec'⟩:=hcl2 (x,.free) (kE hfx) rfl
     have:c'=c:=Option.some.inj ((hcl1 x c' ec').symm.trans ec)
     subst this
     obtain⟨o,ho,hd⟩:=ic
     exact⟨c',ec',o,keep _ _ ho,hd⟩
 ·obtain⟨v,o,ho,hd⟩:=I.cell x c (hcl1 x c e)
  exact⟨v,o,keep _ _ ho,hd⟩

theorem qDe {pins:List (Addr×Obj)}{σ:St}{H2:Hp}{s2:Shared}{E:Value→Shared→Prop}{it:Addr}{fp:List Addr}{tn:Nat→Heap→Prop}{J:It}{Q:VK}{RR:Value→Addr→Result→Shared→Prop}
  (hc:X.calm=true) (C:CompOk X.env.scope X.N scope N k js) (hcl1:∀x c,cl.lookup x=some c→X.env.cells.lookup x=some c) (hcl2:∀p∈scope.names,p.2=.free→∃c,cl.lookup p.1=some c)
  (hg:∀fp s H,PG (cxC X scope cl N fp s H) tg g) (ht:∀fp s H,PTs (cxC X scope cl N fp s H) ifs tt) (he:∀fp s H,PE (cxC X scope cl N fp s H) elt te)
  (I:Inv X pins σ H2 s2) (T:Turn X.prog X.w X.K tg J fp it tn) (st:tn 0 s2.heap) (f2:∀b∈fp,FpOk X pins H2 b) (rd:rdC k js g tt te J σ H2 Q)
  (fin:∀D L H' s',Inv X pins σ H' s'→FpOk X pins H' L→(∃m,s'.heap.Ns L m)→Q (.ref D) H'→RR (.ref D) L (.ok .next) s'):
  wpAny (model X.prog X.w) X.A (newList []) (fun acc s₃=>wpAny (model X.prog X.w) X.A (newFunctionEnv scope X.env.globals cl [] X.env.qual none .none (some X.env)) (fun cenv s₄=>
   codeAny (model X.prog X.w) X.A (.compStart (.ListComp elt [⟨tg,iter,ifs,0⟩] scope cpos) 0 (.ref it) acc { cenv with scope:=relabel scope X.env }) (RR acc cenv.locals) s₄) E s₃) E s2:=by
 refine wpAny_newObj_type (wpAny_newFunctionEnv C.cell (by intro y hy;simp at hy) (fun h₁ hns₁ hsb₁=>?_) C.kind)
 dsimp only at hns₁ hsb₁ ⊢
 have hD:H2 s2.heap.objs.size=none:=I.hok.fresh (yZC _)
 have Id:Inv X pins σ (upd H2 s2.heap.objs.size (.lst [])) { s2 with heap:=s2.heap.push { cls:=.type "list",dict:=none,data:=.seq ([]:List Value).toArray } }:=
  I.laid (t':=s2.toks) (fun b u e=>yYY _ e) (yZC _) ⟨yZF _,[],0,.nil,yZA _ rfl⟩
 have kD:∀b o,s2.heap.get? b=some o→(s2.heap.push { cls:=.type "list",dict:=none,data:=.seq ([]:List Value).toArray }).get? b=some o:=fun b o e=>yYY _ e
 generalize hHd:s2.heap.push { cls:=.type "list",dict:=none,data:=.seq ([]:List Value).toArray }=Hd at hns₁ hsb₁ Id kD ⊢
 have szd:Hd.objs.size=s2.heap.objs.size+1:=by rw[← hHd,yZB]
 have keep:∀b o,Hd.get? b=some o→h₁.get? b=some o:=fun b o e=>hsb₁.extBut b o (yZE (yYZ e)) (yYY _ e)
 have flt2:∀b∈fp,b<s2.heap.objs.size:=fun b hb=>by
  obtain⟨o,e,_⟩:=T.obj _ _ st b hb
  exact yYZ e
 have fd:∀b∈fp,FpOk X pins (upd H2 s2.heap.objs.size (.lst [])) b:=fun b hb=>
  ⟨by rw[qA (yZE (flt2 b hb))];exact(f2 b hb).1,(f2 b hb).2⟩
 obtain⟨W,⟨m0,w0⟩,turn⟩:=rd _ hD
 generalize hY:cxC X scope cl N fp { s2 with heap:=Hd } (upd H2 s2.heap.objs.size (.lst []))=Y
 have hg:=hg fp { s2 with heap:=Hd } (upd H2 s2.heap.objs.size (.lst []))
 have ht:=ht fp { s2 with heap:=Hd } (upd H2 s2.heap.objs.size (.lst []))
 have he:=he fp { s2 with heap:=Hd } (upd H2 s2.heap.objs.size (.lst []))
 have loop:∀s₃:Shared,s₃={ s2 with heap:=h₁,toks:=s2.toks+([]:List (Str×Value)).length }→
   codeAny (model X.prog X.w) X.A (.compLoop (.ListComp elt [⟨tg,iter,ifs,0⟩] scope cpos) 0 (.ref it) (.ref s2.heap.objs.size) (compEnvC scope cl Hd.objs.size X.env))
    (RR (.ref s2.heap.objs.size) Hd.objs.size) s₃:=by
  rintro s₃ rfl
  have IY:Inv Y [] (stC k js σ) (upd H2 s2.heap.objs.size (.lst [])) { s2 with heap:=h₁,toks:=s2.toks+([]:List (Str×Value)).length }:=by
   rw[← hY]
   exact qMi (t':=s2.toks+([]:List (Str×Value)).length) C hcl1 hcl2 Id fd (fun b hb=>yZD (flt2 b hb) (by show s2.heap.objs.size≤Hd.objs.size;omega)) hns₁ keep
  rw[hY] at hg ht he
  have yprog:Y.prog=X.prog:=by rw[← hY];rfl
  have yw:Y.w=X.w:=by rw[← hY];rfl
  have yK:Y.K=X.K:=by rw[← hY];rfl
  have yA:Y.A=X.A:=by rw[← hY];rfl
  have yc:Y.calm=true:=by rw[← hY];exact hc
  have yenv:Y.env=compEnvC scope cl Hd.objs.size X.env:=by rw[← hY];rfl
  have yxe:Y.xe=fun _ _=>False:=by rw[← hY];rfl
  have ybase:∀{pn σ' H' s'},Inv Y pn σ' H' s'→Un (frs X.stack) fp (upd H2 s2.heap.objs.size (.lst [])) H' Hd s'.heap∧s'.os=s2.os:=fun{pn σ' H' s'} J=>by
   have u:=J.base
   have o:=J.os
   rw[← hY] at u o
   exact⟨u,o⟩
  have statY:∀{H':Hp},(∀b∈fp,H' b=none)→∀b∈fp,FpOk Y [] H' b:=fun{H'} hn b hb=>by
   rw[← hY]
   refine⟨hn b hb,yZE (yZD (flt2 b hb) (by show s2.heap.objs.size≤Hd.objs.size;omega)),?_,.inl hb,fun x c e=>(f2 b hb).2.2.2.2.1 x c (hcl1 x c e),fun p hp=>absurd (show p∈([]:List (Addr×Obj)) from hp) (by simp)⟩
   intro z
   rcases yYK.mp (I.stkSub b z) with q | q
   ·exact(f2 b hb).2.1 q
   ·exact(f2 b hb).2.2.1 q
  have st₁:tn 0 h₁:=T.keep _ _ _ st fun b hb o e=>keep b o (kD b o e)
  refine codeAny_loop rfl (fun n s'=>∃i ys H',Inv Y [] (stC k js σ) H' s'∧tn i s'.heap∧(∀b∈fp,H' b=none)∧W i n ys H') ?_ m0 ⟨0,[],_,IY,st₁,fun b hb=>(fd b hb).1,w0⟩
  rintro n s3 ⟨i,ys,H3,I3,st3,fr3,w3⟩
  show wpAny _ X.A ((compTurn (.ListComp elt [⟨tg,iter,ifs,0⟩] scope cpos) 0 (.ref it) (.ref s2.heap.objs.size) (compEnvC scope cl Hd.objs.size X.env)).onRaise (fun x=>do noteFrame x (compEnvC scope cl Hd.objs.size X.env);theTreesLotGoes x)) _ _ s3
  refine wpAny_noted ?_
  rw[compTurn_list]
  obtain⟨hDs,tr⟩:=turn i n ys H3 w3
  have hPE:∀{α:Type} {t:Sem α} {R R':α→Shared→Prop} {E':Value→Shared→Prop} {s:Shared},wpAny (model Y.prog Y.w) Y.A t R Y.xe s→(∀a s,R a s→R' a s)→wpAny (model X.prog X.w) X.A t R' E' s:=fun{α t R R' E' s} h hQ=>by
   rw[yprog,yw,yA,yxe] at h
   exact wpAny_mono h hQ fun _ _ z=>z.elim
  rcases tr with⟨stop,qn⟩ | ⟨go,step⟩
  ·refine yYW (wpAny_standAt (yYW ?_))
   have dn:=T.done Y yprog yw yK yc i [] s3 (stC k js σ) H3 (fun _ _=>False) I3 (statY fr3) st3 stop
   rw[yA] at dn
   refine wpAny_mono dn (fun r s4 ⟨hr,I4⟩=>?_) fun _ _ z=>z.elim
   subst hr
   obtain⟨u4,o4⟩:=ybase I4
   refine yYX (fin _ _ H3 s4 ?_ ?_ ?_ qn)
   ·refine I.call' (ch:=fp) o4 ((Un.laid (fun b o e=>kD b o e) (yZC _) hD).trans u4) (by have:=I4.hok;rw[yprog,yw] at this;exact this) I4.bare fun b hb=>?_
    obtain⟨_,q1,q2,q3,q4,q5⟩:=f2 b hb
    exact⟨q3,q1,q4,q5⟩
   ·refine I.fpOk (by show s2.heap.objs.size≤Hd.objs.size;omega) ?_
    have:=I4.free
    rw[yenv] at this
    exact this
   ·obtain⟨m,hn,_⟩:=I4.loc
    rw[yenv] at hn
    exact⟨m,hn⟩
  ·refine yYW (wpAny_standAt (yYW ?_))
   have itm:=T.item Y yprog yw yK yc i [] s3 (stC k js σ) H3 (fun _ _=>False) I3 (statY fr3) st3 go
   rw[yA] at itm
   refine wpAny_mono itm (fun r s4 ⟨u,hr,h4⟩=>?_) fun _ _ z=>z.elim
   subst hr
   refine yYW (wpAny_mono h4 (fun _ s5 ⟨x,H5,I5,r5,y5,st5,fr5⟩=>?_) fun _ _ z=>z.elim)
   have I5':=I5.pinned (statY fr5) (T.obj _ _ st5)
   have as:=hg _ s5 (stC k js σ) H5 x u _ I5' r5 (step x H5 y5)
   rw[yenv] at as
   refine yYW (hPE as fun _ s6 ⟨σ6,H6,I6,⟨ow,eow,e6⟩,q6⟩=>?_)
   have again:∀{H7:Hp} {s7:Shared} {zs:List V},Inv Y ([]++pinsAt fp s5.heap) σ6 H7 s7→(∃m',m'<n∧W (i+1) m' zs H7)→
     ∃m,m<n∧∃i ys H',Inv Y [] (stC k js σ) H' s7∧tn i s7.heap∧(∀b∈fp,H' b=none)∧W i m ys H':=fun{H7 s7 zs} I7 ⟨m',hm,w7⟩=>by
    have J7:Inv Y ([]++pinsAt fp s5.heap) (stC k js σ) H7 s7:=by
     refine I7.weak ?_ fun j v e=>?_
     ·rw[e6]
      show(List.replicate k none++frees js σ).length=_
      rw[yYI,yYI,List.length_replicate,eow]
     ·have e:(List.replicate k (none:Option V)++frees js σ)[j]? = some (some v):=e
      rw[e6]
      by_cases hj:j<k
      ·rw[List.getElem?_append_left (by rw[List.length_replicate];exact hj),List.getElem?_replicate] at e
       split at e <;> cases e
      ·rw[List.getElem?_append_right (by rw[List.length_replicate];omega),List.length_replicate] at e
       rw[List.getElem?_append_right (by omega),eow]
       exact e
    refine⟨m',hm,i+1,zs,H7,J7.unpinned,T.keep _ _ _ st5 fun b hb o e=>(I7.pin (b,o) (yYN _ (yYN _ (vJ hb e)))).1,fun b hb=>?_,w7⟩
    obtain⟨o,e,d⟩:=T.obj _ _ st5 b hb
    exact(I7.pin (b,o) (yYN _ (yYN _ (vJ hb e)))).2.1
   have tst:=ht _ s6 σ6 H6 _ I6 q6
   rw[yenv] at tst
   refine yYW (hPE tst fun b s7 ⟨H7,I7,q7⟩=>?_)
   cases b with
   | false=>exact yYX ⟨rfl,again I7 q7⟩
   | true=>
    have ev:=he _ s7 σ6 H7 _ I7 q7
    rw[yenv] at ev
    refine yYW (yYW (hPE ev fun v s8 ⟨y,H8,I8,r8,q8,z8,w8⟩=>?_))
    refine yYW (hPE (zP (X:=Y) _ s8 σ6 H8 (.ref s2.heap.objs.size) [y] (.ref s2.heap.objs.size) [v] (fun _ H9=>H9=upd H8 s2.heap.objs.size (.lst (ys++[y]))) I8 rfl (.cons r8 .nil) ⟨_,ys,y,rfl,rfl,q8,z8,rfl⟩) fun _ s9 ⟨_,H9,I9,_,e9⟩=>?_)
    subst e9
    exact yYX (yYX ⟨rfl,again I9 w8⟩)
 exact codeAny_compStart_list (loop _ rfl) (T.self _ 0 _ _ _ (T.keep _ _ _ st fun b hb o e=>keep b o (kD b o e)) (loop _ rfl))

theorem xQk {pins:List (Addr×Obj)}{σ:St}{H:Hp}{s:Shared}(I:Inv X pins σ H s)(C:CompOk X.env.scope X.N scope N k js):∀p∈scope.names,p.2=.free→∃c,X.env.cells.lookup p.1=some c:=
 fun p hp hf=>I.ok.has p.1 (C.free p hp hf)

theorem zF {wi:TI}{sc:Scope}{N0:List Str}(hc:X.calm=true)(C:CompOk sc N0 scope N k js)(hi:PI X tg iter wi)
  (hg:∀cl fp s H,PG (cxC X scope cl N fp s H) tg g) (ht:∀cl fp s H,PTs (cxC X scope cl N fp s H) ifs tt) (he:∀cl fp s H,PE (cxC X scope cl N fp s H) elt te)
  (hs:∀x,foldedSetIterable iter X.env x=pure x:=by intro _;rfl) (hsc:X.env.scope=sc:=by rfl) (hN0:X.N=N0:=by rfl):PE X (.ListComp elt [⟨tg,iter,ifs,0⟩] scope cpos) (tComp k js wi g tt te):=by
 subst hsc hN0
 intro pins s σ H Q I h
 obtain⟨cl,e,h1,h2⟩:=qYz (xQk I C)
 rw[eval_ListComp]
 refine wpAny_comprehension_free (use:=none) rfl hs e C.kind C.names (thn (hi pins s σ H _ I h) fun v s1 q=>thn q fun itv s2 q2=>?_)
 obtain⟨it,fp,tn,J,H2,rfl,I2,T,st,f2,rd⟩:=q2
 refine qDe (RR:=fun acc L=>compPost (model X.prog X.w) X.A X.xe none (EP X pins σ Q) acc L) hc C h1 h2 (hg cl) (ht cl) (he cl) I2 T st f2 rd ?_
 intro D L H' s' I' ⟨f0,f1,_,f3,f4,f5⟩ ⟨m,hn⟩ q
 refine⟨m,hn,fun h' sb=>⟨.ref D,H',?_,rfl,q⟩⟩
 exact I'.turned (t':=s'.toks) (fun b o hb e=>(sb.2 b hb).trans e) f0 f1 f3 f4 f5

theorem vQ {wi:TI}{i:Nat}{x:Str}{pos pos':Pos}{sc:Scope}{N0:List Str}(hN:X.N.Nodup)(hi':X.N[i]? = some x)(hx:Loc X.env.scope x)(hc:X.calm=true)(C:CompOk sc N0 scope N k js)(hi:PI X tg iter wi)
  (hg:∀cl fp s H,PG (cxC X scope cl N fp s H) tg g) (ht:∀cl fp s H,PTs (cxC X scope cl N fp s H) ifs tt) (he:∀cl fp s H,PE (cxC X scope cl N fp s H) elt te)
  (hsw:swapsWith (.ListComp elt [⟨tg,iter,ifs,0⟩] scope cpos) (some (.Name x pos')) pos.line X.env=pure true:=by rfl)
  (hs:∀x,foldedSetIterable iter X.env x=pure x:=by intro _;rfl) (hsc:X.env.scope=sc:=by rfl) (hN0:X.N=N0:=by rfl) (hf:X.fn x=true∨X.env.scope.names.lookup x=some .local:=by first | exact .inl rfl | exact .inr rfl | assumption):
  PS X (.Assign [.Name x pos'] (.ListComp elt [⟨tg,iter,ifs,0⟩] scope cpos) pos) (tAsg (tComp k js wi g tt te) (gName i)):=by
 subst hsc hN0
 intro pins s σ H D I h
 obtain⟨cl,e,h1,h2⟩:=qYz (xQk I C)
 rw[exec_Assign_Name_used _ _ _ _ hsw]
 refine yYW (wpAny_standAt (yYW ?_))
 show wpAny _ X.A (do let _ ← comprehension (.ListComp elt [⟨tg,iter,ifs,0⟩] scope cpos) scope X.env _ (newList []) false (eval iter X.env) (some (assign (.Name x pos') X.env))) _ _ s
 refine yYW (wpAny_mono (wpAny_comprehension_free (use:=some (assign (.Name x pos') X.env)) (Q:=fun _ s'=>SP X pins D .next s') rfl hs e C.kind C.names
  (thn (hi pins s σ H _ I h) fun v s1 q=>thn q fun itv s2 q2=>?_)) (fun _ s' hq=>yYX (yYX hq)) fun _ _ z=>z)
 obtain⟨it,fp,tn,J,H2,rfl,I2,T,st,f2,rd⟩:=q2
 refine qDe (RR:=fun acc L=>compPost (model X.prog X.w) X.A X.xe (some (assign (.Name x pos') X.env)) (fun _ s'=>SP X pins D .next s') acc L) hc C h1 h2 (hg cl) (ht cl) (he cl) I2 T st f2 rd ?_
 intro A' L H' s' I' ⟨f0,f1,f2',f3,f4,f5⟩ ⟨m,hn⟩ q
 show wpAny _ X.A (assign (.Name x pos') X.env (.ref A')) _ _ s'
 refine wpAny_assign_Name (qVj (v:=V.ref A') I' hN hi' hx rfl (fun s'' I'' ⟨a,sb,ha⟩=>?_) hf)
 have hLa:L≠a:=by
  rcases ha with rfl | ha
  ·exact f1
  ·exact fun z=>f4 x a ha z.symm
 refine⟨m,hn.sameBut sb hLa,fun h' sb'=>⟨σ.set i (some (.ref A')),H',?_,q⟩⟩
 exact I''.turned (t':=s''.toks) (fun b o hb e=>(sb'.2 b hb).trans e) f0 f1 f3 f4 f5
end

abbrev turnC (k:Nat)(js:List Nat)(g:TG)(tt:TT)(te:TE)(σ:St)(D:Addr)(x:V)(ys:List V)(H:Hp)(N:List V→Hp→Prop):Prop:=
 g x (stC k js σ) H fun σ4 H4=>(∃ow:St,ow.length=k∧σ4=ow++frees js σ)∧
  tt σ4 H4 fun b H5=>if b=true then te σ4 H5 fun y H6=>H6 D=some (.lst ys)∧ys.length<sizeLine∧N (ys++[y]) (upd H6 D (.lst (ys++[y]))) else N ys H5
section
variable {K:yZO}{a:Addr}{xs:List V}{k:Nat}{js:List Nat}{g:TG}{tt:TT}{te:TE}{σ:St}{H1:Hp}{Q:VK}
theorem jA (Pv:Addr→Nat→List V→Hp→Prop)(h0:∀D,H1 D=none→Pv D 0 [] (upd H1 D (.lst [])))
  (hl:∀D i ys H,i≤xs.length→Pv D i ys H→SqL K H a xs)
  (hs:∀D i x ys H (N:List V→Hp→Prop),H1 D=none→H D=some (.lst ys)→xs[i]? = some x→Pv D i ys H→(∀zs H',H' D=some (.lst zs)→Pv D (i+1) zs H'→N zs H')→turnC k js g tt te σ D x ys H N)
  (hd:∀D ys H,H1 D=none→H D=some (.lst ys)→Pv D xs.length ys H→Q (.ref D) H):rdC k js g tt te (Itl K a) σ H1 Q:=by
 intro D hD
 refine⟨fun i m ys H=>m=xs.length - i∧i≤xs.length∧H D=some (.lst ys)∧Pv D i ys H,⟨xs.length,by simp,yZF _,qW,h0 D hD⟩,?_⟩
 rintro i m ys H ⟨rfl,hi,hDy,p⟩
 refine⟨hDy,?_⟩
 have q:=hl D i ys H hi p
 by_cases hlt:i<xs.length
 ·refine .inr ⟨⟨xs,xs[i],q,by simp[hlt]⟩,fun x H' y=>?_⟩
  obtain⟨e,y⟩:=y
  subst e
  exact hs D i x ys _ (fun zs H'=>∃m',m'<xs.length - i∧m'=xs.length - (i+1)∧i+1≤xs.length∧H' D=some (.lst zs)∧Pv D (i+1) zs H') hD hDy (y xs q) p fun zs H' e p'=>⟨xs.length - (i+1),by omega,rfl,hlt,e,p'⟩
 ·have e:i=xs.length:=by omega
  subst e
  exact .inl ⟨⟨xs,q,yZC _⟩,hd D ys H hD hDy p⟩
theorem qUf (Pv:Addr→Nat→List V→Hp→Prop)(h0:∀D,H1 D=none→Pv D 0 [] (upd H1 D (.lst [])))
  (hl:∀D i ys H,i≤xs.length→Pv D i ys H→SqT K H a xs)
  (hs:∀D i x ys H (N:List V→Hp→Prop),H1 D=none→H D=some (.lst ys)→xs[i]? = some x→Pv D i ys H→(∀zs H',H' D=some (.lst zs)→Pv D (i+1) zs H'→N zs H')→turnC k js g tt te σ D x ys H N)
  (hd:∀D ys H,H1 D=none→H D=some (.lst ys)→Pv D xs.length ys H→Q (.ref D) H):rdC k js g tt te (Itt K a) σ H1 Q:=by
 intro D hD
 refine⟨fun i m ys H=>m=xs.length - i∧i≤xs.length∧H D=some (.lst ys)∧Pv D i ys H,⟨xs.length,by simp,yZF _,qW,h0 D hD⟩,?_⟩
 rintro i m ys H ⟨rfl,hi,hDy,p⟩
 refine⟨hDy,?_⟩
 have q:=hl D i ys H hi p
 by_cases hlt:i<xs.length
 ·refine .inr ⟨⟨xs,xs[i],q,by simp[hlt]⟩,fun x H' y=>?_⟩
  obtain⟨e,y⟩:=y
  subst e
  exact hs D i x ys _ (fun zs H'=>∃m',m'<xs.length - i∧m'=xs.length - (i+1)∧i+1≤xs.length∧H' D=some (.lst zs)∧Pv D (i+1) zs H') hD hDy (y xs q) p fun zs H' e p'=>⟨xs.length - (i+1),by omega,rfl,hlt,e,p'⟩
 ·have e:i=xs.length:=by omega
  subst e
  exact .inl ⟨⟨xs,q,yZC _⟩,hd D ys H hD hDy p⟩
theorem kQ {lo:Int}{n:Nat}(Pv:Addr→Nat→List V→Hp→Prop)(h0:∀D,H1 D=none→Pv D 0 [] (upd H1 D (.lst [])))
  (hs:∀D i ys H (N:List V→Hp→Prop),H1 D=none→H D=some (.lst ys)→i<n→Pv D i ys H→(∀zs H',H' D=some (.lst zs)→Pv D (i+1) zs H'→N zs H')→turnC k js g tt te σ D (.int (lo+i)) ys H N)
  (hd:∀D ys H,H1 D=none→H D=some (.lst ys)→Pv D n ys H→Q (.ref D) H):rdC k js g tt te (Itr lo n) σ H1 Q:=by
 intro D hD
 refine⟨fun i m ys H=>m=n - i∧i≤n∧H D=some (.lst ys)∧Pv D i ys H,⟨n,by simp,yZF _,qW,h0 D hD⟩,?_⟩
 rintro i m ys H ⟨rfl,hi,hDy,p⟩
 refine⟨hDy,?_⟩
 by_cases hlt:i<n
 ·refine .inr ⟨hlt,fun x H' y=>?_⟩
  obtain⟨e,y⟩:=y
  subst e y
  exact hs D i ys _ (fun zs H'=>∃m',m'<n - i∧m'=n - (i+1)∧i+1≤n∧H' D=some (.lst zs)∧Pv D (i+1) zs H') hD hDy hlt p fun zs H' e p'=>⟨n - (i+1),by omega,rfl,hlt,e,p'⟩
 ·have e:i=n:=by omega
  subst e
  exact .inl ⟨yZC _,hd D ys H hD hDy p⟩
end
def qHk (e:Expr):Scope:=match e with
 | .ListComp _ _ s _=>s
 | _=>{ kind:=.function,names:=[],isGenerator:=false,isCoroutine:=false }
def argOf (e:Expr)(i:Nat):Expr:=match e with
 | .Call _ as _ _=>as.getD i (.Constant .none 0 ⟨0,0,0,0⟩)
 | _=>.Constant .none 0 ⟨0,0,0,0⟩
def stAt (l:List Stmt)(i:Nat):Stmt:=l.getD i (.Pass ⟨0,0,0,0⟩)
def asgVal (s:Stmt):Expr:=match s with
 | .Assign _ v _=>v
 | .Return (some v) _=>v
 | _=>.Constant .none 0 ⟨0,0,0,0⟩
end L2

namespace L2
open PySem PySem.Spec PyProof.Rows

theorem log2_lt {n k:Nat}(h:n<2 ^ (k+1)):n.log2≤k:=by
 by_cases h0:n=0
 ·subst h0;simp
 ·exact Nat.lt_succ_iff.mp ((Nat.log2_lt h0).mpr h)
theorem qPj {a:Int}(h:a.natAbs<2 ^ 1000):Builtin.Int.intBits a≤2 ^ 20:=by
 unfold Builtin.Int.intBits
 split
 ·exact yZF _
 ·have:=log2_lt (n:=a.natAbs) (k:=999) h
  have e:(2:Nat) ^ 20=1048576:=by decide
  omega
theorem mulOk {a b:Int}(ha:a.natAbs<2 ^ 1000)(hb:b.natAbs<2 ^ 1000):IntMulOk a b:=IntMulOk.of_bits (qPj ha) (qPj hb)
section
variable {X:Cx}{a b:Expr}{ta tb:TE}{pos:Pos}
theorem vM:OpR X (binaryOp .Mult) (rI (fun i j=>i.natAbs<2 ^ 1000∧j.natAbs<2 ^ 1000) fun i j=>.int (i * j)):=opI fun _ _ _ _ _ _ _ hc q=>mul_int q (mulOk hc.1 hc.2)
theorem qKj:OpR X (binaryOp .FloorDiv) (rI (fun _ j=>0<j∧j.natAbs<2 ^ 1000) fun i j=>.int (i / j)):=opI fun i j _ _ _ _ _ hc q=>by
 have h0:j≠0:=by have:=hc.1;omega
 have e:i.fdiv j=i / j:=Int.fdiv_eq_ediv_of_nonneg _ (by have:=hc.1;omega)
 refine floordiv_int h0 (by rw[e];exact q) (.inl (PyProof.noPylong_of_log2 ?_))
 have:=log2_lt (n:=j.natAbs) (k:=999) hc.2
 omega

theorem qIe:OpR X (binaryOp .Mult) (fun x y H Q=>∃z n,x=.str z∧y=.int n∧-1000≤n∧n≤1000∧z.length≤1000∧Q (.str (Txt.mul z n)) H):=by
 intro pins s σ H x y v u Q I rx ry h
 obtain⟨z,n,rfl,rfl,h0,h1,h2,q⟩:=h
 obtain⟨t,rfl⟩:=rx
 obtain⟨t',rfl⟩:=ry
 refine SB.mul ⟨?_,fun a b=>?_,fun a b=>?_⟩ fun t'' k=>⟨.str (Txt.mul z n),H,I.tok _,⟨_,rfl⟩,q⟩
 ·rw[decide_eq_false (by omega),decide_eq_false (by omega)];rfl
 ·intro c
  have:(2 ^ 63 - 1) / n≥(2 ^ 63 - 1) / 1000:=by
   apply Int.le_ediv_of_mul_le (by omega)
   have:(2 ^ 63 - 1:Int) / 1000 * n≤(2 ^ 63 - 1) / 1000 * 1000:=Int.mul_le_mul_of_nonneg_left h1 (by decide)
   exact Int.le_trans this (by decide)
  have e:((2:Int) ^ 63 - 1) / 1000=9223372036854775:=by decide
  omega
 ·show decide (z.length * n.toNat>sizeLine)=false
  refine decide_eq_false ?_
  have:z.length * n.toNat≤1000 * 1000:=Nat.mul_le_mul h2 (by omega)
  have e:sizeLine=16777216:=by decide
  omega
theorem qWz (x:Array Nat):∀(k:Nat) (acc:Array Nat),((List.replicate k x).foldl (·++·) acc).size=acc.size+k * x.size
 | 0,acc=>by simp
 | k+1,acc=>by
  rw[List.replicate_succ,List.foldl_cons,qWz x k,Array.size_append,Nat.succ_mul]
  omega
theorem qMj (x:Str)(n:Int):(Txt.mul x n).length≤x.length * n.toNat:=by
 unfold Txt.mul
 split
 ·exact yZF _
 ·split
  ·rename_i h1 h2
   have:1≤n.toNat:=by omega
   exact Nat.le_mul_of_pos_right _ (by omega)
  ·show((List.replicate n.toNat x.cps).foldl (·++·) #[]).size≤_
   rw[qWz,Nat.mul_comm]
   exact Nat.le_of_eq (by simp[Str.length])

inductive DEq (K:yZO)(H:Hp):Nat→V→V→Prop
 | int {n} (i:Int):DEq K H n (.int i) (.int i)
 | str {n} (x:Str):DEq K H n (.str x) (.str x)
 | bl {n} (b:Bool):DEq K H n (.bl b) (.bl b)
 | non {n}:DEq K H n .non .non
 | same {n} (a:Addr):DEq K H n (.ref a) (.ref a)
 | lst {n} {a b:Addr} {xs ys:List V}:SqL K H a xs→SqL K H b ys→xs.length=ys.length→(∀(j:Nat) x y,xs[j]? = some x→ys[j]? = some y→DEq K H n x y)→DEq K H (n+1) (.ref a) (.ref b)
 | tup {n} {a b:Addr} {xs ys:List V}:SqT K H a xs→SqT K H b ys→xs.length=ys.length→(∀(j:Nat) x y,xs[j]? = some x→ys[j]? = some y→DEq K H n x y)→DEq K H (n+1) (.ref a) (.ref b)
theorem vK (n:Nat):(List.range n).all (fun _=>true)=true:=List.all_eq_true.mpr fun _ _=>rfl
theorem Inv.deq {pins:List (Addr×Obj)}{σ:St}{H:Hp}{s:Shared}(I:Inv X pins σ H s):∀{n:Nat} {x y:V},DEq X.K H n x y→∀{A:Around} {u v:Value},RelV x u→RelV y v→A.units+n<cLine→SeqAt.EqAt A s u v true:=by
 intro n x y d
 induction d with
 | int i=>intro A u v r q _;obtain⟨t,rfl⟩:=r;obtain⟨t',rfl⟩:=q;have:=SeqAt.EqAt.int_int (A:=A) (s:=s) i t i t';rwa [beq_self_eq_true] at this
 | str i=>intro A u v r q _;obtain⟨t,rfl⟩:=r;obtain⟨t',rfl⟩:=q;have:=SeqAt.EqAt.str_str (A:=A) (s:=s) i t i t';rwa [beq_self_eq_true] at this
 | bl i=>intro A u v r q _;cases r;cases q;exact SeqAt.EqAt.same _
 | non=>intro A u v r q _;cases r;cases q;exact SeqAt.EqAt.same _
 | same a=>intro A u v r q _;cases r;cases q;exact SeqAt.EqAt.same _
 | @lst n a b xs ys ha hb hl _ ih=>
  intro A u v r q hu
  cases r;cases q
  obtain⟨its,r1,p1,_⟩:=I.list ha
  obtain⟨its2,r2,p2,_⟩:=I.list hb
  by_cases hab:a=b
  ·subst hab;exact SeqAt.EqAt.same _
  ·refine SeqAt.EqAt.of_refs hab ?_
   have sz:its.toArray.size=its2.toArray.size:=by rw[yYD,yYD,← r1.length,← r2.length,hl]
   have:=SeqAt.RcAt.lists (A:=A) (s:=s) (e:=fun _=>true) p1.isList p2.isList sz (by omega) fun j h1 h2=>?_
   ·rwa [vK] at this
   ·have h1':j<xs.length:=by rw[r1.length];simpa using h1
    have h2':j<ys.length:=by rw[← hl];exact h1'
    obtain⟨u1,e1,q1⟩:=r1.get (yYA h1')
    obtain⟨u2,e2,q2⟩:=r2.get (yYA h2')
    have g1:its.toArray[j]=u1:=by
     have:its[j]? = some its.toArray[j]:=by simp
     exact Option.some.inj (this.symm.trans e1)
    have g2:its2.toArray[j]=u2:=by
     have:its2[j]? = some its2.toArray[j]:=by simp
     exact Option.some.inj (this.symm.trans e2)
    rw[g1,g2]
    exact ih j _ _ (yYA h1') (yYA h2') q1 q2 (by show A.units+1+n<cLine;omega)
 | @tup n a b xs ys ha hb hl _ ih=>
  intro A u v r q hu
  cases r;cases q
  obtain⟨its,r1,p1,_⟩:=I.tuple ha
  obtain⟨its2,r2,p2,_⟩:=I.tuple hb
  by_cases hab:a=b
  ·subst hab;exact SeqAt.EqAt.same _
  ·refine SeqAt.EqAt.of_refs hab ?_
   have sz:its.toArray.size=its2.toArray.size:=by rw[yYD,yYD,← r1.length,← r2.length,hl]
   have:=SeqAt.RcAt.tuples (A:=A) (s:=s) (e:=fun _=>true) (show s.heap.IsTuple a its.toArray from p1) (show s.heap.IsTuple b its2.toArray from p2) (by omega) fun j h1 h2=>?_
   ·rw[vK,sz,beq_self_eq_true] at this
    exact this
   ·have h1':j<xs.length:=by rw[r1.length];simpa using h1
    have h2':j<ys.length:=by rw[← hl];exact h1'
    obtain⟨u1,e1,q1⟩:=r1.get (yYA h1')
    obtain⟨u2,e2,q2⟩:=r2.get (yYA h2')
    have g1:its.toArray[j]=u1:=by
     have:its[j]? = some its.toArray[j]:=by simp
     exact Option.some.inj (this.symm.trans e1)
    have g2:its2.toArray[j]=u2:=by
     have:its2[j]? = some its2.toArray[j]:=by simp
     exact Option.some.inj (this.symm.trans e2)
    rw[g1,g2]
    exact ih j _ _ (yYA h1') (yYA h2') q1 q2 (by show A.units+1+n<cLine;omega)
def rEqL (K:yZO)(k:Bool):R2:=fun x y H Q=>∃n a b xs ys,n≤60∧x=.ref a∧y=.ref b∧SqL K H a xs∧SqL K H b ys∧xs.length=ys.length∧(∀(j:Nat) x y,xs[j]? = some x→ys[j]? = some y→DEq K H n x y)∧Q (.bl k) H
theorem vU {pins:List (Addr×Obj)}{σ:St}{H:Hp}{s:Shared}(I:Inv X pins σ H s){n:Nat}{xs ys:List V}{its its2:List Value}(r1:Vals xs its)(r2:Vals ys its2)(hl:xs.length=ys.length)
  (hd:∀(j:Nat) x y,xs[j]? = some x→ys[j]? = some y→DEq X.K H n x y) {A:Around} (hu:A.units+n<cLine):∀j (h1:j<its.toArray.size) (h2:j<its2.toArray.size),SeqAt.EqAt A s its.toArray[j] its2.toArray[j] true:=by
 intro j h1 h2
 have h1':j<xs.length:=by rw[r1.length];simpa using h1
 have h2':j<ys.length:=by rw[← hl];exact h1'
 obtain⟨u1,e1,q1⟩:=r1.get (yYA h1')
 obtain⟨u2,e2,q2⟩:=r2.get (yYA h2')
 have g1:its.toArray[j]=u1:=by
  have:its[j]? = some its.toArray[j]:=by simp
  exact Option.some.inj (this.symm.trans e1)
 have g2:its2.toArray[j]=u2:=by
  have:its2[j]? = some its2.toArray[j]:=by simp
  exact Option.some.inj (this.symm.trans e2)
 rw[g1,g2]
 exact I.deq (hd j _ _ (yYA h1') (yYA h2')) q1 q2 hu
theorem xKh (hu:X.A.units+64<cLine):OpR X (compareOp .Eq) (rEqL X.K true):=by
 intro pins s σ H x y v u Q I rx ry h
 obtain⟨n,a,b,xs,ys,hn,rfl,rfl,ha,hb,hl,hd,q⟩:=h
 cases rx;cases ry
 obtain⟨its,r1,p1,_⟩:=I.list ha
 obtain⟨its2,r2,p2,_⟩:=I.list hb
 have sz:its.toArray.size=its2.toArray.size:=by rw[yYD,yYD,← r1.length,← r2.length,hl]
 refine SeqAt.RcAt.lists (e:=fun _=>true) p1.isList p2.isList sz (by omega) (vU I r1 r2 hl hd (by show X.A.units+1+n<cLine;omega)) _ _ _ _ ?_
 rw[vK]
 exact⟨.bl true,H,I,rfl,q⟩
theorem xKd (hu:X.A.units+64<cLine):OpR X (compareOp .NotEq) (rEqL X.K false):=by
 intro pins s σ H x y v u Q I rx ry h
 obtain⟨n,a,b,xs,ys,hn,rfl,rfl,ha,hb,hl,hd,q⟩:=h
 cases rx;cases ry
 obtain⟨its,r1,p1,_⟩:=I.list ha
 obtain⟨its2,r2,p2,_⟩:=I.list hb
 have sz:its.toArray.size=its2.toArray.size:=by rw[yYD,yYD,← r1.length,← r2.length,hl]
 refine SeqAt.RcNeAt.lists (e:=fun _=>true) p1.isList p2.isList sz (by omega) (vU I r1 r2 hl hd (by show X.A.units+1+n<cLine;omega)) _ _ _ _ ?_
 rw[vK]
 exact⟨.bl false,H,I,rfl,q⟩
theorem xKg (hu:X.A.units+64<cLine):OpR X (compareOp .Eq) (fun x y H Q=>∃n a b xs ys,n≤60∧x=.ref a∧y=.ref b∧SqT X.K H a xs∧SqT X.K H b ys∧xs.length=ys.length∧(∀(j:Nat) x y,xs[j]? = some x→ys[j]? = some y→DEq X.K H n x y)∧Q (.bl true) H):=by
 intro pins s σ H x y v u Q I rx ry h
 obtain⟨n,a,b,xs,ys,hn,rfl,rfl,ha,hb,hl,hd,q⟩:=h
 cases rx;cases ry
 obtain⟨its,r1,p1,_⟩:=I.tuple ha
 obtain⟨its2,r2,p2,_⟩:=I.tuple hb
 have sz:its.toArray.size=its2.toArray.size:=by rw[yYD,yYD,← r1.length,← r2.length,hl]
 refine SeqAt.RcAt.tuples (e:=fun _=>true) (show s.heap.IsTuple a its.toArray from p1) (show s.heap.IsTuple b its2.toArray from p2) (by omega) (vU I r1 r2 hl hd (by show X.A.units+1+n<cLine;omega)) _ _ _ _ ?_
 rw[vK,sz,beq_self_eq_true]
 exact⟨.bl true,H,I,rfl,q⟩

theorem qBc:CallR X (.builtin "isinstance") (fun xs H Q=>∃x T t b,xs=[x,.ty T]∧TyOf X.K H x t∧PySem.W.kitOne X.K t (.type T)=some b∧Q (.bl b) H):=by
 intro pins s σ H xs us Q I r h
 obtain⟨x,T,t,b,rfl,ty,e,q⟩:=h
 obtain⟨u,v,rfl,ru,rv⟩:=vals2 r
 cases rv
 exact qMg I ru ty e fun tk=>⟨.bl b,H,I.tok _,rfl,q⟩
theorem xKa {x:Str}{T:String}{pos:Pos}(hg:Gl X x)(hm:X.mg x=none)(hv:bootBuiltins x=some (.type T))(hn:x ≠ "__name__" := by decide)(hd:(x == ("__debug__" : Str))=false:=by decide):PE X (.Name x pos) (tC (.ty T)):=
 xXn hg hm hv rfl hn hd
end

def But (d:Addr)(H H':Hp):Prop:=∀b o,b≠d→H b=some o→H' b=some o
theorem But.refl {d:Addr}(H:Hp):But d H H:=fun _ _ _ h=>h
theorem But.trans {d:Addr}{H H1 H2:Hp}(a:But d H H1)(b:But d H1 H2):But d H H2:=fun c o n h=>b c o n (a c o n h)
theorem But.upd {d:Addr}{H:Hp}{o:HO}:But d H (upd H d o):=fun b u n h=>by rw[qA n];exact h
theorem qV {H:Hp}{p:Addr}(h:H p=none)(o:HO):Same H (upd H p o):=fun b u q=>by rw[qA (qB q h)];exact q
theorem qPk {α:Type}(x:α)(xs:List α):atI (x::xs) 0=some x:=zQ (xs:=x::xs) (j:=0) rfl
theorem zS:bootBuiltins "len" = some (.builtin "len"):=by decide +kernel
theorem xVi:bootBuiltins "min" = some (.builtin "min"):=by decide +kernel
theorem wV:bootBuiltins "isinstance" = some (.builtin "isinstance"):=by decide +kernel
theorem qOo:bootBuiltins "list" = some (.type "list"):=by decide +kernel
theorem qKe:bootBuiltins "tuple" = some (.type "tuple"):=by decide +kernel
theorem qPq:bootBuiltins "int" = some (.type "int"):=by decide +kernel
theorem xJn:bootBuiltins "bool" = some (.type "bool"):=by decide +kernel
theorem qZb:bootBuiltins "dict" = some (.type "dict"):=by decide +kernel
end L2

namespace L2
open PySem PySem.Spec PyProof.Rows
theorem qJb {α β:Type}{F:α→β→Prop}:∀{a c:List α} {b d:List β},Paired F a b→Paired F c d→Paired F (a++c) (b++d)
 | _,_,_,_,.nil,q=>q
 | _,_,_,_,.cons f p,q=>.cons f (qJb p q)
theorem xK {α β:Type}{F:α→β→Prop}:∀{a:List α} {b:List β} {i:Nat} {x:α} {y:β},Paired F a b→a[i]? = some x→b[i]? = some y→F x y
 | _,_,_,_,_,.nil,e,_=>by simp at e
 | _,_,0,_,_,.cons f _,e1,e2=>by simp at e1 e2;subst e1 e2;exact f
 | _,_,i+1,_,_,.cons _ p,e1,e2=>xK (i:=i) p (by simpa using e1) (by simpa using e2)
end L2

namespace PySem
namespace FD
theorem list_no_keys:typeLookup (.type "list") "keys" = pure none:=by rw[typeLookup_type,builtinLookup_eq_fast];kernel_rfl
theorem zip_no_keys:typeLookup (.type "zip") "keys" = pure none:=by rw[typeLookup_type,builtinLookup_eq_fast];kernel_rfl
theorem zip_no_getattr:typeLookup (.type "zip") "__getattr__" = pure none:=by rw[typeLookup_type,builtinLookup_eq_fast];kernel_rfl
theorem entry_zip_ga:entryFor table "zip.__getattribute__" = some Builtin.«object.__getattribute__»:=
 entryFor_alias (id' := "object.__getattribute__") (by kernel_rfl) (by decide +kernel) (by decide +kernel) (by kernel_rfl)
theorem keys_len:("keys" : Str).length+100≤sizeLine:=by decide +kernel
theorem keys_name:(["__module__","__name__","__qualname__","__doc__","__annotations__"]:List Str).contains "keys" = false:=by decide +kernel
end FD
theorem qAm (z:Addr)(vs:Array Value)(u:Tok):
  Meets (Builtin.«object.__getattribute__» ⟨[.ref z,.str "keys" u],[]⟩) (fun A R s=>s.heap.get? z=some { cls:=.type "zip",dict:=none,data:=.fields vs,slots:=#[] }∧raisesAttr (.ref z) "keys" A R s):=
 Meets.of_wp fun prog w A R s hs=>by
  obtain⟨hp,g,d,tk,os⟩:=s
  obtain⟨hx,hs⟩:=hs
  have hT:(⟨hp,g,d,tk,os⟩:Shared).TypeIs (.ref z) "zip" := ⟨_,hx,rfl⟩
  have f1:=FD.zip_no_keys
  unfold Builtin.«object.__getattribute__»
  repeat (any_goals (first | assumption | wp_step))
  try (simp only[FD.keys_name,yZJ,if_false];repeat (any_goals (first | assumption | wp_step)))
  exact wpAny_raiseAttrError hs.1 hs.2 (attrMsg_fits (by decide +kernel) FD.keys_len)
section
variable {prog:Program}{w:World}{A:Around}{E:Value→Shared→Prop}{s:Shared}
theorem qKv {z:Addr}{vs:Array Value}{Q:Option Value→Shared→Prop}(hx:s.heap.get? z=some { cls:=.type "zip",dict:=none,data:=.fields vs,slots:=#[] })(hA:A.handled=none)
  (h:∀h' tk,(∀b o,s.heap.get? b=some o→h'.get? b=some o)→Q none { s with heap:=h',toks:=tk }):wpAny (model prog w) A (getAttr? (.ref z) "keys") Q E s:=by
 obtain⟨hp,g,d,tk,os⟩:=s
 have hT:∀tk',(⟨hp,g,d,tk',os⟩:Shared).TypeIs (.ref z) "zip" := fun _=>⟨_,hx,rfl⟩
 have f1:=sub_AttributeError
 have f3:=F.slot_zip_getattribute.lookup
 have f4:=F.slot_zip_getattribute.bind (.ref z)
 have f5:=FD.zip_no_getattr
 unfold getAttr? getAttrBy? getAttrBy
 repeat (any_goals (first | assumption | exact hT _ | ((with_reducible show wpAny _ _ (call (Value.builtin "zip.__getattribute__") _ _) _ _ _);refine call_meets F.slot_zip_getattribute (hT _) FD.entry_zip_ga (F.args_zip_getattribute_2 _ _) (qAm z vs _) ⟨hx,hA,fun h' tk' e hx'=>?_⟩) | wp_step))
 obtain⟨t',u',he⟩:=hx'.there
 show wpAny _ _ (getattributeRaised _ _ _ _ _ _ _) _ _ _
 unfold getattributeRaised
 repeat (any_goals (first | assumption | wp_step))
 exact h _ _ hx'.keeps
theorem qZh {a:Addr}{xs:Array Value}{k:Nat}{Q:Option Value→Shared→Prop}(hx:s.heap.get? a=some { cls:=.type "list",data:=.seq xs k })(hA:A.handled=none)
  (h:∀h' tk,(∀b o,s.heap.get? b=some o→h'.get? b=some o)→Q none { s with heap:=h',toks:=tk }):wpAny (model prog w) A (getAttr? (.ref a) "keys") Q E s:=by
 obtain⟨hp,g,d,tk,os⟩:=s
 have hT:∀tk',(⟨hp,g,d,tk',os⟩:Shared).TypeIs (.ref a) "list" := fun _=>⟨_,hx,rfl⟩
 have f1:=sub_AttributeError
 have f3:=F.slot_list_getattribute.lookup
 have f4:=F.slot_list_getattribute.bind (.ref a)
 have f5:=am_list_getattr_none
 unfold getAttr? getAttrBy? getAttrBy
 repeat (any_goals (first | assumption | exact hT _ | ((with_reducible show wpAny _ _ (call (Value.builtin "list.__getattribute__") _ _) _ _ _);refine call_meets F.slot_list_getattribute (hT _) am_entry_list_getattribute (F.args_list_getattribute_2 _ _) (meets_getattribute_miss_list a xs k #[] _ _ FD.list_no_keys FD.keys_name FD.keys_len) ⟨hx,hA,fun h' tk' e hx'=>?_⟩) | wp_step))
 obtain⟨t',u',he⟩:=hx'.there
 show wpAny _ _ (getattributeRaised _ _ _ _ _ _ _) _ _ _
 unfold getattributeRaised
 repeat (any_goals (first | assumption | wp_step))
 exact h _ _ hx'.keeps

theorem wP {it t:Addr}{i:Nat}{items:Array Value}{x:Value}{Q:Value→Shared→Prop}(hit:s.heap.IsTupleIter it t i)(ht:s.heap.IsTuple t items)(hx:items[i]? = some x)
  (hQ:∀h',h'.IsTupleIter it t (i+1)→Heap.SameBut it s.heap h'→Q x { s with heap:=h' }):wpAny (model prog w) A (Builtin.SmallTypes.nextOf (.ref it)) Q E s:=by
 obtain⟨o,ho,hc,hd⟩:=id hit
 obtain⟨ol,hol,_,nl,hdl⟩:=ht
 unfold Builtin.SmallTypes.nextOf
 refine yYW (wpAny_callSpecial?_slot (name:=Str.ofString "__next__") hit.typeIs F.slot_tuple_iterator_next (wpAny_call_entry F.slot_tuple_iterator_next hit.typeIs F.entry_tuple_iterator_next ?_ (F.args_tuple_iterator_next_1 _)))
 refine yYW (m:=field (.ref it) 0) (wpAny_field ho hd (x:=.ref t) rfl ?_)
 show wpAny _ _ (if (Value.ref t == Value.none)=true then _ else _) _ _ s;rw[if_neg (show¬((Value.ref t == Value.none)=true) from yZK)]
 refine yYW (m:=field (.ref it) 1) (wpAny_field ho hd (x:=.int i 0) rfl ?_)
 refine yYW (m:=seqItems? (.ref t)) (wpAny_seqItems hol hdl ?_)
 simp only[Int.toNat_natCast,hx]
 refine yYW (wpAny_setField ho hd (by simp) (yYX ⟨x,rfl,yYX (hQ _ ?_ (Heap.SameBut.update ..))⟩))
 exact⟨_,Heap.get?_update_self _ ho (Obj.isFreed_of_fields (Obj.data_mapFields hd _)),(Obj.cls_mapFields ..).trans hc,by rw[Obj.data_mapFields hd];simp[rawInt]⟩

abbrev ZipAt (h:Heap)(z TI TO:Addr)(f0 f1:Value):Prop:=h.get? z=some { cls:=.type "zip",dict:=none,data:=.fields #[f0,f1,.bool false,.ref TI,.ref TO],slots:=#[] }
abbrev zH1 (h:Heap)(l:Addr):Heap:=h.push { cls:=.type "list_iterator",data:=.fields #[.ref l,.int 0 0] }
abbrev zH2 (h:Heap)(l t:Addr):Heap:=(zH1 h l).push { cls:=.type "tuple_iterator",data:=.fields #[.ref t,.int 0 0] }
abbrev zH3 (h:Heap)(l t:Addr):Heap:=(zH2 h l t).push { cls:=.type "tuple",data:=.seq #[.ref h.objs.size,.ref (zH1 h l).objs.size] }
abbrev zH4 (h:Heap)(l t:Addr):Heap:=(zH3 h l t).push { cls:=.type "tuple",data:=.seq #[.none,.none] }
abbrev zH5 (h:Heap)(l t:Addr):Heap:=(zH4 h l t).push { cls:=.type "zip",data:=.fields #[.none,.bool false,.bool false,.ref (zH2 h l t).objs.size,.ref (zH3 h l t).objs.size] }
theorem qVn (l t:Addr)(xs ys:Array Value):
  Meets (Builtin.«zip.__new__» ⟨[.type "zip",.ref l,.ref t],[]⟩) (fun _ R s=>s.heap.IsList l xs∧s.heap.IsTuple t ys∧R (.ok (.ret (.ref (zH4 s.heap l t).objs.size))) { s with heap:=zH5 s.heap l t }):=
 .of_wp fun prog w A R s h=>by
  obtain⟨hp,g,d,tk,os⟩:=s;obtain⟨hl,ht,h⟩:=h
  have hsub:=sub_zip
  have hL1:Heap.IsList (Shared.heap ⟨hp,g,d,tk,os⟩) l xs:=hl
  have hL2:Heap.IsTuple (Shared.heap ⟨hp.push { cls:=.type "list_iterator",data:=.fields #[.ref l,.int 0 0] },g,d,tk,os⟩) t ys:=by
   obtain⟨o,ho,r⟩:=ht
   exact⟨o,yYY _ ho,r⟩
  wp_walk using wpAny_pyIter_list hL1,wpAny_pyIter_tuple hL2
  exact⟨_,rfl,h⟩
structure ZipSt (h:Heap)(z TI TO i1 i2 l t:Addr)(k:Nat):Prop where
 zip:ZipAt h z TI TO .none (.bool false)∨∃(T:Addr) (f:Bool),ZipAt h z TI TO (rawInt T) (.bool f)∧(∃o,h.get? T=some o)∧T≠z∧T≠TO∧T≠i1∧T≠i2
 its:IsPair h TI (.ref i1) (.ref i2)
 own:∃a b,IsPair h TO a b
 one:h.IsListIter i1 l k
 two:h.IsTupleIter i2 t k
structure ZApart (z TI TO i1 i2:Addr):Prop where
 TIz:TI≠z
 TOz:TO≠z
 i1z:i1≠z
 i2z:i2≠z
 TITO:TI≠TO
 TIi1:TI≠i1
 TIi2:TI≠i2
 TOi1:TO≠i1
 TOi2:TO≠i2
 i12:i1≠i2
theorem qBb {l t:Addr}{xs ys:Array Value}{Q:Value→Shared→Prop}(hl:s.heap.IsList l xs)(ht:s.heap.IsTuple t ys)
  (h:∀h' z TI TO i1 i2,ZApart z TI TO i1 i2→ZipSt h' z TI TO i1 i2 l t 0→s.heap.objs.size≤z→s.heap.objs.size≤TI→s.heap.objs.size≤TO→s.heap.objs.size≤i1→s.heap.objs.size≤i2→
   (∀c o,s.heap.get? c=some o→h'.get? c=some o)→Q (.ref z) { s with heap:=h' }):
  wpAny (model prog w) A (call (.type "zip") [.ref l,.ref t]) Q E s:=by
 refine callType_new F.called_zip (by decide) (F.typeCall_zip_2 _ _) (F.newCall_zip_2 _ _) (fun obj=>F.args_object_init_3 obj _ _) F.entry_zip_new (qVn l t xs ys) ⟨hl,ht,?_⟩
 have z1:(zH1 s.heap l).objs.size=s.heap.objs.size+1:=yZB ..
 have z2:(zH2 s.heap l t).objs.size=s.heap.objs.size+2:=by rw[yZB,z1]
 have z3:(zH3 s.heap l t).objs.size=s.heap.objs.size+3:=by rw[yZB,z2]
 have z4:(zH4 s.heap l t).objs.size=s.heap.objs.size+4:=by rw[yZB,z3]
 have g5:(zH5 s.heap l t).get? (zH4 s.heap l t).objs.size=some _:=yZA _ rfl
 have g4:(zH5 s.heap l t).get? (zH3 s.heap l t).objs.size=some _:=yYY _ (yZA _ rfl)
 have g3:(zH5 s.heap l t).get? (zH2 s.heap l t).objs.size=some _:=yYY _ (yYY _ (yZA _ rfl))
 have g2:(zH5 s.heap l t).get? (zH1 s.heap l).objs.size=some _:=yYY _ (yYY _ (yYY _ (yZA _ rfl)))
 have g1:(zH5 s.heap l t).get? s.heap.objs.size=some _:=yYY _ (yYY _ (yYY _ (yYY _ (yZA _ rfl))))
 refine⟨⟨_,g5,rfl⟩,h _ _ (zH2 s.heap l t).objs.size (zH3 s.heap l t).objs.size s.heap.objs.size (zH1 s.heap l).objs.size ?_ ⟨.inl g5,g3,⟨_,_,g4⟩,⟨_,g1,rfl,rfl⟩,⟨_,g2,rfl,rfl⟩⟩ (by omega) (by omega) (by omega) (yZC _) (by omega) ?_⟩
 ·constructor <;> (intro e;have e':@Eq Nat _ _:=e;omega)
 ·exact fun c o e=>yYY _ (yYY _ (yYY _ (yYY _ (yYY _ e))))
end
end PySem

namespace PySem
section
variable {prog:Program}{w:World}{A:Around}{E:Value→Shared→Prop}{s:Shared}
theorem qYv {z TI TO i1 i2 l t:Addr}{k:Nat}{xs ys:Array Value}{x y:Value}{Q:Value→Shared→Prop}(D:ZApart z TI TO i1 i2)(S:ZipSt s.heap z TI TO i1 i2 l t k)
  (hl:s.heap.IsList l xs) (ht:s.heap.IsTuple t ys) (nl:l≠z∧l≠TO∧l≠i1∧l≠i2) (nt:t≠z∧t≠TO∧t≠i1∧t≠i2) (hx:xs[k]? = some x) (hy:ys[k]? = some y)
  (hQ:∀h' T,ZipSt h' z TI TO i1 i2 l t (k+1)→IsPair h' T x y→(∀c o,c≠z→c≠TO→c≠i1→c≠i2→s.heap.get? c=some o→h'.get? c=some o)→Q (.ref T) { s with heap:=h' }):
  wpAny (model prog w) A (Builtin.«zip.__next__» ⟨[.ref z],[]⟩) (fun fin s'=>∃v,fin=.done (.ret v)∧Q v s') E s:=by
 obtain⟨hz,hTI,⟨a,b,hTO⟩,h1,h2⟩:=S
 rcases hz with hz | ⟨T,f,hz,⟨oT,hT⟩,n1,n2,n3,n4⟩
 ·refine yYW (m:=field (.ref z) 2) (wpAny_field hz rfl (x:=.bool false) rfl ?_)
  refine yYW (m:=field (.ref z) 3) (wpAny_field hz rfl (x:=.ref TI) rfl ?_)
  refine yYW (wpAny_seqItems hTI rfl ?_)
  refine yYW (m:=Builtin.SmallTypes.ownedTupleIsFree (.ref z)) ?_
  unfold Builtin.SmallTypes.ownedTupleIsFree
  refine yYW (wpAny_field hz rfl (x:=.none) rfl (yYX ?_))
  simp only[if_true]
  refine yYW (wpAny_rule (yYW (wpAny_field hz rfl (x:=.ref TO) rfl (yYW (wpAny_setField_rec hz (by simp) fun h₁ hz₁ hs₁=>?_)))))
  replace hz₁:ZipAt h₁ z TI TO .ellipsis (.bool false):=hz₁
  refine yYW ?_
  simp only[List.zipIdx_cons,List.zipIdx_nil,List.forIn_cons,List.forIn_nil]
  refine yYW (yYW (wpAny_onRaise ?_))
  refine yYW (m:=Builtin.SmallTypes.nextOf (.ref i1)) (wpAny_nextOf_list_item (h1.extBut hs₁.extBut D.i1z) (hl.extBut hs₁.extBut nl.1) hx fun h₂ h1₂ hs₂=>yYX ?_)
  have hTO₂:IsPair h₂ TO a b:=hs₂.extBut _ _ D.TOi1 (hs₁.extBut _ _ D.TOz hTO)
  refine yYW (wpAny_seqItems hTO₂ rfl (yYW (wpAny_updateSeq_pair hTO₂ fun h₃ hTO₃ hs₃=>?_)))
  replace hTO₃:IsPair h₃ TO x b:=hTO₃
  refine yYW (wpAny_letGo (yYX ?_))
  refine yYW (yYW (wpAny_onRaise ?_))
  have ht₃:h₃.IsTuple t ys:=by
   obtain⟨o,ho,r⟩:=ht
   exact⟨o,hs₃.extBut _ _ nt.2.1 (hs₂.extBut _ _ nt.2.2.1 (hs₁.extBut _ _ nt.1 ho)),r⟩
  have h2₃:h₃.IsTupleIter i2 t k:=h2.at fun o e=>hs₃.extBut _ _ (Ne.symm D.TOi2) (hs₂.extBut _ _ (Ne.symm D.i12) (hs₁.extBut _ _ D.i2z e))
  refine yYW (m:=Builtin.SmallTypes.nextOf (.ref i2)) (wP h2₃ ht₃ hy fun h₄ h2₄ hs₄=>yYX ?_)
  have hTO₄:IsPair h₄ TO x b:=hs₄.extBut _ _ D.TOi2 hTO₃
  refine yYW (wpAny_seqItems hTO₄ rfl (yYW (wpAny_updateSeq_pair hTO₄ fun h₅ hTO₅ hs₅=>?_)))
  replace hTO₅:IsPair h₅ TO x y:=hTO₅
  refine yYW (wpAny_letGo (yYX (yYX (yYW (wpAny_seqItems hTO₅ rfl (yYW (wpAny_newTuple ?_)))))))
  have hz₅:ZipAt h₅ z TI TO .ellipsis (.bool false):=hs₅.extBut _ _ D.TOz.symm (hs₄.extBut _ _ D.i2z.symm (hs₃.extBut _ _ D.TOz.symm (hs₂.extBut _ _ D.i1z.symm hz₁)))
  have hk₅:∀c o,c≠z→c≠TO→c≠i1→c≠i2→s.heap.get? c=some o→h₅.get? c=some o:=fun c o c1 c2 c3 c4 e=>hs₅.extBut _ _ c2 (hs₄.extBut _ _ c4 (hs₃.extBut _ _ c2 (hs₂.extBut _ _ c3 (hs₁.extBut _ _ c1 e))))
  have h1₅:h₅.IsListIter i1 l (k+1):=h1₂.at fun o e=>hs₅.extBut _ _ (Ne.symm D.TOi1) (hs₄.extBut _ _ D.i12 (hs₃.extBut _ _ (Ne.symm D.TOi1) e))
  have h2₅:h₅.IsTupleIter i2 t (k+1):=h2₄.at fun o e=>hs₅.extBut _ _ (Ne.symm D.TOi2) e
  refine yYW (m:=Builtin.SmallTypes.ownedTupleHandOut (.ref z) (.ref h₅.objs.size)) ?_
  unfold Builtin.SmallTypes.ownedTupleHandOut
  have hz₆:ZipAt (h₅.push { cls:=.type "tuple",data:=.seq #[x,y] }) z TI TO .ellipsis (.bool false):=yYY _ hz₅
  refine yYW (wpAny_setField_rec hz₆ (by simp) fun h₇ hz₇ hs₇=>?_)
  replace hz₇:ZipAt h₇ z TI TO (rawInt h₅.objs.size) (.bool false):=hz₇
  refine wpAny_setField_rec hz₇ (by simp) fun h₈ hz₈ hs₈=>?_
  replace hz₈:ZipAt h₈ z TI TO (rawInt h₅.objs.size) (.bool false):=hz₈
  have up:∀c o,c≠z→h₅.get? c=some o→h₈.get? c=some o:=fun c o c1 e=>hs₈.extBut _ _ c1 (hs₇.extBut _ _ c1 (yYY _ e))
  have hzlt:z<h₅.objs.size:=yYZ hz₅
  have hT₈:IsPair h₈ h₅.objs.size x y:=hs₈.extBut _ _ (yZG hzlt) (hs₇.extBut _ _ (yZG hzlt) (yZA _ rfl))
  have lt1:i1<h₅.objs.size:=by obtain⟨_,e,_⟩:=h1₅;exact yYZ e
  have lt2:i2<h₅.objs.size:=by obtain⟨_,e,_⟩:=h2₅;exact yYZ e
  refine yYX ⟨_,rfl,hQ h₈ _ ⟨.inr ⟨_,_,hz₈,⟨_,hT₈⟩,yZG hzlt,yZG (yYZ hTO₅),yZG lt1,yZG lt2⟩,up _ _ D.TIz (hk₅ _ _ D.TIz D.TITO D.TIi1 D.TIi2 hTI),⟨_,_,up _ _ D.TOz hTO₅⟩,h1₅.at fun o e=>up _ o D.i1z e,h2₅.at fun o e=>up _ o D.i2z e⟩ hT₈ fun c o c1 c2 c3 c4 e=>up c o c1 (hk₅ c o c1 c2 c3 c4 e)⟩
 ·refine yYW (m:=field (.ref z) 2) (wpAny_field hz rfl (x:=.bool false) rfl ?_)
  refine yYW (m:=field (.ref z) 3) (wpAny_field hz rfl (x:=.ref TI) rfl ?_)
  refine yYW (wpAny_seqItems hTI rfl ?_)
  refine yYW (m:=Builtin.SmallTypes.ownedTupleIsFree (.ref z)) ?_
  have step:∀{α:Type} (N:Bool→Sem α) (QQ:α→Shared→Prop),(∀h₁,ZipAt h₁ z TI TO (rawInt T) (.bool true)→Heap.SameBut z s.heap h₁→wpAny (model prog w) A (N false) QQ E { s with heap:=h₁ })→
    wpAny (model prog w) A (Builtin.SmallTypes.ownedTupleIsFree (.ref z)) (fun b s'=>wpAny (model prog w) A (N b) QQ E s') E s:=fun N QQ hN=>by
   unfold Builtin.SmallTypes.ownedTupleIsFree
   refine yYW (wpAny_field hz rfl (x:=rawInt T) rfl ?_)
   show wpAny _ _ (loadIfAlive ((T:Int).toNat) >>= _) _ _ _
   rw[Int.toNat_natCast]
   refine yYW (W.kdx_alive hT ?_)
   simp only[Option.isNone_some,yZJ,if_false]
   refine yYW (wpAny_field hz rfl (x:=.bool f) rfl ?_)
   cases f with
   | true=>rw[if_neg (show¬((Value.bool true != Value.bool true)=true) from yZK)];exact yYX (hN _ hz (.refl ..))
   | false=>rw[if_pos (show(Value.bool false != Value.bool true)=true from rfl)];exact yYW (wpAny_setField_rec hz (by simp) fun h₁ hz₁ hs₁=>yYX (hN h₁ hz₁ hs₁))
  refine step _ _ fun h₁ hz₁ hs₁=>?_
  simp only[yZJ,if_false]
  refine yYW ?_
  rw[← Array.forIn_toList]
  simp only[List.forIn_cons,List.forIn_nil]
  refine yYW (yYW (wpAny_holding ?_))
  refine yYW (m:=Builtin.SmallTypes.nextOf (.ref i1)) (wpAny_nextOf_list_item (h1.extBut hs₁.extBut D.i1z) (hl.extBut hs₁.extBut nl.1) hx fun h₂ h1₂ hs₂=>yYX (yYX ?_))
  refine yYW (yYW (wpAny_holding ?_))
  have ht₂:h₂.IsTuple t ys:=by
   obtain⟨o,ho,r⟩:=ht
   exact⟨o,hs₂.extBut _ _ nt.2.2.1 (hs₁.extBut _ _ nt.1 ho),r⟩
  have h2₂:h₂.IsTupleIter i2 t k:=h2.at fun o e=>hs₂.extBut _ _ (Ne.symm D.i12) (hs₁.extBut _ _ D.i2z e)
  refine yYW (m:=Builtin.SmallTypes.nextOf (.ref i2)) (wP h2₂ ht₂ hy fun h₃ h2₃ hs₃=>yYX (yYX (yYX ?_)))
  refine yYW (wpAny_newTuple ?_ (show 2≤sizeLine by decide))
  have k₃:∀c o,c≠z→c≠i1→c≠i2→s.heap.get? c=some o→h₃.get? c=some o:=fun c o c1 c2 c3 e=>hs₃.extBut _ _ c3 (hs₂.extBut _ _ c2 (hs₁.extBut _ _ c1 e))
  have hz₃:ZipAt h₃ z TI TO (rawInt T) (.bool true):=hs₃.extBut _ _ (Ne.symm D.i2z) (hs₂.extBut _ _ (Ne.symm D.i1z) hz₁)
  refine yYX ⟨_,rfl,hQ _ _ ⟨.inr ⟨T,true,yYY _ hz₃,⟨_,yYY _ (k₃ _ _ n1 n3 n4 hT)⟩,n1,n2,n3,n4⟩,yYY _ (k₃ _ _ D.TIz D.TIi1 D.TIi2 hTI),⟨_,_,yYY _ (k₃ _ _ D.TOz D.TOi1 D.TOi2 hTO)⟩,h1₂.at fun o e=>yYY _ (hs₃.extBut _ _ D.i12 e),h2₃.at fun o e=>yYY _ e⟩ (yZA _ rfl) fun c o c1 _ c3 c4 e=>yYY _ (k₃ c o c1 c3 c4 e)⟩
theorem qYk {z TI TO i1 i2 l t:Addr}{k:Nat}{xs:Array Value}{Q:Fin→Shared→Prop}(hh:A.handled=none)(D:ZApart z TI TO i1 i2)(S:ZipSt s.heap z TI TO i1 i2 l t k)
  (hl:s.heap.IsList l xs) (nl:l≠z∧l≠TO∧l≠i1∧l≠i2) (hx:xs[k]? = none)
  (hE:∀h' e,(∀c o,c≠z→c≠TO→c≠i1→c≠i2→s.heap.get? c=some o→h'.get? c=some o)→(∃o,h'.get? e=some o∧o.cls=.type "StopIteration")→E (.ref e) { s with heap:=h' }):
  wpAny (model prog w) A (Builtin.«zip.__next__» ⟨[.ref z],[]⟩) Q E s:=by
 obtain⟨hz,hTI,⟨a,b,hTO⟩,h1,h2⟩:=S
 rcases hz with hz | ⟨T,f,hz,⟨oT,hT⟩,n1,n2,n3,n4⟩
 ·refine yYW (m:=field (.ref z) 2) (wpAny_field hz rfl (x:=.bool false) rfl ?_)
  refine yYW (m:=field (.ref z) 3) (wpAny_field hz rfl (x:=.ref TI) rfl ?_)
  refine yYW (wpAny_seqItems hTI rfl ?_)
  refine yYW (m:=Builtin.SmallTypes.ownedTupleIsFree (.ref z)) ?_
  unfold Builtin.SmallTypes.ownedTupleIsFree
  refine yYW (wpAny_field hz rfl (x:=.none) rfl (yYX ?_))
  simp only[if_true]
  refine yYW (wpAny_rule (yYW (wpAny_field hz rfl (x:=.ref TO) rfl (yYW (wpAny_setField_rec hz (by simp) fun h₁ hz₁ hs₁=>?_)))))
  replace hz₁:ZipAt h₁ z TI TO .ellipsis (.bool false):=hz₁
  refine yYW ?_
  simp only[List.zipIdx_cons,List.zipIdx_nil,List.forIn_cons,List.forIn_nil]
  refine yYW (yYW (wpAny_onRaise ?_))
  refine yYW (m:=Builtin.SmallTypes.nextOf (.ref i1)) (wpAny_nextOf_list_end hh (h1.extBut hs₁.extBut D.i1z) (hl.extBut hs₁.extBut nl.1) hx fun h₂ e hs₂ he=>?_)
  obtain⟨oe,hoe,hce⟩:=he
  have hz₂:ZipAt h₂ z TI TO .ellipsis (.bool false):=hs₂ _ _ D.i1z.symm hz₁
  have hez:e≠z:=fun x=>by subst x;rw[hz₂] at hoe;cases hoe;simp at hce
  exact wpAny_setField_rec hz₂ (by simp) fun h₃ _ hs₃=>hE h₃ e (fun c o c1 _ c3 _ x=>hs₃.extBut _ _ c1 (hs₂ _ _ c3 (hs₁.extBut _ _ c1 x))) ⟨oe,hs₃.extBut _ _ hez hoe,hce⟩
 ·refine yYW (m:=field (.ref z) 2) (wpAny_field hz rfl (x:=.bool false) rfl ?_)
  refine yYW (m:=field (.ref z) 3) (wpAny_field hz rfl (x:=.ref TI) rfl ?_)
  refine yYW (wpAny_seqItems hTI rfl ?_)
  refine yYW (m:=Builtin.SmallTypes.ownedTupleIsFree (.ref z)) ?_
  have step:∀{α:Type} (N:Bool→Sem α) (QQ:α→Shared→Prop),(∀h₁,ZipAt h₁ z TI TO (rawInt T) (.bool true)→Heap.SameBut z s.heap h₁→wpAny (model prog w) A (N false) QQ E { s with heap:=h₁ })→
    wpAny (model prog w) A (Builtin.SmallTypes.ownedTupleIsFree (.ref z)) (fun b s'=>wpAny (model prog w) A (N b) QQ E s') E s:=fun N QQ hN=>by
   unfold Builtin.SmallTypes.ownedTupleIsFree
   refine yYW (wpAny_field hz rfl (x:=rawInt T) rfl ?_)
   show wpAny _ _ (loadIfAlive ((T:Int).toNat) >>= _) _ _ _
   rw[Int.toNat_natCast]
   refine yYW (W.kdx_alive hT ?_)
   simp only[Option.isNone_some,yZJ,if_false]
   refine yYW (wpAny_field hz rfl (x:=.bool f) rfl ?_)
   cases f with
   | true=>rw[if_neg (show¬((Value.bool true != Value.bool true)=true) from yZK)];exact yYX (hN _ hz (.refl ..))
   | false=>rw[if_pos (show(Value.bool false != Value.bool true)=true from rfl)];exact yYW (wpAny_setField_rec hz (by simp) fun h₁ hz₁ hs₁=>yYX (hN h₁ hz₁ hs₁))
  refine step _ _ fun h₁ hz₁ hs₁=>?_
  simp only[yZJ,if_false]
  refine yYW ?_
  rw[← Array.forIn_toList]
  simp only[List.forIn_cons,List.forIn_nil]
  refine yYW (yYW (wpAny_holding ?_))
  refine yYW (m:=Builtin.SmallTypes.nextOf (.ref i1)) (wpAny_nextOf_list_end hh (h1.extBut hs₁.extBut D.i1z) (hl.extBut hs₁.extBut nl.1) hx fun h₂ e hs₂ he=>hE h₂ e (fun c o c1 _ c3 _ x=>hs₂ _ _ c3 (hs₁.extBut _ _ c1 x)) he)
theorem qEa {z TI TO i1 i2 l t:Addr}{k:Nat}{xs ys:Array Value}{x y:Value}{Q:Option Value→Shared→Prop}(D:ZApart z TI TO i1 i2)(S:ZipSt s.heap z TI TO i1 i2 l t k)
  (hl:s.heap.IsList l xs) (ht:s.heap.IsTuple t ys) (nl:l≠z∧l≠TO∧l≠i1∧l≠i2) (nt:t≠z∧t≠TO∧t≠i1∧t≠i2) (hx:xs[k]? = some x) (hy:ys[k]? = some y)
  (hQ:∀h' T,ZipSt h' z TI TO i1 i2 l t (k+1)→IsPair h' T x y→(∀c o,c≠z→c≠TO→c≠i1→c≠i2→s.heap.get? c=some o→h'.get? c=some o)→Q (some (.ref T)) { s with heap:=h' }):
  wpAny (model prog w) A (pyNext (.ref z)) Q E s:=by
 have hT:s.TypeIs (.ref z) "zip" := by
  rcases S.zip with h | ⟨_,_,h,_⟩ <;> exact⟨_,h,rfl⟩
 unfold pyNext
 exact yYW (wpAny_attempt (wpAny_callSpecial?_slot (name:=Str.ofString "__next__") hT F.slot_zip_next (wpAny_call_entry F.slot_zip_next hT F.entry_zip_next
   (qYv D S hl ht nl nt hx hy fun h' T a1 a2 a3=>yYX (hQ h' T a1 a2 a3)) (F.args_zip_next_1 _))))
theorem qXk {z TI TO i1 i2 l t:Addr}{k:Nat}{xs:Array Value}{Q:Option Value→Shared→Prop}(hh:A.handled=none)(D:ZApart z TI TO i1 i2)(S:ZipSt s.heap z TI TO i1 i2 l t k)
  (hl:s.heap.IsList l xs) (nl:l≠z∧l≠TO∧l≠i1∧l≠i2) (hx:xs[k]? = none)
  (hQ:∀h',(∀c o,c≠z→c≠TO→c≠i1→c≠i2→s.heap.get? c=some o→h'.get? c=some o)→Q none { s with heap:=h' }):wpAny (model prog w) A (pyNext (.ref z)) Q E s:=by
 have hT:s.TypeIs (.ref z) "zip" := by
  rcases S.zip with h | ⟨_,_,h,_⟩ <;> exact⟨_,h,rfl⟩
 unfold pyNext
 refine yYW (wpAny_attempt (wpAny_callSpecial?_slot (name:=Str.ofString "__next__") hT F.slot_zip_next (wpAny_call_entry F.slot_zip_next hT F.entry_zip_next (qYk hh D S hl nl hx fun h' e hk he=>?_) (F.args_zip_next_1 _))))
 obtain⟨o,ho,hc⟩:=he
 exact yYW (wpAny_isInstance (T := "StopIteration") (b:=true) ⟨o,ho,hc⟩ isSubtype_stop (yYX (hQ _ hk)))
theorem qEb {z TI TO i1 i2 l t:Addr}{k:Nat}{Q:Value→Shared→Prop}(S:ZipSt s.heap z TI TO i1 i2 l t k)(h:Q (.ref z) s):wpAny (model prog w) A (pyIter (.ref z)) Q E s:=by
 have hT:s.TypeIs (.ref z) "zip" := by
  rcases S.zip with h | ⟨_,_,h,_⟩ <;> exact⟨_,h,rfl⟩
 exact wpAny_pyIter_slot hT F.slot_zip_iter (wpAny_call_entry F.slot_zip_iter hT F.entry_zip_iter (yYX ⟨_,rfl,"zip",_,hT,F.slot_zip_next.lookup,h⟩) (F.args_zip_iter_1 _))
end
end PySem

namespace PySem
namespace FD
theorem entry_upd_loop:entryFor table "dict.update.loop" = some Builtin.«dict.update.loop»:=entryFor_of_tree (by kernel_rfl)
theorem plain_upd_loop:plainId "dict.update.loop" = true:=by decide +kernel
end FD
structure PairIt (prog:Program)(w:World)(A:Around)(d it:Addr)(fp:List Addr)(kvs:List (Value×Value))(St:Nat→Heap→Prop):Prop where
 frame:∀i h h',St i h→Heap.SameBut d h h'→(∃o,h'.get? d=some o)→St i h'
 item:∀(i:Nat) (s:Shared) (Q:Option Value→Shared→Prop) (E:Value→Shared→Prop) (k v:Value),kvs[i]? = some (k,v)→St i s.heap→
  (∀T h' tk n,St (i+1) h'→(∃o,h'.get? T=some o∧o.cls=.type "tuple" ∧ o.data=.seq #[k,v] n)→(∀b o,b∉fp→s.heap.get? b=some o→h'.get? b=some o)→Q (some (.ref T)) { s with heap:=h',toks:=tk })→wpAny (model prog w) A (pyNext (.ref it)) Q E s
 done:∀(s:Shared) (Q:Option Value→Shared→Prop) (E:Value→Shared→Prop),St kvs.length s.heap→
  (∀h' tk,(∀b o,b∉fp→s.heap.get? b=some o→h'.get? b=some o)→Q none { s with heap:=h',toks:=tk })→wpAny (model prog w) A (pyNext (.ref it)) Q E s
section
variable {prog:Program}{w:World}{K:Type}[DecidableEq K]{knd:KeyKind prog w K}{A:Around}
abbrev Keyed (knd:KeyKind prog w K):List (K×Value)→List (Value×Value)→Prop:=Paired fun p q=>knd.is p.1 q.1=true∧p.2=q.2
theorem qMb {ks:List (K×Value)}{kvs:List (Value×Value)}(h:Keyed knd ks kvs):∀{i:Nat} {p:K×Value},ks[i]? = some p→∃q,kvs[i]? = some q∧knd.is p.1 q.1=true∧p.2=q.2:=by
 induction h with
 | nil=>intro i p e;simp at e
 | cons f _ ih=>
  intro i p e
  cases i with
  | zero=>simp at e;subst e;exact⟨_,rfl,f⟩
  | succ i=>exact ih (i:=i) (by simpa using e)
theorem qYc {d it:Addr}{fp:List Addr}{kvs:List (Value×Value)}{ks:List (K×Value)}{St:Nat→Heap→Prop}(P:PairIt prog w A.in1 d it fp kvs St)(hk:Keyed knd ks kvs)(hd:d∉fp)(hz:ks.length≤1000){R:Result→Shared→Prop}{s₀:Shared}
  (hR:∀h' tk,(∀b o,b∉fp→b≠d→s₀.heap.get? b=some o→h'.get? b=some o)→h'.DictOf knd d (merged [] ks)→R (.ok (.ret .none)) { s₀ with heap:=h',toks:=tk }):
  ∀(m i:Nat) (h:Heap) (tk:Nat),ks.length - i=m→i≤ks.length→St i h→h.DictOf knd d (merged [] (ks.take i))→(∀b o,b∉fp→b≠d→s₀.heap.get? b=some o→h.get? b=some o)→
   codeAny (model prog w) A (.builtin "dict.update.loop" ⟨[.ref d,.ref it,rawInt i,.none],[]⟩) R { s₀ with heap:=h,toks:=tk }:=by
 intro m
 induction m with
 | zero=>
  intro i h tk hm hi st hD keep
  have e:i=ks.length:=by omega
  subst e
  refine codeAny_builtin FD.entry_upd_loop ?_
  rw[Around.under_plainId FD.plain_upd_loop _]
  rw[hk.length] at st
  refine yYW (m:=pyNext (.ref it)) (P.done { s₀ with heap:=h,toks:=tk } _ _ st fun h' tk' kp=>?_)
  rw[yYJ] at hD
  refine yYW (m:=Builtin.Dict.addKeywords d []) (yYX (yYX ?_))
  refine hR h' tk' (fun b o b1 b2 e=>kp b o b1 (keep b o b1 b2 e)) ?_
  obtain⟨o,es,ep,ho,r⟩:=hD
  exact⟨o,es,ep,kp _ _ hd ho,r⟩
 | succ m ih=>
  intro i h tk hm hi st hD keep
  have hlt:i<ks.length:=by omega
  obtain⟨p,ep⟩:∃p,ks[i]? = some p:=⟨_,yYA hlt⟩
  obtain⟨⟨kv,vv⟩,eq,hkey,hval⟩:=qMb hk ep
  have hval:p.2=vv:=hval
  refine codeAny_builtin FD.entry_upd_loop ?_
  rw[Around.under_plainId FD.plain_upd_loop _]
  refine yYW (m:=pyNext (.ref it)) (P.item i { s₀ with heap:=h,toks:=tk } _ _ kv vv eq st fun T h' tk' n st' hT kp=>?_)
  obtain⟨oT,hT,hTc,hTd⟩:=hT
  have hTy:Shared.TypeIs { s₀ with heap:=h',toks:=tk' } (.ref T) "tuple" := ⟨_,hT,hTc⟩
  have hD':h'.DictOf knd d (merged [] (ks.take i)):=by
   obtain⟨o,es,ep,ho,r⟩:=hD
   exact⟨o,es,ep,kp _ _ hd ho,r⟩
  refine yYW (wpAny_holding ?_)
  refine yYW (wpAny_tryCatch ?_)
  unfold Builtin.Dict.pairItems
  refine yYW (wpAny_typeOf hTy ?_)
  rw[if_pos (by decide)]
  refine yYW (wpAny_seqItems hT hTd (yYX ?_))
  refine wpAny_holding (wpAny_dictSet_pairs hkey hD' (fun h'' hD'' sb=>?_) ?_)
  ·refine yYX ⟨plainId_quiet FD.plain_upd_loop _,?_⟩
   have e1:merged [] (ks.take (i+1))=stored (merged [] (ks.take i)) p.1 p.2:=merged_take_succ [] ks i p ep
   rw[← hval] at hD''
   have:=ih (i+1) h'' (tk'+1) (by omega) hlt (P.frame _ _ _ st' sb (by obtain⟨o,_,_,ho,_⟩:=hD'';exact⟨o,ho⟩)) (by rw[e1];exact hD'') fun b o b1 b2 e=>(sb.2 b b2).trans (kp b o b1 (keep b o b1 b2 e))
   exact this
  ·have:=merged_length_le ([]:List (K×Value)) (ks.take i)
   rw[yYF,yYT] at this
   have e:sizeLine=16777216:=by decide
   omega

theorem kI {E:Value→Shared→Prop}{s:Shared}{a:Addr}{T:String}{Q:Value→Shared→Prop}(hT:s.TypeIs (.ref a) T)(hne:(Value.type T != Value.type "dict")=true)
  (h:∀E':Value→Shared→Prop,wpAny (model prog w) A.in1.in1 (getAttr? (.ref a) "keys") (fun r s2=>r=none∧wpAny (model prog w) A.in1.in1 (pyIter (.ref a)) (fun it s3=>codeAny (model prog w) A.in1 (.builtin "dict.update.loop" ⟨[.ref s.heap.objs.size,it,rawInt 0,.none],[]⟩)
   (wants (fun r s₂=>r=.none∧Q (.ref s.heap.objs.size) s₂) E) s3) E' s2) E' { s with heap:=s.heap.push { cls:=.type "dict",data:=.dict #[] } }):
  wpAny (model prog w) A (call (.type "dict") [.ref a]) Q E s:=by
 refine callType_codes (Q₁:=fun obj s₁=>obj=.ref s.heap.objs.size∧s₁={ s with heap:=s.heap.push { cls:=.type "dict",data:=.dict #[] } }) F.kt_called_dict (F.kt_typeCall_dict_1 _) F.entry_dict_init (kt_code_dict_new _ ⟨rfl,rfl⟩) ?_
 rintro obj s₁ ⟨rfl,rfl⟩
 have gd:(s.heap.push { cls:=.type "dict",data:=.dict #[] }).get? s.heap.objs.size=some { cls:=.type "dict",data:=.dict #[] }:=yZA _ rfl
 have hnew:Shared.TypeIs { s with heap:=s.heap.push { cls:=.type "dict",data:=.dict #[] } } (.ref s.heap.objs.size) "dict" := ⟨_,gd,rfl⟩
 have hT':Shared.TypeIs { s with heap:=s.heap.push { cls:=.type "dict",data:=.dict #[] } } (.ref a) T:=by
  obtain⟨o,ho,hc⟩:=hT
  exact⟨o,yYY _ ho,hc⟩
 refine⟨hnew,F.args_dict_init_2 _ _,?_⟩
 unfold Builtin.«dict.__init__»
 refine yYW ?_
 unfold Builtin.Dict.selfAndRest
 refine yYW (wpAny_notOrdered_dict hnew ?_)
 show wpAny _ _ (pure (s.heap.objs.size,[Value.ref a])) _ _ _
 refine yYX ?_
 show wpAny _ _ (Builtin.Dict.updateFrom "dict.__init__" s.heap.objs.size (.ref a) [] .none) _ _ _
 unfold Builtin.Dict.updateFrom
 refine yYW (wpAny_typeOf hT' ?_)
 rw[if_pos hne]
 refine yYW (wpAny_mono (h _) (fun r s2 hr=>?_) fun _ _ x=>x)
 obtain⟨rfl,hr⟩:=hr
 simp only[Option.isNone_none,if_true]
 refine yYW (wpAny_rule (yYW (wpAny_mono hr (fun it s3 hc=>?_) fun _ _ x=>x)))
 exact yYX ⟨plainId_quiet FD.plain_upd_loop _,hc⟩
end
section
variable {prog:Program}{w:World}{K:Type}[DecidableEq K]{knd:KeyKind prog w K}{A:Around}{E:Value→Shared→Prop}{s:Shared}
theorem vN (h:Heap):(h.push { cls:=.type "dict",data:=.dict #[] }).DictOf knd h.objs.size []:=Heap.DictOf.new h
theorem qKc {l t:Addr}{xs ys:Array Value}{ks:List (K×Value)}{Q:Value→Shared→Prop}(hh:A.handled=none)(hl:s.heap.IsList l xs)(ht:s.heap.IsTuple t ys)(hsz:xs.size=ys.size)(hk:Keyed knd ks (xs.toList.zip ys.toList))(hz:ks.length≤1000)
  (hQ:∀p h' tk,s.heap.objs.size≤p→(∀b o,s.heap.get? b=some o→h'.get? b=some o)→h'.DictOf knd p (merged [] ks)→Q (.ref p) { s with heap:=h',toks:=tk }):
  wpAny (model prog w) A (call (.type "zip") [.ref l,.ref t]) (fun z s1=>wpAny (model prog w) A (call (.type "dict") [z]) Q E s1) E s:=by
 refine qBb hl ht fun h1 z TI TO i1 i2 D S z1 z2 z3 z4 z5 keep1=>?_
 have hT:Shared.TypeIs { s with heap:=h1 } (.ref z) "zip" := by
  rcases S.zip with h | ⟨_,_,h,_⟩ <;> exact⟨_,h,rfl⟩
 have llt:l<s.heap.objs.size:=by obtain⟨o,e,_⟩:=hl;exact yYZ e
 have tlt:t<s.heap.objs.size:=by obtain⟨o,e,_⟩:=ht;exact yYZ e
 have zlt:∀x,x=z∨x=TI∨x=TO∨x=i1∨x=i2→x<h1.objs.size:=fun x hx=>by
  rcases hx with rfl | rfl | rfl | rfl | rfl
  ·rcases S.zip with h | ⟨_,_,h,_⟩ <;> exact yYZ h
  ·exact yYZ S.its
  ·obtain⟨_,_,h⟩:=S.own;exact yYZ h
  ·obtain⟨_,h,_⟩:=S.one;exact yYZ h
  ·obtain⟨_,h,_⟩:=S.two;exact yYZ h
 refine kI hT (by decide) fun E'=>?_
 have S2:ZipSt (h1.push { cls:=.type "dict",data:=.dict #[] }) z TI TO i1 i2 l t 0:=by
  refine⟨?_,yYY _ S.its,?_,S.one.at fun o e=>yYY _ e,S.two.at fun o e=>yYY _ e⟩
  ·rcases S.zip with h | ⟨T,f,h,⟨o,e⟩,r⟩
   ·exact .inl (yYY _ h)
   ·exact .inr ⟨T,f,yYY _ h,⟨o,yYY _ e⟩,r⟩
  ·obtain⟨a,b,e⟩:=S.own
   exact⟨a,b,yYY _ e⟩
 have dz:∀x,x=z∨x=TI∨x=TO∨x=i1∨x=i2→h1.objs.size≠x:=fun x hx=>yZG (zlt x hx)
 have old:s.heap.objs.size≤h1.objs.size:=Nat.le_of_lt (yZH z1 (zlt z (.inl rfl)))
 obtain⟨vs,hzip⟩:∃vs,(h1.push { cls:=.type "dict",data:=.dict #[] }).get? z=some { cls:=.type "zip",dict:=none,data:=.fields vs,slots:=#[] }:=by
  rcases S2.zip with h | ⟨_,_,h,_⟩ <;> exact⟨_,h⟩
 refine qKv hzip hh fun h2 tk2 kp2=>⟨rfl,?_⟩
 have S3:ZipSt h2 z TI TO i1 i2 l t 0:=by
  refine⟨?_,kp2 _ _ S2.its,?_,S2.one.at fun o e=>kp2 _ _ e,S2.two.at fun o e=>kp2 _ _ e⟩
  ·rcases S2.zip with h | ⟨T,f,h,⟨o,e⟩,r⟩
   ·exact .inl (kp2 _ _ h)
   ·exact .inr ⟨T,f,kp2 _ _ h,⟨o,kp2 _ _ e⟩,r⟩
  ·obtain⟨a,b,e⟩:=S2.own
   exact⟨a,b,kp2 _ _ e⟩
 refine qEb S3 ?_
 have hlen:(xs.toList.zip ys.toList).length=xs.size:=by rw[List.length_zip];simp[hsz]
 have ndl:l≠z∧l≠TO∧l≠i1∧l≠i2:=⟨yZE (yZD llt z1),yZE (yZD llt z3),yZE (yZD llt z4),yZE (yZD llt z5)⟩
 have ndt:t≠z∧t≠TO∧t≠i1∧t≠i2:=⟨yZE (yZD tlt z1),yZE (yZD tlt z3),yZE (yZD tlt z4),yZE (yZD tlt z5)⟩
 have nl5:l≠h1.objs.size:=yZE (yZD llt old)
 have nt5:t≠h1.objs.size:=yZE (yZD tlt old)
 have P:PairIt prog w A.in1.in1 h1.objs.size z [z,TO,i1,i2] (xs.toList.zip ys.toList) (fun i h=>ZipSt h z TI TO i1 i2 l t i∧h.IsList l xs∧h.IsTuple t ys):=
  {frame:=fun i h h' ⟨S,hl,ht⟩ sb ⟨od,hod⟩=>by
    have k:∀b o,b≠h1.objs.size→h.get? b=some o→h'.get? b=some o:=fun b o hb e=>(sb.2 b hb).trans e
    refine⟨⟨?_,k _ _ (dz TI (.inr (.inl rfl))).symm S.its,?_,S.one.at fun o e=>k _ _ (dz i1 (by simp)).symm e,S.two.at fun o e=>k _ _ (dz i2 (by simp)).symm e⟩,?_,?_⟩
    ·rcases S.zip with h | ⟨T,f,h,⟨o,e⟩,r⟩
     ·exact .inl (k _ _ (dz z (.inl rfl)).symm h)
     ·refine .inr ⟨T,f,k _ _ (dz z (.inl rfl)).symm h,?_,r⟩
      by_cases hTd:T=h1.objs.size
      ·exact⟨od,by rw[hTd];exact hod⟩
      ·exact⟨o,k _ _ hTd e⟩
    ·obtain⟨a,b,e⟩:=S.own
     exact⟨a,b,k _ _ (dz TO (by simp)).symm e⟩
    ·obtain⟨o,ho,r⟩:=hl;exact⟨o,k _ _ nl5 ho,r⟩
    ·obtain⟨o,ho,r⟩:=ht;exact⟨o,k _ _ nt5 ho,r⟩
   item:=fun i s Q E k v e ⟨S,hl,ht⟩ hQ=>by
    obtain⟨e1,e2⟩:=List.getElem?_zip_eq_some.mp e
    refine qEa D S hl ht ndl ndt (x:=k) (y:=v) (by simpa using e1) (by simpa using e2) fun h' T S' hT kp=>?_
    refine hQ T h' s.toks 0 ⟨S',?_,?_⟩ ⟨_,hT,rfl,rfl⟩ fun b o hb e=>kp b o (fun z=>hb (by simp[z])) (fun z=>hb (by simp[z])) (fun z=>hb (by simp[z])) (fun z=>hb (by simp[z])) e
    ·obtain⟨o,ho,r⟩:=hl;exact⟨o,kp _ _ ndl.1 ndl.2.1 ndl.2.2.1 ndl.2.2.2 ho,r⟩
    ·obtain⟨o,ho,r⟩:=ht;exact⟨o,kp _ _ ndt.1 ndt.2.1 ndt.2.2.1 ndt.2.2.2 ho,r⟩
   done:=fun s Q E ⟨S,hl,ht⟩ hQ=>by
    refine qXk (A:=A.in1.in1) hh D S hl ndl (by rw[hlen];simp) fun h' kp=>?_
    exact hQ h' s.toks fun b o hb e=>kp b o (fun z=>hb (by simp[z])) (fun z=>hb (by simp[z])) (fun z=>hb (by simp[z])) (fun z=>hb (by simp[z])) e }
 have kl:∀b o,s.heap.get? b=some o→h2.get? b=some o:=fun b o e=>kp2 _ _ (yYY _ (keep1 _ _ e))
 have hd0:h2.DictOf knd h1.objs.size (merged [] (ks.take 0)):=by
  obtain⟨o,es,ep,ho,r⟩:=vN (knd:=knd) h1
  exact⟨o,es,ep,kp2 _ _ ho,r⟩
 refine qYc (A:=A.in1) (s₀:={ s with heap:=h2,toks:=tk2 }) P hk (by simp[dz z,dz TO,dz i1,dz i2]) hz (fun h' tk kp hD=>⟨rfl,?fin⟩) ks.length 0 h2 tk2 (by simp) (yZF _) ⟨S3,?sl,?st⟩ hd0 (fun _ _ _ _ e=>e)
 case fin=>
  refine hQ _ h' tk old (fun b o e=>kp b o ?_ ?_ (kl b o e)) hD
  ·have bl:=yYZ e
   intro hb
   simp only[yYK,List.not_mem_nil,or_false] at hb
   rcases hb with rfl | rfl | rfl | rfl
   ·exact absurd (yZD bl z1) (Nat.lt_irrefl _)
   ·exact absurd (yZD bl z3) (Nat.lt_irrefl _)
   ·exact absurd (yZD bl z4) (Nat.lt_irrefl _)
   ·exact absurd (yZD bl z5) (Nat.lt_irrefl _)
  ·exact yZE (yZD (yYZ e) old)
 case sl=>obtain⟨o,ho,r⟩:=hl;exact⟨o,kl _ _ ho,r⟩
 case st=>obtain⟨o,ho,r⟩:=ht;exact⟨o,kl _ _ ho,r⟩
theorem qZl {l:Addr}{xs:Array Value}{n:Nat}{kvs:List (Value×Value)}{ks:List (K×Value)}{Q:Value→Shared→Prop}(hh:A.handled=none)(hl:s.heap.get? l=some { cls:=.type "list",data:=.seq xs n })
  (hp:∀(i:Nat) p,kvs[i]? = some p→∃T o m,xs[i]? = some (.ref T)∧s.heap.get? T=some o∧o.cls=.type "tuple" ∧ o.data=.seq #[p.1,p.2] m) (hlen:kvs.length=xs.size) (hk:Keyed knd ks kvs) (hz:ks.length≤1000)
  (hQ:∀p h' tk,s.heap.objs.size≤p→(∀b o,s.heap.get? b=some o→h'.get? b=some o)→h'.DictOf knd p (merged [] ks)→Q (.ref p) { s with heap:=h',toks:=tk }):
  wpAny (model prog w) A (call (.type "dict") [.ref l]) Q E s:=by
 refine kI (T := "list") ⟨_,hl,rfl⟩ (by decide) fun E'=>?_
 have kd:∀b o,s.heap.get? b=some o→(s.heap.push { cls:=.type "dict",data:=.dict #[] }).get? b=some o:=fun b o e=>yYY _ e
 refine qZh (kd _ _ hl) hh fun h2 tk2 kp2=>⟨rfl,?_⟩
 have kl:∀b o,s.heap.get? b=some o→h2.get? b=some o:=fun b o e=>kp2 _ _ (kd _ _ e)
 have L2:h2.IsList l xs:=⟨_,kl _ _ hl,rfl,n,rfl⟩
 refine wpAny_pyIter_list (s:={ s with heap:=h2,toks:=tk2 }) L2 ?_
 have k3:∀b o,h2.get? b=some o→(h2.push { cls:=.type "list_iterator",data:=.fields #[.ref l,.int 0 0] }).get? b=some o:=fun b o e=>yYY _ e
 have dlt:s.heap.objs.size<h2.objs.size:=yYZ (kp2 _ _ (yZA _ rfl))
 have P:PairIt prog w A.in1.in1 s.heap.objs.size h2.objs.size [h2.objs.size] kvs (fun i h=>h.IsListIter h2.objs.size l i∧∀b o,s.heap.get? b=some o→h.get? b=some o):=
  {frame:=fun i h h' ⟨S,kp⟩ sb _=>⟨S.at fun o e=>(sb.2 _ (yZG dlt)).trans e,fun b o e=>(sb.2 b (yZE (yYZ e))).trans (kp b o e)⟩
   item:=fun i s' Q E k v e ⟨S,kp⟩ hQ=>by
    obtain⟨T,o,m,ex,ho,hc,hd⟩:=hp i (k,v) e
    refine wpAny_pyNext_list_item S ⟨_,kp _ _ hl,rfl,n,rfl⟩ ex fun h' S' sb=>?_
    have nb:∀b o,s.heap.get? b=some o→b≠h2.objs.size:=fun b o e=>yZE (Nat.lt_trans (yYZ e) dlt)
    exact hQ T h' s'.toks m ⟨S',fun b o e=>(sb.2 b (nb b o e)).trans (kp b o e)⟩ ⟨o,(sb.2 T (nb T o ho)).trans (kp _ _ ho),hc,hd⟩ fun b o hb e=>(sb.2 b (fun z=>hb (by simp[z]))).trans e
   done:=fun s' Q E ⟨S,kp⟩ hQ=>by
    refine wpAny_pyNext_list_end (A:=A.in1.in1) hh S ⟨_,kp _ _ hl,rfl,n,rfl⟩ (by rw[hlen];simp) fun h' eb=>?_
    exact hQ h' s'.toks fun b o hb e=>eb b o (fun z=>hb (by simp[z])) e }
 have hd0:(h2.push { cls:=.type "list_iterator",data:=.fields #[.ref l,.int 0 0] }).DictOf knd s.heap.objs.size (merged [] (ks.take 0)):=by
  obtain⟨o,es,ep,ho,r⟩:=vN (knd:=knd) s.heap
  exact⟨o,es,ep,k3 _ _ (kp2 _ _ ho),r⟩
 refine qYc (A:=A.in1) (s₀:={ s with heap:=h2.push { cls:=.type "list_iterator",data:=.fields #[.ref l,.int 0 0] },toks:=tk2 }) P hk (by simp;exact yZE dlt) hz (fun h' tk kp hD=>⟨rfl,?_⟩) ks.length 0 _ tk2 (by simp) (yZF _) ⟨⟨_,yZA _ rfl,rfl,rfl⟩,fun b o e=>k3 _ _ (kl _ _ e)⟩ hd0 (fun _ _ _ _ e=>e)
 refine hQ _ h' tk (yZC _) (fun b o e=>kp b o ?_ (yZE (yYZ e)) (k3 _ _ (kl b o e))) hD
 simp only[yYL]
 exact yZE (Nat.lt_trans (yYZ e) dlt)
end
end PySem

namespace L2
open PySem PySem.Spec PyProof.Rows
theorem xVg:bootBuiltins "zip" = some (.type "zip"):=by decide +kernel
def zipK (ns:List Str)(xs:List V):List (Key×V):=(ns.zip xs).map fun p=>(Sum.inr p.1,p.2)
def pairK (kvs:List (Str×V)):List (Key×V):=kvs.map fun p=>(Sum.inr p.1,p.2)
theorem qKo {P:Program}{w:World}:∀{ns:List Str} {xs:List V} {us vs:List Value},Vals (ns.map V.str) us→Vals xs vs→ns.length=xs.length→∃ks:List (Key×Value),Keyed (xN P w) ks (us.zip vs)∧KV (zipK ns xs) ks∧ks.length=ns.length
 | [],[],_,_,.nil,.nil,_=>⟨[],.nil,.nil,rfl⟩
 | n::ns,x::xs,_,_,.cons r1 t1,.cons (b:=v) r2 t2,hl=>by
  obtain⟨ks,h1,h2,h3⟩:=qKo (P:=P) (w:=w) t1 t2 (by simpa using hl)
  obtain⟨t,rfl⟩:=r1
  exact⟨(Sum.inr n,v)::ks,.cons ⟨kC P w n t,rfl⟩ h1,.cons ⟨rfl,r2⟩ h2,by simp[h3]⟩
 | [],_::_,_,_,_,_,hl=>by simp at hl
 | _::_,[],_,_,_,_,hl=>by simp at hl
section
variable {X:Cx}{pins:List (Addr×Obj)}{σ:St}{H:Hp}{s:Shared}
theorem Inv.newDict {Q:VK}{p:Addr}{h':Heap}{tk:Nat}{kvs:List (Key×V)}{ks:List (Key×Value)}(I:Inv X pins σ H s)(hp:s.heap.objs.size≤p)(keep:∀b o,s.heap.get? b=some o→h'.get? b=some o)
  (rel:KV kvs ks) (hk:ks.length≤1000) (hD:h'.DictOf (xN X.prog X.w) p (merged [] ks)) (q:Q (.ref p) (upd H p (.dK (mergeK [] kvs)))):EP X pins σ Q (.ref p) { s with heap:=h',toks:=tk }:=by
 refine⟨.ref p,upd H p (.dK (mergeK [] kvs)),I.laid (o:=.dK (mergeK [] kvs)) keep hp ⟨?_,?_,merged [] ks,KV.merge rel .nil,hD⟩,rfl,q⟩
 ·have l1:=kF kvs []
  have l2:=rel.length
  have e:sizeLine=16777216:=by decide
  rw[yYT] at l1
  omega
 ·have:=I.big
  have ne:p≠sysModules:=yZG (yZD this hp)
  exact beq_eq_false_iff_ne.mpr ne
def qPm (K:yZO)(ta:TA):TE:=fun σ H Q=>ta σ H fun vs H1=>∃l t ns xs,vs=[.ref l,.ref t]∧SqL K H1 l (ns.map V.str)∧SqT K H1 t xs∧ns.length=xs.length∧ns.length≤1000∧
 ∀p,H1 p=none→Q (.ref p) (upd H1 p (.dK (mergeK [] (zipK ns xs))))
theorem qAc {a b:Expr}{ta:TA}{p p2 pos pos2:Pos}(hc:X.calm=true)(hg:Gl X "dict")(hm:X.mg "dict" = none)(hg2:Gl X "zip")(hm2:X.mg "zip" = none)(ha:PA X [a,b] ta)
  (he:starEach [.Call (.Name "zip" p2) [a,b] [] pos2] X.env=[(false,eval (.Call (.Name "zip" p2) [a,b] [] pos2) X.env)]:=by rfl)
  (he2:starEach [a,b] X.env=[(false,eval a X.env),(false,eval b X.env)]:=by rfl) (he3:starEach [b] X.env=[(false,eval b X.env)]:=by rfl):
  PE X (.Call (.Name "dict" p) [.Call (.Name "zip" p2) [a,b] [] pos2] [] pos) (qPm X.K ta):=by
 intro pins s σ H Q I h
 refine Call_ (qXm I hg hm qZb (PyProof.Rows.callWith_type1 ?_ he rfl))
 rw[he]
 refine Calls.spliced_cons (Call_ (qXm I hg2 hm2 xVg (PyProof.Rows.callWith_type1 (thn (ha pos2 pins s σ H _ I h) fun us s1 ⟨vs,H1,I1,r1,q1⟩=>?_) (by rw[he2,he3]) (by rw[he3];rfl))))
 obtain⟨l,t,ns,xs,rfl,hl,ht,hlen,h1000,q⟩:=q1
 obtain⟨u,v,rfl,ru,rv⟩:=vals2 r1
 cases ru;cases rv
 obtain⟨its,r2,p2',_⟩:=I1.list hl
 obtain⟨its2,r3,p3,_⟩:=I1.tuple ht
 obtain⟨ks,k1,k2,k3⟩:=qKo (P:=X.prog) (w:=X.w) r2 r3 hlen
 have e1:=r2.length
 have e2:=r3.length
 rw[yYC] at e1
 refine thn (qKc (knd:=xN X.prog X.w) (ks:=ks) (I1.ok.hd hc) p2'.isList (show s1.heap.IsTuple t its2.toArray from p3) (by simp only[yYD];omega) (by simpa using k1) (by omega) fun p' h' tk hp keep hD=>?_) fun z s2 hz=>Calls.spliced_nil hz
 exact I1.newDict hp keep k2 (by omega) hD (q p' (I1.hok.fresh hp))
def PairIn (H:Hp)(kv:Str×V)(u:V):Prop:=∃a,u=.ref a∧H a=some (.tup [.str kv.1,kv.2])
theorem qAe (I:Inv X pins σ H s):∀{kvs:List (Str×V)} {us:List V} {its:List Value},Paired (PairIn H) kvs us→Vals us its→∃(vv:List (Value×Value)) (ks:List (Key×Value)),
  (∀(i:Nat) p,vv[i]? = some p→∃T o m,its[i]? = some (.ref T)∧s.heap.get? T=some o∧o.cls=.type "tuple" ∧ o.data=.seq #[p.1,p.2] m)∧vv.length=its.length∧Keyed (xN X.prog X.w) ks vv∧KV (pairK kvs) ks∧ks.length=kvs.length:=by
 intro kvs us its hp
 induction hp generalizing its with
 | nil=>
  intro hv
  cases hv
  exact⟨[],[],fun i p e=>by simp at e,rfl,.nil,.nil,rfl⟩
 | @cons kv _ _ _ f t ih=>
  intro hv
  cases hv with
  | cons r t2=>
  obtain⟨n,x⟩:=kv
  obtain⟨vv,ks,h1,h2,h3,h4,h5⟩:=ih t2
  obtain⟨a,rfl,ha⟩:=f
  cases r
  obtain⟨z,its,rv,o,ho,hc,m,hd,_⟩:=I.hok a _ ha
  obtain⟨u,v,rfl,ru,rv'⟩:=vals2 rv
  obtain⟨tk,rfl⟩:=ru
  refine⟨(.str n tk,v)::vv,(Sum.inr n,v)::ks,fun i p e=>?_,by simp[h2],.cons ⟨kC _ _ n tk,rfl⟩ h3,.cons ⟨rfl,rv'⟩ h4,by simp[h5]⟩
  cases i with
  | zero=>
   simp at e
   subst e
   exact⟨a,o,m,rfl,ho,hc,hd⟩
  | succ i=>exact h1 i p (by simpa using e)
theorem qWd (hc:X.calm=true):CallR X (.type "dict") (fun vs H Q=>∃l us kvs,vs=[.ref l]∧H l=some (.lst us)∧Paired (PairIn H) kvs us∧kvs.length≤1000∧∀p,H p=none→Q (.ref p) (upd H p (.dK (mergeK [] (pairK kvs))))):=by
 intro pins s σ H vs us Q I r h
 obtain⟨l,xs,kvs,rfl,hl,hp,h1000,q⟩:=h
 obtain⟨u,rfl,ru⟩:=vals1 r
 cases ru
 obtain⟨z,its,n,rv,hlen,e⟩:=I.lstM hl
 obtain⟨vv,ks,k1,k2,k3,k4,k5⟩:=qAe I hp rv
 refine qZl (knd:=xN X.prog X.w) (ks:=ks) (kvs:=vv) (I.ok.hd hc) e (fun i p ep=>?_) (by simp[k2]) k3 (by omega) fun p h' tk hp' keep hD=>I.newDict hp' keep k4 (by omega) hD (q p (I.hok.fresh hp'))
 obtain⟨T,o,m,a1,a2⟩:=k1 i p ep
 exact⟨T,o,m,by simpa using a1,a2⟩
end
end L2

namespace FP
open PySem L2

inductive Th where
 | num (n:Int) | box (x:Str) | nul (k:Str) | un (k:Str) (a:Th) | bin (k:Str) (a b:Th)
namespace Th
def Op (k:Str):Prop:=k ≠ "box" ∧ k ≠ "number"
def dep:Th→Nat
 | num _=>1
 | box _=>1
 | nul _=>1
 | un _ a=>a.dep+1
 | bin _ a b=>max a.dep b.dep+1
theorem dep_pos:∀t:Th,1≤t.dep
 | num _=>yZC _
 | box _=>yZC _
 | nul _=>yZC _
 | un _ a=>by show 1≤a.dep+1;omega
 | bin _ a b=>by show 1≤max a.dep b.dep+1;omega
def At (H:Hp):Th→V→Prop
 | num n,v=>∃a,v=.ref a∧H a=some (.tup [.str "number",.int n])
 | box x,v=>∃a,v=.ref a∧H a=some (.tup [.str "box",.str x])
 | nul k,v=>∃a,v=.ref a∧H a=some (.tup [.str k])
 | un k t,v=>∃a u,v=.ref a∧H a=some (.tup [.str k,u])∧t.At H u
 | bin k t r,v=>∃a u w,v=.ref a∧H a=some (.tup [.str k,u,w])∧t.At H u∧r.At H w
def _root_.FP.Tups (H H':Hp):Prop:=∀b xs,H b=some (.tup xs)→H' b=some (.tup xs)
theorem At.mono {H H':Hp}(h:Tups H H'):∀{t:Th} {v:V},t.At H v→t.At H' v
 | num _,_,⟨a,e,q⟩=>⟨a,e,h _ _ q⟩
 | box _,_,⟨a,e,q⟩=>⟨a,e,h _ _ q⟩
 | nul _,_,⟨a,e,q⟩=>⟨a,e,h _ _ q⟩
 | un _ t,_,⟨a,u,e,q,r⟩=>⟨a,u,e,h _ _ q,At.mono h r⟩
 | bin _ t r,_,⟨a,u,w,e,q,r1,r2⟩=>⟨a,u,w,e,h _ _ q,At.mono h r1,At.mono h r2⟩
end Th
theorem qC {H H':Hp}(s:Same H H'):Tups H H':=fun b xs h=>s b _ h
theorem Tups.trans {H H1 H2:Hp}(a:Tups H H1)(b:Tups H1 H2):Tups H H2:=fun c xs h=>b c xs (a c xs h)

theorem small {n:Nat}(h:n≤10000):n<sizeLine:=yZH h (by decide)
theorem smallE {n:Nat}(h:n≤10000):n≤sizeLine:=Nat.le_of_lt (small h)
theorem xWf:("number" : Str) ≠ "box" := by decide +kernel
theorem xV {a b:Str}(h:a≠b):decide (V.str a=V.str b)=false:=decide_eq_false (by intro z;cases z;exact h rfl)
theorem yU (a:Str):decide (V.str a=V.str a)=true:=decide_eq_true rfl

abbrev strsV (ws:List Str):List V:=ws.map V.str
theorem xW (ws:List Str):(strsV ws).length=ws.length:=yYC _

theorem vS (a b:List Str):strsV (a++b)=strsV a++strsV b:=yYV
abbrev intsV (ns:List Int):List V:=ns.map V.int
theorem qJi (a:List Int)(x:Int):intsV (a++[x])=intsV a++[.int x]:=yYV
theorem zM (ws:List Int):(intsV ws).length=ws.length:=yYC _

end FP

namespace L2
open PySem PySem.Spec PyProof.Rows

section
variable {X:Cx}{K:yZO}
theorem qT (hK:X.K=K:=by rfl):IxR X (rIxL K):=by subst hK;exact xZf
theorem qS (hK:X.K=K:=by rfl):IxR X (rIxT K):=by subst hK;exact xVw
theorem qYf (hK:X.K=K:=by rfl):SlR X (rSlL K):=by subst hK;exact xXv
def rLen (K:yZO):List V→Hp→VK→Prop:=fun xs H Q=>∃p ys,xs=[.ref p]∧(SqL K H p ys∨SqT K H p ys)∧Q (.int ys.length) H
theorem xP (hK:X.K=K:=by rfl):CallR X (.builtin "len") (rLen K):=by subst hK;exact qWb
def xXb (K:yZO):List V→Hp→VK→Prop:=fun xs H Q=>∃p ys,xs=[.ref p]∧(SqL K H p ys∨SqT K H p ys)∧∀l,H l=none→Q (.ref l) (upd H l (.lst ys))
theorem qYj (hK:X.K=K:=by rfl):CallR X (.type "list") (xXb K):=by subst hK;exact qWa
def rTupOf (K:yZO):List V→Hp→VK→Prop:=fun xs H Q=>∃p ys,xs=[.ref p]∧SqL K H p ys∧∀l,H l=none→Q (.ref l) (upd H l (.tup ys))
theorem vP (hK:X.K=K:=by rfl):CallR X (.type "tuple") (rTupOf K):=by
 subst hK
 intro pins s σ H xs us Q I r h
 obtain⟨p,ys,e,hs,q⟩:=h
 exact qKb pins s σ H xs us Q I r ⟨p,ys,e,.inl ⟨hs,q⟩⟩
def rIsIn (K:yZO):List V→Hp→VK→Prop:=fun xs H Q=>∃x T t b,xs=[x,.ty T]∧TyOf K H x t∧PySem.W.kitOne K t (.type T)=some b∧Q (.bl b) H
theorem qQk (hK:X.K=K:=by rfl):CallR X (.builtin "isinstance") (rIsIn K):=by subst hK;exact qBc
theorem xQq (hK:X.K=K:=by rfl):OpR X (compareOp .In) (rIn K false):=by subst hK;exact qIl
theorem qIh (hu:X.A.units+64<cLine)(hK:X.K=K:=by rfl):OpR X (compareOp .NotEq) (rEqL K false):=by subst hK;exact xKd hu
def rEqE (K:yZO):R2:=fun x y H Q=>∃a b xs,x=.ref a∧y=.ref b∧SqL K H a xs∧SqL K H b []∧Q (.bl xs.isEmpty) H
theorem qIn (hu:X.A.units+64<cLine)(hK:X.K=K:=by rfl):OpR X (compareOp .Eq) (rEqE K):=by
 subst hK
 intro pins s σ H x y v u Q I rx ry h
 obtain⟨a,b,xs,rfl,rfl,ha,hb,q⟩:=h
 cases xs with
 | nil=>exact xKh hu pins s σ H _ _ v u Q I rx ry ⟨0,a,b,[],[],by omega,rfl,rfl,ha,hb,rfl,fun j x y e=>by simp at e,q⟩
 | cons z zs=>
  cases rx;cases ry
  obtain⟨its,r1,p1,_⟩:=I.list ha
  obtain⟨its2,r2,p2,_⟩:=I.list hb
  have l1:=r1.length
  have l2:=r2.length
  refine SeqAt.RcAt.lists_lengths p1.isList p2.isList ?_ (by omega) _ _ _ _ ⟨.bl false,H,I,rfl,q⟩
  simp only[yYS,yYT] at l1 l2
  rw[bne_iff_ne,yYD,yYD]
  omega
def rEqT (K:yZO):R2:=fun x y H Q=>∃n a b xs ys,n≤60∧x=.ref a∧y=.ref b∧SqT K H a xs∧SqT K H b ys∧xs.length=ys.length∧(∀(j:Nat) x y,xs[j]? = some x→ys[j]? = some y→DEq K H n x y)∧Q (.bl true) H
theorem qIm (hu:X.A.units+64<cLine)(hK:X.K=K:=by rfl):OpR X (compareOp .Eq) (rEqT K):=by subst hK;exact xKg hu
variable {tg l o e:Expr}{es:List Expr}{tl to:TE}{t:TA}{name:Str}{pos apos cpos:Pos}{T id:String}{r:V→List V→Hp→VK→Prop}
theorem qU (hl:PE X l tl)(hK:X.K=K:=by rfl):PI X tg l (iList K tl):=by subst hK;exact qIw hl
theorem xXi (hl:PE X l tl)(hK:X.K=K:=by rfl):PI X tg l (iTup K tl):=by subst hK;exact xKk hl
theorem yF {es:List Expr}{k:Nat}{t:TGs}{n:Nat}(hc:X.calm=true)(h:PGs X es t)
  (hn:(assignEach es X.env).length=n:=by rfl) (hst:(assignEach es X.env).findIdx? (·.1)=none:=by rfl) (hK:X.K=K:=by rfl):PG X (.Tuple es k pos) (gTup K n t):=by subst hK;exact qUo hc h hn hst
theorem kS (pa:PlainAttrs T)(slot:Slot T name id)(hty:typeOf (.builtin id)=pure (.type "method_descriptor"))(hm:MtR X id r)(ho:PE X o to)(ha:PA X (e::es) t)
  (hbase:attributeBase o name X.env (eval o X.env)=eval o X.env:=by rfl)
  (hfew:((backTo cpos (starEach (e::es) X.env)).all (fun x=>!x.1) && (backToKw cpos (keywordEach [] X.env)).all (fun x=>x.1.isSome)
   && decide ((e::es).length+([]:List Keyword).length+(if ([]:List Keyword).isEmpty then 0 else 1)<30))=true:=by rfl)
  (hline:(apos.endLine == cpos.line)=true:=by rfl) (hs:starEach (e::es) X.env=(false,eval e X.env)::starEach es X.env:=by rfl) (hplain:(backTo cpos (starEach es X.env)).any (·.1)=false:=by rfl) (hK:X.K=K:=by rfl):
  PE X (.Call (.Attribute o name apos) (e::es) [] cpos) (tBM K T r to t):=by
 subst hK;exact xWc pa slot hty hm ho ha hbase hfew hline hs hplain
end

structure Dn (P:Program)(w:World)(K:yZO)(mg:Str→Option Value)(base:Heap)(x:Str)(k:Nat)(ps:List Str)(sp:Sp):Prop where
 ex:∃f fd,FnOk P w K mg base CX0 k f fd ps sp∧mg x=some (.ref f)∧PySem.W.keepIn K (.ref f)=true∧Binds K fd ps []
section
variable {X:Cx}{P:Program}{w:World}{K:yZO}{mg:Str→Option Value}{base:Heap}{j k:Nat}{ps:List Str}{sp:Sp}{x:Str}{p pos:Pos}{e:Expr}{es:List Expr}{t:TA}
theorem qD (D:Dn P w K mg base x j ps sp)(hr:Room k X.A)(ha:PA X (e::es) t)(hjk:j≤k:=by first | decide | omega)(hg:Gl X x:=by rfl)
  (h1:X.prog=P:=by rfl) (h2:X.w=w:=by rfl) (h3:X.K=K:=by rfl) (h4:X.mg=mg:=by rfl) (h5:X.base=base:=by rfl)
  (hdb:(x == ("__debug__" : Str))=false:=by decide) (he:starEach (e::es) X.env=(false,eval e X.env)::starEach es X.env:=by rfl) (hpl:(backTo pos (starEach es X.env)).any (·.1)=false:=by rfl):
  PE X (.Call (.Name x p) (e::es) [] pos) (tCall sp [] E0 t):=by
 subst h1 h2 h3 h4 h5
 obtain⟨f,fd,F,a,b,c⟩:=D.ex
 exact qXb (F.mono hjk) hr hg a b c .nil pass0 ha hdb he hpl
end

def kidsE:Expr→List Expr
 | .BoolOp _ vs _=>vs
 | .BinOp l _ r _=>[l,r]
 | .UnaryOp _ a _=>[a]
 | .IfExp a b c _=>[a,b,c]
 | .ListComp e gs _ _=>e::gs.flatMap fun g=>g.iter::g.ifs
 | .Compare l _ cs _=>l::cs
 | .Call f as _ _=>f::as
 | .Attribute v _ _=>[v]
 | .Subscript a b _=>[a,b]
 | .List es _=>es
 | .Tuple es _ _=>es
 | .Slice a b c _=>a.toList++b.toList++c.toList
 | _=>[]
def downE (e:Expr):List Nat→Expr
 | []=>e
 | i::p=>downE ((kidsE e).getD i (.Constant .none 0 ⟨0,0,0,0⟩)) p
def exprS:Stmt→Expr
 | .Assign _ v _=>v
 | .Return (some v) _=>v
 | .Expr v _=>v
 | .If t _ _ _=>t
 | .While t _ _ _=>t
 | .For _ it _ _ _=>it
 | _=>.Constant .none 0 ⟨0,0,0,0⟩
def blockS:Stmt→List Stmt
 | .If _ a b _=>a++b
 | .For _ _ b _ _=>b
 | .While _ b _ _=>b
 | _=>[]
def stmtAt (body:List Stmt):List Nat→Stmt
 | []=>.Pass ⟨0,0,0,0⟩
 | [i]=>body.getD i (.Pass ⟨0,0,0,0⟩)
 | i::j::p=>stmtAt (blockS (body.getD i (.Pass ⟨0,0,0,0⟩))) (j::p)
abbrev scAt (body:List Stmt)(p q:List Nat):Scope:=qHk (downE (exprS (stmtAt body p)) q)
def relS (scope sc:Scope):Scope:=
 { scope with names:=scope.names.map fun(n,k)=>if (k == .free && sc.kind == .function && sc.names.lookup n == some .cell) then (n,.cell) else (n,k) }

def tCut (t u:TS):TS:=fun D σ H=>∃Pv:St→Hp→Prop,t { D with nx:=Pv } σ H∧∀σ' H',Pv σ' H'→u D σ' H'
theorem qK {X:Cx}{st:Stmt}{rest:List Stmt}{t u:TS}(h1:PS X st t)(h2:PSs X rest u):PSs X (st::rest) (tCut t u):=by
 intro pins s σ H D I h
 obtain⟨Pv,q1,q2⟩:=h
 refine wpAny_execs_cons (thn (h1 pins s σ H { D with nx:=Pv } I q1) fun f s1 q=>?_)
 cases f with
 | next=>
  obtain⟨σ',H',I',q⟩:=q
  exact h2 pins s1 σ' H' D I' (q2 σ' H' q)
 | ret v=>exact q
 | brk=>exact q
 | cont=>exact q

section
variable {σ:St}{H:Hp}{Q:VK}{R:Bool→Hp→Prop}{S:St→Hp→Prop}{L:List V→Hp→Prop}{O:Option Int→Hp→Prop}{D:Ends}{ta tb tc:TE}{t u:TT}{a b:TS}{x y v:V}{i j:Int}{c:Bool}{K:yZO}
theorem w_var {k:Nat}(h:σ[k]? = some (some v))(q:Q v H):tVar k σ H Q:=⟨v,h,q⟩
theorem w_c (q:Q v H):tC v σ H Q:=q
theorem w_op {r:R2}(q:ta σ H fun x H1=>tb σ H1 fun y H2=>r x y H2 Q):tOp r ta tb σ H Q:=q
theorem w_un {r:V→Hp→VK→Prop}(q:ta σ H fun x H1=>r x H1 Q):tUn r ta σ H Q:=q
theorem w_I0 {g:Int→Int→V}(q:Q (g i j) H):rI0 g (.int i) (.int j) H Q:=⟨i,j,rfl,rfl,q⟩
theorem w_I {C:Int→Int→Prop}{g:Int→Int→V}(h:C i j)(q:Q (g i j) H):rI C g (.int i) (.int j) H Q:=⟨i,j,rfl,rfl,h,q⟩
theorem w_U {g:Int→V}(q:Q (g i) H):rU g (.int i) H Q:=⟨i,rfl,q⟩
theorem w_eq (h:scal x y=true)(q:Q (.bl (decide (x=y))) H):rEq x y H Q:=⟨h,q⟩
theorem w_ne (h:scal x y=true)(q:Q (.bl (!decide (x=y))) H):rNe x y H Q:=⟨h,q⟩
theorem xQg {p:Addr}{xs:List V}(h:SqL K H p xs)(e:atI xs i=some v)(q:Q v H):rIxL K (.ref p) (.int i) H Q:=⟨p,xs,i,v,rfl,rfl,h,e,q⟩
theorem xWj {p:Addr}{xs:List V}(h:SqT K H p xs)(e:atI xs i=some v)(q:Q v H):rIxT K (.ref p) (.int i) H Q:=⟨p,xs,i,v,rfl,rfl,h,e,q⟩
theorem xYv (q:ta σ H fun x H'=>∃k,x=.bl k∧R k H'):tTest ta σ H R:=q
theorem w_B (q:ta σ H fun x H'=>∃k,x=.bl k∧R k H'):tB ta σ H R:=q
theorem w_bl {F:Bool→Prop}(q:F c):∃k,V.bl c=.bl k∧F k:=⟨c,rfl,q⟩
theorem w_not (q:t σ H fun c H1=>R (!c) H1):tNot t σ H R:=q
theorem w_and (q:t σ H fun c H1=>if c=true then u σ H1 R else R false H1):tAnd t u σ H R:=q
theorem w_or (q:t σ H fun c H1=>if c=true then R true H1 else u σ H1 R):tOr t u σ H R:=q
theorem xYn (q:ta σ H fun x H1=>∃c,x=.bl c∧if c=true then tb σ H1 Q else Q (.bl false) H1):tAndV ta tb σ H Q:=q
theorem xYb (q:ta σ H fun x H1=>∃c,x=.bl c∧Q (.bl (!c)) H1):tNotV ta σ H Q:=q
theorem w_if (q:t σ H fun c H1=>if c=true then ta σ H1 Q else tb σ H1 Q):tIf t ta tb σ H Q:=q
theorem qFl (q:D.nx σ H):tNext D σ H:=q
theorem qPd (q:a { D with nx:=b D } σ H):tSeq a b D σ H:=q
theorem xYf (q:ta σ H fun _ H1=>D.nx σ H1):tDrop ta D σ H:=q
theorem xWq (q:ta σ H D.rt):tRet ta D σ H:=q
theorem xWk (q:t σ H fun c H1=>if c=true then a D σ H1 else b D σ H1):tIfS t a b D σ H:=q
theorem xWa {g:TG}(q:ta σ H fun x H1=>g x σ H1 D.nx):tAsg ta g D σ H:=q
theorem qBl {k:Nat}(q:S (σ.set k (some v)) H):gName k v σ H S:=q
theorem xYe (q:S σ H):gNil [] σ H S:=⟨rfl,q⟩
theorem xQl {g:TG}{gs:TGs}{vs:List V}(q:g v σ H fun σ' H'=>gs vs σ' H' S):gCons g gs (v::vs) σ H S:=⟨v,vs,rfl,q⟩
theorem xYd {n:Nat}{gs:TGs}{p:Addr}{xs:List V}(h:SqT K H p xs)(e:xs.length=n)(q:gs xs σ H S):gTup K n gs (.ref p) σ H S:=⟨p,xs,rfl,h,e,q⟩
theorem xWx (q:L [] H):tNil σ H L:=q
theorem xYi {ts:TA}(q:ta σ H fun x H1=>ts σ H1 fun xs H2=>L (x::xs) H2):tCons ta ts σ H L:=q
theorem xVo {ts:TA}(q:ts σ H fun xs H1=>xs.length≤sizeLine∧∀p,H1 p=none→Q (.ref p) (upd H1 p (.tup xs))):tTup ts σ H Q:=q
theorem xWz {ts:TA}(q:ts σ H fun xs H1=>xs.length≤sizeLine∧∀p,H1 p=none→Q (.ref p) (upd H1 p (.lst xs))):tLst ts σ H Q:=q
theorem xYm {sp:Sp}{dvs:List V}{E:XK}{ts:TA}(q:ts σ H fun vs H1=>sp (vs++dvs) H1 Q E):tCall sp dvs E ts σ H Q:=q
theorem w_cb {r:List V→Hp→VK→Prop}{ts:TA}(q:ts σ H fun vs H1=>r vs H1 Q):tCB r ts σ H Q:=q
theorem w_bm {T:String}{r:V→List V→Hp→VK→Prop}{ts:TA}(q:ta σ H fun x H1=>tyV K T x H1∧ts σ H1 fun xs H2=>r x xs H2 Q):tBM K T r ta ts σ H Q:=q
theorem xQf {p:Addr}{xs:List V}{A:Prop}(h:SqL K H p xs)(q:A):tyV K "list" (.ref p) H∧A:=⟨.inl ⟨rfl,xs,h⟩,q⟩
theorem qPe (q:O none H):qGa σ H O:=q
theorem xYa (q:ta σ H fun x H1=>∃i,x=.int i∧O (some i) H1):tPart ta σ H O:=q
theorem xWw {F:Int→Prop}(q:F i):∃k,V.int i=.int k∧F k:=⟨i,rfl,q⟩
theorem w_sl {r:V→Option Int→Option Int→Hp→VK→Prop}{tl th:TO}(q:ta σ H fun x H1=>tl σ H1 fun l H2=>th σ H2 fun u H3=>r x l u H3 Q):tSl r ta tl th σ H Q:=q
theorem w_len {p:Addr}{xs:List V}(h:SqL K H p xs∨SqT K H p xs)(q:Q (.int xs.length) H):rLen K [.ref p] H Q:=⟨p,xs,rfl,h,q⟩
theorem xYh {td ty:TE}(q:td σ H fun x H1=>ty σ H1 fun y H2=>∃a v,x=.ref a∧DGet H2 a y (some v)∧Q v H2):tDGet td ty σ H Q:=q
theorem xYg {td ty tv:TE}(q:tv σ H fun v H1=>td σ H1 fun x H2=>ty σ H2 fun y H3=>∃a H4,x=.ref a∧DPut H3 a y v H4∧D.nx σ H4):sDPut td ty tv D σ H:=q
theorem qYa {p:Addr}{xs:List V}(h:H p=some (.lst xs))(e:xs.length<sizeLine)(q:Q .non (upd H p (.lst (xs++[y])))):qHh (.ref p) [y] H Q:=⟨p,xs,y,rfl,rfl,h,e,q⟩
theorem xQi {W:It→Hp→Prop}(q:ta σ H fun x H1=>∃a,x=.ref a∧(∃xs,SqL K H1 a xs)∧W (Itl K a) H1):iList K ta σ H W:=q
theorem xYc {W:It→Hp→Prop}(q:ta σ H fun x H1=>∃a,x=.ref a∧(∃xs,SqT K H1 a xs)∧W (Itt K a) H1):iTup K ta σ H W:=q
theorem xYw {W:It→Hp→Prop}{ts:TA}(q:ts σ H fun vs H1=>∃j:Int,vs=[.int j]∧-(2 ^ 62)≤j∧j<2 ^ 62∧W (Itr 0 j.toNat) H1):iRng1 ts σ H W:=q
theorem qBi {A B:Prop}(h:c=true)(q:A):if c=true then A else B:=by rw[if_pos h];exact q
theorem wA {A B:Prop}(h:c=false)(q:B):if c=true then A else B:=by rw[h];exact iteF q
def forK (g:TG)(tb:TS)(D:Ends)(σ:St):It→Hp→Prop:=fun J H1=>∃W:Nat→Nat→St→Hp→Prop,(∃m,W 0 m σ H1)∧∀i m σ H,W i m σ H→
 (J.stop i H∧D.nx σ H)∨(J.go i H∧∃N:St→Hp→Prop,(∀σ' H',N σ' H'→∃m',m'<m∧W (i+1) m' σ' H')∧∀x H',J.yld i H x H'→g x σ H' fun σ2 H2=>tb { D with nx:=N,ct:=N,bk:=D.nx } σ2 H2)
theorem xWv {wi:TI}{g:TG}(q:wi σ H (forK g a D σ)):tFor wi g a D σ H:=q
theorem xYl {k:Nat}{js:List Nat}{wi:TI}{g:TG}(q:wi σ H fun J H1=>rdC k js g t ta J σ H1 Q):tComp k js wi g t ta σ H Q:=q
theorem iteNT {A B:Prop}(q:B):if (!true)=true then A else B:=iteF q
theorem iteNF {A B:Prop}(q:A):if (!false)=true then A else B:=iteT q
theorem xVq {T:String}:PySem.W.kitOne K (.type T) (.type T)=some true:=by simp[PySem.W.kitOne]
end

structure Fd (K:yZO)(mg:Str→Option Value)(x:Str)(st:Stmt)(ps:List Str):Prop where
 ex:∃f fd,Fun K x x st f fd∧mg x=some (.ref f)∧PySem.W.keepIn K (.ref f)=true∧Binds K fd ps []
section
variable {P:Program}{w:World}{K:yZO}{mg:Str→Option Value}{base:Heap}{x:Str}{st:Stmt}{k:Nat}{N ps:List Str}{sp:Sp}
theorem Fd.ok (F:Fd K mg x st ps)(S:xH N ps (xA st))(len:∀vs H Q E,sp vs H Q E→vs.length=ps.length)
  (hbody:∀(f:Addr) (cdv:Value) (A:Around) (outer:List Env) (s:Shared) (H:Hp) (vs:List V) (Q:VK) (E:XK),Room k (A.deeper (envOfC x (xA st) s.heap.objs.size f cdv))→sp vs H Q E→
   ∃t,PSs (cxOf CX0 P w K mg base N x (xA st) f cdv A outer s H E).nox (xB st) t∧t { nx:=fun _ H'=>Q .non H',rt:=Q } (start N vs) H):Dn P w K mg base x (k+1) ps sp:=
 let ⟨f,fd,F,a,b,c⟩:=F.ex
 ⟨f,fd,F.ok S len (hbody f),a,b,c⟩
theorem Fd.never (F:Fd K mg x st ps)(no:∀vs H Q E,¬sp vs H Q E):Dn P w K mg base x k ps sp:=
 let ⟨f,fd,F,a,b,c⟩:=F.ex
 ⟨f,fd,⟨fun vs H Q E h=>absurd h (no vs H Q E),fun A outer s H args us vs Q E _ _ _ _ h=>absurd h (no vs H Q E)⟩,a,b,c⟩
end
end L2

namespace PySem
section
variable {prog:Program}{w:World}{κ:Type}[DecidableEq κ]{knd:KeyKind prog w κ}{A:Around}{E:Value→Shared→Prop}{s:Shared}
abbrev setObj (led:Bool):Obj:={ cls:=.type "set",dict:=none,data:=.set #[] 0 (.fresh 0 0 led) }
end
end PySem

namespace L2
open PySem PySem.Spec PyProof.Rows

def rCatN (K:yZO):R2:=fun x y H Q=>∃a b xs ys,x=.ref a∧y=.ref b∧SqT K H a xs∧SqT K H b ys∧ys≠[]∧xs.length+ys.length≤sizeLine∧
 (xs=[]→Q (.ref b) H)∧(xs≠[]→∀p,H p=none→Q (.ref p) (upd H p (.tup (xs++ys))))
section
variable {X:Cx}{K:yZO}
theorem qSk (hK:X.K=K:=by rfl):OpR X (binaryOp .Add) (rCatN K):=by
 subst hK
 intro pins s σ H x y v u Q I rx ry h
 obtain⟨a,b,xs,ys,rfl,rfl,ha,hb,hy,hz,q0,q1⟩:=h
 by_cases hx:xs=[]
 ·subst hx
  cases rx;cases ry
  obtain⟨i1,r1,⟨⟨c1,d1,t1,l1⟩,g1,k1,n1,e1⟩,_⟩:=I.tuple ha
  obtain⟨i2,r2,⟨⟨c2,d2,t2,l2⟩,g2,k2,n2,e2⟩,_⟩:=I.tuple hb
  cases r1
  simp only at k1 e1 k2 e2
  subst k1 e1 k2 e2
  exact concat_meets ⟨_,g1,rfl⟩ ⟨_,g2,rfl⟩ noFill_tuple_add seq_tuple_add PySem.F.slot_tuple_add PySem.F.entry_tuple_add (PySem.F.args_tuple_add_2 _ _) (tuple_addW0 a b _ _ n1 n2 d1 d2 l1 l2 (by simp)) ⟨g1,g2,⟨.ref b,H,I,rfl,q0 rfl⟩⟩
 ·exact xZk pins s σ H _ _ v u Q I rx ry ⟨a,b,xs,ys,rfl,rfl,ha,hb,hx,hz,fun z=>absurd z hy,fun _=>q1 hx⟩
end

theorem xVh:bootBuiltins "set" = some (.type "set"):=by decide +kernel
theorem qOn:bootBuiltins "sorted" = some (.builtin "sorted"):=by decide +kernel

end L2

namespace L2
open PySem PySem.Spec PyProof.Rows
def qHg:List V→Hp→VK→Prop:=fun xs H Q=>∃(d:Addr) (kvs:List (Key×V)),xs=[.ref d]∧H d=some (.dK kvs)∧∀p,H p=none→Q (.ref p) (upd H p (.dK kvs))
section
variable {X:Cx}{K:yZO}
theorem qZm:CallR X (.type "dict") qHg:=by
 intro pins s σ H xs us Q I r h
 obtain⟨d,kvs,rfl,hd,q⟩:=h
 obtain⟨u,rfl,ru⟩:=vals1 r
 cases ru
 exact qUd I (.inl hd) fun p s' hp I'=>⟨.ref p,_,I',rfl,q p hp⟩
end
section
variable {α:Type}
theorem qAi {x:Str}:∀{l:List (Str×α)},x∉l.map (·.1)→l.lookup x=none
 | [],_=>rfl
 | (n,v)::l,h=>by
  have h1:x≠n:=fun z=>h (z▸yYG)
  rw[yZ _ _ (by simpa using h1)]
  exact qAi fun z=>h (yYH _ z)
theorem look_at {x:Str}{v:α}:∀{l:List (Str×α)} {i:Nat},(l.map (·.1)).Nodup→l[i]? = some (x,v)→l.lookup x=some v
 | (n,u)::l,0,_,e=>by
  cases e
  exact yR _ _ _
 | (n,u)::l,i+1,nd,e=>by
  have e:l[i]? = some (x,v):=e
  have nd':=List.nodup_cons.mp nd
  have h1:x≠n:=fun z=>nd'.1 (z▸yYP.mpr ⟨_,yYE e,rfl⟩)
  rw[yZ _ _ (by simpa using h1)]
  exact look_at nd'.2 e
end
theorem qXf {x:Str}:∀(kvs:List (Str×V)) (acc:List (Key×V)),(kvs.map (·.1)).Nodup→valV (mergeK acc (pairK kvs)) (Sum.inr x)=(match kvs.lookup x with | some v=>some v | none=>valV acc (Sum.inr x))
 | [],acc,_=>rfl
 | (n,v)::kvs,acc,nd=>by
  have nd':=List.nodup_cons.mp nd
  show valV (mergeK (putK acc (Sum.inr n) v) (pairK kvs)) (Sum.inr x)=_
  rw[qXf kvs _ nd'.2]
  by_cases e:x=n
  ·subst e
   rw[qAi nd'.1,yR]
   show valV (putK acc (Sum.inr x) v) (Sum.inr x)=some v
   rw[jT,if_pos rfl]
  ·rw[yZ v kvs (by simpa using e)]
   cases kvs.lookup x with
   | some u=>rfl
   | none=>
    show valV (putK acc (Sum.inr n) v) (Sum.inr x)=valV acc (Sum.inr x)
    rw[jT,if_neg (fun z=>e (Sum.inr.inj z))]
end L2



namespace L2
open PySem PySem.Spec PyProof.Rows
def Ite (K:yZO)(a:Addr):It:=
 ⟨fun i H=>∃xs x,SqL K H a xs∧xs[i]? = some x,
   fun i H x H'=>∃T vx,x=.ref T∧H T=none∧H'=upd H T (.tup [.int (i:Int),vx])∧∀xs,SqL K H a xs→xs[i]? = some vx,
   fun i H=>∃xs,SqL K H a xs∧xs.length≤i⟩
theorem qGq {P:Program}{w:World}{K:yZO}{es:List Expr}{kk:Nat}{tp:Pos}(a e it:Addr)(nei:e≠it):
  Turn P w K (.Tuple es kk tp) (Ite K a) [e,it] e (fun i h=>(∃old,IsEnum h e it ((i:Nat):Int) old)∧h.IsListIter it a i) where
 mem:=by simp
 obj:=fun i h S b hb=>by
  obtain⟨⟨old,he⟩,o,ho,hc,hd⟩:=S
  simp only[yYK,List.not_mem_nil,or_false] at hb
  rcases hb with rfl | rfl
  ·exact⟨_,he,fun v q=>by cases(show Data.fields _=Data.cell v from q)⟩
  ·exact⟨o,ho,fun v q=>by rw[hd] at q;cases q⟩
 keep:=fun i h h' S k=>by
  obtain⟨⟨old,he⟩,hit⟩:=S
  exact⟨⟨old,k e (by simp) _ he⟩,hit.at fun o q=>k it (by simp) o q⟩
 item:=by
  intro X hP hw hK hc i pins s σ H E I hf S hg
  subst hP hw hK
  obtain⟨⟨old,he⟩,hit⟩:=S
  obtain⟨xs,x,hq,hx⟩:=hg
  obtain⟨its,rv,p,_⟩:=I.list hq
  obtain⟨u,hu,ru⟩:=rv.get hx
  have elt:e<s.heap.objs.size:=yYZ he
  have ilt:it<s.heap.objs.size:=by obtain⟨o,ho,_⟩:=hit;exact yYZ ho
  refine wpAny_pyNext_enum_item he hit p.isList (x:=u) (by simpa using hu) nei fun h' a1 a2 a3 a4 a5=>?_
  refine⟨.ref s.heap.objs.size,rfl,?_⟩
  refine wpAny_letOwnedTupleGo_enum (s:={ s with heap:=h',toks:=s.toks+1 }) a1 fun h'' he'' sb=>?_
  have k2:∀c o,c≠e→h'.get? c=some o→h''.get? c=some o:=fun c o c1 q=>sb.extBut _ _ c1 q
  have keep:∀c o,c∉[e,it]→s.heap.get? c=some o→h''.get? c=some o:=fun c o hcx q=>by
   simp only[yYK,List.not_mem_nil,or_false,not_or] at hcx
   exact k2 _ _ hcx.1 (a5 c o hcx.1 hcx.2 q)
  have hT'':=k2 _ _ (yZG elt) a3
  have fresh:H s.heap.objs.size=none:=I.hok.fresh (yZC _)
  have nfp:∀b o,H b=some o→b∉[e,it]:=fun b o q hb=>by
   have:=(hf b hb).1
   rw[q] at this;cases this
  have I1:Inv X pins σ (upd H s.heap.objs.size (.tup [.int (i:Int),x])) { s with heap:=h'',toks:=s.toks+1 }:=by
   refine I.step (h':=h'') (H':=upd H s.heap.objs.size (.tup [.int (i:Int),x])) (g':=s.gens) (d':=s.drawn) (t':=s.toks+1) (ch:=[e,it]) (fun b hb=>?_) (fun b o _ _ hc' q _=>keep b o hc' q) (fun b o _ _ hc' q _=>⟨o.slots,keep b o hc' q⟩) (fun b o hc' q n=>?_)
    (fun b o hc' q=>⟨o,keep b o hc' q⟩) (fun b zs q=>?_) (fun b o q' q=>?_) (fun b ps q=>⟨#[],?_⟩) (fun m hm=>?_) (fun b ob q=>?_) I.bare
   ·obtain⟨f0,f1,f2,f3,f4,f5⟩:=hf b hb
    exact⟨f3,f1,f4,f5⟩
   ·rw[qA (yZE (yYZ q))];exact n
   ·rw[qA (qB q fresh)];exact q
   ·rw[qA (qB q fresh)];exact q
   ·rw[qA (qB q fresh),q];simp
   ·obtain⟨o,es',ep,ho,r⟩:=hm
    exact⟨o,es',ep,keep _ o (fun hb=>(hf _ hb).2.1 rfl) ho,r⟩
   ·by_cases hb:b=s.heap.objs.size
    ·subst hb
     rw[qW] at q
     cases q
     exact⟨by show 2≤sizeLine;decide,[.int (i:Int) s.toks,u],.cons ⟨_,rfl⟩ (.cons ru .nil),⟨_,hT'',rfl,0,rfl,rfl⟩⟩
    ·rw[qA hb] at q
     refine(I.hok b ob q).stay (fun c o hc' q'=>keep c o ?_ q') (fun c q'=>by rw[qA (qB q' fresh)];exact q') fun c zs q'=>by rw[qA (qB q' fresh)];exact q'
     rcases hc' with rfl | hc'
     ·exact nfp _ _ q
     ·exact nfp _ _ hc'
  refine⟨.ref s.heap.objs.size,_,I1,rfl,⟨_,_,rfl,fresh,rfl,fun zs hz=>by rw[I.list_inj hz hq];exact hx⟩,⟨⟨u,by rw[Int.natCast_add];exact he''⟩,a2.at fun o q=>k2 _ _ (Ne.symm nei) q⟩,fun b hb=>?_⟩
  rw[qA ?_]
  ·exact(hf b hb).1
  ·simp only[yYK,List.not_mem_nil,or_false] at hb
   rcases hb with rfl | rfl
   ·exact yZE elt
   ·exact yZE ilt
 done:=by
  intro X hP hw hK hc i pins s σ H E I hf S hg
  subst hP hw hK
  obtain⟨⟨old,he⟩,hit⟩:=S
  obtain⟨xs,hq,hx⟩:=hg
  obtain⟨its,rv,p,_⟩:=I.list hq
  obtain⟨f0,f1,f2,f3,f4,f5⟩:=hf it (by simp)
  have hl:=rv.length
  exact wpAny_pyNext_enum_end (I.ok.hd hc) he hit p.isList (by simp;omega) fun h' eb=>⟨rfl,I.turned (t':=s.toks) (fun b o hb q=>eb b o hb q) f0 f1 f3 f4 f5⟩
 self:=fun _ _ _ _ _ S h=>by
  obtain⟨⟨old,he⟩,_⟩:=S
  exact wpAny_pyIter_enum he h
theorem qWe:bootBuiltins "enumerate" = some (.type "enumerate"):=by decide +kernel
section
variable {X:Cx}{K:yZO}
def iEnum (K:yZO)(ta:TA):TI:=fun σ H R=>ta σ H fun vs H1=>∃l xs,vs=[.ref l]∧SqL K H1 l xs∧R (Ite K l) H1
theorem qRl {es:List Expr}{kk:Nat}{tp p pos:Pos}{a:Expr}{ta:TA}(hg:Gl X "enumerate")(hm:X.mg "enumerate" = none)(ha:PA X [a] ta)
  (hs:starEach [a] X.env=[(false,eval a X.env)]:=by rfl) (hK:X.K=K:=by rfl):PI X (.Tuple es kk tp) (.Call (.Name "enumerate" p) [a] [] pos) (iEnum K ta):=by
 subst hK
 intro pins s σ H R I h
 refine Call_ (qXm I hg hm qWe (PyProof.Rows.callWith_type1 (thn (ha pos pins s σ H _ I h) fun us s1 ⟨vs,H1,I1,r1,q1⟩=>?_) hs rfl))
 obtain⟨l,xs,rfl,hq,q⟩:=q1
 cases r1 with
 | cons r rr=>
  cases rr
  cases r
  obtain⟨its,r2,p2,_⟩:=I1.list hq
  refine call_enumerate_list p2.isList fun h' hE hI hsz hk=>?_
  have I2:Inv X pins σ H1 { s1 with heap:=h' }:=I1.kept (t':=s1.toks) hk
  refine wpAny_pyIter_enum (s:={ s1 with heap:=h' }) hE ?_
  refine⟨s1.heap.objs.size+1,[s1.heap.objs.size+1,s1.heap.objs.size],_,_,H1,rfl,I2,qGq l _ _ (Nat.succ_ne_self _),⟨⟨_,hE⟩,hI⟩,fun b hb=>?_,q⟩
  have hb':s1.heap.objs.size≤b:=by
   simp only[yYK,List.not_mem_nil,or_false] at hb
   rcases hb with rfl | rfl
   ·exact Nat.le_succ _
   ·exact yZC _
  exact I1.fpOk hb' (I1.hok.fresh hb')
end
theorem Vals.pick {xs:List V}{us:List Value}(r:Vals xs us):∀idx:List Nat,Vals (idx.filterMap (xs[·]?)) (idx.filterMap (us[·]?))
 | []=>.nil
 | i::idx=>by
  have ih:=Vals.pick r idx
  rw[List.filterMap_cons,List.filterMap_cons]
  cases e:xs[i]? with
  | none=>
   have:us[i]? = none:=List.getElem?_eq_none (by rw[← r.length];exact List.getElem?_eq_none_iff.mp e)
   rw[this];exact ih
  | some x=>
   obtain⟨u,eu,ru⟩:=r.get e
   rw[eu];exact .cons ru ih
open FP
end L2







namespace L2
open PySem PySem.Spec PySem.W PyProof.Rows
def rIsN:R2:=fun x y H Q=>y=.non∧Q (.bl (decide (x=.non))) H
section
variable {X:Cx}{K:Frag}
theorem xZz:OpR X (compareOp .Is) rIsN:=xKe
end
end L2

namespace PySem
namespace FD
theorem tuple_no_keys:typeLookup (.type "tuple") "keys" = pure none:=by rw[typeLookup_type,builtinLookup_eq_fast];kernel_rfl
end FD
section
variable {prog:Program}{w:World}{A:Around}{E:Value→Shared→Prop}{s:Shared}
theorem qXo {a:Addr}{o:Obj}{xs:Array Value}{k:Nat}{Q:Option Value→Shared→Prop}(hx:s.heap.get? a=some o)(hc:o.cls=.type "tuple")(hd:o.data=.seq xs k)(hn:o.dict=none)(hA:A.handled=none)
  (h:∀h' tk,(∀b o,s.heap.get? b=some o→h'.get? b=some o)→Q none { s with heap:=h',toks:=tk }):wpAny (model prog w) A (getAttr? (.ref a) "keys") Q E s:=by
 obtain⟨hp,g,d,tk,os⟩:=s
 obtain⟨oc,od,da,sl⟩:=o
 obtain rfl:oc=_:=hc
 obtain rfl:da=_:=hd
 obtain rfl:od=_:=hn
 have hT:∀tk',(⟨hp,g,d,tk',os⟩:Shared).TypeIs (.ref a) "tuple" := fun _=>⟨_,hx,rfl⟩
 have f1:=sub_AttributeError
 have f3:=F.slot_tuple_getattribute.lookup
 have f4:=F.slot_tuple_getattribute.bind (.ref a)
 have f5:=am_tuple_getattr_none
 unfold getAttr? getAttrBy? getAttrBy
 repeat (any_goals (first | assumption | exact hT _ | ((with_reducible show wpAny _ _ (call (Value.builtin "tuple.__getattribute__") _ _) _ _ _);refine call_meets F.slot_tuple_getattribute (hT _) am_entry_tuple_getattribute (F.args_tuple_getattribute_2 _ _) (meets_getattribute_miss_tuple a xs k sl _ _ FD.tuple_no_keys FD.keys_name FD.keys_len) ⟨hx,hA,fun h' tk' e hx'=>?_⟩) | wp_step))
 obtain⟨t',u',he⟩:=hx'.there
 show wpAny _ _ (getattributeRaised _ _ _ _ _ _ _) _ _ _
 unfold getattributeRaised
 repeat (any_goals (first | assumption | wp_step))
 exact h _ _ hx'.keeps
variable {K:Type}[DecidableEq K]{knd:KeyKind prog w K}
theorem qZa {l:Addr}{ol:Obj}{xs:Array Value}{n:Nat}{kvs:List (Value×Value)}{ks:List (K×Value)}{Q:Value→Shared→Prop}(hh:A.handled=none)(hl:s.heap.get? l=some ol)(hc:ol.cls=.type "tuple")(hd:ol.data=.seq xs n)(hn:ol.dict=none)
  (hp:∀(i:Nat) p,kvs[i]? = some p→∃T o m,xs[i]? = some (.ref T)∧s.heap.get? T=some o∧o.cls=.type "tuple" ∧ o.data=.seq #[p.1,p.2] m) (hlen:kvs.length=xs.size) (hk:Keyed knd ks kvs) (hz:ks.length≤1000)
  (hQ:∀p h' tk,s.heap.objs.size≤p→(∀b o,s.heap.get? b=some o→h'.get? b=some o)→h'.DictOf knd p (merged [] ks)→Q (.ref p) { s with heap:=h',toks:=tk }):
  wpAny (model prog w) A (call (.type "dict") [.ref l]) Q E s:=by
 refine kI (T := "tuple") ⟨_,hl,hc⟩ (by decide) fun E'=>?_
 have kd:∀b o,s.heap.get? b=some o→(s.heap.push { cls:=.type "dict",data:=.dict #[] }).get? b=some o:=fun b o e=>yYY _ e
 refine qXo (kd _ _ hl) hc hd hn hh fun h2 tk2 kp2=>⟨rfl,?_⟩
 have kl:∀b o,s.heap.get? b=some o→h2.get? b=some o:=fun b o e=>kp2 _ _ (kd _ _ e)
 refine wpAny_pyIter_tuple (s:={ s with heap:=h2,toks:=tk2 }) (items:=xs) ⟨_,kl _ _ hl,hc,n,hd⟩ ?_
 have k3:∀b o,h2.get? b=some o→(h2.push { cls:=.type "tuple_iterator",data:=.fields #[.ref l,.int 0 0] }).get? b=some o:=fun b o e=>yYY _ e
 have dlt:s.heap.objs.size<h2.objs.size:=yYZ (kp2 _ _ (yZA _ rfl))
 have P:PairIt prog w A.in1.in1 s.heap.objs.size h2.objs.size [h2.objs.size] kvs (fun i h=>h.IsTupleIter h2.objs.size l i∧∀b o,s.heap.get? b=some o→h.get? b=some o):=
  {frame:=fun i h h' ⟨S,kp⟩ sb _=>⟨S.at fun o e=>(sb.2 _ (yZG dlt)).trans e,fun b o e=>(sb.2 b (yZE (yYZ e))).trans (kp b o e)⟩
   item:=fun i s' Q E k v e ⟨S,kp⟩ hQ=>by
    obtain⟨T,o,m,ex,ho,hc',hd'⟩:=hp i (k,v) e
    refine wpAny_pyNext_tuple_item (items:=xs) S ⟨_,kp _ _ hl,hc,n,hd⟩ ex fun h' S' sb=>?_
    have nb:∀b o,s.heap.get? b=some o→b≠h2.objs.size:=fun b o e=>yZE (Nat.lt_trans (yYZ e) dlt)
    exact hQ T h' s'.toks m ⟨S',fun b o e=>(sb.2 b (nb b o e)).trans (kp b o e)⟩ ⟨o,(sb.2 T (nb T o ho)).trans (kp _ _ ho),hc',hd'⟩ fun b o hb e=>(sb.2 b (fun z=>hb (by simp[z]))).trans e
   done:=fun s' Q E ⟨S,kp⟩ hQ=>by
    refine wpAny_pyNext_tuple_end (A:=A.in1.in1) (items:=xs) hh S ⟨_,kp _ _ hl,hc,n,hd⟩ (by rw[hlen];simp) fun h' eb=>?_
    exact hQ h' s'.toks fun b o hb e=>eb b o (fun z=>hb (by simp[z])) e }
 have hd0:(h2.push { cls:=.type "tuple_iterator",data:=.fields #[.ref l,.int 0 0] }).DictOf knd s.heap.objs.size (merged [] (ks.take 0)):=by
  obtain⟨o,es,ep,ho,r⟩:=vN (knd:=knd) s.heap
  exact⟨o,es,ep,k3 _ _ (kp2 _ _ ho),r⟩
 refine qYc (A:=A.in1) (s₀:={ s with heap:=h2.push { cls:=.type "tuple_iterator",data:=.fields #[.ref l,.int 0 0] },toks:=tk2 }) P hk (by simp;exact yZE dlt) hz (fun h' tk kp hD=>⟨rfl,?_⟩) ks.length 0 _ tk2 (by simp) (yZF _) ⟨⟨_,yZA _ rfl,rfl,rfl⟩,fun b o e=>k3 _ _ (kl _ _ e)⟩ hd0 (fun _ _ _ _ e=>e)
 refine hQ _ h' tk (yZC _) (fun b o e=>kp b o ?_ (yZE (yYZ e)) (k3 _ _ (kl b o e))) hD
 simp only[yYL]
 exact yZE (Nat.lt_trans (yYZ e) dlt)
end
end PySem
namespace L2
open PySem PySem.Spec PyProof.Rows
def PairI (H:Hp)(f:Int×Int)(u:V):Prop:=∃a,u=.ref a∧H a=some (.tup [.int f.1,.int f.2])
def pairI (fs:List (Int×Int)):List (Key×V):=fs.map fun p=>(Sum.inl p.1,.int p.2)
section
variable {X:Cx}{pins:List (Addr×Obj)}{σ:St}{H:Hp}{s:Shared}
theorem qVe (I:Inv X pins σ H s){fs:List (Int×Int)}{us:List V}{its:List Value}(hp:Paired (PairI H) fs us)(hv:Vals us its):∃(vv:List (Value×Value)) (ks:List (Key×Value)),
  (∀(i:Nat) p,vv[i]? = some p→∃T o m,its[i]? = some (.ref T)∧s.heap.get? T=some o∧o.cls=.type "tuple" ∧ o.data=.seq #[p.1,p.2] m)∧vv.length=its.length∧Keyed (xN X.prog X.w) ks vv∧KV (pairI fs) ks∧ks.length=fs.length:=by
 induction hp generalizing its with
 | nil=>
  cases hv
  exact⟨[],[],fun i p e=>by simp at e,rfl,.nil,.nil,rfl⟩
 | @cons kv _ _ _ f t ih=>
  cases hv with
  | cons r t2=>
  obtain⟨vv,ks,h1,h2,h3,h4,h5⟩:=ih t2
  obtain⟨a,rfl,ha⟩:=f
  cases r
  obtain⟨z,its,rv,o,ho,hc,m,hd,_⟩:=I.hok a _ ha
  obtain⟨u,v,rfl,ru,rv'⟩:=vals2 rv
  obtain⟨tk,rfl⟩:=ru
  refine⟨(.int kv.1 tk,v)::vv,(Sum.inl kv.1,v)::ks,fun i p e=>?_,by simp[h2],.cons ⟨qXe _ _ kv.1 tk,rfl⟩ h3,.cons ⟨rfl,rv'⟩ h4,by simp[h5]⟩
  cases i with
  | zero=>
   simp at e
   subst e
   exact⟨a,o,m,rfl,ho,hc,hd⟩
  | succ i=>exact h1 i p (by simpa using e)
theorem wY (hc:X.calm=true):CallR X (.type "dict") (fun vs H Q=>∃l us fs,vs=[.ref l]∧H l=some (.tup us)∧Paired (PairI H) fs us∧fs.length≤1000∧∀p,H p=none→Q (.ref p) (upd H p (.dK (mergeK [] (pairI fs))))):=by
 intro pins s σ H vs us Q I r h
 obtain⟨l,xs,fs,rfl,hl,hp,h1000,q⟩:=h
 obtain⟨u,rfl,ru⟩:=vals1 r
 cases ru
 obtain⟨z,its,rv,o,ho,hc',n,hd,hn⟩:=I.hok l _ hl
 obtain⟨vv,ks,k1,k2,k3,k4,k5⟩:=qVe I hp rv
 refine qZa (knd:=xN X.prog X.w) (ks:=ks) (kvs:=vv) (I.ok.hd hc) ho hc' hd hn (fun i p ep=>?_) (by simp[k2]) k3 (by omega) fun p h' tk hp' keep hD=>I.newDict hp' keep k4 (by omega) hD (q p (I.hok.fresh hp'))
 obtain⟨T,o,m,a1,a2⟩:=k1 i p ep
 exact⟨T,o,m,by simpa using a1,a2⟩
end
theorem qHm {kvs:List (Key×V)}{k:Key}{v:V}:(kvs.any fun kv=>decide (kv.1=k))=true↔k∈kvs.map (·.1):=by
 simp only[List.any_eq_true,yYP,decide_eq_true_eq]
theorem xXd {kvs:List (Key×V)}{k:Key}{v:V}(h:k∈kvs.map (·.1)):(putK kvs k v).map (·.1)=kvs.map (·.1):=by
 unfold putK
 rw[if_pos ((qHm (v:=v)).mpr h),List.map_map]
 refine List.map_congr_left fun kv _=>?_
 show(if kv.1=k then (kv.1,v) else kv).1=kv.1
 split <;> rfl
theorem xXe {kvs:List (Key×V)}{k:Key}{v:V}(h:k∉kvs.map (·.1)):(putK kvs k v).map (·.1)=kvs.map (·.1)++[k]:=by
 unfold putK
 rw[if_neg fun z=>h ((qHm (v:=v)).mp z),yYV]
 rfl
theorem qSd (fs:List (Int×Int)):∀kvs:List (Key×V),(mergeK kvs (pairI fs)).length≤kvs.length+fs.length∧
  ((mergeK kvs (pairI fs)).length=kvs.length+fs.length↔((fs.map (·.1)).Nodup∧∀f∈fs,(Sum.inl f.1:Key)∉kvs.map (·.1))):=by
 induction fs with
 | nil=>exact fun kvs=>⟨yZC _,⟨fun _=>⟨List.nodup_nil,fun f h=>nomatch h⟩,fun _=>rfl⟩⟩
 | cons f fs ih=>
  intro kvs
  have e:mergeK kvs (pairI (f::fs))=mergeK (putK kvs (Sum.inl f.1) (.int f.2)) (pairI fs):=rfl
  obtain⟨h1,h2⟩:=ih (putK kvs (Sum.inl f.1) (.int f.2))
  rw[e]
  rw[yYS]
  by_cases m:(Sum.inl f.1:Key)∈kvs.map (·.1)
  ·have el:=congrArg List.length (xXd (v:=.int f.2) m)
   rw[yYC,yYC] at el
   refine⟨by omega,fun z=>by omega,fun⟨_,z⟩=>absurd m (z f (yYG ..))⟩
  ·have ek:=xXe (v:=.int f.2) m
   have el:=congrArg List.length ek
   rw[yYC,yYI,yYC] at el
   have el':(putK kvs (Sum.inl f.1) (.int f.2)).length=kvs.length+1:=el
   rw[ek] at h2
   refine⟨by omega,fun z=>?_,fun⟨nd,z⟩=>?_⟩
   ·obtain⟨nd,d⟩:=h2.mp (by omega)
    refine⟨List.nodup_cons.mpr ⟨fun hm=>?_,nd⟩,fun g hg=>?_⟩
    ·obtain⟨g,hg,eg⟩:=yYP.mp hm
     exact d g hg (yYR.mpr (.inr (by rw[eg];exact yYL.mpr rfl)))
    ·rcases yYK.mp hg with r | r
     ·rw[r];exact m
     ·exact fun zz=>d g r (yYR.mpr (.inl zz))
   ·have:=h2.mpr ⟨(List.nodup_cons.mp nd).2,fun g hg zz=>?_⟩
    ·omega
    ·rcases yYR.mp zz with r | r
     ·exact z g (yYH _ hg) r
     ·have eg:g.1=f.1:=Sum.inl.inj (yYL.mp r)
      exact(List.nodup_cons.mp nd).1 (by show f.1∈_;rw[← eg];exact List.mem_map_of_mem (f:=fun x:Int×Int=>x.1) hg)
theorem qFn (fs:List (Int×Int)):((mergeK [] (pairI fs)).length<fs.length)↔¬(fs.map (·.1)).Nodup:=by
 obtain⟨h1,h2⟩:=qSd fs []
 rw[yYT,Nat.zero_add] at h1 h2
 constructor
 ·exact fun h nd=>by have:=h2.mpr ⟨nd,fun f _ z=>nomatch z⟩;omega
 ·exact fun h=>by
   rcases Nat.lt_or_eq_of_le h1 with z | z
   ·exact z
   ·exact absurd (h2.mp z).1 h
end L2

namespace L2
open PySem PySem.Spec PyProof.Rows
theorem qPo {ws:List Str}:∀{its:List Value},Vals (ws.map V.str) its→StrsAre its ws:=by
 induction ws with
 | nil=>intro its h;cases h;exact .nil
 | cons x ws ih=>
  intro its h
  cases h with
  | cons r t=>
   obtain⟨tk,rfl⟩:=r
   exact .cons x tk (ih t)
theorem qGc (k:Str){ws:List Str}{its:List Value}(h:StrsAre its ws)(j:Nat)(hj:j<its.length)(hw:j<ws.length):isStrOf k its[j]=(ws[j] == k):=by
 induction h generalizing j with
 | nil=>exact absurd hj (Nat.not_lt_zero _)
 | cons y t h ih=>
  cases j with
  | zero=>rfl
  | succ j=>exact ih j (Nat.lt_of_succ_lt_succ hj) (Nat.lt_of_succ_lt_succ hw)
theorem qMz {ws:List Str}{k:Str}:∀{j:Nat} (hj:j<ws.length),j<ws.idxOf k→(ws[j] == k)=false:=by
 induction ws with
 | nil=>intro j hj;exact absurd hj (Nat.not_lt_zero _)
 | cons x ws ih=>
  intro j hj h
  by_cases e:(x == k)=true
  ·rw[List.idxOf_cons,e] at h
   exact absurd h (Nat.not_lt_zero _)
  ·have e':(x == k)=false:=by simpa using e
   cases j with
   | zero=>exact e'
   | succ j=>
    rw[List.idxOf_cons,e'] at h
    exact ih (Nat.lt_of_succ_lt_succ hj) (Nat.lt_of_succ_lt_succ h)
def rIndex:V→List V→Hp→VK→Prop:=fun x vs H Q=>∃(l:Addr) (ws:List Str) (k:Str),x=.ref l∧vs=[.str k]∧H l=some (.lst (ws.map V.str))∧k∈ws∧ws.length≤100000∧Q (.int (ws.idxOf k:Nat)) H
theorem qSc {X:Cx}:MtM X "list.index" rIndex:=by
 intro pins s σ H x vs v us Q I rx rv h
 obtain⟨l,ws,k,rfl,rfl,hl,hk,hz,q⟩:=h
 cases rx
 obtain⟨u,rfl,ru⟩:=rv.one
 obtain⟨t,rfl⟩:=ru
 obtain⟨z,its,n,r,hlen,e⟩:=I.lstM hl
 have sa:=qPo r
 have ll:its.length=ws.length:=by rw[← hlen,yYC]
 have hj:ws.idxOf k<ws.length:=List.idxOf_lt_length_iff.mpr hk
 refine call_meets PySem.F.slot_list_index ⟨_,e,rfl⟩ PySem.F.entry_list_index (PySem.F.args_list_index_2 _ _)
  (MeetsSeq.list_index l its.toArray n (.str k t) (isStrOf k) (fun y hy=>eq_isStrOf k t sa y (by simpa using hy)) (ws.idxOf k) (by simpa [ll] using hj) (by omega) ?_ ?_) ⟨e,⟨.int (ws.idxOf k:Nat),H,I.tok _,⟨_,rfl⟩,q⟩⟩
 ·show isStrOf k its[ws.idxOf k]=true
  rw[qGc k sa _ (by omega) hj]
  simpa using List.getElem_idxOf hj
 ·intro j hjs hlt
  show isStrOf k its[j]=false
  rw[qGc k sa j (by simpa using hjs) (by omega)]
  exact qMz _ hlt
end L2

namespace L2
open PySem PySem.Spec PyProof.Rows
def rNeT (K:yZO):R2:=fun x y H Q=>∃n a b xs ys,n≤60∧x=.ref a∧y=.ref b∧SqT K H a xs∧SqT K H b ys∧xs.length=ys.length∧(∀(j:Nat) x y,xs[j]? = some x→ys[j]? = some y→DEq K H n x y)∧Q (.bl false) H
theorem qIg {X:Cx}{K:yZO}(hu:X.A.units+64<cLine)(hK:X.K=K:=by rfl):OpR X (compareOp .NotEq) (rNeT K):=by
 subst hK
 intro pins s σ H x y v u Q I rx ry h
 obtain⟨n,a,b,xs,ys,hn,rfl,rfl,ha,hb,hl,hd,q⟩:=h
 cases rx;cases ry
 obtain⟨its,r1,p1,_⟩:=I.tuple ha
 obtain⟨its2,r2,p2,_⟩:=I.tuple hb
 have sz:its.toArray.size=its2.toArray.size:=by rw[yYD,yYD,← r1.length,← r2.length,hl]
 refine SeqAt.RcNeAt.tuples (e:=fun _=>true) p1 p2 (by omega) (vU I r1 r2 hl hd (by show X.A.units+1+n<cLine;omega)) _ _ _ _ ?_
 rw[vK,sz,Bool.true_and,beq_self_eq_true]
 exact⟨.bl false,H,I,rfl,q⟩
end L2







namespace TM
open PySem PyProof.Rows PySem.W

end TM
namespace L2
open PySem PySem.Spec PyProof.Rows TM
section
variable {X:Cx}{K:yZO}
theorem qSm {ns:List Int}{its:List Value}(h:Vals (ns.map V.int) its):IntsAre its ns:=by
 induction ns generalizing its with
 | nil=>cases h;exact .nil
 | cons n ns ih=>
  cases h with
  | cons r t=>
   obtain⟨tk,rfl⟩:=r
   exact .cons n tk (ih t)
end
end L2

namespace SI
open PySem PyProof.Rows
def Ris (p:Array Nat):Prop:=p.toList.Pairwise (·<·)
theorem Ris.get {p:Array Nat}(h:Ris p){i j:Nat}(hij:i<j)(hj:j<p.size):p.getD i 0<p.getD j 0:=by
 have e:∀k (hk:k<p.size),p.getD k 0=p[k]:=fun k hk=>by simp[Array.getD,hk]
 rw[e i (by omega),e j hj]
 have:=List.pairwise_iff_getElem.mp h i j (by simp;omega) (by simp;exact hj) hij
 simpa using this
theorem qKg {p:Array Nat}(h:Ris p)(j:Nat):∀(f lo hi:Nat),lo≤hi→hi≤p.size→hi - lo≤f→(∀i,i<lo→p.getD i 0<j)→(∀i,hi≤i→i<p.size→j≤p.getD i 0)→
  SetTable.below.go p j f lo hi≤p.size∧(∀i,i<SetTable.below.go p j f lo hi→p.getD i 0<j)∧(∀i,SetTable.below.go p j f lo hi≤i→i<p.size→j≤p.getD i 0)
 | 0,lo,hi,a,b,c,d,e=>by
  have:lo=hi:=by omega
  subst this
  exact⟨b,d,e⟩
 | f+1,lo,hi,a,b,c,d,e=>by
  unfold SetTable.below.go
  by_cases lt:lo<hi
  ·rw[if_pos lt]
   dsimp only
   have hm:(lo+hi) / 2<p.size:=by omega
   have eg:p.getD ((lo+hi) / 2) j=p.getD ((lo+hi) / 2) 0:=by simp[Array.getD,hm]
   rw[eg]
   by_cases c2:p.getD ((lo+hi) / 2) 0<j
   ·rw[if_pos c2]
    refine qKg h j f _ hi (by omega) b (by omega) (fun i hi'=>?_) e
    by_cases x:i=(lo+hi) / 2
    ·rw[x];exact c2
    ·exact Nat.lt_trans (h.get (by omega) hm) c2
   ·rw[if_neg c2]
    refine qKg h j f lo _ (by omega) (by omega) (by omega) d fun i x y=>?_
    by_cases z:i=(lo+hi) / 2
    ·rw[z];omega
    ·have:=h.get (show(lo+hi) / 2<i by omega) y
     omega
  ·rw[if_neg lt]
   have:lo=hi:=by omega
   subst this
   exact⟨b,d,e⟩
theorem qKf {p:Array Nat}(h:Ris p)(j:Nat):SetTable.below p j≤p.size∧(∀i,i<SetTable.below p j→p.getD i 0<j)∧(∀i,SetTable.below p j≤i→i<p.size→j≤p.getD i 0):=
 qKg h j _ 0 _ (yZF _) (yZC _) (by omega) (fun i hi=>by omega) (fun i a b=>by omega)
structure TOk (b:Bool)(t:SetTable):Prop where
 led:t.led=b
 dum:t.dummies=#[]
 ris:Ris t.place
theorem qSw {t:SetTable}(h:t.dummies=#[])(j:Nat):t.slot j≠.dummy:=fun e=>by
 unfold SetTable.slot at e
 dsimp only at e
 split at e
 ·cases e
 ·rw[h] at e
  unfold SetTable.has at e
  simp at e
theorem qDq {t:SetTable}(hd:t.dummies=#[]){ha:Nat→Int}{h:Int}:∀(f:Nat) (p:SetTable.Probe) {j:Nat} {d:Option Nat},p.dummy=none→SetTable.probe.go t ha h f p=some (.empty j d)→d=none∧t.slot j=.empty
 | 0,p,j,d,_,e=>by unfold SetTable.probe.go at e;cases e
 | f+1,p,j,d,pd,e=>by
  have adv:(t.advance p).dummy=none:=by
   unfold SetTable.advance
   split <;> exact pd
  unfold SetTable.probe.go at e
  cases c:t.slot p.j with
  | empty=>
   rw[c] at e
   cases e
   exact⟨pd,c⟩
  | dummy=>exact absurd c (qSw hd _)
  | live i=>
   rw[c] at e
   dsimp only at e
   split at e
   ·cases e
   ·exact qDq hd f _ adv e
theorem xZl {t:SetTable}(hd:t.dummies=#[]){h:Int}{j:Nat}{b:Bool}(e:t.freeSlot h=some (j,b)):t.slot j=.empty:=by
 unfold SetTable.freeSlot at e
 generalize hp:t.probe (fun _=>h+1) h (t.probeStart h)=r at e
 cases r with
 | none=>cases e
 | some m=>
  cases m with
  | candidate _ _ _=>cases e
  | empty k d=>
   obtain⟨rfl,z⟩:=qDq hd _ _ rfl hp
   cases e
   exact z
theorem xXc {t:SetTable}(h:Ris t.place){j:Nat}(e:t.slot j=.empty):Ris (t.put j).1.place:=by
 show(SetTable.insertAt t.place (SetTable.below t.place j) j).toList.Pairwise (·<·)
 obtain⟨b1,b2,b3⟩:=qKf h j
 have ne:t.place[SetTable.below t.place j]? ≠ some j:=fun z=>by
  unfold SetTable.slot at e
  dsimp only at e
  rw[if_pos (by rw[z];simp)] at e
  cases e
 generalize SetTable.below t.place j=p at b1 b2 b3 ne
 rw[SetTable.toList_insertAt]
 have g:∀k (hk:k<t.place.size),t.place.toList[k]'(by simpa using hk)=t.place.getD k 0:=fun k hk=>by simp[Array.getD,hk]
 have gt:∀k,p≤k→k<t.place.size→j<t.place.getD k 0:=fun k hk hs=>by
  have:=b3 k hk hs
  by_cases x:k=p
  ·subst x
   have e2:t.place[k]? = some (t.place.getD k 0):=by simp[Array.getD,hs]
   rw[e2] at ne
   have:t.place.getD k 0≠j:=fun z=>ne (by rw[z])
   omega
  ·have h1:=b3 p (yZC _) (by omega)
   have h2:=h.get (show p<k by omega) hs
   omega
 refine List.pairwise_append.mpr ⟨h.sublist (List.take_sublist _ _),List.pairwise_cons.mpr ⟨fun y hy=>?_,h.sublist (List.drop_sublist _ _)⟩,fun x hx y hy=>?_⟩
 ·obtain⟨k,hk,rfl⟩:=List.getElem_of_mem hy
  rw[List.length_drop,yZL] at hk
  rw[List.getElem_drop,g _ (by omega)]
  exact gt _ (by omega) (by omega)
 ·obtain⟨i,hi,rfl⟩:=List.getElem_of_mem hx
  rw[yYF,yZL] at hi
  have lx:t.place.getD i 0<j:=b2 i (by omega)
  rw[List.getElem_take,g _ (by omega)]
  rcases yYK.mp hy with rfl | hy
  ·exact lx
  ·obtain⟨k,hk,rfl⟩:=List.getElem_of_mem hy
   rw[List.length_drop,yZL] at hk
   rw[List.getElem_drop,g _ (by omega)]
   have:=gt (p+k) (by omega) (by omega)
   omega
theorem TOk.put {b:Bool}{t:SetTable}(h:TOk b t){j:Nat}(e:t.slot j=.empty):TOk b (t.put j).1:=by
 refine⟨h.led,?_,xXc h.ris e⟩
 show(if SetTable.has t.dummies j then _ else t.dummies)=_
 rw[h.dum]
 rw[if_neg (by unfold SetTable.has;simp)]
theorem TOk.standIn {b:Bool}{t:SetTable}(h:TOk b t)(n:Nat):TOk b (t.standIn n):=⟨h.led,rfl,by
 show(Array.range n).toList.Pairwise (·<·)
 rw[Array.toList_range]
 exact List.pairwise_lt_range⟩
theorem TOk.orStandIn {b:Bool}{t:SetTable}(h:TOk b t)(n:Nat):TOk b (t.orStandIn n):=by
 unfold SetTable.orStandIn
 split
 ·exact h
 ·exact h.standIn n
theorem TOk.layNew {b:Bool}{t:SetTable}(h:TOk b t)(es:Array (Int×Value))(k:Int)(x:Value):TOk b (layNew t es k x).2.1:=by
 unfold PySem.layNew
 cases e:t.freeSlot k with
 | none=>exact h.standIn _
 | some p=>
  obtain⟨j,d⟩:=p
  exact(h.put (xZl h.dum e)).orStandIn _
theorem TOk.relaid {b:Bool}{t t':SetTable}{order:Array Nat}(h:TOk b t){hs:Array Int}{n:Nat}(e:t.relaid hs n=some (t',order)):TOk b t':=by
 unfold SetTable.relaid SetTable.laid at e
 cases c:SetTable.layClean (SetTable.sizeAbove n - 1) hs with
 | none=>rw[c] at e;cases e
 | some owner=>
  rw[c] at e
  cases e
  refine⟨h.led,rfl,?_⟩
  unfold Ris
  dsimp only
  rw[List.pairwise_map,List.pairwise_filterMap]
  refine List.pairwise_lt_range.imp fun{i j} lt x hx y hy=>?_
  generalize owner.getD i none=u at hx
  generalize owner.getD j none=v at hy
  cases u with
  | none=>cases hx
  | some u=>
   cases v with
   | none=>cases hy
   | some v=>cases hx;cases hy;exact lt
theorem TOk.relayAll {b:Bool}{t:SetTable}(h:TOk b t)(es:Array (Int×Value))(n:Nat):TOk b (relayAll t es n).2.1:=by
 unfold PySem.relayAll
 cases e:t.relaid (es.map (·.1)) n with
 | none=>exact h.standIn _
 | some p=>
  obtain⟨t',order⟩:=p
  dsimp only
  split
  ·exact h.relaid e
  ·exact h.standIn _
theorem TOk.fresh (b:Bool):TOk b (.fresh 0 0 b):=⟨rfl,rfl,.nil⟩
end SI

namespace SI
open PySem PyProof.Rows
section
variable {prog:Program}{w:World}{A:Around}{E:Value→Shared→Prop}{s:Shared}
def SetX (prog:Program)(w:World)(h:Heap)(b:Bool)(a:Addr)(S:Int→Bool)(n:Nat):Prop:=
 ∃o es ep t,h.get? a=some o∧o.ExactSet∧o.data=.set es ep t∧ElemsOf (intKind prog w) es.toList∧(∀k,S k=true↔∃e∈es.toList,(intKind prog w).is k e.2=true)∧es.size<scanBound∧t.fits es.size=true∧es.size=n∧TOk b t
theorem SetX.kept {h h':Heap}{b:Bool}{a:Addr}{S:Int→Bool}{n:Nat}(x:SetX prog w h b a S n)(k:∀o,h.get? a=some o→h'.get? a=some o):SetX prog w h' b a S n:=let ⟨o,es,ep,t,e,r⟩:=x;⟨o,es,ep,t,k o e,r⟩
theorem xXa {h:Heap}{b:Bool}{a:Addr}{S S':Int→Bool}{n n':Nat}(x:SetX prog w h b a S n)(e:∀k,S k=S' k)(en:n=n'):SetX prog w h b a S' n':=by
 obtain rfl:S=S':=funext e
 subst en
 exact x
theorem qCh {h:Heap}{a:Addr}{o:Obj}{es:Array (Int×Value)}{ep:Nat}{t:SetTable}(ho:h.get? a=some o)(hex:o.ExactSet)(hd:o.data=.set es ep t){es':Array (Int×Value)}{t':SetTable}{S':Int→Bool}{b:Bool}
  (hel:ElemsOf (intKind prog w) es'.toList) (hmem:∀k,S' k=true↔∃e∈es'.toList,(intKind prog w).is k e.2=true) (hb:es'.size<scanBound) (hf:t'.fits es'.size=true) (ok:TOk b t'):
  (h.update a (Obj.putSet es' t')).get? a=some { o with data:=.set es' (ep+1) t' }∧SetX prog w (h.update a (Obj.putSet es' t')) b a S' es'.size:=by
 have hg:(h.update a (Obj.putSet es' t')).get? a=some { o with data:=.set es' (ep+1) t' }:=by
  have:=Heap.get?_update_self (Obj.putSet es' t') ho (by rw[putSet_of es' t' hd];rfl)
  rw[putSet_of es' t' hd] at this;exact this
 exact⟨hg,_,es',ep+1,t',hg,hex,rfl,hel,hmem,hb,hf,rfl,ok⟩
theorem TOk.off {b:Bool}{t:SetTable}(h:TOk b t):TOk b { t with plain:=false }:=⟨h.led,h.dum,h.ris⟩
theorem qAl {b:Bool}{s₁:Shared}{Q:Unit→Shared→Prop}(hq:Q () s₁):wpAny (model prog w) A (match b with | true=>rule "set.scan.the-table-gave-way" | false=>pure ()) Q E s₁:=by
 cases b
 ·exact yYX hq
 ·exact wpAny_rule hq
theorem qGw {g:Bool→Sem Unit}(hg:∀(b:Bool) (s₁:Shared) (Q':Unit→Shared→Prop),Q' () s₁→wpAny (model prog w) A (g b) Q' E s₁){a:Addr}{o:Obj}{es:Array (Int×Value)}{ep:Nat}{t:SetTable}(ho:s.heap.get? a=some o)(hex:o.ExactSet)(hd:o.data=.set es ep t)
  {es1:Array (Int×Value)} {t2:SetTable} {S':Int→Bool} {b:Bool} (hel1:ElemsOf (intKind prog w) es1.toList) (hmem1:∀k',S' k'=true↔∃e∈es1.toList,(intKind prog w).is k' e.2=true)
  (hb1:es1.size<scanBound) (hf2:t2.fits es1.size=true) (ok:TOk b t2) {wd:Bool} {R:Option Bool→Shared→Prop}
  (h:∀h',Heap.SameBut a s.heap h'→SetX prog w h' b a S' es1.size→R (some true) { s with heap:=h' }):
  wpAny (model prog w) A (do
    storeSet a es1 t2
    if (!wd && t2.tooFull)=true then do
      g (relayAll t2 es1 (SetTable.grown es1.size)).2.2
      storeSet a (relayAll t2 es1 (SetTable.grown es1.size)).1 (relayAll t2 es1 (SetTable.grown es1.size)).2.1
      pure (some true)
     else pure (some true)) R E s:=by
 refine yYW (wpAny_storeSet_of ho hd ?_ (fits_of_scanBound hb1))
 obtain⟨ho1,hS1⟩:=qCh (prog:=prog) (w:=w) ho hex hd hel1 hmem1 hb1 hf2 ok
 have sb1:=Heap.SameBut.update s.heap a (Obj.putSet es1 t2)
 split
 ·have hp:=relayAll_perm t2 es1 (SetTable.grown es1.size)
  have hfr:=relayAll_fits t2 es1 (SetTable.grown es1.size)
  have okr:=ok.relayAll es1 (SetTable.grown es1.size)
  generalize relayAll t2 es1 (SetTable.grown es1.size)=Rl at hp hfr okr ⊢
  obtain⟨es2,t3,gave2⟩:=Rl
  dsimp only at hp hfr okr ⊢
  have hmem2:∀k',S' k'=true↔∃e∈es2.toList,(intKind prog w).is k' e.2=true:=fun k'=>(hmem1 k').trans ⟨fun⟨e,he,q⟩=>⟨e,hp.mem_iff.mpr he,q⟩,fun⟨e,he,q⟩=>⟨e,hp.mem_iff.mp he,q⟩⟩
  have hsz:es2.size=es1.size:=by rw[← yZL,hp.length_eq,yZL]
  refine yYW (hg _ _ _ ?_)
  refine yYW (wpAny_storeSet_of ho1 rfl ?_ (fits_of_scanBound (by rw[hsz];exact hb1)))
  obtain⟨_,hS2⟩:=qCh (prog:=prog) (w:=w) ho1 hex rfl (hel1.perm hp) hmem2 (by rw[hsz];exact hb1) hfr okr
  rw[hsz] at hS2
  exact yYX (h _ (sb1.trans (Heap.SameBut.update _ a _)) hS2)
 ·exact yYX (h _ sb1 hS1)
theorem xVm {a:Addr}{b:Bool}{S:Int→Bool}{n:Nat}{k:Int}{x:Value}{Q:Bool→Shared→Prop}(hkey:(intKind prog w).is k x=true)(hsc:x.scannable=true)(hS:SetX prog w s.heap b a S n)(room:n+1<scanBound)
  (h:∀h',Heap.SameBut a s.heap h'→SetX prog w h' b a (fun k'=>S k' || decide (k'=k)) (if S k then n else n+1)→Q (!S k) { s with heap:=h' }):
  wpAny (model prog w) A (setAddHashed a x ((intKind prog w).hash k)) Q E s:=by
 obtain⟨o,es,ep,t,ho,hex,hd,hel,hmem,hb,hf,hn,ok⟩:=hS
 unfold setAddHashed setAddHashedIn
 refine wpAny_holding (yYW (wpAny_setState_of ho hd hf ?_))
 dsimp only
 rw[byScan_of hsc hb hel]
 simp only[↓reduceIte]
 unfold setAddByScan
 refine yYW ?_
 refine yYW (wpAny_rule ?_)
 refine yYW (wpAny_setScan_of hkey ho hd hf hel ?_)
 cases hr:List.findIdx? (fun e=>(intKind prog w).is k e.2) es.toList with
 | some j=>
  dsimp only
  obtain⟨hj,hpj,_⟩:=List.findIdx?_eq_some_iff_getElem.mp hr
  have hSk:S k=true:=(hmem k).mpr ⟨es.toList[j],List.getElem_mem hj,hpj⟩
  refine yYX (yYX ?_)
  have e:s={ s with heap:=s.heap }:=by cases s;rfl
  have:=h s.heap (Heap.SameBut.refl a s.heap) ⟨o,es,ep,t,ho,hex,hd,hel,fun k'=>by
   rw[Bool.or_eq_true,decide_eq_true_eq,← hmem k']
   exact⟨fun hk=>hk.elim id (fun e=>e▸hSk),.inl⟩,hb,hf,by rw[hSk];exact hn,ok⟩
  rw[hSk] at this;rw[e];exact this
 | none=>
  dsimp only
  have hSk:S k=false:=by
   cases hk:S k with
   | false=>rfl
   | true=>
    obtain⟨e,he,hp⟩:=(hmem k).mp hk
    have:=List.findIdx?_eq_none_iff.mp hr e he
    rw[hp] at this;cases this
  have hperm:=layNew_perm t es ((intKind prog w).hash k) x
  have hfits:=layNew_fits t es ((intKind prog w).hash k) x
  have ok1:=ok.layNew es ((intKind prog w).hash k) x
  generalize layNew t es ((intKind prog w).hash k) x=L at hperm hfits ok1 ⊢
  obtain⟨es1,t1,wd,gave⟩:=L
  dsimp only at hperm hfits ok1 ⊢
  rw[Array.toList_push] at hperm
  have hel1:ElemsOf (intKind prog w) es1.toList:=(hel.push hkey hsc).perm hperm
  have hmem1:∀k',(S k' || decide (k'=k))=true↔∃e∈es1.toList,(intKind prog w).is k' e.2=true:=mem_push_iff hkey hmem hperm
  have hsz1:es1.size=n+1:=by rw[← yZL,hperm.length_eq,yYI,yZL,hn];rfl
  have hb1:es1.size<scanBound:=by rw[hsz1];exact room
  refine yYW (qAl ?_)
  have fin:∀h',Heap.SameBut a s.heap h'→SetX prog w h' b a (fun k'=>S k' || decide (k'=k)) es1.size→Q true { s with heap:=h' }:=fun h' sb hS'=>by
   have:=h h' sb
   rw[hSk] at this
   rw[hsz1] at hS'
   exact this hS'
  split
  ·refine yYW ?_
   rw[hashByValue_scannable 8 hsc]
   refine yYX ?_
   refine qGw (b:=b) (fun b s₁ Q' hq=>qAl hq) ho hex hd hel1 hmem1 hb1 ?_ ?_ ?_
   ·split
    ·exact hfits
    ·exact SetTable.fits_plain_off hfits
   ·split
    ·exact ok1
    ·exact ok1.off
   ·intro h' sb hS'
    exact yYX (fin h' sb hS')
  ·refine yYW (yYX ?_)
   simp only[↓reduceIte]
   refine qGw (b:=b) (fun b s₁ Q' hq=>qAl hq) ho hex hd hel1 hmem1 hb1 hfits ok1 ?_
   intro h' sb hS'
   exact yYX (fin h' sb hS')
end
section
variable {prog:Program}{w:World}{A:Around}{R:Result→Shared→Prop}{I:Addr}{fp wr:List Addr}{G:Array GenState→Array GenState→Prop}{n:Nat}{P:Nat→Value→Prop}{St:Nat→Shared→Prop}
theorem xZm (W:WalksS prog w A.in1 I fp wr G n P St)(T:Addr)(hT:T∉fp)(val:Nat→Int)(hval:∀i v,P i v→∃t,v=.int (val i) t)(hb:n+1<scanBound){b:Bool}:
  ∀(k i:Nat) (s:Shared),n - i=k→i≤n→St i s→SetX prog w s.heap b T (fun k'=>(firstMet val i).any (· == k')) (firstMet val i).length→
   (∀s',Moved (T::wr) G s s'→SetX prog w s'.heap b T (fun k'=>(firstMet val n).any (· == k')) (firstMet val n).length→R (.ok (.ret .none)) s')→
   codeAny (model prog w) A (.builtin "set.update.loop" ⟨[.ref T,.ref I],[]⟩) R s:=by
 have hTw:T∉wr:=fun z=>hT (W.sub _ z)
 have up:∀b∈wr,b∈T::wr:=fun b z=>yYH _ z
 intro k
 induction k with
 | zero=>
  intro i s hk hi st hS hR
  obtain rfl:i=n:=by omega
  refine codeAny_builtin PyProof.Rows.F.entry_set_update_loop ?_
  rw[Around.under_plainId PyProof.Rows.F.plain_set_update_loop _]
  refine yYW (m:=pyNext (.ref I)) (W.done s _ _ st fun s' mv=>?_)
  exact yYX (hR s' (mv.mono up) (hS.kept fun o e=>mv.heap T _ hTw e))
 | succ k ih=>
  intro i s hk hi st hS hR
  have lt:i<n:=by omega
  refine codeAny_builtin PyProof.Rows.F.entry_set_update_loop ?_
  rw[Around.under_plainId PyProof.Rows.F.plain_set_update_loop _]
  refine yYW (m:=pyNext (.ref I)) (W.item i s _ _ lt st fun v s' hP st' mv=>?_)
  obtain⟨tk,rfl⟩:=hval i v hP
  have hS1:=hS.kept (h':=s'.heap) fun o e=>mv.heap T _ hTw e
  refine yYW (m:=holding [Value.int (val i) tk] (setAdd T (.int (val i) tk))) (wpAny_holding ?_)
  unfold setAdd
  refine wpAny_holding (yYW ((intKind prog w).pyHash (k:=val i) (intKind_is prog w _ _) ?_))
  have lm:=firstMet_length_le val i
  refine xVm (s:={ s' with toks:=s'.toks+1 }) (b:=b) (intKind_is prog w _ _) rfl hS1 (by omega) fun h' sb hS2=>?_
  have hS3:SetX prog w h' b T (fun k'=>(firstMet val (i+1)).any (· == k')) (firstMet val (i+1)).length:=by
   refine xXa hS2 (fun x=>?_) ?_
   ·rw[firstMet_succ,step_any]
   ·rw[firstMet_succ,step_length]
  refine yYX ⟨plainId_quiet PyProof.Rows.F.plain_set_update_loop _,ih (i+1) _ (by omega) lt (W.frame _ s' _ _ st' (Nat.le_succ _) fun b hb' o e=>?_) hS3 fun s'' mv2 hS4=>?_⟩
  ·rw[sb.2 b (fun z=>hT (z▸hb'))];exact e
  ·refine hR s'' (Moved.trans W.gtrans ((mv.mono up).then_heap (Nat.le_succ _) fun b o hb' e=>?_) mv2) hS4
   rw[sb.2 b (fun z=>hb' (z▸yYG))];exact e
end
end SI

namespace SI
open PySem PyProof.Rows
def byText (w:World):Bool:=w.params.followText "set-order"
section
variable {prog:Program}{w:World}{A:Around}{E:Value→Shared→Prop}{s:Shared}
theorem xZw (a:Value){Q₁:Value→Shared→Prop}(h:Q₁ (.ref s.heap.objs.size) { s with heap:=s.heap.push (setObj (!byText w)) }):
  codeAny (model prog w) A (.call (.builtin "set.__new__") ⟨[.type "set",a],[]⟩) (wants Q₁ E) s:=by
 refine codeAny_of_tree ?_
 show wpAny _ A.in1 (do checkBuiltinCall "set.__new__" ⟨[.type "set",a],[]⟩;again (.builtin "set.__new__" ⟨[.type "set",a],[]⟩)) _ _ s
 refine yYW (wpAny_of_eq (F.newCall_set_1 a) (yYX ⟨plainId_quiet F.plain_set_new _,codeAny_builtin F.entry_set_new ?_⟩))
 rw[Around.under_plainId F.plain_set_new _]
 unfold Builtin.«set.__new__» Builtin.Frozenset.newClass
 have hsub:=sub_set_self
 obtain⟨hp,g,d,tk,os⟩:=s
 dsimp only
 wp_walk
 refine wpAny_askSetting (yYX ?_)
 dsimp only
 simp only[newObj]
 refine yYW (wpAny_alloc (yYX ?_))
 exact yYX h
def valOf (ns:List Int)(i:Nat):Int:=ns.getD i 0
theorem qPg (ns:List Int):(List.range ns.length).map (valOf ns)=ns:=by
 refine List.ext_getElem? fun i=>?_
 rw[yYO]
 by_cases h:i<ns.length
 ·rw[List.getElem?_range h,yYA h]
  show some (ns.getD i 0)=_
  rw[List.getD_eq_getElem?_getD,yYA h];rfl
 ·rw[List.getElem?_eq_none (by rw[List.length_range];omega),List.getElem?_eq_none (by omega)];rfl
def uniq (ns:List Int):List Int:=firstMet (valOf ns) ns.length
theorem uniq_mem (ns:List Int)(k:Int):k∈uniq ns↔k∈ns:=by
 have h:=firstMet_any (valOf ns) ns.length k
 rw[qPg] at h
 have e:∀l:List Int,l.any (· == k)=true↔k∈l:=fun l=>by simp
 rw[← e,← e]
 show(firstMet (valOf ns) ns.length).any _=true↔_
 rw[h]
theorem uniq_le (ns:List Int):(uniq ns).length≤ns.length:=firstMet_length_le _ _
theorem uniq_nd (ns:List Int):(uniq ns).Nodup:=by
 unfold uniq
 generalize ns.length=n
 induction n with
 | zero=>exact .nil
 | succ n ih=>
  rw[firstMet_succ]
  unfold step_dedup
  split
  ·exact ih
  ·rename_i h
   refine yYU.mpr ⟨ih,by simp,fun a ha b hb=>?_⟩
   rw[yYL.mp hb]
   intro z
   subst z
   exact h (List.any_eq_true.mpr ⟨_,ha,by simp⟩)
theorem call_set_ints {l:Addr}{items:Array Value}{ns:List Int}{Q:Value→Shared→Prop}(hh:A.handled=none)(hl:s.heap.IsList l items)(hI:IntsAre items.toList ns)(hb:items.size+1<scanBound)
  (fin:∀(h':Heap) (tk:Nat),SetX prog w h' (!byText w) s.heap.objs.size (fun k=>(uniq ns).any (· == k)) (uniq ns).length→(∀b o,s.heap.get? b=some o→h'.get? b=some o)→Q (.ref s.heap.objs.size) { s with heap:=h',toks:=tk }):
  wpAny (model prog w) A (call (.type "set") [.ref l]) Q E s:=by
 have len:items.size=ns.length:=by rw[← hI.length];simp
 obtain⟨c0,tl0,m0⟩:=F.called_set.mro
 have m1:=F.called_set.made
 have m2:=F.called_set.sub
 refine wpAny_call (codeAny_of_tree ?_)
 show wpAny _ _ (callAny (.type "set") _) _ _ _
 refine yYX ⟨Code.quiet_builtin _ (by decide +kernel),codeAny_builtin F.entry_type_call ?_⟩
 rw[Around.under_plain (weight_type_call_type "set" [.ref l] []) rfl]
 have m3:=F.called_set.notType
 have m4:=F.called_set.canCreate
 have m5:=F.typeCall_set_1 (.ref l)
 repeat (any_goals (first | assumption | wp_step))
 refine codeAny_mono (xZw (.ref l) (E:=E) (Q₁:=fun obj s₁=>obj=.ref s.heap.objs.size∧s₁={ s with heap:=s.heap.push (setObj (!byText w)) }) ⟨rfl,rfl⟩) fun r s₁ hr=>?_
 cases r with
 | error e=>exact hr
 | ok fl=>
 cases fl with
 | ret obj=>
  obtain⟨rfl,rfl⟩:=hr
  have at0:(s.heap.push (setObj (!byText w))).get? s.heap.objs.size=some (setObj (!byText w)):=yZA _ rfl
  have ty0:Shared.TypeIs { s with heap:=s.heap.push (setObj (!byText w)) } (.ref s.heap.objs.size) "set" := ⟨_,at0,rfl⟩
  have m6:=F.called_set.init.lookup
  have m7:=F.called_set.init.bind (.ref s.heap.objs.size)
  repeat (any_goals (first | assumption | wp_step))
  refine codeAny_mono (codeAny_call_builtin (R:=wants (fun r s₂=>r=.none∧∃h' tk,s₂={ s with heap:=h',toks:=tk }∧SetX prog w h' (!byText w) s.heap.objs.size (fun k=>(uniq ns).any (· == k)) (uniq ns).length∧(∀b o,s.heap.get? b=some o→h'.get? b=some o)) E)
   F.called_set.init.plain F.entry_set_init (check_set_init_1 ty0 ?_)) fun r₂ s₂ hr₂=>?_
  ·obtain⟨⟨oc,od,oda,osl⟩,g,kc,nl,kd⟩:=hl
   simp only at kc kd
   subst kc kd
   have g1:(s.heap.push (setObj (!byText w))).get? l=some { cls:=.type "list",dict:=od,data:=.seq items nl,slots:=osl }:=yYY _ g
   have n1:=F.sub_list_set
   have n2:=F.sub_list_frozenset
   have n3:(Value.type "list" == Value.type "dict")=false:=by decide
   have l1:(s.heap.push (setObj (!byText w))).IsList l items:=⟨_,g1,rfl,nl,rfl⟩
   unfold Builtin.«set.__init__» noKeywords Builtin.Frozenset.updateFrom
   generalize hPI:pyIter=PI
   wp_walk
   subst hPI
   refine wpAny_pyIter_list l1 (yYW (wpAny_runValue ?_))
   have lt:l<s.heap.objs.size:=yYZ g
   have sz:(s.heap.push (setObj (!byText w))).objs.size=s.heap.objs.size+1:=yZB _ _
   have ne1:l≠(s.heap.push (setObj (!byText w))).objs.size:=by rw[sz];exact yZE (Nat.lt_succ_of_lt lt)
   have out:s.heap.objs.size∉[(s.heap.push (setObj (!byText w))).objs.size,l]:=by
    rw[sz]
    intro z
    simp only[yYK,List.not_mem_nil,or_false] at z
    rcases z with z | z
    ·exact absurd z (yZE (Nat.lt_succ_self _))
    ·exact absurd z (yZG lt)
   refine xZm (b:=!byText w) ((Walks.list (by simp[hh]) _ l ne1 items).toS) s.heap.objs.size out (valOf ns) (fun i v hv=>?val) hb (items.size - 0) 0 _ (by omega) (yZF _) ⟨⟨_,yZA _ rfl,rfl,rfl⟩,(l1.push _)⟩ ?start ?done
   case val=>
    have e:items.toList[i]? = some v:=by rw[yZM];exact hv
    exact IntsAre.int_at hI i v e
   case start=>
    refine⟨setObj (!byText w),#[],0,.fresh 0 0 (!byText w),yYY _ at0,⟨rfl,rfl,rfl⟩,rfl,fun e he=>by simp at he,fun k=>⟨(fun z=>by cases z),fun⟨e,he,_⟩=>by simp at he⟩,by unfold scanBound;decide,by simp[SetTable.fits,SetTable.fresh,SetTable.fill],rfl,TOk.fresh _⟩
   case done=>
    intro s' mv hS'
    obtain⟨h',g',d',tk',os'⟩:=s'
    obtain rfl:g'=s.gens:=mv.gens
    obtain rfl:d'=s.drawn:=mv.drawn
    obtain rfl:os'=s.os:=mv.os
    refine yYX ?_
    rw[len] at hS'
    refine yYX ⟨rfl,h',tk',rfl,hS',fun b o e=>?_⟩
    have lb:=yYZ e
    refine mv.heap b o (fun z=>?_) (yYY _ (yYY _ e))
    simp only[yYK,List.not_mem_nil,or_false] at z
    rcases z with z | z
    ·exact absurd z (yZE lb)
    ·exact absurd z (by rw[sz];exact yZE (Nat.lt_succ_of_lt lb))
  ·cases r₂ with
   | error e=>exact hr₂
   | ok fl₂=>
   cases fl₂ with
   | ret r=>
    obtain⟨rfl,h',tk,rfl,hS',keep⟩:=hr₂
    repeat (any_goals (first | assumption | wp_step))
    exact fin _ _ hS' keep
   | _=>exact hr₂.elim
 | _=>exact hr.elim
end
end SI

namespace SI
open PySem PyProof.Rows
theorem qZi:entryFor table "set.__iter__" = some Builtin.«frozenset.__iter__»:=entryFor_alias (id' := "frozenset.__iter__") (by kernel_rfl) rfl (by decide +kernel) (by kernel_rfl)
theorem zZ:Slot "set_iterator" "__next__" "set_iterator.__next__" :=
 .of (owner := "set_iterator") (n := "__next__") (by rw[typeLookup_type,builtinLookup_eq_fast];kernel_rfl) (by decide +kernel) (by decide +kernel) (by decide +kernel)
  (by first | exact .inl (by decide +kernel) | exact .inr (by decide +kernel)) (by rw[isSubtype_type];kernel_rfl)
theorem yY:entryFor table "set_iterator.__next__" = some Builtin.«set_iterator.__next__»:=entryFor_of_tree (by kernel_rfl)
theorem yN (a:Value):argsOk "set_iterator.__next__" ⟨[a],[]⟩:=by unfold argsOk;kernel_rfl
section
variable {M:Model}{A:Around}{E:Value→Shared→Prop}{s:Shared}
theorem wp_choose {src:Source}{n:Nat}{Q:Nat→Shared→Prop}(hn:n≠0)(h:∀i,i<n→Q i { s with drawn:=s.drawn.bump src }):wpAny M A (choose src n) Q E s:=fun Γ p hΓ=>by
 show Sem.wp M Γ (.choose src n .pure) _ _ p s
 rw[Sem.wp_choose]
 exact⟨hn,h _ (Nat.mod_lt _ (Nat.pos_of_ne_zero hn))⟩
theorem qYq {α:Type}{xs:List α}{i:Nat}{x:α}(h:xs[i]? = some x):(x::xs.eraseIdx i).Perm xs:=by
 obtain⟨hi,rfl⟩:=yYB.mp h
 rw[List.eraseIdx_eq_take_drop_succ]
 have e:xs=xs.take i++xs[i]::xs.drop (i+1):=by rw[List.getElem_cons_drop,List.take_append_drop]
 conv=>rhs;rw[e]
 exact List.perm_middle.symm
theorem qFx {α:Type}{Q:List α→Shared→Prop}:∀(n:Nat) (xs:List α) (s:Shared),xs.length=n→(∀ys d,ys.Perm xs→Q ys { s with drawn:=d })→wpAny M A (drawOrder n xs) Q E s:=by
 intro n
 induction n generalizing Q with
 | zero=>
  intro xs s hl h
  have:xs=[]:=List.length_eq_zero_iff.mp hl
  subst this
  unfold drawOrder
  exact yYX (by have:=h [] s.drawn .nil;cases s;exact this)
 | succ n ih=>
  intro xs s hl h
  cases xs with
  | nil=>cases hl
  | cons x0 xr=>
   unfold drawOrder
   refine yYW (wp_choose (by simp) fun i hi=>?_)
   have e:(x0::xr)[i]? = some ((x0::xr)[i]):=yYA hi
   rw[e]
   dsimp only
   refine yYW (ih (Q:=fun ys s'=>wpAny M A (pure ((x0::xr)[i]::ys)) Q E s') ((x0::xr).eraseIdx i) _ (by rw[List.length_eraseIdx_of_lt hi];simp only[yYS] at hl ⊢;omega) fun ys d p=>?_)
   exact yYX (h _ d ((p.cons _).trans (qYq e)))
end
theorem xXg {α:Type}(next:Nat→Nat):∀(f k:Nat) (left:List α) (out:Array α),f=left.length→(pickOrder.go next f k left out).toList.Perm (out.toList++left):=by
 intro f
 induction f with
 | zero=>
  intro k left out h
  have:left=[]:=List.length_eq_zero_iff.mp h.symm
  subst this
  unfold pickOrder.go
  rw[List.append_nil]
 | succ f ih=>
  intro k left out h
  have hi:next k % left.length<left.length:=Nat.mod_lt _ (by omega)
  have e:left[next k % left.length]? = some left[next k % left.length]:=yYA hi
  unfold pickOrder.go
  rw[e]
  dsimp only
  refine(ih (k+1) _ _ (by rw[List.length_eraseIdx_of_lt hi];omega)).trans ?_
  rw[Array.toList_push,List.append_assoc]
  exact List.Perm.append_left _ (qYq e)
theorem qIz {α:Type}(next:Nat→Nat)(xs:Array α):(pickOrder next xs).toList.Perm xs.toList:=by
 have:=xXg next xs.size 0 xs.toList #[] (by simp)
 exact this
abbrev itObj (first:Value)(i:Nat)(a:Addr)(n ep:Nat):Obj:={ cls:=.type "set_iterator",data:=.fields #[first,.int i 0,.ref a,.int n 0,.int ep 0] }
structure Lies (h:Heap)(a:Addr)(o:Obj)(es:Array (Int×Value))(ep:Nat)(t:SetTable):Prop where
 at':h.get? a=some o
 ex:o.ExactSet
 data:o.data=.set es ep t
 fits:t.fits es.size=true
theorem Lies.kept {h h':Heap}{a:Addr}{o:Obj}{es:Array (Int×Value)}{ep:Nat}{t:SetTable}(x:Lies h a o es ep t)(k:∀o,h.get? a=some o→h'.get? a=some o):Lies h' a o es ep t:=⟨k _ x.at',x.ex,x.data,x.fits⟩
section
variable {prog:Program}{w:World}{A:Around}{E:Value→Shared→Prop}{s:Shared}{I a:Addr}{o:Obj}{es:Array (Int×Value)}{ep:Nat}{t:SetTable}{i:Nat}
theorem qVi {slot:Nat}{Q:Option Value→Shared→Prop}(hi:s.heap.get? I=some (itObj (.int slot 0) i a es.size ep))(L:Lies s.heap a o es ep t)
  {x:Value} {nx:Nat} (hn:∀(Q':Option (Value×Nat)→Shared→Prop) (A':Around) (E':Value→Shared→Prop),Q' (some (x,nx)) s→wpAny (model prog w) A' (setNext a slot i ep) Q' E' s)
  (h:∀h',h'.get? I=some (itObj (.int nx 0) (i+1) a es.size ep)→Heap.SameBut I s.heap h'→Q (some x) { s with heap:=h' }):wpAny (model prog w) A (pyNext (.ref I)) Q E s:=by
 have hT:s.TypeIs (.ref I) "set_iterator" := ⟨_,hi,rfl⟩
 unfold pyNext
 refine yYW (wpAny_attempt (wpAny_callSpecial?_slot (name:=Str.ofString "__next__") hT zZ (wpAny_call_entry zZ hT yY ?_ (yN _))))
 unfold Builtin.«set_iterator.__next__» slotArgs
 simp only[List.isEmpty_nil,Bool.not_true,yZJ,↓reduceIte,bind_assoc,yYT,bne_self_eq_false]
 refine yYW (yYX ?_)
 refine yYW (wpAny_fieldsOf hi rfl ?_)
 dsimp only
 refine yYW (wpAny_setEntries_of L.at' L.data L.fits ?_)
 simp only[bne_self_eq_false,yZJ,↓reduceIte]
 rw[Int.toNat_natCast,Int.toNat_natCast,Int.toNat_natCast]
 refine yYW (hn _ _ _ ?_)
 dsimp only
 refine yYW (wpAny_setField hi rfl (by simp) ?_)
 have e1:(s.heap.update I (Obj.mapFields fun vs=>vs.setIfInBounds 0 (rawInt nx))).get? I=some (itObj (.int nx 0) i a es.size ep):=Heap.get?_update_self _ hi rfl
 refine yYW (wpAny_setField e1 rfl (by simp) ?_)
 refine yYX ⟨x,rfl,yYX (h _ ?_ ((Heap.SameBut.update ..).trans (Heap.SameBut.update ..)))⟩
 exact Heap.get?_update_self _ e1 rfl
theorem qSa {first:Value}{Q:Option Value→Shared→Prop}(hh:A.handled=none)(hi:s.heap.get? I=some (itObj first i a es.size ep))(L:Lies s.heap a o es ep t)
  (hn:∀slot:Nat,first=.int slot 0→∀(Q':Option (Value×Nat)→Shared→Prop) (A':Around) (E':Value→Shared→Prop),Q' none s→wpAny (model prog w) A' (setNext a slot i ep) Q' E' s)
  (hp:(∃slot:Nat,first=.int slot 0)∨∃p op ys n,first=.ref p∧s.heap.get? p=some op∧op.data=.seq ys n∧ys.size=i)
  (h:∀h',Heap.ExtBut I s.heap h'→Q none { s with heap:=h' }):wpAny (model prog w) A (pyNext (.ref I)) Q E s:=by
 have hT:s.TypeIs (.ref I) "set_iterator" := ⟨_,hi,rfl⟩
 have stop:∀h1 (f:Value),h1.get? I=some (itObj f i a es.size ep)→Heap.SameBut I s.heap h1→wpAny (model prog w) A.in1 (do
   setField (Value.ref I) 2 Value.none
   let e ← newExc (Value.type "StopIteration") []
   (raiseNew e:Sem PySem.Fin)) (fun fin s'=>∃v,fin=Fin.done (Flow.ret v)∧wpAny (model prog w) A (pure (some v)) Q E s')
   (fun e s'=>wpAny (model prog w) A (do
     let c ← isInstance e (Value.type "StopIteration")
     if c=true then pure none else throw e) Q E s') { s with heap:=h1 }:=fun h1 f e1 sb=>by
  refine yYW (wpAny_setField (s:={ s with heap:=h1 }) e1 rfl (by simp) ?_)
  refine yYW ?_
  simp only[newExc,newTuple]
  refine yYW (wpAny_newObj_type ?_ (by size_fits))
  refine yYW (m:=firstArgMember _ _) (wpAny_of_eq (a:=Value.none) (by first | rfl | (simp only[firstArgMember];rfl)) ?_)
  refine wpAny_newObj_type ?_ (by size_fits)
  simp only[raiseNew]
  refine yYW (wpAny_handled ?_)
  rw[show A.in1.handled=none from hh]
  refine yYW (yYX (wpAny_throw ?_))
  refine yYW (wpAny_isInstance (T := "StopIteration") (b:=true) ⟨_,yZA _ rfl,rfl⟩ isSubtype_stop ?_)
  exact yYX (h _ (((sb.trans (Heap.SameBut.update ..)).extBut.push _).push _))
 unfold pyNext
 refine yYW (wpAny_attempt (wpAny_callSpecial?_slot (name:=Str.ofString "__next__") hT zZ (wpAny_call_entry zZ hT yY ?_ (yN _))))
 unfold Builtin.«set_iterator.__next__» slotArgs
 simp only[List.isEmpty_nil,Bool.not_true,yZJ,↓reduceIte,bind_assoc,yYT,bne_self_eq_false]
 refine yYW (yYX ?_)
 refine yYW (wpAny_fieldsOf hi rfl ?_)
 dsimp only
 refine yYW (wpAny_setEntries_of L.at' L.data L.fits ?_)
 simp only[bne_self_eq_false,yZJ,↓reduceIte]
 rcases hp with⟨slot,rfl⟩ | ⟨p,op,ys,n,rfl,e2,d2,z⟩
 ·dsimp only
  rw[Int.toNat_natCast,Int.toNat_natCast,Int.toNat_natCast]
  refine yYW (hn slot rfl _ _ _ ?_)
  dsimp only
  exact stop s.heap _ hi (Heap.SameBut.refl ..)
 ·dsimp only
  refine yYW (wpAny_seqItems e2 d2 ?_)
  dsimp only
  rw[Int.toNat_natCast,show ys[i]? = none by simp[z]]
  dsimp only
  refine yYW (wpAny_setField hi rfl (by simp) ?_)
  have e1:(s.heap.update I (Obj.mapFields fun vs=>vs.setIfInBounds 0 (rawInt 0))).get? I=some (itObj (.int 0 0) i a es.size ep):=Heap.get?_update_self _ hi rfl
  exact stop _ _ e1 (Heap.SameBut.update ..)
theorem qEg {p:Addr}{op:Obj}{ys:Array Value}{n:Nat}{pl:Nat}{x:Int×Value}{Q:Option Value→Shared→Prop}(hi:s.heap.get? I=some (itObj (.ref p) i a es.size ep))(L:Lies s.heap a o es ep t)
  (e2:s.heap.get? p=some op) (d2:op.data=.seq ys n) (ey:ys[i]? = some (.int pl 0)) (ex:es[pl]? = some x)
  (h:∀h',h'.get? I=some (itObj (.ref p) (i+1) a es.size ep)→Heap.SameBut I s.heap h'→Q (some x.2) { s with heap:=h' }):wpAny (model prog w) A (pyNext (.ref I)) Q E s:=by
 have hT:s.TypeIs (.ref I) "set_iterator" := ⟨_,hi,rfl⟩
 unfold pyNext
 refine yYW (wpAny_attempt (wpAny_callSpecial?_slot (name:=Str.ofString "__next__") hT zZ (wpAny_call_entry zZ hT yY ?_ (yN _))))
 unfold Builtin.«set_iterator.__next__» slotArgs
 simp only[List.isEmpty_nil,Bool.not_true,yZJ,↓reduceIte,bind_assoc,yYT,bne_self_eq_false]
 refine yYW (yYX ?_)
 refine yYW (wpAny_fieldsOf hi rfl ?_)
 dsimp only
 refine yYW (wpAny_setEntries_of L.at' L.data L.fits ?_)
 simp only[bne_self_eq_false,yZJ,↓reduceIte]
 refine yYW (wpAny_seqItems e2 d2 ?_)
 dsimp only
 rw[Int.toNat_natCast,ey]
 dsimp only
 rw[Int.toNat_natCast,Int.toNat_natCast]
 refine yYW ?_
 unfold setNextDrawn
 refine yYW (wpAny_setState_of L.at' L.data L.fits ?_)
 dsimp only
 rw[if_neg (by simp),ex]
 refine yYX ?_
 refine yYW (wpAny_setField hi rfl (by simp) ?_)
 exact yYX ⟨_,rfl,yYX (h _ (Heap.get?_update_self _ hi rfl) (Heap.SameBut.update ..))⟩
end
end SI

namespace SI
open PySem PyProof.Rows
theorem vA:Slot "set_iterator" "__iter__" "set_iterator.__iter__" :=
 .of (owner := "set_iterator") (n := "__iter__") (by rw[typeLookup_type,builtinLookup_eq_fast];kernel_rfl) (by decide +kernel) (by decide +kernel) (by decide +kernel)
  (by first | exact .inl (by decide +kernel) | exact .inr (by decide +kernel)) (by rw[isSubtype_type];kernel_rfl)
theorem qZj:entryFor table "set_iterator.__iter__" = some Builtin.«dict_keyiterator.__iter__»:=entryFor_alias (id' := "dict_keyiterator.__iter__") (by kernel_rfl) rfl (by decide +kernel) (by kernel_rfl)
theorem qZn (a:Value):argsOk "set_iterator.__iter__" ⟨[a],[]⟩:=by unfold argsOk;kernel_rfl
section
variable {prog:Program}{w:World}{A:Around}{E:Value→Shared→Prop}{s:Shared}{I a:Addr}{o:Obj}{es:Array (Int×Value)}{ep:Nat}{t:SetTable}{i slot:Nat}
theorem qKd {Q:Bool→Shared→Prop}(h:Q (byText w) s):wpAny (model prog w) A setsByText Q E s:=by
 unfold setsByText
 exact yYW (wpAny_askSetting (yYX h))
theorem qHx (ht:byText w=true)(L:Lies s.heap a o es ep t){Q:Option (Value×Nat)→Shared→Prop}(h:Q ((pickOrder (w.params.setOrder a ep) es)[i]?.map fun e=>(e.2,slot)) s):wpAny (model prog w) A (setNext a slot i ep) Q E s:=by
 unfold setNext
 refine yYW (wpAny_setState_of L.at' L.data L.fits ?_)
 dsimp only
 refine yYW (qKd ?_)
 rw[ht]
 simp only[↓reduceIte,bne_self_eq_false,yZJ]
 refine yYW ?_
 unfold setWalk
 refine yYW (wpAny_setState_of L.at' L.data L.fits ?_)
 dsimp only
 refine yYW (qKd ?_)
 rw[ht]
 simp only[↓reduceIte]
 refine yYW (wpAny_askSetting (yYX ?_))
 exact yYX h
theorem qCg (hf:byText w=false)(nd:(!t.plain && decide (es.size>1))=false)(led:t.led=true)(L:Lies s.heap a o es ep t){Q:Option (Value×Nat)→Shared→Prop}
  (h:Q (match es[SetTable.below t.place slot]?,t.place[SetTable.below t.place slot]? with | some (_,x),some j=>some (x,j+1) | _,_=>none) s):wpAny (model prog w) A (setNext a slot i ep) Q E s:=by
 unfold setNext
 refine yYW (wpAny_setState_of L.at' L.data L.fits ?_)
 dsimp only
 refine yYW (qKd ?_)
 rw[hf]
 simp only[↓reduceIte,yZJ]
 show wpAny _ _ (if (!t.plain && decide (es.size>1))=true then _ else _) _ _ _
 rw[nd]
 simp only[↓reduceIte,yZJ]
 refine yYW (m:=if (!t.led && !es.isEmpty)=true then unsupported "set:maker-not-led" else pure ()) ?_
 rw[led]
 simp only[Bool.not_true,Bool.false_and,yZJ,↓reduceIte]
 exact yYX (yYX h)
inductive Way (w:World)(h:Heap)(a:Addr)(es:Array (Int×Value))(ep:Nat)(t:SetTable)(i:Nat):List (Int×Value)→Value→Prop
 | text (slot:Nat):byText w=true→Way w h a es ep t i (pickOrder (w.params.setOrder a ep) es).toList (.int slot 0)
 | place (slot:Nat):byText w=false→(!t.plain && decide (es.size>1))=false→t.led=true→Ris t.place→SetTable.below t.place slot=i→Way w h a es ep t i es.toList (.int slot 0)
 | drawn (p:Addr) (op:Obj) (ks:List Nat) (n:Nat):h.get? p=some op→op.data=.seq (ks.map fun k=>Value.int (k:Nat) 0).toArray n→ks.Perm (List.range es.size)→Way w h a es ep t i (ks.filterMap fun k=>es[k]?) (.ref p)
structure ItSt (w:World)(I a:Addr)(o:Obj)(es:Array (Int×Value))(ep:Nat)(t:SetTable)(ord:List (Int×Value))(fp:List Addr)(i:Nat)(s:Shared):Prop where
 lies:Lies s.heap a o es ep t
 it:∃first,s.heap.get? I=some (itObj first i a es.size ep)∧Way w s.heap a es ep t i ord first∧∀p,first=.ref p→p∈fp∧p≠I
theorem Way.kept {h h':Heap}{ord:List (Int×Value)}{first:Value}(x:Way w h a es ep t i ord first)(k:∀p o,first=.ref p→h.get? p=some o→h'.get? p=some o):Way w h' a es ep t i ord first:=by
 cases x with
 | text slot b=>exact .text slot b
 | place slot b c d e f=>exact .place slot b c d e f
 | drawn p op ks n e d pm=>exact .drawn p op ks n (k p op rfl e) d pm
theorem qTa {es:Array (Int×Value)}{ks:List Nat}(h:∀k∈ks,k<es.size)(i:Nat):(ks.filterMap fun k=>es[k]?)[i]? = ks[i]?.bind fun k=>es[k]? := by
 induction ks generalizing i with
 | nil=>rfl
 | cons k ks ih=>
  have hk:=h k yYG
  rw[List.filterMap_cons_some (b:=es[k]) (getElem?_pos es k hk)]
  cases i with
  | zero=>exact(getElem?_pos es k hk).symm
  | succ i=>
   rw[List.getElem?_cons_succ,List.getElem?_cons_succ]
   exact ih (fun k hk=>h k (yYH _ hk)) i
theorem qFb {p:Array Nat}(h:Ris p){i:Nat}(hi:i<p.size):SetTable.below p (p.getD i 0+1)=i+1:=by
 obtain⟨b1,b2,b3⟩:=qKf h (p.getD i 0+1)
 have l1:i<SetTable.below p (p.getD i 0+1):=by
  by_cases c:i<SetTable.below p (p.getD i 0+1)
  ·exact c
  ·have:=b3 i (by omega) hi
   omega
 by_cases c:i+1<SetTable.below p (p.getD i 0+1)
 ·have h1:=b2 (i+1) c
  have h2:=h.get (show i<i+1 by omega) (show i+1<p.size by omega)
  omega
 ·omega
theorem qNv {t:SetTable}{n:Nat}(h:t.fits n=true):t.place.size=n:=by
 simp only[SetTable.fits,Bool.and_eq_true,beq_iff_eq] at h
 exact h.1
theorem qFh (hh:A.handled=none)(hne:a≠I){fp:List Addr}(hIf:I∈fp)(haf:a∈fp)(o:Obj)(es:Array (Int×Value))(ep:Nat)(t:SetTable)(ord:List (Int×Value))(lo:ord.length=es.size):
  WalksS prog w A I fp [I] (fun a b=>b=a) es.size (fun i v=>∃k,ord[i]? = some (k,v)) (ItSt w I a o es ep t ord fp) where
 sub:=fun b hb=>by rw[yYL.mp hb];exact hIf
 grefl:=fun _=>rfl
 gtrans:=fun _ _ _ x y=>y.trans x
 frame:=fun i s h' tk st _ hk=>by
  obtain⟨first,e,wy,hp⟩:=st.it
  exact⟨st.lies.kept fun o e=>hk a haf o e,first,hk I hIf _ e,wy.kept fun p o ep e=>hk p (hp p ep).1 o e,hp⟩
 item:=fun i s Q E hi st hQ=>by
  obtain⟨first,e,wy,hp⟩:=st.it
  have L:=st.lies
  have fin:∀(x:Int×Value) (f':Value) (h':Heap),ord[i]? = some x→h'.get? I=some (itObj f' (i+1) a es.size ep)→Heap.SameBut I s.heap h'→Way w h' a es ep t (i+1) ord f'→(∀p,f'=.ref p→p∈fp∧p≠I)→Q (some x.2) { s with heap:=h' }:=fun x f' h' ex e1 sb wy' hp'=>
   hQ x.2 _ ⟨x.1,ex⟩ ⟨L.kept fun o e=>(sb.2 a hne).trans e,f',e1,wy',hp'⟩ ⟨fun b o hb e=>(sb.2 b (fun z=>hb (by rw[z];exact yYL.mpr rfl))).trans e,rfl,rfl,rfl,yZC _⟩
  cases wy with
  | text slot b=>
   have ex:(pickOrder (w.params.setOrder a ep) es)[i]? = some ((pickOrder (w.params.setOrder a ep) es).toList[i]'(by omega)):=by rw[← yZM];exact yYA _
   refine qVi (x:=_) (nx:=slot) e L (fun Q' A' E' hq=>qHx b L (by rw[ex];exact hq)) fun h' e1 sb=>?_
   exact fin _ _ h' (yYA (by omega)) e1 sb (.text slot b) fun p z=>by cases z
  | place slot b c d ris bl=>
   have zp:=qNv L.fits
   have ex:es[i]? = some es[i]:=getElem?_pos es i hi
   have ep':t.place[i]? = some (t.place.getD i 0):=by simp[Array.getD,zp,hi]
   refine qVi (x:=es[i].2) (nx:=t.place.getD i 0+1) e L (fun Q' A' E' hq=>qCg b c d L (by rw[bl,ex,ep'];exact hq)) fun h' e1 sb=>?_
   exact fin es[i] _ h' (by rw[yZM];exact ex) e1 sb (.place _ b c d ris (qFb ris (by omega))) fun p z=>by cases z
  | drawn p op ks n e2 d2 pm=>
   have lk:ks.length=es.size:=by rw[pm.length_eq,List.length_range]
   have kb:∀k∈ks,k<es.size:=fun k hk=>List.mem_range.mp (pm.mem_iff.mp hk)
   have ek:ks[i]? = some (ks[i]'(by omega)):=yYA _
   have bk:=kb _ (List.getElem_mem (h:=(by omega:i<ks.length)))
   have ey:(ks.map fun k=>Value.int (k:Nat) 0).toArray[i]? = some (.int ((ks[i]'(by omega):Nat)) 0):=by
    rw[List.getElem?_toArray,yYO,ek];rfl
   refine qEg e L e2 d2 ey (getElem?_pos es _ bk) fun h' e1 sb=>?_
   refine fin _ _ h' (by rw[qTa kb,ek];exact getElem?_pos es _ bk) e1 sb (.drawn p op ks n ((sb.2 p (hp p rfl).2).trans e2) d2 pm) fun p' z=>by cases z;exact hp p rfl
 done:=fun s Q E st hQ=>by
  obtain⟨first,e,wy,hp⟩:=st.it
  have L:=st.lies
  refine qSa hh e L (fun slot ef Q' A' E' hq=>?_) ?_ fun h' x=>hQ _ ⟨fun b o hb e=>x b o (fun z=>hb (by rw[z];exact yYL.mpr rfl)) e,rfl,rfl,rfl,yZC _⟩
  ·cases wy with
   | text slot' b=>
    refine qHx b L ?_
    rw[← yZM,List.getElem?_eq_none (by omega)]
    exact hq
   | place slot' b c d ris bl=>
    cases ef
    refine qCg b c d L ?_
    rw[bl,Array.getElem?_eq_none (yZC _)]
    exact hq
   | drawn p op ks n e2 d2 pm=>cases ef
  ·cases wy with
   | text slot b=>exact .inl ⟨slot,rfl⟩
   | place slot b c d ris bl=>exact .inl ⟨slot,rfl⟩
   | drawn p op ks n e2 d2 pm=>exact .inr ⟨p,op,_,n,rfl,e2,d2,by rw[yYD,yYC,pm.length_eq,List.length_range]⟩
 self:=fun i s Q E st hQ=>by
  obtain⟨first,e,_,_⟩:=st.it
  have hT:s.TypeIs (.ref I) "set_iterator" := ⟨_,e,rfl⟩
  refine wpAny_pyIter_slot hT vA (wpAny_call_entry vA hT qZj ?_ (qZn _))
  show wpAny _ _ (ret (.ref I)) _ _ s
  exact yYX ⟨_,rfl,"set_iterator",_,hT,zZ.lookup,hQ⟩
theorem qSl (L:Lies s.heap a o es ep t){Q:Bool→Shared→Prop}(h:Q (!byText w && (!t.plain && decide (es.size>1))) s):wpAny (model prog w) A (setDrawn a) Q E s:=by
 unfold setDrawn
 refine yYW (wpAny_setState_of L.at' L.data L.fits ?_)
 dsimp only
 refine yYW (qKd ?_)
 exact yYX h
theorem qSi (L:Lies s.heap a o es ep t)(ok:TOk (!byText w) t)(hz:es.size≤5000){Q:Value→Shared→Prop}
  (h:∀(I:Addr) (ord:List (Int×Value)) (fp:List Addr) (h':Heap) (d:Drawn),ord.Perm es.toList→s.heap.objs.size≤I→I∈fp→a∈fp→(∀b∈fp,b=a∨s.heap.objs.size≤b)→(∀b∈fp,b<h'.objs.size)→(∀b o,s.heap.get? b=some o→h'.get? b=some o)→
   ItSt w I a o es ep t ord fp 0 { s with heap:=h',drawn:=d }→Q (.ref I) { s with heap:=h',drawn:=d }):wpAny (model prog w) A (pyIter (.ref a)) Q E s:=by
 have hT:s.TypeIs (.ref a) "set" := ⟨o,L.at',L.ex.1⟩
 have la:a<s.heap.objs.size:=yYZ L.at'
 refine wpAny_pyIter_slot hT PySem.F.slot_set_iter (wpAny_call_entry PySem.F.slot_set_iter hT qZi ?_ (PySem.F.args_set_iter_1 _))
 unfold Builtin.«frozenset.__iter__» Builtin.Frozenset.slot0 slotArgs
 simp only[List.isEmpty_nil,Bool.not_true,yZJ,↓reduceIte,bind_assoc,yYT,bne_self_eq_false]
 unfold Builtin.Frozenset.addrOf Builtin.Frozenset.sizeOf
 refine yYW (yYX ?_)
 refine yYW (yYX ?_)
 refine yYW (yYW (wpAny_setEntries_of L.at' L.data L.fits (yYX ?_)))
 refine yYW (qSl L ?_)
 have fin:∀(first:Value) (h1:Heap) (d:Drawn) (ord:List (Int×Value)) (fp:List Addr),(∀b o,s.heap.get? b=some o→h1.get? b=some o)→s.heap.objs.size≤h1.objs.size→ord.Perm es.toList→Way w h1 a es ep t 0 ord first→(∀p,first=.ref p→p∈fp)→(∀b∈fp,s.heap.objs.size≤b∧b<h1.objs.size)→
   wpAny (model prog w) A.in1 (do
    let e ← setEpoch a
    let it ← newFields "set_iterator" [first,rawInt 0,.ref a,rawInt es.size,rawInt e]
    ret it) (fun fin s'=>∃v,fin=Fin.done (Flow.ret v)∧∃T' r,s'.TypeIs v T'∧typeLookup (.type T') "__next__" = pure (some r)∧Q v s') E { s with heap:=h1,drawn:=d }:=fun first h1 d ord fp kp hs pm wy hp hf=>by
  have L1:Lies h1 a o es ep t:=L.kept fun o e=>kp a o e
  refine yYW (wpAny_setEpoch_of (s:={ s with heap:=h1,drawn:=d }) L1.at' L1.data L1.fits ?_)
  refine yYW (wpAny_newObj_type ?_)
  have nI:∀b∈fp,b≠h1.objs.size:=fun b hb=>yZE (hf b hb).2
  refine yYX ⟨_,rfl,"set_iterator",_,⟨_,yZA _ rfl,rfl⟩,zZ.lookup,?_⟩
  refine h h1.objs.size ord (h1.objs.size::a::fp) _ d pm hs yYG (yYH _ yYG) (fun b hb=>?_) (fun b hb=>?_) (fun b o e=>yYY _ (kp b o e)) ⟨L1.kept fun o e=>yYY _ e,first,yZA _ rfl,wy.kept fun p o _ e=>yYY _ e,fun p e=>⟨yYH _ (yYH _ (hp p e)),nI p (hp p e)⟩⟩
  ·rcases yYK.mp hb with rfl | hb
   ·exact .inr hs
   ·rcases yYK.mp hb with rfl | hb
    ·exact .inl rfl
    ·exact .inr (hf b hb).1
  ·rw[yZB]
   rcases yYK.mp hb with rfl | hb
   ·exact Nat.lt_succ_self _
   ·rcases yYK.mp hb with rfl | hb
    ·exact Nat.lt_succ_of_lt (yZD la hs)
    ·exact Nat.lt_succ_of_lt (hf b hb).2
 cases c:(!byText w && (!t.plain && decide (es.size>1))) with
 | true=>
  simp only[↓reduceIte]
  refine yYW (qFx es.size (List.range es.size) s (by rw[List.length_range]) fun ks d pm=>?_)
  refine yYW (wpAny_newTuple ?_ (by rw[yYC,pm.length_eq,List.length_range];rw[sizeLine_eq];omega))
  refine fin _ _ d _ [s.heap.objs.size] (fun b o e=>yYY _ e) (by rw[yZB];exact Nat.le_succ _) ?_ (.drawn s.heap.objs.size _ ks 0 (yZA _ rfl) rfl pm) (fun p e=>by cases e;exact yYL.mpr rfl) (fun b hb=>by rw[yYL.mp hb,yZB];exact⟨yZC _,Nat.lt_succ_self _⟩)
  have:=pm.filterMap fun k=>es[k]?
  rw[filterMap_getElem?_range] at this
  exact this
 | false=>
  simp only[yZJ,↓reduceIte]
  refine yYW (yYX ?_)
  cases b:byText w with
  | true=>
   have:=fin (.int (0:Nat) 0) s.heap s.drawn _ [] (fun _ _ e=>e) (yZC _) (qIz (w.params.setOrder a ep) es) (.text 0 b) (fun p e=>by cases e) (fun b hb=>by cases hb)
   cases s;exact this
  | false=>
   rw[b] at c ok
   have:=fin (.int (0:Nat) 0) s.heap s.drawn _ [] (fun _ _ e=>e) (yZC _) (List.Perm.refl _) (.place 0 b (by simpa using c) ok.led ok.ris (by
    obtain⟨_,b2,_⟩:=qKf ok.ris 0
    by_cases z:SetTable.below t.place 0=0
    ·exact z
    ·exact absurd (b2 0 (by omega)) (Nat.not_lt_zero _))) (fun p e=>by cases e) (fun b hb=>by cases hb)
   cases s;exact this
end
end SI

namespace SI
open PySem PyProof.Rows
theorem qWo:isSubtype (.type "set") (.type "set")=pure true:=by rw[isSubtype_type];kernel_rfl
section
variable {prog:Program}{w:World}{A:Around}{E:Value→Shared→Prop}{s:Shared}{a:Addr}{o:Obj}{es:Array (Int×Value)}{ep:Nat}{t:SetTable}
theorem qTq (hT:s.TypeIs (.ref a) "set"){Q:Bool→Shared→Prop}(h:Q false s):wpAny (model prog w) A (Builtin.List.listLengthHint (.ref a)) Q E s:=by
 unfold Builtin.List.listLengthHint
 refine yYW (wpAny_specialOf hT PySem.F.slot_set_len.lookup ?_)
 dsimp only
 rw[show splitId "set.__len__" = some ("set","__len__") by decide +kernel]
 dsimp only
 refine yYW (wpAny_isInstance hT qWo ?_)
 simp only[Bool.not_true,yZJ,↓reduceIte]
 refine wpAny_ite_split (fun _=>?_) (fun hab=>absurd (by decide +kernel) hab)
 refine yYW (wpAny_typeOf hT ?_)
 exact yYX h
theorem qBv (hh:A.handled=none)(L:Lies s.heap a o es ep t)(ok:TOk (!byText w) t)(hz:es.size≤5000){Q:List Value→Shared→Prop}
  (h:∀(ord:List (Int×Value)) (s':Shared),ord.Perm es.toList→(∀b o,s.heap.get? b=some o→s'.heap.get? b=some o)→s'.gens=s.gens→s'.os=s.os→s.toks≤s'.toks→s.heap.objs.size≤s'.heap.objs.size→Q (ord.map (·.2)) s'):wpAny (model prog w) A (collect (.ref a)) Q E s:=by
 have la:a<s.heap.objs.size:=yYZ L.at'
 have hT:s.TypeIs (.ref a) "set" := ⟨o,L.at',L.ex.1⟩
 unfold collect
 refine yYW (wpAny_runValue (codeAny_builtin PySem.F.entry_proto_collect ?_))
 rw[Around.under_plainId PySem.F.plain_proto_collect _]
 show wpAny _ A.in1 (newList [] >>= fun l=>again (.builtin "list.__iadd__" ⟨[l,.ref a],[]⟩)) _ _ s
 refine yYW (wpAny_newObj_type ?_)
 refine yYX ⟨plainId_quiet PySem.F.plain_list_iadd _,codeAny_builtin PySem.F.entry_list_iadd ?_⟩
 rw[Around.under_plainId PySem.F.plain_list_iadd _]
 have L1:Lies (s.heap.push { cls:=.type "list",data:=.seq ([]:List Value).toArray }) a o es ep t:=L.kept fun o e=>yYY _ e
 have hS0:(s.heap.push { cls:=.type "list",data:=.seq ([]:List Value).toArray }).get? s.heap.objs.size=some { cls:=.type "list",data:=.seq ([]:List Value).toArray }:=yZA _ rfl
 have z0:(s.heap.push { cls:=.type "list",data:=.seq ([]:List Value).toArray }).objs.size=s.heap.objs.size+1:=yZB _ _
 have hk0:∀b o,s.heap.get? b=some o→(s.heap.push { cls:=.type "list",data:=.seq ([]:List Value).toArray }).get? b=some o:=fun b o e=>yYY _ e
 show wpAny _ A.in1 (Builtin.List.listExtendWith (.ref s.heap.objs.size) (.ref a) (.ref s.heap.objs.size)) _ _ { s with heap:=s.heap.push { cls:=.type "list",data:=.seq ([]:List Value).toArray } }
 generalize s.heap.push { cls:=.type "list",data:=.seq ([]:List Value).toArray }=h1 at L1 hS0 z0 hk0
 have hT1:Shared.TypeIs { s with heap:=h1 } (.ref a) "set" := ⟨o,L1.at',L.ex.1⟩
 unfold Builtin.List.listExtendWith
 refine yYW (wpAny_typeOf hT1 ?_)
 have e1:Builtin.List.listSameRef (.ref s.heap.objs.size) (.ref a)=false:=by
  have:s.heap.objs.size≠a:=yZG la
  simp[Builtin.List.listSameRef,this]
 have e2:(Value.type "set" == Value.type "list")=false:=by decide
 have e3:(Value.type "set" == Value.type "tuple")=false:=by decide
 simp only[e1,e2,e3,Bool.or_false,yZJ,if_false]
 refine yYW (qSi (s:={ s with heap:=h1 }) L1 ok hz fun I ord fp h2 d pm hI Ifp afp hnew hlt hk2 st=>?_)
 have hS2:=hk2 _ _ hS0
 refine yYW (wpAny_holding (qTq (s:={ s with heap:=h2,drawn:=d }) ⟨o,hk2 _ _ L1.at',L.ex.1⟩ ?_))
 have Sn:s.heap.objs.size∉fp:=fun hb=>by
  rcases hnew _ hb with z | z
  ·exact absurd z (yZG la)
  ·have z:h1.objs.size≤s.heap.objs.size:=z
   omega
 refine wpAny_ite_split (fun _=>?_) (fun hab=>absurd (by decide +kernel) hab)
 refine yYW (wpAny_rule ?_)
 refine yYW ?_
 show wpAny _ A.in1 (updateSeq s.heap.objs.size (·.push .none) >>= fun _=>updateSeq s.heap.objs.size (·.pop)) _ _ _
 refine yYW (wpAny_updateSeq hS2 rfl ?_)
 have hS3:=Heap.get?_update_self (Obj.mapSeq (·.push Value.none)) hS2 rfl
 refine wpAny_updateSeq hS3 rfl ?_
 have hS4:=Heap.get?_update_self (Obj.mapSeq (·.pop)) hS3 rfl
 have oth:∀b o,b≠s.heap.objs.size→h2.get? b=some o→((h2.update s.heap.objs.size (Obj.mapSeq (·.push Value.none))).update s.heap.objs.size (Obj.mapSeq (·.pop))).get? b=some o:=
  fun b o hb e=>(Heap.get?_update_other _ _ (Ne.symm hb)).trans ((Heap.get?_update_other _ _ (Ne.symm hb)).trans e)
 have lord:ord.length=es.size:=by rw[pm.length_eq,yZL]
 have hI':s.heap.objs.size≤I:=yZI (by omega:s.heap.objs.size≤h1.objs.size) hI
 have aI:a≠I:=yZE (yZD la hI')
 have W:=qFh (prog:=prog) (w:=w) (A:=A.in1) (by simp[hh]) aI Ifp afp o es ep t ord lord
 refine yYX ⟨plainId_quiet PySem.F.plain_extend_loop _,codeAny_extend_loopS W (by rw[sizeLine_eq];omega) _ Sn _ es.size 0 _ _ _ rfl (yZF _)
  (W.frame 0 ({ s with heap:=h2,drawn:=d }:Shared) _ s.toks st (yZC _) fun b hb o e=>oth b o (fun z=>Sn (z▸hb)) e) hS4 (ItemsOf.nil _) fun s' acc' c' hm hS' hacc=>?_⟩
 show wpAny _ A (load s.heap.objs.size >>= _) _ _ s'
 refine yYW (wpAny_load hS' ?_)
 have ea:acc'.toList=ord.map (·.2):=by
  refine List.ext_getElem? fun i=>?_
  rw[yYO,yZM]
  by_cases c:i<es.size
  ·have g:acc'[i]? = some (acc'[i]'(by rw[hacc.1];exact c)):=getElem?_pos acc' i (by rw[hacc.1];exact c)
   obtain⟨k,ek⟩:=hacc.2 i _ g
   rw[g,ek];rfl
  ·rw[Array.getElem?_eq_none (by rw[hacc.1];omega),List.getElem?_eq_none (by omega)];rfl
 refine yYX ?_
 rw[ea]
 have kk:∀b o,s.heap.get? b=some o→s'.heap.get? b=some o:=fun b o e=>by
  have lb:=yYZ e
  refine hm.heap b o (fun z=>?_) (oth b o (yZE lb) (hk2 _ _ (hk0 _ _ e)))
  rcases yYK.mp z with z | z
  ·exact absurd z (yZE lb)
  ·exact absurd (yYL.mp z) (yZE (yZD lb hI'))
 exact h ord s' pm kk hm.gens hm.os hm.toks (Nat.le_of_lt (yYZ hS'))
end
end SI

namespace SI
open PySem PyProof.Rows TM
theorem qPn {α:Type}[DecidableEq α](l1 l2:List α)(nd:l1.Nodup)(sub:∀x∈l1,x∈l2)(h:l2.length≤l1.length):l1.Perm l2:=by
 induction l1 generalizing l2 with
 | nil=>
  have:l2=[]:=List.length_eq_zero_iff.mp (Nat.le_zero.mp h)
  subst this;exact .nil
 | cons x l1 ih=>
  have nd':=List.nodup_cons.mp nd
  have hx:=sub x yYG
  refine List.Perm.trans ?_ (List.perm_cons_erase hx).symm
  refine(ih (l2.erase x) nd'.2 (fun y hy=>?_) ?_).cons x
  ·have ne:y≠x:=fun e=>nd'.1 (by rw[← e];exact hy)
   exact(List.mem_erase_of_ne ne).mpr (sub y (yYH _ hy))
  ·rw[List.length_erase_of_mem hx]
   rw[yYS] at h
   omega
end SI
namespace L2
open PySem PySem.Spec PyProof.Rows
section
variable {X:Cx}{pins:List (Addr×Obj)}{σ:St}{H H':Hp}{s:Shared}
theorem Inv.laidD {a:Addr}{o:HO}{s':Shared}(I:Inv X pins σ H s)(k:∀b u,s.heap.get? b=some u→s'.heap.get? b=some u)(hp:s.heap.objs.size≤a)(new:ObjOk X.prog X.w (upd H a o) s'.heap a o)(hg:s'.gens=s.gens)(hos:s'.os=s.os):
  Inv X pins σ (upd H a o) s':=by
 obtain⟨h',g',d',t',o'⟩:=s'
 have e1:g'=s.gens:=hg
 have e2:o'=s.os:=hos
 subst e1 e2
 have u:Un X.fs [] H (upd H a o) s.heap h':=Un.laid k hp (I.hok.fresh hp)
 obtain⟨m,⟨ol,es,ep,ho,r⟩,_⟩:=id I.loc
 obtain⟨sl,hL⟩:=u.any ho I.free (by simp)
 exact I.step (g':=s.gens) (d':=d') (ch:=[]) (fun _ z=>nomatch z) (fun b o _ hb _ e n=>u.keep b o e n hb (by simp)) (fun b o _ hb _ e n=>u.slot b o e n hb (by simp)) (fun b o _ e n=>u.free b o e n (by simp)) (fun b o _ e=>u.there b o e (by simp)) u.tups u.frzs u.tbls (fun m' hm=>by
  obtain⟨o',es',ep',ho',r'⟩:=hm
  rw[ho] at ho';cases ho'
  exact⟨_,es',ep',hL,r'⟩) (I.hok.laid k hp new) I.bare
end
def SetI (P:Program)(w:World)(a:Addr)(ks:List Int):HO:=.ext fun h=>SI.SetX P w h (!SI.byText w) a (fun k=>ks.any (· == k)) ks.length
def rSetI (P:Program)(w:World)(K:yZO):List V→Hp→VK→Prop:=fun xs H Q=>∃(l:Addr) (ns:List Int),xs=[.ref l]∧SqL K H l (ns.map V.int)∧ns.length≤1000∧∀p,H p=none→Q (.ref p) (upd H p (SetI P w p (SI.uniq ns)))
section
variable {X:Cx}{P:Program}{w:World}{K:yZO}
theorem qOi (hc:X.calm=true)(hP:X.prog=P:=by rfl)(hw:X.w=w:=by rfl)(hK:X.K=K:=by rfl):CallR X (.type "set") (rSetI P w K):=by
 subst hK hP hw
 intro pins s σ H xs us Q I r h
 obtain⟨l,ns,rfl,hl,hz,q⟩:=h
 obtain⟨u,rfl,ru⟩:=vals1 r
 cases ru
 obtain⟨its,r1,p1,_⟩:=I.list hl
 have len:=r1.length
 rw[yYC] at len
 have sc:scanBound=4096:=rfl
 refine SI.call_set_ints (I.ok.hd hc) p1.isList (ns:=ns) (by simpa using qSm r1) (by rw[yYD];omega) fun h' tk hS keep=>?_
 refine⟨.ref s.heap.objs.size,_,I.laid (t':=tk) (o:=SetI X.prog X.w s.heap.objs.size (SI.uniq ns)) keep (yZC _) ⟨hS,?_,?_⟩,rfl,q _ (I.hok.fresh (yZC _))⟩
 ·obtain⟨o,_,_,_,e,_⟩:=hS
  exact⟨o,e⟩
 ·rintro h1 h2 x k
  exact x.kept fun o e=>k o e
end
end L2

namespace SI
open PySem PyProof.Rows
section
variable {prog:Program}{w:World}{A:Around}{E:Value→Shared→Prop}{s:Shared}
theorem sorted_setJ (hh:A.handled=none){a:Addr}{ks:List Int}(hS:SetX prog w s.heap (!byText w) a (fun k=>ks.any (· == k)) ks.length)(nd:ks.Nodup)(hz:ks.length<64){Q:Value→Shared→Prop}
  (h:∀(p:Addr) (vs:List Value) (ms:List Int) (e:Nat) (s':Shared),IntsAre vs ms→ms.Perm ks→ms.Pairwise (·≤·)→s.heap.objs.size≤p→s'.heap.get? p=some (seqObj "list" vs.toArray e)→(∀b o,s.heap.get? b=some o→s'.heap.get? b=some o)→s'.gens=s.gens→s'.os=s.os→Q (.ref p) s'):
  wpAny (model prog w) A (call (.builtin "sorted") [.ref a]) Q E s:=by
 obtain⟨o,es,ep,t,ho,hex,hd,hel,hmem,hb,hf,hn,ok⟩:=hS
 have int:∀e∈es.toList,∃n t,e.2=.int n t:=fun e he=>by
  obtain⟨⟨k,hk,_⟩,_⟩:=hel e he
  obtain⟨a1,v⟩:=e
  cases v <;> first | (exact⟨_,_,rfl⟩) | (simp[intKind,Value.isInt] at hk)
 refine Calls.call_function_entry kind_sorted plain_sorted entry_sorted (args_sorted1 _) ?_
 unfold Builtin.«sorted»
 refine yYW (m:=checkCount "sorted" 1 1 _) (yYX ?_)
 refine yYW (qBv (A:=A.in1) (by simp[hh]) ⟨ho,hex,hd,hf⟩ ok (by omega) fun ord s1 pm kp hg hos _ hsz=>?_)
 have lord:(ord.map (·.2)).length=ks.length:=by rw[yYC,pm.length_eq,yZL,hn]
 have vint:∀v∈ord.map (·.2),∃n t,v=.int n t:=fun v hv=>by
  obtain⟨e,he,rfl⟩:=yYP.mp hv
  exact int e (pm.mem_iff.mp he)
 have z1:(ord.map (·.2)).length≤sizeLine:=by rw[lord,sizeLine_eq];omega
 refine yYW (wpAny_newList ?_ z1)
 have hoL:(s1.heap.push (seqObj "list" (ord.map (·.2)).toArray 0)).get? s1.heap.objs.size=some (seqObj "list" (ord.map (·.2)).toArray 0):=yZA _ rfl
 refine yYW (wpAny_holding (wpAny_call_entry slot_list_sort ⟨_,hoL,rfl⟩ entry_list_sort (list_sort_tree (s:={ s1 with heap:=s1.heap.push (seqObj "list" (ord.map (·.2)).toArray 0) }) hoL (intsAre_map _ vint) (by rw[lord];exact hz) fun out ns' a1 a2 a3=>⟨_,rfl,?_⟩) (args_list_sort _)))
 refine yYX ⟨_,rfl,?_⟩
 obtain⟨e,he⟩:=sortedHeap_at (out:=out) hoL
 have kk:∀k:Int,k∈(ord.map (·.2)).map numOf↔k∈ks:=fun k=>by
  have m:=hmem k
  have e1:(ks.any (· == k))=true↔k∈ks:=by simp
  rw[← e1,m,List.map_map]
  constructor
  ·intro hk
   obtain⟨x,hx,rfl⟩:=yYP.mp hk
   obtain⟨n,t',ex⟩:=int x (pm.mem_iff.mp hx)
   refine⟨x,pm.mem_iff.mp hx,?_⟩
   show(intKind prog w).is (numOf x.2) x.2=true
   rw[ex];exact intKind_is prog w n t'
  ·rintro⟨x,hx,hk⟩
   obtain⟨n,t',ex⟩:=int x hx
   refine yYP.mpr ⟨x,pm.mem_iff.mpr hx,?_⟩
   show numOf x.2=k
   rw[ex] at hk ⊢
   exact(intKind prog w).inj _ _ _ (intKind_is prog w n t') hk
 have p1:((ord.map (·.2)).map numOf).Perm ks:=(qPn ks _ nd (fun k hk=>(kk k).mpr hk) (by rw[yYC,lord];exact yZC _)).symm
 refine h s1.heap.objs.size out.toList ns' e _ a1 (a2.trans p1) a3 hsz (by rw[Array.toArray_toList];exact he) (fun b o q=>?_) hg hos
 ·have q1:=kp b o q
  have lb:=yYZ q1
  show(sortedHeap _ _ _ _).get? b=some o
  rw[sortedHeap_old (yZE lb) (by rw[yZB];exact Nat.lt_succ_of_lt lb)]
  exact yYY _ q1
end
end SI
namespace L2
open PySem PySem.Spec PyProof.Rows
def rSortJ (P:Program)(w:World):List V→Hp→VK→Prop:=fun xs H Q=>∃(p:Addr) (ks:List Int),xs=[.ref p]∧H p=some (SetI P w p ks)∧ks.Nodup∧ks.length<64∧
 ∀(l:Addr) (ms:List Int),H l=none→ms.Perm ks→ms.Pairwise (·≤·)→Q (.ref l) (upd H l (.lst (ms.map V.int)))
section
variable {X:Cx}{P:Program}{w:World}{K:yZO}
theorem qFw (hc:X.calm=true)(hP:X.prog=P:=by rfl)(hw:X.w=w:=by rfl):CallR X (.builtin "sorted") (rSortJ P w):=by
 subst hP hw
 intro pins s σ H xs us Q I r h
 obtain⟨p,ks,rfl,hp,nd,hn,q⟩:=h
 obtain⟨u,rfl,ru⟩:=vals1 r
 cases ru
 obtain⟨hS,_⟩:=I.hok p _ hp
 refine SI.sorted_setJ (I.ok.hd hc) hS nd hn fun l vs ms e s' hi pm so hsz he kp hg hos=>?_
 have vv:Vals (ms.map V.int) vs:=by
  clear he so pm
  induction hi with
  | nil=>exact .nil
  | cons n t _ ih=>exact .cons ⟨t,rfl⟩ ih
 refine⟨.ref l,_,I.laidD (o:=.lst (ms.map V.int)) kp hsz (show ObjOk X.prog X.w _ s'.heap _ (.lst (ms.map V.int)) from⟨?_,vs,e,vv,he⟩) hg hos,rfl,q l ms (I.hok.fresh hsz) pm so⟩
 rw[yYC,pm.length_eq,sizeLine_eq];omega
end
end L2



namespace L2
open PySem PySem.Spec PyProof.Rows
theorem qOg (a b:Str):(a++b).cps.toList=a.cps.toList++b.cps.toList:=by
 show(a.cps++b.cps).toList=_
 rw[Array.toList_append]
theorem w_yes {σ:St}{H:Hp}{R:Bool→Hp→Prop}(q:R true H):tYes σ H R:=q
end L2







namespace L2
open PySem PySem.Spec PyProof.Rows
theorem qIx {α:Type}(ys:List α):∀n,n≤ys.length→(List.range n).filterMap (ys[·]?)=ys.take n:=by
 intro n
 induction n with
 | zero=>intro _;rfl
 | succ n ih=>
  intro h
  rw[List.range_succ,List.filterMap_append,ih (by omega),yYM,yYA (by omega)]
  show _++[n].filterMap _=_
  rw[List.filterMap_cons,yYA (by omega)]
  rfl
theorem qTw {α β:Type}{f g:α→Option β}{l:List α}(h:∀k∈l,f k=g k):l.filterMap f=l.filterMap g:=by
 induction l with
 | nil=>rfl
 | cons a l ih=>rw[List.filterMap_cons,List.filterMap_cons,h a yYG,ih fun k hk=>h k (yYH _ hk)]
theorem qXw {α:Type}(ys:List α):((List.range ys.length).map fun k:Nat=>((ys.length:Int) - 1 + -1 * (k:Int)).toNat).filterMap (ys[·]?)=ys.reverse:=by
 rw[List.filterMap_map]
 have e:∀k∈List.range ys.length,((ys[·]?)∘fun k:Nat=>((ys.length:Int) - 1 + -1 * (k:Int)).toNat) k=ys.reverse[k]? := fun k hk=>by
  have:=List.mem_range.mp hk
  rw[List.getElem?_reverse this]
  show ys[((ys.length:Int) - 1 + -1 * (k:Int)).toNat]? = _
  rw[show((ys.length:Int) - 1 + -1 * (k:Int)).toNat=ys.length - 1 - k by omega]
 rw[qTw e]
 have:=qIx ys.reverse ys.length (by rw[List.length_reverse];exact yZC _)
 rw[this,← List.length_reverse,yYJ]
theorem qEv (n:Nat):sliceRange (sliceBounds none none (some (-1)) n).1 (sliceBounds none none (some (-1)) n).2.1 (sliceBounds none none (some (-1)) n).2.2=(List.range n).map fun k:Nat=>((n:Int) - 1 + -1 * (k:Int)).toNat:=by
 show sliceRange ((n:Int) - 1) (-1) (-1)=_
 unfold sliceRange
 have e:(if (-1:Int)>0 then (if (n:Int) - 1 < -1 then (-1 - ((n:Int) - 1) + -1 - 1) / -1 else 0) else (if (n:Int) - 1 > -1 then ((n:Int) - 1 - -1 - -1 - 1) / (- -1) else 0)).toNat=n:=by
  rw[if_neg (by decide)]
  by_cases h:(n:Int) - 1 > -1
  ·rw[if_pos h]
   show(((n:Int) - 1 - -1 - -1 - 1) / 1).toNat=n
   rw[Int.ediv_one];omega
  ·rw[if_neg h];show(0:Int).toNat=n;omega
 show(List.range (if (-1:Int)>0 then (if (n:Int) - 1 < -1 then (-1 - ((n:Int) - 1) + -1 - 1) / -1 else 0) else (if (n:Int) - 1 > -1 then ((n:Int) - 1 - -1 - -1 - 1) / (- -1) else 0)).toNat).map _=_
 rw[e]
def tSlB (K:yZO)(te:TE)(tl th:TO)(ts:TE):TE:=fun σ H Q=>te σ H fun x H1=>tl σ H1 fun l H2=>th σ H2 fun u H3=>ts σ H3 fun c H4=>
 ∃a xs,x=.ref a∧l=none∧u=none∧c=.int (-1)∧SqL K H4 a xs∧∀p:Addr,H4 p=none→Q (.ref p) (upd H4 p (.lst xs.reverse))
section
variable {X:Cx}{K:yZO}{e st:Expr}{te ts:TE}{lo hi:Option Expr}{tl th:TO}{pos p2:Pos}
theorem qIb (he:PE X e te)(hl:PO X lo tl)(hu:PO X hi th)(hst:PE X st ts)(hK:X.K=K:=by rfl):PE X (.Subscript e (.Slice lo hi (some st) p2) pos) (tSlB K te tl th ts):=by
 subst hK
 intro pins s σ H Q I h
 refine Subscript_ (thn (he pins s σ H _ I h) fun v s1 ⟨x,H1,I1,r1,q1⟩=>?_)
 refine wpAny_Slice (thn (hl pins s1 σ H1 _ I1 q1) fun vl s2 ⟨l,H2,I2,pl,q2⟩=>thn (hu pins s2 σ H2 _ I2 q2) fun vu s3 ⟨u,H3,I3,pu,q3⟩=>?_)
 rw[evalPart_some]
 refine thn (hst pins s3 σ H3 _ I3 q3) fun vs s4 ⟨c,H4,I4,r4,q4⟩=>?_
 obtain⟨a,xs,rfl,rfl,rfl,rfl,hx,q⟩:=q4
 cases r1
 obtain⟨t,rfl⟩:=r4
 have I5:Inv X pins σ H4 { s4 with heap:=s4.heap.push { cls:=.type "slice",data:=.fields #[vl,vu,.int (-1) t] } }:=I4.kept (t':=s4.toks) fun b ob q=>yYY _ q
 obtain⟨its,r,ht,hz⟩:=I5.list hx
 have hlen:=r.length
 show wpAny (model X.prog X.w) X.A (subscriptTail e (.Slice lo hi (some st) p2) (.ref a) (.ref s4.heap.objs.size)) (EP X pins σ Q) X.xe { s4 with heap:=s4.heap.push { cls:=.type "slice",data:=.fields #[vl,vu,.int (-1) t] } }
 refine tail_any (ops:=[.ref a,.ref s4.heap.objs.size]) ht.isList.typeIs slot_list_getitem.lookup ?_ (by with_unfolding_all rfl)
 refine wpAny_getItem_list_slice ht.isList (Heap.IsSliceOf.new ..) pl pu (.int (-1) t) (fun z=>by have:=Option.some.inj z;omega) ?_ (by rw[yYD] <;> omega)
 unfold slicePick
 rw[qEv,show its.toArray.size=its.length by simp]
 rw[show((List.range its.length).map fun k:Nat=>((its.length:Int) - 1 + -1 * (k:Int)).toNat).filterMap (fun x=>its.toArray[x]?)=((List.range its.length).map fun k:Nat=>((its.length:Int) - 1 + -1 * (k:Int)).toNat).filterMap (its[·]?) by simp]
 have pk:=r.pick ((List.range its.length).map fun k:Nat=>((its.length:Int) - 1 + -1 * (k:Int)).toNat)
 have e1:=qXw xs
 rw[hlen] at e1
 rw[qXw,e1] at pk
 rw[qXw]
 refine⟨.ref _,_,I5.laid (t':=s4.toks) (o:=.lst xs.reverse) (fun b ob q=>yYY _ q) (yZC _) ?_,rfl,q _ (I5.hok.fresh (yZC _))⟩
 exact⟨by rw[List.length_reverse];omega,_,0,pk,yZA _ rfl⟩
end
end L2

namespace L2
open PySem PySem.Spec PyProof.Rows
structure Dm (P:Program)(w:World)(K:yZO)(mg:Str→Option Value)(base:Heap)(C:Addr)(m:Str)(k:Nat)(ps:List Str)(sp:Sp):Prop where
 ex:∃f fd,FnOk P w K mg base CX0 k f fd ps sp∧Meth K C m f∧Binds K fd ps []
structure Dk (P:Program)(w:World)(K:yZO)(mg:Str→Option Value)(base:Heap)(x:Str)(C:Addr)(k:Nat)(ps:List Str)(sp:Sp):Prop where
 ex:∃f fd,FnOk P w K mg base CX0 k f fd ps sp∧Mk K C f∧mg x=some (.ref C)∧Binds K fd ps []
structure Md (K:yZO)(C:Addr)(m q:Str)(st:Stmt)(ps:List Str):Prop where
 ex:∃f fd,Fun K m q st f fd∧Meth K C m f∧Binds K fd ps []
structure Mi (K:yZO)(mg:Str→Option Value)(x:Str)(C:Addr)(q:Str)(st:Stmt)(ps:List Str):Prop where
 ex:∃f fd,Fun K "__init__" q st f fd∧Mk K C f∧mg x=some (.ref C)∧Binds K fd ps []
section
variable {P:Program}{w:World}{K:yZO}{mg:Str→Option Value}{base:Heap}{x m q:Str}{st:Stmt}{C:Addr}{j k:Nat}{N ps:List Str}{sp:Sp}
theorem Md.ok (F:Md K C m q st ps)(S:xH N ps (xA st))(len:∀vs H Q E,sp vs H Q E→vs.length=ps.length)
  (hbody:∀(f:Addr) (cdv:Value) (A:Around) (outer:List Env) (s:Shared) (H:Hp) (vs:List V) (Q:VK) (E:XK),Room k (A.deeper (envOfC q (xA st) s.heap.objs.size f cdv))→sp vs H Q E→
   ∃t,PSs (cxOf CX0 P w K mg base N q (xA st) f cdv A outer s H E).nox (xB st) t∧t { nx:=fun _ H'=>Q .non H',rt:=Q } (start N vs) H):Dm P w K mg base C m (k+1) ps sp:=
 let ⟨f,fd,F,a,b⟩:=F.ex
 ⟨f,fd,F.ok S len (hbody f),a,b⟩
theorem Mi.ok (F:Mi K mg x C q st ps)(S:xH N ps (xA st))(len:∀vs H Q E,sp vs H Q E→vs.length=ps.length)
  (hbody:∀(f:Addr) (cdv:Value) (A:Around) (outer:List Env) (s:Shared) (H:Hp) (vs:List V) (Q:VK) (E:XK),Room k (A.deeper (envOfC q (xA st) s.heap.objs.size f cdv))→sp vs H Q E→
   ∃t,PSs (cxOf CX0 P w K mg base N q (xA st) f cdv A outer s H E).nox (xB st) t∧t { nx:=fun _ H'=>Q .non H',rt:=Q } (start N vs) H):Dk P w K mg base x C (k+1) ps sp:=
 let ⟨f,fd,F,a,b,c⟩:=F.ex
 ⟨f,fd,F.ok S len (hbody f),a,b,c⟩
end
section
variable {X:Cx}{P:Program}{w:World}{K:yZO}{mg:Str→Option Value}{base:Heap}{C:Addr}{j k:Nat}{ps:List Str}{sp:Sp}{x m f:Str}{p pos pos' apos tpos:Pos}{e o value:Expr}{es:List Expr}{ta tv:TE}{t:TA}
theorem vX {pl:Sem Bool}(D:Dm P w K mg base C m j ps sp)(c:Cls K C)(he:PE X o ta)(hr:Room k X.A)(ha:PA X (e::es) t)(hjk:j≤k:=by first | decide | omega)
  (h1:X.prog=P:=by rfl) (h2:X.w=w:=by rfl) (h3:X.K=K:=by rfl) (h4:X.mg=mg:=by rfl) (h5:X.base=base:=by rfl)
  (hst:starEach (e::es) X.env=(false,eval e X.env)::starEach es X.env:=by rfl) (hpl:(backTo pos (starEach es X.env)).any (·.1)=false:=by rfl)
  (ht:eval (.Call (.Attribute o m apos) (e::es) [] pos) X.env=(do
   let ov ← eval o X.env
   standAt apos.atName
   let (f,first) ← holding [ov] (getMethod ov m pl)
   callWith pos f first (backTo pos (starEach (e::es) X.env)) (backToKw pos (keywordEach [] X.env))):=by rfl):
  PE X (.Call (.Attribute o m apos) (e::es) [] pos) (tMeth C m sp [] E0 ta t):=by
 subst h1 h2 h3 h4 h5
 obtain⟨f,fd,F,M,b⟩:=D.ex
 exact xXl he c M (F.mono hjk) hr b .nil pass0 ha hst hpl ht
theorem qId {pl:Sem Bool}(D:Dm P w K mg base C m j ps sp)(c:Cls K C)(he:PE X o ta)(hr:Room k X.A)(hjk:j≤k:=by first | decide | omega)
  (h1:X.prog=P:=by rfl) (h2:X.w=w:=by rfl) (h3:X.K=K:=by rfl) (h4:X.mg=mg:=by rfl) (h5:X.base=base:=by rfl)
  (ht:eval (.Call (.Attribute o m apos) [] [] pos) X.env=(do
   let ov ← eval o X.env
   standAt apos.atName
   let (f,first) ← holding [ov] (getMethod ov m pl)
   callWith pos f first (backTo pos (starEach [] X.env)) (backToKw pos (keywordEach [] X.env))):=by rfl):
  PE X (.Call (.Attribute o m apos) [] [] pos) (tMeth C m sp [] E0 ta tNil):=by
 subst h1 h2 h3 h4 h5
 obtain⟨f,fd,F,M,b⟩:=D.ex
 exact qRm he c M (F.mono hjk) hr b .nil pass0 ht
theorem qDz (D:Dk P w K mg base x C j ps sp)(hr:Room k X.A)(ha:PA X (e::es) t)(hjk:j+1≤k:=by first | decide | omega)(hg:Gl X x:=by rfl)
  (h1:X.prog=P:=by rfl) (h2:X.w=w:=by rfl) (h3:X.K=K:=by rfl) (h4:X.mg=mg:=by rfl) (h5:X.base=base:=by rfl)
  (hdb:(x == ("__debug__" : Str))=false:=by decide) (he:starEach (e::es) X.env=(false,eval e X.env)::starEach es X.env:=by rfl) (hpl:(backTo pos (starEach es X.env)).any (·.1)=false:=by rfl):
  PE X (.Call (.Name x p) (e::es) [] pos) (tMake C sp [] E0 t):=by
 subst h1 h2 h3 h4 h5
 obtain⟨f,fd,F,M,hm,b⟩:=D.ex
 exact xXm M F (hr.mono hjk) hg hm b .nil pass0 ha hdb he hpl
theorem xI (he:PE X e ta)(hK:X.K=K:=by rfl)(hb:attributeBase e f X.env (eval e X.env)=eval e X.env:=by rfl):PE X (.Attribute e f pos) (tFld K ta f):=by
 subst hK
 exact xKb he hb
theorem zN (ha:PE X o ta)(hv:PE X value tv)(hK:X.K=K:=by rfl)(hs:swapsWith value (some (.Attribute o f pos')) pos.line X.env=pure false:=by rfl):PS X (.Assign [.Attribute o f pos'] value pos) (sFld K ta tv f):=by
 subst hK
 exact xKj ha hv hs
theorem qEc (ha:PE X o ta)(hv:PE X value tv)(hK:X.K=K:=by rfl):PS X (.AugAssign (.Attribute o f tpos) .Add value pos) (qHv K ta tv rAdd f):=by
 subst hK
 exact qHn ha hv xVa
end
end L2

namespace DP
open PySem PyProof.Rows L2
section
variable {prog:Program}{w:World}
def IsPair (prog:Program)(w:World)(h:Heap)(k:Str×List Key)(a:Addr):Prop:=∃o u t n,h.get? a=some o∧o.cls=.type "tuple" ∧ o.data=.seq #[u,.ref t] n∧(xN prog w).is (Sum.inr k.1) u=true∧IsTupleKey (xN prog w) h k.2 t
def qKx (prog:Program)(w:World)(k:Str×List Key):Int:=reduceHash (Builtin.Tuple.tupleHashOf [(xN prog w).hash (Sum.inr k.1),tupleKeyHash (xN prog w) k.2])
theorem IsPair.typeIs {s:Shared}{k:Str×List Key}{a:Addr}(x:IsPair prog w s.heap k a):s.TypeIs (.ref a) "tuple" := let ⟨o,_,_,_,ho,hc,_⟩:=x;⟨o,ho,hc⟩
theorem IsPair.inj {h:Heap}{a:Addr}{x y:Str×List Key}(hx:IsPair prog w h x a)(hy:IsPair prog w h y a):x=y:=by
 obtain⟨o,u,t,n,ho,_,hd,h1,h2⟩:=hx
 obtain⟨o',u',t',n',ho',_,hd',h1',h2'⟩:=hy
 obtain rfl:o=o':=Option.some.inj (ho.symm.trans ho')
 rw[hd] at hd'
 injection hd' with e _
 have e:=congrArg Array.toList e
 injection e with e1 e2
 injection e2 with e2 _
 injection e2 with e2
 subst e1 e2
 exact Prod.ext (Sum.inr.inj ((xN prog w).inj _ _ _ h1 h1')) (h2.inj h2')
theorem IsPair.keeps {h h':Heap}{k:Str×List Key}{a d:Addr}{o:Obj}{es ep}(x:IsPair prog w h k a)(ho:h.get? d=some o)(hd:o.data=.dict es ep)(hs:Heap.SameBut d h h'):IsPair prog w h' k a:=by
 obtain⟨o',u,t,n,ho',hc,hd',h1,h2⟩:=x
 have hne:a≠d:=by
  intro z
  subst z
  obtain rfl:o'=o:=Option.some.inj (ho'.symm.trans ho)
  rw[hd] at hd';exact nomatch hd'
 exact⟨o',u,t,n,(hs.2 a hne).trans ho',hc,hd',h1,h2.keeps ho hd hs⟩
variable {A:Around}{E:Value→Shared→Prop}{s:Shared}
theorem qMm {k:Str×List Key}{a:Addr}{Q:Int→Shared→Prop}(hu:A.units+2<cLine)(hk:IsPair prog w s.heap k a)(h:Q (qKx prog w k) { s with toks:=s.toks+(k.2.length+3) }):
  wpAny (model prog w) A (pyHash (.ref a)) Q E s:=by
 have hT:=hk.typeIs
 obtain⟨o,u,t,n,ho,_,hd,h1,h2⟩:=hk
 unfold pyHash
 first | unfold pyHashByItsType | skip
 first | refine yYW (wpAny_cRoomFor_or (.inr (by omega)) ?_) | skip
 refine yYW (wpAny_specialOf hT F.slot_tuple_hash.lookup ?_)
 show wpAny _ _ (if (some (Value.builtin "tuple.__hash__") == some Value.none)=true then _ else _) Q E s
 rw[if_neg (by rw[beq_builtin_none];exact yZK)]
 refine yYW (wpAny_specialOf hT F.slot_tuple_hash.lookup ?_)
 show wpAny _ _ (callSpecialIfBoundUnlessNone? (.ref a) "__hash__" _ >>= _) Q E s
 refine yYW (wpAny_callSpecialIfBoundUnlessNone?_slot hT F.slot_tuple_hash (wpAny_call_entry F.slot_tuple_hash hT F.entry_tuple_hash ?_ (F.args_tuple_hash_1 _)))
 show wpAny _ _ (Builtin.Tuple.tupleItemsOf (.ref a) >>= _) _ _ s
 refine yYW (wpAny_tupleItemsOf ho hd ?_)
 refine yYW ?_
 rw[← Array.forIn_toList]
 show wpAny _ _ (forIn [u,Value.ref t] _ _) _ _ s
 rw[List.forIn_cons]
 refine yYW (yYW ((xN prog w).pyHash h1 ?_))
 refine yYX ?_
 show wpAny _ _ (forIn [Value.ref t] _ _) _ _ _
 rw[List.forIn_cons]
 refine yYW (yYW (wpAny_pyHash_tuple (knd:=xN prog w) (by show A.units+1<cLine;omega) h2 ?_))
 refine yYX ?_
 show wpAny _ _ (forIn [] _ _) _ _ _
 rw[List.forIn_nil]
 refine yYX ?_
 show wpAny _ _ (retInt (Builtin.Tuple.tupleHashOf [(xN prog w).hash (Sum.inr k.1),tupleKeyHash (xN prog w) k.2])) _ _ _
 refine wpAny_ret_mkInt ?_
 unfold qKx reduceHash at h
 generalize Builtin.Tuple.tupleHashOf [(xN prog w).hash (Sum.inr k.1),tupleKeyHash (xN prog w) k.2]=z at h ⊢
 show wpAny _ _ (if (decide (-(2:Int) ^ 63≤z) && decide (z<2 ^ 63))=true then _ else _) Q E _
 have e:∀m:Nat,s.toks+1+(m+1)+1=s.toks+(m+3):=fun m=>by omega
 by_cases hr:(decide (-(2:Int) ^ 63≤z) && decide (z<2 ^ 63))=true
 ·rw[if_pos hr]
  rw[if_pos hr] at h
  exact yYX (by rw[← e] at h;exact h)
 ·rw[if_neg hr]
  rw[if_neg hr] at h
  exact yYW (wpAny_rule (yYX (by rw[← e] at h;exact h)))
theorem qRf {n:Nat}{ks:List Key}{a:Addr}{Q:Bool→Shared→Prop}(hk:IsTupleKey (xN prog w) s.heap ks a)(h:Q true s):wpAny (model prog w) A (eqIsQuiet (n+1) (.ref a)) Q E s:=by
 have hT:=hk.typeIs
 obtain⟨o,items,m,ho,_,hd,hi⟩:=hk
 unfold eqIsQuiet
 refine yYW (wpAny_specialOf hT F.slot_tuple_eq.lookup ?_)
 show wpAny _ _ (isInstance (.ref a) (.type "tuple") >>= _) _ _ s
 refine yYW (wpAny_isInstance hT isSubtype_tuple_tuple ?_)
 simp only[Bool.not_true,yZJ,if_false]
 refine yYW (wpAny_seqItems ho hd (yYW ?_))
 show wpAny _ _ (forIn items _ _) _ _ s
 rw[← Array.forIn_toList]
 refine wpAny_forIn_list _ (fun rest r s'=>r.1=none∧s'=s∧∀v∈rest,carriedByValue v=true) _ ?_ ?_ _ _ ⟨rfl,rfl,hi.byValue⟩
 ·rintro v rest r s' ⟨hr,rfl,hall⟩
  rw[eqIsQuiet_byValue _ (hall v yYG)]
  exact yYW (yYX (wpAny_ite_split (fun z=>by cases z) fun _=>yYX ⟨rfl,rfl,fun u hu'=>hall u (yYH _ hu')⟩))
 ·rintro⟨r1,r2⟩ s' ⟨hr,rfl,_⟩
  obtain rfl:r1=none:=hr
  exact yYX h
theorem qEw {k:Str×List Key}{a:Addr}{Q:Bool→Shared→Prop}(hk:IsPair prog w s.heap k a)(h:Q true s):wpAny (model prog w) A (eqIsQuiet 8 (.ref a)) Q E s:=by
 have hT:=hk.typeIs
 obtain⟨o,u,t,n,ho,_,hd,h1,h2⟩:=hk
 unfold eqIsQuiet
 refine yYW (wpAny_specialOf hT F.slot_tuple_eq.lookup ?_)
 show wpAny _ _ (isInstance (.ref a) (.type "tuple") >>= _) _ _ s
 refine yYW (wpAny_isInstance hT isSubtype_tuple_tuple ?_)
 simp only[Bool.not_true,yZJ,if_false]
 refine yYW (wpAny_seqItems ho hd ?_)
 refine yYW ?_
 show wpAny _ _ (forIn #[u,Value.ref t] _ _) _ _ s
 rw[← Array.forIn_toList]
 show wpAny _ _ (forIn [u,Value.ref t] _ _) _ _ s
 rw[List.forIn_cons,eqIsQuiet_byValue _ ((xN prog w).byValue _ _ h1)]
 refine yYW (yYW (yYX ?_))
 refine wpAny_ite_split (fun z=>by cases z) fun _=>yYX ?_
 show wpAny _ _ (forIn [Value.ref t] _ _) _ _ _
 rw[List.forIn_cons]
 refine yYW (yYW (qRf (n:=6) h2 (wpAny_ite_split (fun z=>by cases z) fun _=>yYX ?_)))
 show wpAny _ _ (forIn [] _ _) _ _ _
 rw[List.forIn_nil]
 exact yYX (yYX h)
theorem xXo {x y:Str×List Key}{a b:Addr}{P:Fin→Shared→Prop}(hu:A.units+1<cLine)(hx:IsPair prog w s.heap x a)(hy:IsPair prog w s.heap y b)(h:P (.done (.ret (.bool (decide (x=y))))) s):
  wpAny (model prog w) A (Builtin.«tuple.__eq__» ⟨[.ref a,.ref b],[]⟩) P E s:=by
 have hTb:=hy.typeIs
 obtain⟨oa,u,t,na,hoa,_,hda,h1,h2⟩:=hx
 obtain⟨ob,u',t',nb,hob,_,hdb,h1',h2'⟩:=hy
 show wpAny _ _ (isInstance (.ref b) (.type "tuple") >>= _) _ _ s
 refine yYW (wpAny_isInstance hTb isSubtype_tuple_tuple ?_)
 simp only[Bool.not_true,yZJ,if_false]
 refine yYW (wpAny_tupleItemsOf hoa hda ?_)
 refine yYW (wpAny_tupleItemsOf hob hdb ?_)
 refine yYW ?_
 show wpAny _ _ (forIn [(u,u'),(Value.ref t,Value.ref t')] _ _) _ _ s
 rw[List.forIn_cons]
 refine yYW (yYW ((xN prog w).eqBool (a:=Sum.inr x.1) (b:=Sum.inr y.1) h1 h1' ?_))
 by_cases c1:x.1=y.1
 ·have d1:decide ((Sum.inr x.1:Key)=Sum.inr y.1)=true:=decide_eq_true (by rw[c1])
  rw[d1]
  refine wpAny_ite_split (fun z=>by cases z) fun _=>yYX ?_
  show wpAny _ _ (forIn [(Value.ref t,Value.ref t')] _ _) _ _ _
  rw[List.forIn_cons]
  refine yYW (yYW (wpAny_eqBool_tuple (knd:=xN prog w) (by omega) h2 h2' ?_))
  by_cases c2:x.2=y.2
  ·rw[decide_eq_true c2]
   refine wpAny_ite_split (fun z=>by cases z) fun _=>yYX ?_
   show wpAny _ _ (forIn [] _ _) _ _ _
   rw[List.forIn_nil]
   rw[decide_eq_true (Prod.ext c1 c2)] at h
   exact yYX (yYX h)
  ·rw[decide_eq_false c2]
   rw[decide_eq_false (fun z=>c2 (by rw[z]))] at h
   exact wpAny_ite_split (fun _=>yYW (yYX (yYX (yYX (yYX h))))) fun z=>absurd rfl z
 ·have d1:decide ((Sum.inr x.1:Key)=Sum.inr y.1)=false:=decide_eq_false fun z=>c1 (Sum.inr.inj z)
  rw[d1]
  rw[decide_eq_false (fun z=>c1 (by rw[z]))] at h
  exact wpAny_ite_split (fun _=>yYW (yYX (yYX (yYX (yYX h))))) fun z=>absurd rfl z
theorem xZn {x y:Str×List Key}{a b:Addr}{Q:Bool→Shared→Prop}(hu:A.units+2<cLine)(hx:IsPair prog w s.heap x a)(hy:IsPair prog w s.heap y b)(h:Q (decide (x=y)) s):wpAny (model prog w) A (eqBool (.ref a) (.ref b)) Q E s:=by
 unfold eqBool
 try with_reducible refine wpAny_holding ?_
 show wpAny _ _ (if (Value.ref a == Value.ref b)=true then _ else _) Q E s
 by_cases hab:(Value.ref a == Value.ref b)=true
 ·rw[if_pos hab]
  have e:a=b:=by have:=eq_of_beq hab;injection this
  subst e
  obtain rfl:=hx.inj hy
  exact yYW (wpAny_rule (yYX (by simpa using h)))
 ·rw[if_neg hab]
  exact yYW (wpAny_richCompare_same_room (op:=.Eq) hx.typeIs hy.typeIs F.slot_tuple_eq
   (wpAny_call_entry F.slot_tuple_eq hx.typeIs F.entry_tuple_eq (xXo (by show A.units+1+1<cLine;omega) hx hy ⟨_,rfl,(fun e=>nomatch e),wpAny_truthy_bool h⟩) (F.args_tuple_eq_2 _ _)) (by omega))
def pairKind (prog:Program)(w:World):HeapKind prog w (Str×List Key) where
 is:=IsPair prog w
 hash:=qKx prog w
 draws:=fun k=>k.2.length+3
 room:=fun A=>A.units+2<cLine
 inj:=fun hx hy=>hx.inj hy
 keeps:=fun x ho hd hs=>x.keeps ho hd hs
 pyHash:=fun hu hk h=>qMm hu hk h
 eqBool:=fun hu hx hy h=>xZn hu hx hy h
 quiet:=fun hk h=>qEw hk h
end
end DP

namespace L2
open PySem PySem.Spec PyProof.Rows
abbrev PKy:=Str×List Key
def PRel (x:PKy×Addr×V)(y:PKy×Addr×Value):Prop:=x.1=y.1∧x.2.1=y.2.1∧RelV x.2.2 y.2.2
def PDo (P:Program)(w:World)(a:Addr)(xs:List (PKy×Addr×V)):HO:=.ext fun h=>xs.length≤sizeLine∧(a == sysModules)=false∧∃vs:List (PKy×Addr×Value),Paired PRel xs vs∧
 ∃o es ep,h.get? a=some o∧o.ExactDict∧o.data=.dict es ep∧es.toList=vs.map (entryOfKey (DP.pairKind P w))∧(vs.map (·.1)).Nodup
def PkIn (H:Hp)(k:PKy)(b:Addr):Prop:=∃t,H b=some (.tup [.str k.1,.ref t])∧H t=some (.tup (k.2.map kV))
def getP (xs:List (PKy×Addr×V))(k:PKy):Option V:=(xs.find? fun x=>decide (x.1=k)).map (·.2.2)
section
variable {P:Program}{w:World}{H:Hp}{h:Heap}{a b:Addr}{k:PKy}{xs:List (PKy×Addr×V)}{vs:List (PKy×Addr×Value)}
theorem qQd (ok:HOk P w H h)(e:PkIn H k b):(DP.pairKind P w).is h k b:=by
 obtain⟨t,e1,e2⟩:=e
 obtain⟨_,its,r,o,h1,h2,n,h3,_⟩:=(show ObjOk P w H h b (.tup [.str k.1,.ref t]) from ok b _ e1)
 have kt:=qJh (P:=P) (w:=w) ok e2
 cases r with
 | cons r1 r=>
  cases r with
  | cons r2 r=>
   cases r
   cases r2
   obtain⟨u,rfl⟩:=r1
   exact⟨o,_,t,n,h1,h2,h3,kC _ _ _ _,kt⟩
theorem qYi (r:Paired PRel xs vs)(k:PKy):RelO (getP xs k) ((atKey vs k).map (·.2)):=by
 unfold getP atKey
 induction r with
 | nil=>exact trivial
 | @cons x y xs vs h t ih=>
  rw[List.find?_cons,List.find?_cons]
  obtain⟨h1,h2,h3⟩:=h
  by_cases e:x.1=k
  ·rw[decide_eq_true e,decide_eq_true (h1.symm.trans e)]
   exact h3
  ·rw[decide_eq_false e,decide_eq_false (fun z=>e (h1.trans z))]
   exact ih
theorem qRo (ok:HOk P w H h)(e:H a=some (PDo P w a xs))(ks:∀x∈xs,PkIn H x.1 x.2.1):xs.length≤sizeLine∧(a == sysModules)=false∧∃vs,Paired PRel xs vs∧h.DictOfH (DP.pairKind P w) a vs:=by
 obtain⟨⟨z,y,vs,r,o,es,ep,h1,h2,h3,h4,h5⟩,_⟩:=(show ObjOk P w H h a (PDo P w a xs) from ok a _ e)
 refine⟨z,y,vs,r,o,es,ep,h1,h2,h3,h4,fun x hx=>?_,h5⟩
 have all:∀{l:List (PKy×Addr×V)} {m:List (PKy×Addr×Value)},Paired PRel l m→(∀x∈l,PkIn H x.1 x.2.1)→∀x∈m,(DP.pairKind P w).is h x.1 x.2.1:=by
  intro l m q
  induction q with
  | nil=>intro _ x hx;exact nomatch hx
  | @cons p q ps qs hq t ih=>
   intro hp x hx
   rcases yYK.mp hx with e | hx
   ·subst e
    have:=qQd (P:=P) (w:=w) ok (hp p yYG)
    rw[hq.1,hq.2.1] at this
    exact this
   ·exact ih (fun y hy=>hp y (yYH _ hy)) x hx
 exact all r ks x hx
end
section
variable {X:Cx}{pins:List (Addr×Obj)}{σ:St}{H:Hp}{s:Shared}{a b:Addr}{k:PKy}{v:V}{r:Value}{xs:List (PKy×Addr×V)}{A:Around}{E:Value→Shared→Prop}
theorem qEe {Q:Value→Shared→Prop}(hu:A.units+3<cLine)(I:Inv X pins σ H s)(e:H a=some (PDo X.prog X.w a xs))(ks:∀x∈xs,PkIn H x.1 x.2.1)(kb:PkIn H k b)(g:getP xs k=some v)(h:∀w' s',Inv X pins σ H s'→RelV v w'→Q w' s'):
  wpAny (model X.prog X.w) A (getItem (.ref a) (.ref b)) Q E s:=by
 obtain⟨z,hd,vs,rel,dd⟩:=qRo I.hok e ks
 obtain⟨w',hw,rw'⟩:=RelO.some_of (v:=v) (o:=(atKey vs k).map (·.2)) (by rw[← g];exact qYi rel k)
 obtain⟨p,hp,hp2⟩:=Option.map_eq_some_iff.mp hw
 refine wpAny_getItem_heap (knd:=DP.pairKind X.prog X.w) (show A.in1.units+2<cLine by have:A.in1.units=A.units+1:=rfl;omega) (qQd I.hok kb) dd hp ?_
 rw[hp2]
 exact h w' _ (I.tok _) rw'
theorem qSq {Q:Value→Shared→Prop}(hu:A.units+3<cLine)(I:Inv X pins σ H s)(e:H a=some (PDo X.prog X.w a xs))(ks:∀x∈xs,PkIn H x.1 x.2.1)(kb:PkIn H k b)(h:∀s',Inv X pins σ H s'→Q (.bool (!(getP xs k).isSome)) s'):
  wpAny (model X.prog X.w) A (compareOp .NotIn (.ref b) (.ref a)) Q E s:=by
 obtain⟨z,hd,vs,rel,dd⟩:=qRo I.hok e ks
 refine wpAny_notIn_heap (knd:=DP.pairKind X.prog X.w) (show A.in1.units+2<cLine by have:A.in1.units=A.units+1:=rfl;omega) (qQd I.hok kb) hd dd ?_
 have q:=(qYi rel k).isSome_eq
 rw[Option.isSome_map] at q
 rw[← q]
 exact h _ (I.tok _)
theorem qEd {Q:Unit→Shared→Prop}(hu:A.units+3<cLine)(I:Inv X pins σ H s)(e:H a=some (PDo X.prog X.w a xs))(ks:∀x∈xs,PkIn H x.1 x.2.1)(kb:PkIn H k b)(g:getP xs k=none)(hl:xs.length<sizeLine)(rv:RelV v r)
  (h:∀s',Inv X pins σ (upd H a (PDo X.prog X.w a (xs++[(k,b,v)]))) s'→Q () s'):wpAny (model X.prog X.w) A (setItem (.ref a) (.ref b) r) Q E s:=by
 obtain⟨z,hd,vs,rel,dd⟩:=qRo I.hok e ks
 have hz:vs.length≤sizeLine:=by rw[← Paired.length rel];exact z
 have gn:atKey vs k=none:=by
  have q:=(qYi rel k).isSome_eq
  rw[g,Option.isSome_map] at q
  cases h:atKey vs k with
  | none=>rfl
  | some _=>rw[h] at q;cases q
 refine wpAny_setItem_heap (knd:=DP.pairKind X.prog X.w) (hsz:=hz) (show A.in1.units+2<cLine by have:A.in1.units=A.units+1:=rfl;omega) (qQd I.hok kb) dd fun h' dd' hs=>h _ ?_
 rw[storedH_new gn] at dd'
 obtain⟨q,es,ep,hq,h2,h3,h4,_,h5⟩:=dd'
 refine qBz I (by rw[e];exact True.intro) hs ⟨q,hq⟩ ⟨⟨by rw[yYI];show xs.length+1≤_;omega,hd,_,Paired.snoc rel ⟨rfl,rfl,rv⟩,q,es,ep,hq,h2,h3,h4,h5⟩,⟨q,hq⟩,?_⟩
 rintro h1 h2' ⟨z1,z2,vs1,r1,o1,es1,ep1,g1,g2,g3,g4,g5⟩ kp
 exact⟨z1,z2,vs1,r1,o1,es1,ep1,kp o1 g1,g2,g3,g4,g5⟩
theorem qSx (h:Heap)(hb:sysModules<h.objs.size):ObjOk X.prog X.w H (h.push { cls:=.type "dict",data:=.dict #[] }) h.objs.size (PDo X.prog X.w h.objs.size []):=by
 refine⟨⟨yZF _,beq_eq_false_iff_ne.mpr (Ne.symm (yZE hb)),[],.nil,_,#[],0,yZA _ rfl,⟨rfl,rfl,rfl⟩,rfl,rfl,List.nodup_nil⟩,⟨_,yZA _ rfl⟩,?_⟩
 rintro h1 h2' ⟨z1,z2,vs1,r1,o1,es1,ep1,g1,g2,g3,g4,g5⟩ kp
 exact⟨z1,z2,vs1,r1,o1,es1,ep1,kp o1 g1,g2,g3,g4,g5⟩
end
def PAt (P:Program)(w:World)(H:Hp)(x y:V)(a:Addr)(b:Addr)(k:PKy)(xs:List (PKy×Addr×V)):Prop:=x=.ref a∧y=.ref b∧H a=some (PDo P w a xs)∧(∀z∈xs,PkIn H z.1 z.2.1)∧PkIn H k b
def tPGet (P:Program)(w:World)(td ty:TE):TE:=fun σ H Q=>td σ H fun x H1=>ty σ H1 fun y H2=>∃a b k xs v,PAt P w H2 x y a b k xs∧getP xs k=some v∧Q v H2
def xXz (P:Program)(w:World)(ty td:TE):TE:=fun σ H Q=>ty σ H fun y H1=>td σ H1 fun x H2=>∃a b k xs,PAt P w H2 x y a b k xs∧Q (.bl (!(getP xs k).isSome)) H2
def sPPut (P:Program)(w:World)(td ty tv:TE):TS:=fun D σ H=>tv σ H fun v H1=>td σ H1 fun x H2=>ty σ H2 fun y H3=>∃a b k xs,PAt P w H3 x y a b k xs∧getP xs k=none∧xs.length<sizeLine∧D.nx σ (upd H3 a (PDo P w a (xs++[(k,b,v)])))
def tDNewP (P:Program)(w:World):TE:=fun _ H Q=>∀p,H p=none→Q (.ref p) (upd H p (PDo P w p []))
section
variable {X:Cx}{P:Program}{w:World}{o i value:Expr}{pos pos':Pos}{td ty tv:TE}
theorem qAb (hu:X.A.units+3<cLine)(ho:PE X o td)(hi:PE X i ty)(hs:NoSl i)(hP:X.prog=P:=by rfl)(hw:X.w=w:=by rfl):PE X (.Subscript o i pos) (tPGet P w td ty):=by
 subst hP hw
 intro pins s σ H Q I h
 refine qGb PySem.F.slot_dict_getitem.lookup hs (thn (ho pins s σ H _ I h) fun u s1 ⟨x,H1,I1,rx,q1⟩=>thn (hi pins s1 σ H1 _ I1 q1) fun iv s2 ⟨y,H2,I2,ry,a,b,k,xs,v,⟨ex,ey,e,ks,kb⟩,g,q2⟩=>?_)
 subst ex ey
 obtain rfl:u=Value.ref a:=rx
 obtain rfl:iv=Value.ref b:=ry
 obtain⟨_,_,_,_,dd⟩:=qRo I2.hok e ks
 exact⟨dd.typeIs,qEe hu I2 e ks kb g fun w' s3 I3 rw'=>⟨v,H2,I3,rw',q2⟩⟩
theorem qXc (hu:X.A.units+3<cLine)(hi:PE X i ty)(ho:PE X o td)(hP:X.prog=P:=by rfl)(hw:X.w=w:=by rfl):PC X .NotIn i o (xXz P w ty td):=by
 subst hP hw
 intro pins s σ H Q I h
 refine thn (hi pins s σ H _ I h) fun iv s1 ⟨y,H1,I1,ry,q1⟩=>thn (ho pins s1 σ H1 _ I1 q1) fun u s2 ⟨x,H2,I2,rx,a,b,k,xs,⟨ex,ey,e,ks,kb⟩,q2⟩=>?_
 subst ex ey
 obtain rfl:u=Value.ref a:=rx
 obtain rfl:iv=Value.ref b:=ry
 exact qSq hu I2 e ks kb fun s3 I3=>⟨.bl _,H2,I3,rfl,q2⟩
theorem qAw (hu:X.A.units+3<cLine)(ho:PE X o td)(hi:PE X i ty)(hv:PE X value tv)(hs:swapsWith value (some (.Subscript o i pos')) pos.line X.env=pure false)(hP:X.prog=P:=by rfl)(hw:X.w=w:=by rfl):
  PS X (.Assign [.Subscript o i pos'] value pos) (sPPut P w td ty tv):=by
 subst hP hw
 intro pins s σ H D I h
 refine wpAny_Assign_Subscript (thn (hv pins s σ H _ I h) fun r s1 ⟨v,H1,I1,rv,q1⟩=>thn (ho pins s1 σ H1 _ I1 q1) fun u s2 ⟨x,H2,I2,rx,q2⟩=>thn (hi pins s2 σ H2 _ I2 q2) fun iv s3 ⟨y,H3,I3,ry,a,b,k,xs,⟨ex,ey,e,ks,kb⟩,g,hl,q3⟩=>?_) hs
 subst ex ey
 obtain rfl:u=Value.ref a:=rx
 obtain rfl:iv=Value.ref b:=ry
 exact qEd hu I3 e ks kb g hl rv fun s4 I4=>⟨σ,_,I4,q3⟩
theorem qYo (hP:X.prog=P:=by rfl)(hw:X.w=w:=by rfl):PE X (.Dict [] [] pos) (tDNewP P w):=by
 subst hP hw
 exact fun pins s σ H Q I h=>wpAny_Dict_empty ⟨.ref s.heap.objs.size,_,I.laid (a:=s.heap.objs.size) (o:=PDo X.prog X.w s.heap.objs.size []) (t':=s.toks) (fun _ _ q=>yYY _ q) (yZC _) (qSx s.heap I.big),rfl,h _ (I.hok.fresh (yZC _))⟩
end
end L2

local macro_rules | `(tactic| wtm_at "zh")=>`(tactic| first | assumption | exact L2.qW | (refine L2.qV (by assumption) _ _ _ ?_;wtm_at "zh") | (refine(show L2.Same _ _ by assumption) _ _ ?_;wtm_at "zh"))
local macro_rules | `(tactic| wtm_at "zs")=>`(tactic| first | assumption | exact L2.SqT.of (by wtm_at "zh") | exact L2.SqL.of (by wtm_at "zh") | (refine L2.Same.seq (by assumption) ?_;wtm_at "zs"))
local macro_rules | `(tactic| wtm_at "zo")=>`(tactic| first | exact Or.inl rfl | exact Or.inr rfl)
local macro_rules | `(tactic| wtm_at "zat")=>`(tactic| first | rfl | assumption | exact L2.qPk _ _ | exact FP.at_int (by assumption) | exact L2.zQ (by assumption))
local macro_rules | `(tactic| wtm_at "zw")=>`(tactic| repeat first
 | (with_reducible first | apply L2.qPd | apply L2.xWa | apply L2.w_c | apply L2.qBl | apply L2.w_op | apply L2.w_un | apply L2.w_I0 | apply L2.w_U | apply L2.xYv | apply L2.w_B | apply L2.w_bl | apply L2.xWw | apply L2.w_not | apply L2.w_and | apply L2.w_or | apply L2.xYn | apply L2.xYb | apply L2.w_if | apply L2.xWk | apply L2.xYf | apply L2.xWq | apply L2.qFl | apply L2.xYi | apply L2.xWx | apply L2.xYm | apply L2.w_cb | apply L2.xVo | apply L2.xWz | apply L2.w_bm | apply L2.w_sl | apply L2.qPe | apply L2.xYa | apply L2.xYe | apply L2.xQl | apply L2.xQi | apply L2.xYc | apply L2.xYw | apply L2.w_yes | apply L2.xYh | apply L2.xYg)
 | ((with_reducible show L2.tVar _ _ _ _);refine L2.w_var rfl ?_)
 | ((with_reducible show L2.rEq _ _ _ _);refine L2.w_eq rfl ?_)
 | ((with_reducible show L2.rNe _ _ _ _);refine L2.w_ne rfl ?_)
 | ((with_reducible show L2.rIxT _ _ _ _ _);refine L2.xWj (by wtm_at "zs") (by wtm_at "zat") ?_)
 | ((with_reducible show L2.rIxL _ _ _ _ _);refine L2.xQg (by wtm_at "zs") (by wtm_at "zat") ?_)
 | ((with_reducible show L2.gTup _ _ _ _ _ _ _);refine L2.xYd (by wtm_at "zs") rfl ?_)
 | ((with_reducible show L2.rLen _ _ _ _);refine L2.w_len (by first | exact .inl (by wtm_at "zs") | exact .inr (by wtm_at "zs")) ?_)
 | apply L2.qBi (FP.yU _)
 | refine L2.wA (FP.xV (by assumption)) ?_
 | refine L2.wA (FP.xV (by decide +kernel)) ?_
 | (with_reducible first | apply L2.iteT | apply L2.iteF | apply L2.iteNT | apply L2.iteNF))
local macro_rules | `(tactic| wtm_at "zf")=>`(tactic| wtm_at "zw";(with_reducible first | apply L2.xWv | apply L2.xYl);wtm_at "zw")
set_option tactic.hygienic false
namespace FP
open PySem L2
structure Bl (mg:Str→Option Value):Prop where
 len':mg "len" = none
 range':mg "range" = none
 min':mg "min" = none
 isinstance':mg "isinstance" = none
 list':mg "list" = none
 reversed':mg "reversed" = none
 tuple':mg "tuple" = none
 int':mg "int" = none
 bool':mg "bool" = none
 dict':mg "dict" = none
 zip':mg "zip" = none
structure FunE (K:yZO)(mg:Str→Option Value)(x:Str)(f:Addr)(fd:FuncData)(ps:List Str):Prop where
 mg:mg x=some (.ref f)
 kp:PySem.W.keepIn K (.ref f)=true
 bd:Binds K fd ps []
section
seal L2.PE L2.PA L2.PS L2.PSs
variable {P:Program}{w:World}{K:yZO}{mg:Str→Option Value}{base:Heap}

theorem xKo {n:Int}{B:Nat}(h0:0≤n)(h:n<(B:Int)):n.natAbs<B:=by omega
theorem big (n:Int)(h0:0≤n)(h:n<10 ^ 200):n.natAbs<2 ^ 1000:=xKo h0 (Int.lt_of_lt_of_le h (by decide +kernel))
theorem xQx {a b c d:Int}(ha:0≤a)(hb:0≤b)(h1:a≤c)(h2:b≤d):0≤a * b∧a * b≤c * d:=
 ⟨Int.mul_nonneg ha hb,Int.mul_le_mul h1 h2 hb (Int.le_trans ha h1)⟩

theorem yT {K:yZO}{a:Addr}{xs:List V}{g:TG}{tb:TS}{D:Ends}{σ:St}{H:Hp}(Pv:Nat→St→Hp→Prop)(h0:Pv 0 σ H)(hl:∀i σ H,i≤xs.length→Pv i σ H→SqL K H a xs)
  (hs:∀(N:St→Hp→Prop) (rt:VK) (bk:St→Hp→Prop) i x σ H,xs[i]? = some x→Pv i σ H→(∀σ H,Pv (i+1) σ H→N σ H)→g x σ H fun σ2 H2=>tb ⟨N,rt,bk,N⟩ σ2 H2) (hd:∀σ H,Pv xs.length σ H→D.nx σ H):
  ∃W:Nat→Nat→St→Hp→Prop,(∃m,W 0 m σ H)∧∀i m σ H,W i m σ H→
   ((Itl K a).stop i H∧D.nx σ H)∨((Itl K a).go i H∧∃N:St→Hp→Prop,(∀σ' H',N σ' H'→∃m',m'<m∧W (i+1) m' σ' H')∧∀x H',(Itl K a).yld i H x H'→g x σ H' fun σ2 H2=>tb { D with nx:=N,ct:=N,bk:=D.nx } σ2 H2):=
 vY Pv h0 hl (fun i x σ H e p=>hs _ _ _ i x σ H e p fun _ _ z=>z) hd
theorem zU {lo:Int}{n:Nat}{g:TG}{tb:TS}{D:Ends}{σ:St}{H:Hp}(Pv:Nat→St→Hp→Prop)(h0:Pv 0 σ H)
  (hs:∀(N:St→Hp→Prop) (rt:VK) (bk:St→Hp→Prop) i σ H,i<n→Pv i σ H→(∀σ H,Pv (i+1) σ H→N σ H)→g (.int (lo+i)) σ H fun σ2 H2=>tb ⟨N,rt,bk,N⟩ σ2 H2) (hd:∀σ H,Pv n σ H→D.nx σ H):
  ∃W:Nat→Nat→St→Hp→Prop,(∃m,W 0 m σ H)∧∀i m σ H,W i m σ H→
   ((Itr lo n).stop i H∧D.nx σ H)∨((Itr lo n).go i H∧∃N:St→Hp→Prop,(∀σ' H',N σ' H'→∃m',m'<m∧W (i+1) m' σ' H')∧∀x H',(Itr lo n).yld i H x H'→g x σ H' fun σ2 H2=>tb { D with nx:=N,ct:=N,bk:=D.nx } σ2 H2):=
 qNz Pv h0 (fun i σ H e p=>hs _ _ _ i σ H e p fun _ _ z=>z) hd

def cwords:List Str:=["not","and","yes"]
def BoxIn (H:Hp)(b:Str×Int)(u:V):Prop:=∃a,u=.ref a∧H a=some (.tup [.str b.1,.int b.2])
structure Named (ws:List Str):Prop where
 nd:ws.Nodup
 no:∀x∈ws,x∉cwords
theorem BoxIn.mono {H H':Hp}(h:Tups H H'){b:Str×Int}{u:V}(x:BoxIn H b u):BoxIn H' b u:=let ⟨a,e,q⟩:=x;⟨a,e,h _ _ q⟩
theorem xY {H H':Hp}(h:Tups H H'){bs:List (Str×Int)}{us:List V}(p:Paired (BoxIn H) bs us):Paired (BoxIn H') bs us:=Paired.mapP p fun _ _ x=>x.mono h
def Expr' (ws:List Str):Th→Prop
 | .num n=>0≤n∧n<10
 | .box x=>x∈ws
 | .nul _=>False
 | .un _ _=>False
 | .bin k a b=>(k = "plus" ∨ k = "less")∧Expr' ws a∧Expr' ws b
theorem qIf:Th.Op "plus" := ⟨by decide +kernel,by decide +kernel⟩
theorem qIi:Th.Op "less" := ⟨by decide +kernel,by decide +kernel⟩
def Cond' (ws:List Str):Th→Prop
 | .num _=>False
 | .box _=>False
 | .nul k=>k = "yes"
 | .un k a=>k = "not" ∧ Cond' ws a
 | .bin k a b=>((k = "same" ∨ k = "under")∧Expr' ws a∧Expr' ws b)∨(k = "both" ∧ Cond' ws a∧Cond' ws b)
def Th.worth (ρ:Str→Int):Th→Int
 | .num n=>n
 | .box x=>ρ x
 | .nul _=>0
 | .un _ _=>0
 | .bin k a b=>if k = "plus" then a.worth ρ+b.worth ρ else a.worth ρ - b.worth ρ
theorem xKn:("less" : Str) ≠ "plus" := by decide +kernel
def Env' (kvs:List (Key×V))(ws:List Str)(ρ:Str→Int):Prop:=∀x∈ws,valV kvs (Sum.inr x)=some (.int (ρ x))∧0≤ρ x∧ρ x<10

theorem kY:xH ["expression","values","kind","one","other"] ["expression","values"] (xA (top 8)):=⟨rfl,rfl,rfl,by decide +kernel,rfl,by decide +kernel,by decide +kernel⟩
def jV (n:Nat):Sp:=fun vs H Q _=>∃(t:Th) (v:V) (d:Addr) (kvs:List (Key×V)) (ws:List Str) (ρ:Str→Int),vs=[v,.ref d]∧t.At H v∧Expr' ws t∧t.dep≤n∧H d=some (.dK kvs)∧Env' kvs ws ρ∧Q (.int (t.worth ρ)) H
theorem qVg {f:Addr}{fd:FuncData}:FnOk P w K mg base CX0 1 f fd ["expression","values"] (jV 0):=by
 have no:∀vs H Q E,¬jV 0 vs H Q E:=fun vs H Q E h=>by
  obtain⟨t,_,_,_,_,_,_,_,_,h1,_⟩:=h
  have:=t.dep_pos
  omega
 exact⟨fun vs H Q E h=>absurd h (no vs H Q E),fun A outer s H args us vs Q E _ _ _ _ h=>absurd h (no vs H Q E)⟩
theorem qVf {n:Nat}{f:Addr}{fd:FuncData}(F:Fun K "worth_by" "worth_by" (top 8) f fd)(G_worth_by:FnOk P w K mg base CX0 (n+1) f fd ["expression","values"] (jV n))(E_worth_by:FunE K mg "worth_by" f fd ["expression","values"]):
  FnOk P w K mg base CX0 (n+2) f fd ["expression","values"] (jV (n+1)):=by
 refine F.ok kY (fun vs H Q E h=>?_) (fun cdv A outer s H vs Q E hr h=>?_)
 ·obtain⟨_,_,_,_,_,_,rfl,_⟩:=h
  rfl
 obtain⟨t,v,d,kvs,ws,ρ,rfl,at',ex,hn,hd,env,q⟩:=h
 have hu:=qSo hr
 refine⟨_,(qZ (qM (i:=2) kY.nd rfl (by wtm_at "zo") (xE (qS (K:=K)) (pv 0) qE (fun _ _=>rfl)))
  (qZ (xU (qR zA (pv 2) qF (xD _)) (qJ (qN (xE (qS (K:=K)) (pv 0) qE (fun _ _=>rfl)))) qY)
  (qZ (xU (qR zA (pv 2) qF (xD _)) (qJ (qN (qXa hu (pv 1) (xE (qS (K:=K)) (pv 0) qE (fun _ _=>rfl)) (fun _ _=>rfl)))) qY)
  (qZ (qM (i:=3) kY.nd rfl (by wtm_at "zo") (qXb G_worth_by hr rfl E_worth_by.mg E_worth_by.kp E_worth_by.bd .nil pass0 (qQ (xE (qS (K:=K)) (pv 0) qE (fun _ _=>rfl)) (qQ (pv 1) qX))))
  (qZ (qM (i:=4) kY.nd rfl (by wtm_at "zo") (qXb G_worth_by hr rfl E_worth_by.mg E_worth_by.kp E_worth_by.bd .nil pass0 (qQ (xE (qS (K:=K)) (pv 0) qE (fun _ _=>rfl)) (qQ (pv 1) qX))))
  (qJ (qN (qQc (qR zA (pv 2) qF (xD _)) (xQ zC (pv 3) (pv 4)) (xQ yP (pv 3) (pv 4)))))))))),?_⟩
 cases t with
 | nul _=>exact False.elim ex
 | un _ _=>exact False.elim ex
 | num n=>
  obtain⟨a,ev,ea⟩:=at'
  subst ev
  refine⟨_,rfl,a,_,0,.str "number",rfl,rfl,SqT.of ea,rfl,?_⟩
  refine⟨_,rfl,rfl,_,rfl,?_⟩
  rw[yU]
  refine iteT ?_
  exact⟨_,rfl,a,_,1,.int n,rfl,rfl,SqT.of ea,rfl,q⟩
 | box x=>
  obtain⟨a,ev,ea⟩:=at'
  subst ev
  refine⟨_,rfl,a,_,0,.str "box",rfl,rfl,SqT.of ea,rfl,?_⟩
  refine⟨_,rfl,rfl,_,rfl,?_⟩
  rw[xV (Ne.symm xWf)]
  refine iteF ?_
  refine⟨_,rfl,rfl,_,rfl,?_⟩
  rw[yU]
  refine iteT ?_
  refine⟨_,rfl,_,rfl,a,_,1,.str x,rfl,rfl,SqT.of ea,rfl,d,.int (ρ x),rfl,?_,q⟩
  rw[← (env x ex).1]
  exact DGet.k (k:=Sum.inr x) hd
 | bin k t1 t2=>
  obtain⟨a,u1,u2,ev,ea,a1,a2⟩:=at'
  obtain⟨hk,x1,x2⟩:=ex
  subst ev
  have hn':max t1.dep t2.dep+1≤n+1:=hn
  have k1:k ≠ "number" := by rcases hk with rfl | rfl;exact qIf.2;exact qIi.2
  have k2:k ≠ "box" := by rcases hk with rfl | rfl;exact qIf.1;exact qIi.1
  refine⟨_,rfl,a,_,0,.str k,rfl,rfl,SqT.of ea,rfl,?_⟩
  refine⟨_,rfl,rfl,_,rfl,?_⟩
  rw[xV k1]
  refine iteF ?_
  refine⟨_,rfl,rfl,_,rfl,?_⟩
  rw[xV k2]
  refine iteF ?_
  refine⟨_,rfl,a,_,1,u1,rfl,rfl,SqT.of ea,rfl,_,rfl,t1,u1,d,kvs,ws,ρ,rfl,a1,x1,by omega,hd,env,?_⟩
  refine⟨_,rfl,a,_,2,u2,rfl,rfl,SqT.of ea,rfl,_,rfl,t2,u2,d,kvs,ws,ρ,rfl,a2,x2,by omega,hd,env,?_⟩
  refine⟨_,rfl,rfl,_,rfl,?_⟩
  have q':Q (.int (if k = "plus" then t1.worth ρ+t2.worth ρ else t1.worth ρ - t2.worth ρ)) H:=q
  refine ite2 (fun c=>?_) (fun c=>?_)
  ·have c':k = "plus" := by
    have z:=of_decide_eq_true c
    cases z
    rfl
   rw[if_pos c'] at q'
   exact⟨_,rfl,_,rfl,_,_,rfl,rfl,q'⟩
  ·have c':k ≠ "plus" := fun z=>c (by rw[z,yU])
   rw[if_neg c'] at q'
   exact⟨_,rfl,_,rfl,_,_,rfl,rfl,q'⟩
theorem qXd {f:Addr}{fd:FuncData}(F:Fun K "worth_by" "worth_by" (top 8) f fd)(E_worth_by:FunE K mg "worth_by" f fd ["expression","values"]):∀n:Nat,FnOk P w K mg base CX0 (n+1) f fd ["expression","values"] (jV n)
 | 0=>qVg
 | n+1=>qVf F (qXd F E_worth_by n) E_worth_by

theorem qJe {x:Str}:∀(kvs:List (Str×V)) (acc:List (Key×V)),((valV acc (Sum.inr x)).isSome=true∨x∈kvs.map (·.1))→(valV (mergeK acc (pairK kvs)) (Sum.inr x)).isSome=true
 | [],acc,h=>by rcases h with h | h;exact h;cases h
 | (n,v)::kvs,acc,h=>by
  show(valV (mergeK (putK acc (Sum.inr n) v) (pairK kvs)) (Sum.inr x)).isSome=true
  refine qJe kvs _ ?_
  rw[jT]
  by_cases e:x=n
  ·left;subst e;rw[if_pos rfl];rfl
  ·rw[if_neg (fun z=>e (Sum.inr.inj z))]
   rcases h with h | h
   ·exact .inl h
   ·rcases yYK.mp h with h | h
    ·exact absurd h e
    ·exact .inr h
theorem qVm {Pr:V→Prop}:∀(kvs:List (Str×V)) (acc:List (Key×V)),(∀kv∈kvs,Pr kv.2)→(∀k v,valV acc k=some v→Pr v)→∀k v,valV (mergeK acc (pairK kvs)) k=some v→Pr v
 | [],acc,_,h=>h
 | (n,v)::kvs,acc,hk,h=>by
  show∀k v',valV (mergeK (putK acc (Sum.inr n) v) (pairK kvs)) k=some v'→Pr v'
  refine qVm kvs _ (fun kv hkv=>hk kv (yYH _ hkv)) fun k v' e=>?_
  rw[jT] at e
  by_cases c:k=Sum.inr n
  ·rw[if_pos c] at e;cases e;exact hk (n,v) yYG
  ·rw[if_neg c] at e;exact h k v' e
def envOf (kvs:List (Key×V))(x:Str):Int:=match valV kvs (Sum.inr x) with
 | some (.int i)=>i
 | _=>0
abbrev kvsOf (bs:List (Str×Int))(vals:List Int):List (Key×V):=mergeK [] (zipK (bs.map (·.1)) (intsV vals))
def Stands (bs:List (Str×Int))(vals:List Int):Prop:=vals.length=bs.length∧∀v∈vals,0≤v∧v<10
theorem qNw {bs:List (Str×Int)}{vals:List Int}(h:Stands bs vals):Env' (kvsOf bs vals) (bs.map (·.1)) (envOf (kvsOf bs vals)):=fun x hx=>by
 have s1:(valV (kvsOf bs vals) (Sum.inr x)).isSome=true:=qJe (x:=x) ((bs.map (fun b:Str×Int=>b.1)).zip (intsV vals)) [] (.inr (by
  rw[List.map_fst_zip]
  ·exact hx
  ·rw[yYC,zM,h.1];exact yZC _))
 have s2:=qVm (Pr:=fun v=>∃i:Int,v=.int i∧0≤i∧i<10) ((bs.map (fun b:Str×Int=>b.1)).zip (intsV vals)) [] (fun kv hkv=>by
  obtain⟨a,b⟩:=kv
  obtain⟨i,hi,e⟩:=yYP.mp (List.of_mem_zip hkv).2
  exact⟨i,e.symm,h.2 i hi⟩) (fun k v e=>by cases e) (Sum.inr x)
 cases e:valV (kvsOf bs vals) (Sum.inr x) with
 | none=>rw[e] at s1;cases s1
 | some v=>
  obtain⟨i,rfl,h0,h1⟩:=s2 v e
  have e2:envOf (kvsOf bs vals) x=i:=by unfold envOf;rw[e]
  rw[e2]
  exact⟨rfl,h0,h1⟩

def Fits (bs:List (Str×Int))(vals:List Int):Prop:=vals.length=bs.length∧∀(i:Nat) b v,bs[i]? = some b→vals[i]? = some v→0≤v∧v<b.2
theorem Fits.stands {bs:List (Str×Int)}{vals:List Int}(f:Fits bs vals)(h25:∀b∈bs,2≤b.2∧b.2≤5):Stands bs vals:=⟨f.1,fun v hv=>by
 obtain⟨i,hi⟩:=List.mem_iff_getElem?.mp hv
 have hl:i<bs.length:=by rw[← f.1];exact(yYB.mp hi).1
 have:=f.2 i _ v (yYA hl) hi
 have:=h25 _ (List.getElem_mem hl)
 omega⟩
theorem wD:xH ["boxes","standing"] ["boxes","standing"] (xA (top 7)):=⟨rfl,rfl,rfl,by decide +kernel,rfl,by decide +kernel,by decide +kernel⟩
theorem jH:CompOk (xA (top 7)) ["boxes","standing"] (qHk (argOf (argOf (asgVal (stAt (xB (top 7)) 0)) 0) 0)) ["name","size"] 2 []:=
 ⟨by decide +kernel,by decide +kernel,by decide +kernel,by decide +kernel,by decide +kernel,by decide +kernel,by decide +kernel,by decide +kernel⟩
structure World' (H:Hp)(bx st:Addr)(bs:List (Str×Int))(vals:List Int):Prop where
 boxes:∃us,H bx=some (.lst us)∧Paired (BoxIn H) bs us
 stand:H st=some (.tup (intsV vals))
 ok:Stands bs vals
 le:bs.length≤100
def qQw:Sp:=fun vs H Q _=>∃(bx st:Addr) (bs:List (Str×Int)) (vals:List Int),vs=[.ref bx,.ref st]∧World' H bx st bs vals∧
 ∀(p:Addr) (H':Hp),Same H H'→H' p=some (.dK (kvsOf bs vals))→Q (.ref p) H'
theorem qVh {f:Addr}{fd:FuncData}(F:Fun K "values_by_name" "values_by_name" (top 7) f fd)(B:Bl mg):FnOk P w K mg base CX0 1 f fd ["boxes","standing"] qQw:=by
 refine F.ok wD (fun vs H Q E h=>?_) (fun cdv A outer s H vs Q E hr h=>?_)
 ·obtain⟨_,_,_,_,rfl,_⟩:=h
  rfl
 obtain⟨bx,st,bs,vals,rfl,W,q⟩:=h
 obtain⟨us,e1,p1⟩:=W.boxes
 refine⟨_,qJ (qN (qAc rfl rfl B.dict' rfl B.zip' (qQ (zF rfl jH (qIw (pv 0))
  (fun cl fp s H=>show PG _ _ (gTup K 2 (gCons (gName 0) (gCons (gName 1) gNil))) from qUo rfl (qH (qG (i:=0) jH.nd rfl (Or.inl rfl) (.inr rfl)) (qH (qG (i:=1) jH.nd rfl (Or.inl rfl) (.inr rfl)) qI)))
  (fun cl fp s H=>zO) (fun cl fp s H=>pv 0)) (qQ (pv 1) qX)))),?_⟩
 refine⟨_,rfl,bx,rfl,⟨us,SqL.of e1⟩,?_⟩
 refine jA (xs:=us) (fun D i ys H'=>ys=strsV ((bs.take i).map (·.1))∧∀b o,H b=some o→H' b=some o) (fun D hD=>⟨rfl,qV hD _⟩)
  (fun D i ys H' _ hP=>(show Same H H' from hP.2).seq (SqL.of e1)) (fun D i x ys H' N hD hDy ex hP hN=>?_) (fun D ys H2 hD hDy hP=>?_)
 ·obtain⟨rfl,hk⟩:=hP
  obtain⟨b,eb⟩:∃b,bs[i]? = some b:=⟨_,yYA (by rw[p1.length];exact(yYB.mp ex).1)⟩
  obtain⟨ba,rfl,hba⟩:=xK p1 eb ex
  refine⟨ba,_,rfl,SqT.of (hk _ _ hba),rfl,_,_,rfl,_,_,rfl,rfl,⟨[some (.str b.1),some (.int b.2)],rfl,rfl⟩,?_⟩
  have wle:=W.le
  refine⟨_,rfl,hDy,?_,hN _ _ qW ⟨?_,fun b o e=>?_⟩⟩
  ·rw[xW,yYC,yYF];exact small (by omega)
  ·rw[yYM,eb,yYV,vS];rfl
  ·rw[qA (qB e hD)];exact hk _ _ e
 obtain⟨rfl,hk2⟩:=hP
 have lb:us.length=bs.length:=p1.length.symm
 rw[lb,yYJ] at hDy
 have wle:=W.le
 refine⟨_,rfl,D,st,bs.map (·.1),intsV vals,rfl,SqL.of hDy,SqT.of (hk2 _ _ W.stand),?_,?_,fun p hp=>?_⟩
 ·rw[yYC,zM,W.ok.1]
 ·rw[yYC];omega
 ·exact q p _ ((show Same H H2 from hk2).trans (qV hp _)) qW

theorem qRz:xH ["expression","boxes","standing"] ["expression","boxes","standing"] (xA (top 5)):=⟨rfl,rfl,rfl,by decide +kernel,rfl,by decide +kernel,by decide +kernel⟩
def qGd:Sp:=fun vs H Q _=>∃(t:Th) (v:V) (bx st:Addr) (bs:List (Str×Int)) (vals:List Int),vs=[v,.ref bx,.ref st]∧t.At H v∧Expr' (bs.map (·.1)) t∧t.dep≤12∧World' H bx st bs vals∧
 ∀H',Same H H'→Q (.int (t.worth (envOf (kvsOf bs vals)))) H'
theorem qSv {f g h:Addr}{fd gd hd:FuncData}(F:Fun K "worth" "worth" (top 5) f fd)(G_worth_by:FnOk P w K mg base CX0 13 g gd ["expression","values"] (jV 12))(E_worth_by:FunE K mg "worth_by" g gd ["expression","values"])
  (G_values_by_name:FnOk P w K mg base CX0 13 h hd ["boxes","standing"] qQw) (E_values_by_name:FunE K mg "values_by_name" h hd ["boxes","standing"]):FnOk P w K mg base CX0 14 f fd ["expression","boxes","standing"] qGd:=by
 refine F.ok qRz (fun vs H Q E h=>?_) (fun cdv A outer s H vs Q E hr h=>?_)
 ·obtain⟨_,_,_,_,_,_,rfl,_⟩:=h
  rfl
 obtain⟨t,v,bx,st,bs,vals,rfl,at',ex,dp,W,q⟩:=h
 refine⟨_,(qJ (qN (qXb G_worth_by hr rfl E_worth_by.mg E_worth_by.kp E_worth_by.bd .nil pass0 (qQ (pv 0) (qQ (qXb G_values_by_name hr rfl E_values_by_name.mg E_values_by_name.kp E_values_by_name.bd .nil pass0 (qQ (pv 1) (qQ (pv 2) qX))) qX))))),?_⟩
 refine⟨_,rfl,_,rfl,_,rfl,bx,st,bs,vals,rfl,W,fun p H' S e=>?_⟩
 exact⟨t,v,p,_,_,_,rfl,at'.mono (qC S),ex,dp,e,qNw W.ok,q H' S⟩

def Th.truth (ρ:Str→Int):Th→Bool
 | .num _=>false
 | .box _=>false
 | .nul _=>true
 | .un _ a=>!a.truth ρ
 | .bin k a b=>if k = "both" then a.truth ρ && b.truth ρ else if k = "same" then decide (a.worth ρ=b.worth ρ) else decide (a.worth ρ<b.worth ρ)
theorem qEq {ρ:Str→Int}{a b:Th}:(Th.bin "both" a b).truth ρ=(a.truth ρ && b.truth ρ):=by
 show(if ("both" : Str) = "both" then _ else _)=_
 rw[if_pos rfl]
theorem xKm:("same" : Str) ≠ "both" := by decide +kernel
theorem xKl:("under" : Str) ≠ "both" := by decide +kernel
theorem xWe:("under" : Str) ≠ "same" := by decide +kernel
theorem qDo {ρ:Str→Int}{a b:Th}:(Th.bin "same" a b).truth ρ=decide (a.worth ρ=b.worth ρ):=by
 show(if ("same" : Str) = "both" then _ else if ("same" : Str) = "same" then _ else _)=_
 rw[if_neg xKm,if_pos rfl]
theorem qWm {ρ:Str→Int}{a b:Th}:(Th.bin "under" a b).truth ρ=decide (a.worth ρ<b.worth ρ):=by
 show(if ("under" : Str) = "both" then _ else if ("under" : Str) = "same" then _ else _)=_
 rw[if_neg xKl,if_neg xWe]

theorem kA:xH ["condition","values","kind","one","other"] ["condition","values"] (xA (top 9)):=⟨rfl,rfl,rfl,by decide +kernel,rfl,by decide +kernel,by decide +kernel⟩
def vT (n:Nat):Sp:=fun vs H Q _=>∃(t:Th) (v:V) (d:Addr) (kvs:List (Key×V)) (ws:List Str) (ρ:Str→Int),vs=[v,.ref d]∧t.At H v∧Cond' ws t∧t.dep≤n∧t.dep≤12∧H d=some (.dK kvs)∧Env' kvs ws ρ∧Q (.bl (t.truth ρ)) H
theorem qWv {n:Nat}(F:Fd K mg "holds_by" (top 9) ["condition","values"])(D_holds_by:Dn P w K mg base "holds_by" (n+13) ["condition","values"] (vT n))(D_worth_by:Dn P w K mg base "worth_by" 13 ["expression","values"] (jV 12)):
  Dn P w K mg base "holds_by" (n+14) ["condition","values"] (vT (n+1)):=by
 refine F.ok kA (fun vs H Q E h=>?_) (fun f cdv A outer s H vs Q E hr h=>?_)
 ·obtain⟨_,_,_,_,_,_,rfl,_⟩:=h
  rfl
 obtain⟨t,v,d,kvs,ws,ρ,rfl,at',cx,hn,h12,hd,env,q⟩:=h
 refine⟨_,(qZ (qM (i:=2) kA.nd rfl (by wtm_at "zo") (xE (qS (K:=K)) (pv 0) qE (fun _ _=>rfl)))
  (qZ (xU (qR zA (pv 2) qF (xD _)) (qJ (qN qAd)) qY)
  (qZ (xU (qR zA (pv 2) qF (xD _)) (qJ (qN (qIc (qD D_holds_by hr (qQ (xE (qS (K:=K)) (pv 0) qE (fun _ _=>rfl)) (qQ (pv 1) qX)))))) qY)
  (qZ (xU (qR zA (pv 2) qF (xD _)) (qJ (qN (qVc (qD D_holds_by hr (qQ (xE (qS (K:=K)) (pv 0) qE (fun _ _=>rfl)) (qQ (pv 1) qX))) (qDx (qD D_holds_by hr (qQ (xE (qS (K:=K)) (pv 0) qE (fun _ _=>rfl)) (qQ (pv 1) qX))))))) qY)
  (qZ (qM (i:=3) kA.nd rfl (by wtm_at "zo") (qD D_worth_by hr (qQ (xE (qS (K:=K)) (pv 0) qE (fun _ _=>rfl)) (qQ (pv 1) qX))))
  (qZ (qM (i:=4) kA.nd rfl (by wtm_at "zo") (qD D_worth_by hr (qQ (xE (qS (K:=K)) (pv 0) qE (fun _ _=>rfl)) (qQ (pv 1) qX))))
  (qJ (qN (qQc (qR zA (pv 2) qF (xD _)) (yG zA (pv 3) (pv 4) (xD _)) (yG qKz (pv 3) (pv 4) (xD _))))))))))),?_⟩
 match t,at',cx,hn,h12,q with
 | .nul k,⟨a,ev,ea⟩,cx,hn,h12,q=>
  cases(show k = "yes" from cx)
  subst ev
  wtm_at "zw"
  exact q
 | .un k t1,⟨a,u,ev,ea,a1⟩,⟨hk,c1⟩,hn,h12,q=>
  cases hk
  subst ev
  have hn':t1.dep+1≤n+1:=hn
  have h12':t1.dep+1≤12:=h12
  wtm_at "zw"
  refine⟨t1,u,d,kvs,ws,ρ,rfl,a1,c1,by omega,by omega,hd,env,?_⟩
  wtm_at "zw"
  exact q
 | .bin k t1 t2,⟨a,u1,u2,ev,ea,a1,a2⟩,cx,hn,h12,q=>
  subst ev
  have hn':max t1.dep t2.dep+1≤n+1:=hn
  have h12':max t1.dep t2.dep+1≤12:=h12
  rcases cx with⟨hk,x1,x2⟩ | ⟨hk,c1,c2⟩
  ·have n1:k ≠ "yes" := by rcases hk with rfl | rfl <;> decide +kernel
   have n2:k ≠ "not" := by rcases hk with rfl | rfl <;> decide +kernel
   have n3:k ≠ "both" := by rcases hk with rfl | rfl <;> decide +kernel
   wtm_at "zw"
   refine⟨t1,u1,d,kvs,ws,ρ,rfl,a1,x1,by omega,hd,env,?_⟩
   wtm_at "zw"
   refine⟨t2,u2,d,kvs,ws,ρ,rfl,a2,x2,by omega,hd,env,?_⟩
   rcases hk with rfl | rfl
   ·rw[qDo] at q
    wtm_at "zw"
    have e:decide (V.int (t1.worth ρ)=V.int (t2.worth ρ))=decide (t1.worth ρ=t2.worth ρ):=decide_eq_decide.mpr ⟨fun z=>by injection z,fun z=>by rw[z]⟩
    rw[e]
    exact q
   ·rw[qWm] at q
    wtm_at "zw"
    exact q
  ·cases hk
   rw[qEq] at q
   wtm_at "zw"
   refine⟨t1,u1,d,kvs,ws,ρ,rfl,a1,c1,by omega,by omega,hd,env,?_⟩
   wtm_at "zw"
   cases e1:t1.truth ρ with
   | false=>
    rw[e1,Bool.false_and] at q
    refine iteF ?_
    exact q
   | true=>
    rw[e1,Bool.true_and] at q
    refine iteT ?_
    wtm_at "zw"
    exact⟨t2,u2,d,kvs,ws,ρ,rfl,a2,c2,by omega,by omega,hd,env,q⟩
theorem qZk (F:Fd K mg "holds_by" (top 9) ["condition","values"])(D_worth_by:Dn P w K mg base "worth_by" 13 ["expression","values"] (jV 12)):∀n:Nat,Dn P w K mg base "holds_by" (n+13) ["condition","values"] (vT n)
 | 0=>F.never fun vs H Q E h=>by
  obtain⟨t,_,_,_,_,_,_,_,_,h1,_⟩:=h
  have:=t.dep_pos
  omega
 | n+1=>qWv F (qZk F D_worth_by n) D_worth_by

theorem qRk:xH ["condition","boxes","standing"] ["condition","boxes","standing"] (xA (top 6)):=⟨rfl,rfl,rfl,by decide +kernel,rfl,by decide +kernel,by decide +kernel⟩
def qAq:Sp:=fun vs H Q _=>∃(t:Th) (v:V) (bx st:Addr) (bs:List (Str×Int)) (vals:List Int),vs=[v,.ref bx,.ref st]∧t.At H v∧Cond' (bs.map (·.1)) t∧t.dep≤12∧World' H bx st bs vals∧
 ∀H',Same H H'→Q (.bl (t.truth (envOf (kvsOf bs vals)))) H'
theorem qTn (F:Fd K mg "holds" (top 6) ["condition","boxes","standing"])(D_holds_by:Dn P w K mg base "holds_by" 25 ["condition","values"] (vT 12))(D_values_by_name:Dn P w K mg base "values_by_name" 1 ["boxes","standing"] qQw):
  Dn P w K mg base "holds" 26 ["condition","boxes","standing"] qAq:=by
 refine F.ok qRk (fun vs H Q E h=>?_) (fun f cdv A outer s H vs Q E hr h=>?_)
 ·obtain⟨_,_,_,_,_,_,rfl,_⟩:=h
  rfl
 obtain⟨t,v,bx,st,bs,vals,rfl,at',cx,dp,W,q⟩:=h
 refine⟨_,(qJ (qN (qD D_holds_by hr (qQ (pv 0) (qQ (qD D_values_by_name hr (qQ (pv 1) (qQ (pv 2) qX))) qX))))),?_⟩
 wtm_at "zw"
 refine⟨bx,st,bs,vals,rfl,W,fun p H' S e=>?_⟩
 wtm_at "zw"
 exact⟨t,v,p,_,_,_,rfl,at'.mono (qC S),cx,dp,dp,e,qNw W.ok,q H' S⟩

theorem small2 {n:Nat}(h:n≤100000):n<sizeLine:=yZH h (by decide)
theorem xXk {n:Nat}(h:n≤100000):n≤sizeLine:=Nat.le_of_lt (small2 h)
def rowsBy (acc:List (List Int))(n:Nat):List (List Int):=acc.flatMap fun r=>(List.range n).map fun v=>r++[((v:Nat):Int)]
def allV (bs:List (Str×Int)):List (List Int):=(bs.map fun b=>b.2.toNat).foldl rowsBy [[]]
theorem wW {bs:List (Str×Int)}{i:Nat}{b:Str×Int}(h:bs[i]? = some b):allV (bs.take (i+1))=rowsBy (allV (bs.take i)) b.2.toNat:=by
 unfold allV
 rw[yYM,h,yYV,List.foldl_append]
 rfl
theorem qAk {acc:List (List Int)}{n j:Nat}{r:List Int}(h:acc[j]? = some r):rowsBy (acc.take (j+1)) n=rowsBy (acc.take j) n++(List.range n).map fun v=>r++[((v:Nat):Int)]:=by
 unfold rowsBy
 rw[yYM,h,List.flatMap_append]
 simp
theorem yO (n:Nat):∀acc:List (List Int),(rowsBy acc n).length=acc.length * n
 | []=>by simp[rowsBy]
 | r::acc=>by
  have:=yO n acc
  unfold rowsBy at this ⊢
  rw[List.flatMap_cons,yYI,this,yYC,List.length_range,yYS,Nat.succ_mul]
  omega
theorem qXj (acc:List (List Int))(n j:Nat):(rowsBy (acc.take j) n).length≤acc.length * n:=by
 rw[yO,yYF]
 exact Nat.mul_le_mul_right _ (Nat.min_le_right _ _)
theorem qKi {bs:List (Str×Int)}(h:∀b∈bs,2≤b.2∧b.2≤5):∀i:Nat,i≤bs.length→(allV (bs.take i)).length≤5 ^ i
 | 0,_=>by simp[allV]
 | i+1,hi=>by
  have hb:bs[i]? = some (bs[i]'(by omega)):=yYA (by omega)
  rw[wW hb,yO,Nat.pow_succ]
  have:=h _ (List.getElem_mem (h:=(by omega:i<bs.length)))
  exact Nat.mul_le_mul (qKi h i (by omega)) (by omega)
theorem qEj {n k:Nat}{acc:List (List Int)}(h:∀r∈acc,r.length=k):∀r∈rowsBy acc n,r.length=k+1:=fun r hr=>by
 obtain⟨x,hx,hr⟩:=List.mem_flatMap.mp hr
 obtain⟨v,_,rfl⟩:=yYP.mp hr
 rw[yYI,h x hx];rfl
theorem qDg (bs:List (Str×Int)):∀i:Nat,i≤bs.length→∀r∈allV (bs.take i),r.length=i
 | 0,_=>fun r hr=>by simp[allV] at hr;subst hr;rfl
 | i+1,hi=>by
  have hb:bs[i]? = some (bs[i]'(by omega)):=yYA (by omega)
  rw[wW hb]
  exact qEj (qDg bs i (by omega))
theorem pow56 {i:Nat}(h:i≤6):5 ^ i≤15625:=yZI (Nat.pow_le_pow_right (by decide) h) (by decide)
theorem qNk {bs:List (Str×Int)}{i:Nat}{b:Str×Int}{r:List Int}{v:Nat}(hb:bs[i]? = some b)(h:Fits (bs.take i) r)(hv:(v:Int)<b.2):Fits (bs.take (i+1)) (r++[((v:Nat):Int)]):=by
 have hl:=h.1
 have hib:i<bs.length:=(yYB.mp hb).1
 have lt:(bs.take i).length=i:=by rw[yYF];omega
 refine⟨by rw[yYM,hb,yYI,yYI,hl];rfl,fun j c x ec ex=>?_⟩
 rw[yYM,hb] at ec
 by_cases hj:j<i
 ·rw[List.getElem?_append_left (by omega)] at ec ex
  exact h.2 j c x ec ex
 ·have hj':j=i:=by
   have:=(yYB.mp ex).1
   rw[yYI,List.length_singleton] at this
   omega
  subst hj'
  rw[List.getElem?_append_right (by omega)] at ec ex
  have e1:j - (bs.take j).length=0:=by omega
  have e2:j - r.length=0:=by omega
  rw[e1] at ec
  rw[e2] at ex
  cases ec;cases ex
  exact⟨by omega,hv⟩
theorem qWl {bs:List (Str×Int)}:∀i:Nat,i≤bs.length→∀r∈allV (bs.take i),Fits (bs.take i) r
 | 0,_=>fun r hr=>by
  simp[allV] at hr
  subst hr
  exact⟨rfl,fun j b v e=>by simp at e⟩
 | i+1,hi=>fun r hr=>by
  have hb:bs[i]? = some (bs[i]'(by omega)):=yYA (by omega)
  rw[wW hb] at hr
  obtain⟨x,hx,hr⟩:=List.mem_flatMap.mp hr
  obtain⟨v,hv,rfl⟩:=yYP.mp hr
  have hv:=List.mem_range.mp hv
  exact qNk hb (qWl i (by omega) x hx) (by omega)
theorem qKh {bs:List (Str×Int)}{r:List Int}(h:r∈allV bs):Fits bs r:=by
 have:=qWl (bs:=bs) bs.length (yZC _) r
 rw[yYJ] at this
 exact this h
def TupIn (H:Hp)(vals:List Int)(u:V):Prop:=∃a,u=.ref a∧H a=some (.tup (intsV vals))
theorem xJ {H H':Hp}(h:Tups H H'){rs:List (List Int)}{us:List V}(p:Paired (TupIn H) rs us):Paired (TupIn H') rs us:=Paired.mapP p fun _ _ x=>let ⟨a,e,q⟩:=x;⟨a,e,h _ _ q⟩
theorem qRb {σ:St}{H:Hp}{Q:VK}{j:Nat}{ra:Addr}{r:List Int}{n:Nat}(era:H ra=some (.tup (intsV r)))(hj:σ.getD j none=some (.ref ra))(hr:r.length≤100)(hn:n≤1000)
  (q:∀(D:Addr) (us:List V) (H':Hp),H D=none→Same H H'→H' D=some (.lst us)→Paired (TupIn H') ((List.range n).map fun v=>r++[((v:Nat):Int)]) us→Q (.ref D) H'):
  rdC 1 [j] (gName 0) tYes (tOp (rCatN K) (tVar 1) (tTup (tCons (tVar 0) tNil))) (Itr 0 n) σ H Q:=by
 have fr:frees [j] σ=[some (.ref ra)]:=by show [σ.getD j none]=_;rw[hj]
 refine kQ (fun D i ys H'=>Paired (TupIn H') ((List.range i).map fun v=>r++[((v:Nat):Int)]) ys∧Same H H') (fun D hD=>⟨.nil,qV hD _⟩) (fun D i ys H' N hD hDy hi hP hN=>?_) (fun D ys H2 hD hDy hP=>?_)
 ·obtain⟨hp,hk⟩:=hP
  have lp:=hp.length
  rw[yYC,List.length_range] at lp
  have e0:(0:Int)+(i:Int)=(i:Int):=Int.zero_add _
  rw[e0]
  refine⟨⟨[some (.int (i:Int))],rfl,rfl⟩,?_⟩
  refine⟨.ref ra,(by show(([some (V.int (i:Int))]:St)++frees [j] σ)[1]? = _;rw[fr];rfl),_,rfl,(by show 1≤sizeLine;decide),fun t ht=>?_⟩
  have Dt:D≠t:=qB hDy ht
  have fin:∀(a:Addr) (H3:Hp),Same H' H3→H3 a=some (.tup (intsV (r++[((i:Nat):Int)])))→H3 D=some (.lst ys)∧ys.length<sizeLine∧N (ys++[.ref a]) (upd H3 D (.lst (ys++[.ref a]))):=fun a H3 S3 ea=>by
   have eD:=S3 _ _ hDy
   refine⟨eD,small (by omega),hN _ _ qW ⟨?_,fun b o e=>?_⟩⟩
   ·have T1:Tups H' (upd H3 D (.lst (ys++[.ref a]))):=fun b xs e=>by rw[qA (xT e hDy (by intro z;cases z))];exact S3 _ _ e
    rw[List.range_succ,yYV]
    exact Paired.snoc (xJ T1 hp) ⟨a,rfl,by rw[qA (xT ea eD (by intro z;cases z))];exact ea⟩
   ·rw[qA (qB e hD)];exact S3 _ _ (hk _ _ e)
  refine⟨ra,t,_,_,rfl,rfl,SqT.of (qV ht _ _ _ (hk _ _ era)),SqT.of qW,by simp,?_,fun z=>?_,fun z p hp'=>?_⟩
  ·rw[zM];exact smallE (by show r.length+1≤_;omega)
  ·have z':r=[]:=List.map_eq_nil_iff.mp z
   subst z'
   exact fin t _ (qV ht _) qW
  ·refine fin p _ ((qV ht _).trans (qV hp' _)) ?_
   rw[qJi];exact qW
 ·exact q D ys H2 hD hP.2 hDy hP.1
def qQa:Sp:=fun vs H Q _=>∃(bx:Addr) (bs:List (Str×Int)) (us:List V),vs=[.ref bx]∧H bx=some (.lst us)∧Paired (BoxIn H) bs us∧bs.length≤6∧(∀b∈bs,2≤b.2∧b.2≤5)∧
 ∀(r:Addr) (ss:List V) (H':Hp),H r=none→Same H H'→H' r=some (.lst ss)→Paired (TupIn H') (allV bs) ss→Q (.ref r) H'

def jY (H:Hp)(c:Str×Th)(u:V):Prop:=∃a v,u=.ref a∧H a=some (.tup [.str c.1,v])∧c.2.At H v
def WayIn (H:Hp)(wy:List (Str×Th))(u:V):Prop:=∃a us,u=.ref a∧H a=some (.lst us)∧Paired (jY H) wy us
structure Deed where
 name:Str
 price:Int
 need:Th
 ways:List (List (Str×Th))
def DeedIn (H:Hp)(d:Deed)(u:V):Prop:=∃a nv wa us,u=.ref a∧H a=some (.tup [.str d.name,.int d.price,nv,.ref wa])∧d.need.At H nv∧H wa=some (.lst us)∧Paired (WayIn H) d.ways us
structure Look where
 name:Str
 price:Int
 part:Th
def LookIn (H:Hp)(l:Look)(u:V):Prop:=∃a v,u=.ref a∧H a=some (.tup [.str l.name,.int l.price,v])∧l.part.At H v
structure WayOk (ws:List Str)(wy:List (Str×Th)):Prop where
 nd:(wy.map (·.1)).Nodup
 le:wy.length≤100
 ok:∀c∈wy,c.1∈ws∧Expr' ws c.2∧c.2.dep≤12
structure DeedOk (ws:List Str)(d:Deed):Prop where
 price:1≤d.price
 need:Cond' ws d.need
 dep:d.need.dep≤12
 ne:d.ways≠[]
 le:d.ways.length≤100
 ways:∀wy∈d.ways,WayOk ws wy
structure LookOk (ws:List Str)(l:Look):Prop where
 price:1≤l.price
 part:Expr' ws l.part
 dep:l.part.dep≤12
section
variable {H H':Hp}
theorem jY.same (s:Same H H'){c:Str×Th}{u:V}(x:jY H c u):jY H' c u:=let ⟨a,v,e,q,r⟩:=x;⟨a,v,e,s _ _ q,r.mono (qC s)⟩
theorem WayIn.same (s:Same H H'){c:List (Str×Th)}{u:V}(x:WayIn H c u):WayIn H' c u:=let ⟨a,us,e,q,r⟩:=x;⟨a,us,e,s _ _ q,Paired.mapP r fun _ _ y=>y.same s⟩
theorem DeedIn.same (s:Same H H'){c:Deed}{u:V}(x:DeedIn H c u):DeedIn H' c u:=let ⟨a,nv,wa,us,e,q,r,q2,p⟩:=x;⟨a,nv,wa,us,e,s _ _ q,r.mono (qC s),s _ _ q2,Paired.mapP p fun _ _ y=>y.same s⟩
theorem LookIn.same (s:Same H H'){c:Look}{u:V}(x:LookIn H c u):LookIn H' c u:=let ⟨a,v,e,q,r⟩:=x;⟨a,v,e,s _ _ q,r.mono (qC s)⟩
end
structure Wd where
 bs:List (Str×Int)
 ds:List Deed
 ls:List Look
 bt:Th
 gt:Th
abbrev Wd.ws (W:Wd):List Str:=W.bs.map (·.1)
structure WAt (H:Hp)(W:Wd)(bx dx lx:Addr)(bv gv:V):Prop where
 boxes:∃us,H bx=some (.lst us)∧Paired (BoxIn H) W.bs us
 deeds:∃us,H dx=some (.lst us)∧Paired (DeedIn H) W.ds us
 looks:∃us,H lx=some (.lst us)∧Paired (LookIn H) W.ls us
 beg:W.bt.At H bv
 goal:W.gt.At H gv
structure WOk (W:Wd):Prop where
 b1:1≤W.bs.length
 b6:W.bs.length≤6
 b25:∀b∈W.bs,2≤b.2∧b.2≤5
 b200:(W.bs.map (·.2)).foldl (· * ·) 1≤200
 named:Named W.ws
 dl:W.ds.length≤100
 ll:W.ls.length≤100
 nd:(W.ds.map Deed.name++W.ls.map Look.name).Nodup
 deeds:∀d∈W.ds,DeedOk W.ws d
 looks:∀l∈W.ls,LookOk W.ws l
 beg:Cond' W.ws W.bt
 begd:W.bt.dep≤12
 goal:Cond' W.ws W.gt
 goald:W.gt.dep≤12
 some':∃vals∈allV W.bs,W.bt.truth (envOf (kvsOf W.bs vals))=true
theorem WAt.same {H H':Hp}{W:Wd}{bx dx lx:Addr}{bv gv:V}(s:Same H H')(x:WAt H W bx dx lx bv gv):WAt H' W bx dx lx bv gv:=by
 obtain⟨u1,e1,p1⟩:=x.boxes
 obtain⟨u2,e2,p2⟩:=x.deeds
 obtain⟨u3,e3,p3⟩:=x.looks
 exact⟨⟨u1,s _ _ e1,xY (qC s) p1⟩,⟨u2,s _ _ e2,Paired.mapP p2 fun _ _ y=>y.same s⟩,⟨u3,s _ _ e3,Paired.mapP p3 fun _ _ y=>y.same s⟩,x.beg.mono (qC s),x.goal.mono (qC s)⟩
theorem qWj (ws:List Str):(strsV ws).all flatV=true:=List.all_eq_true.mpr fun x hx=>by
 obtain⟨y,_,rfl⟩:=yYP.mp hx
 rfl
theorem qDv (x:Str)(ws:List Str):inV (.str x) (strsV ws)=decide (x∈ws):=by
 unfold inV
 rw[List.any_map]
 by_cases h:x∈ws
 ·rw[decide_eq_true h]
  refine List.any_eq_true.mpr ⟨x,h,?_⟩
  show(x == x)=true
  exact beq_self_eq_true x
 ·rw[decide_eq_false h]
  refine Bool.eq_false_iff.mpr fun z=>?_
  obtain⟨y,hy,e⟩:=List.any_eq_true.mp z
  have e:(y == x)=true:=e
  exact h (eq_of_beq e▸hy)

theorem yV {H:Hp}{ds:List Deed}{us:List V}(p:Paired (DeedIn H) ds us):Paired (fun x u=>∃a ys,u=.ref a∧H a=some (.tup (.str x::ys))) (ds.map Deed.name) us:=by
 induction p with
 | nil=>exact .nil
 | cons h _ ih=>
  obtain⟨a,_,_,_,e,q,_⟩:=h
  exact .cons ⟨a,_,e,q⟩ ih
theorem qXh {H:Hp}{ds:List Look}{us:List V}(p:Paired (LookIn H) ds us):Paired (fun x u=>∃a ys,u=.ref a∧H a=some (.tup (.str x::ys))) (ds.map Look.name) us:=by
 induction p with
 | nil=>exact .nil
 | cons h _ ih=>
  obtain⟨a,_,e,q,_⟩:=h
  exact .cons ⟨a,_,e,q⟩ ih
theorem xF {n:Nat}(h:n≤1000000):n≤sizeLine:=by rw[show sizeLine=16777216 by decide];omega

theorem qCl:xH ["things","name","kind","thing"] ["things","name","kind"] (xA (top 13)):=⟨rfl,rfl,rfl,by decide +kernel,rfl,by decide +kernel,by decide +kernel⟩
def qQm:Sp:=fun vs H Q _=>∃(la:Addr) (us:List V) (xs:List Str) (x:Str) (k:V),vs=[.ref la,.str x,k]∧H la=some (.lst us)∧Paired (fun x u=>∃a ys,u=.ref a∧H a=some (.tup (.str x::ys))) xs us∧xs.Nodup∧
 ∃i:Nat,xs[i]? = some x∧∀u,us[i]? = some u→Q u H
theorem qTl (F:Fd K mg "named" (top 13) ["things","name","kind"]):Dn P w K mg base "named" 1 ["things","name","kind"] qQm:=by
 refine F.ok qCl (fun vs H Q E h=>?_) (fun f cdv A outer s H vs Q E hr h=>?_)
 ·obtain⟨_,_,_,_,_,rfl,_⟩:=h
  rfl
 obtain⟨la,us,xs,x,k,rfl,ela,px,nd,i0,ei0,q⟩:=h
 refine⟨_,(qZ (jK PassesOwn.never rfl (qU (K:=K) (pv 0)) (qG (i:=3) qCl.nd rfl (by wtm_at "zo")) (qJ (xU (qR zA (xE (qS (K:=K)) (pv 3) qE (fun _ _=>rfl)) (pv 1) (xD _)) (qJ (qN (pv 3))) qY)))
  (qJ qQb)),?_⟩
 wtm_at "zf"
 refine⟨la,rfl,⟨us,SqL.of ela⟩,?_⟩
 refine vY (xs:=us) (fun i σ' H'=>∃z:Option V,σ'=[some (.ref la),some (.str x),some k,z]∧H'=H∧i≤i0) ⟨none,rfl,rfl,yZF _⟩ (fun i σ' H' _ hP=>?_) (fun i u σ' H' ex hP=>?_) (fun σ' H' hP=>?_)
 ·obtain⟨_,rfl,rfl,_⟩:=hP
  exact SqL.of ela
 ·obtain⟨z,rfl,rfl,hi⟩:=hP
  obtain⟨y,ey⟩:∃b,xs[i]? = some b:=⟨_,yYA (by rw[px.length];exact(yYB.mp ex).1)⟩
  obtain⟨a,ys,rfl,ea⟩:=xK px ey ex
  wtm_at "zw"
  by_cases e:y=x
  ·subst e
   rw[yU]
   refine iteT ?_
   have:i=i0:=by
    obtain⟨h1,g1⟩:=yYB.mp ey
    obtain⟨h2,g2⟩:=yYB.mp ei0
    exact(List.getElem_inj nd).mp (g1.trans g2.symm)
   subst this
   wtm_at "zw"
   exact q _ ex
  ·rw[xV e]
   refine iteF ?_
   refine⟨_,rfl,rfl,?_⟩
   by_cases h:i=i0
   ·subst h;rw[ei0] at ey;cases ey;exact absurd rfl e
   ·omega
 ·obtain⟨z,rfl,rfl,hi⟩:=hP
  have:=(yYB.mp ei0).1
  rw[px.length] at this
  omega

theorem qRj:xH ["world","name","standing"] ["world","name","standing"] (xA (top 12)):=⟨rfl,rfl,rfl,by decide +kernel,rfl,by decide +kernel,by decide +kernel⟩
def qGl:Sp:=fun vs H Q _=>∃(W:Wd) (p bx dx lx:Addr) (bv gv:V) (st:Addr) (vals:List Int) (l:Look),vs=[.ref p,.str l.name,.ref st]∧H p=some (.tup [.ref bx,.ref dx,.ref lx,bv,gv])∧WAt H W bx dx lx bv gv∧WOk W∧
 H st=some (.tup (intsV vals))∧Fits W.bs vals∧l∈W.ls∧∀H',Same H H'→Q (.int (l.part.worth (envOf (kvsOf W.bs vals)))) H'
theorem qTi (F:Fd K mg "shown" (top 12) ["world","name","standing"])(D_named:Dn P w K mg base "named" 1 ["things","name","kind"] qQm)(D_worth:Dn P w K mg base "worth" 14 ["expression","boxes","standing"] qGd):Dn P w K mg base "shown" 15 ["world","name","standing"] qGl:=by
 refine F.ok qRj (fun vs H Q E h=>?_) (fun f cdv A outer s H vs Q E hr h=>?_)
 ·obtain⟨_,_,_,_,_,_,_,_,_,_,rfl,_⟩:=h
  rfl
 obtain⟨W,p,bx,dx,lx,bv,gv,st,vals,l,rfl,ep,A0,ok,est,fits,hl,q⟩:=h
 obtain⟨us,ebx,pb⟩:=A0.boxes
 obtain⟨lu,elx,pl⟩:=A0.looks
 have b6:=ok.b6
 obtain⟨i,ei⟩:=List.mem_iff_getElem?.mp hl
 refine⟨_,(qJ (qN (qD D_worth hr (qQ (xE (qS (K:=K)) (qD D_named hr (qQ (xE (qS (K:=K)) (pv 0) qE (fun _ _=>rfl)) (qQ (pv 1) (qQ qF qX)))) qE (fun _ _=>rfl)) (qQ (xE (qS (K:=K)) (pv 0) qE (fun _ _=>rfl)) (qQ (pv 2) qX)))))),?_⟩
 wtm_at "zw"
 refine⟨lx,lu,W.ls.map Look.name,l.name,.str "look",rfl,elx,qXh pl,(yYU.mp ok.nd).2.1,i,by rw[yYO,ei];rfl,fun u eu=>?_⟩
 obtain⟨a,v,rfl,ea,va⟩:=xK pl ei eu
 have lok:=ok.looks l hl
 wtm_at "zw"
 exact⟨l.part,v,bx,st,W.bs,vals,rfl,va,lok.part,lok.dep,⟨⟨us,ebx,pb⟩,est,fits.stands ok.b25,by omega⟩,q⟩

def sizeOf' (bs:List (Str×Int))(x:Str):Int:=match bs.lookup x with
 | some z=>z
 | none=>1
def xO (bs:List (Str×Int))(wy:List (Str×Th))(vals:List Int):List Int:=(bs.zip vals).map fun p=>match wy.lookup p.1.1 with
 | some t=>t.worth (envOf (kvsOf bs vals)) % p.1.2
 | none=>p.2
def putsK (bs:List (Str×Int))(ρ:Str→Int)(acc:List (Key×V))(wy:List (Str×Th)):List (Key×V):=wy.foldl (fun a c=>putK a (Sum.inr c.1) (.int (c.2.worth ρ % sizeOf' bs c.1))) acc
theorem qHl {bs:List (Str×Int)}{ρ:Str→Int}{acc:List (Key×V)}{wy:List (Str×Th)}{i:Nat}{c:Str×Th}(h:wy[i]? = some c):putsK bs ρ acc (wy.take (i+1))=putK (putsK bs ρ acc (wy.take i)) (Sum.inr c.1) (.int (c.2.worth ρ % sizeOf' bs c.1)):=by
 unfold putsK
 rw[yYM,h,List.foldl_append]
 rfl
theorem qCm {bs:List (Str×Int)}{ρ:Str→Int}{x:Str}:∀(wy:List (Str×Th)) (acc:List (Key×V)),(wy.map (·.1)).Nodup→valV (putsK bs ρ acc wy) (Sum.inr x)=(match wy.lookup x with | some t=>some (.int (t.worth ρ % sizeOf' bs x)) | none=>valV acc (Sum.inr x))
 | [],acc,_=>rfl
 | (n,t)::wy,acc,nd=>by
  have nd':=List.nodup_cons.mp nd
  show valV (putsK bs ρ (putK acc (Sum.inr n) (.int (t.worth ρ % sizeOf' bs n))) wy) (Sum.inr x)=_
  rw[qCm wy _ nd'.2]
  by_cases e:x=n
  ·subst e
   rw[qAi nd'.1,yR]
   show valV (putK acc (Sum.inr x) _) (Sum.inr x)=_
   rw[jT,if_pos rfl]
  ·rw[yZ t wy (by simpa using e)]
   cases wy.lookup x with
   | some u=>rfl
   | none=>
    show valV (putK acc (Sum.inr n) _) (Sum.inr x)=valV acc (Sum.inr x)
    rw[jT,if_neg (fun z=>e (Sum.inr.inj z))]
theorem qRg {kvs:List (Key×V)}{k:Key}{v:V}:(putK kvs k v).length≤kvs.length+1:=by
 unfold putK
 split
 ·rw[yYC];omega
 ·rw[yYI];show kvs.length+1≤_;omega
theorem qCn {bs:List (Str×Int)}{ρ:Str→Int}:∀(wy:List (Str×Th)) (acc:List (Key×V)),(putsK bs ρ acc wy).length≤acc.length+wy.length
 | [],acc=>yZC _
 | c::wy,acc=>by
  have h1:=qCn (bs:=bs) (ρ:=ρ) wy (putK acc (Sum.inr c.1) (.int (c.2.worth ρ % sizeOf' bs c.1)))
  have h2:=qRg (kvs:=acc) (k:=Sum.inr c.1) (v:=.int (c.2.worth ρ % sizeOf' bs c.1))
  show(putsK bs ρ (putK acc (Sum.inr c.1) (.int (c.2.worth ρ % sizeOf' bs c.1))) wy).length≤acc.length+(wy.length+1)
  omega
theorem xZc (bs:List (Str×Int))(vals:List Int):(kvsOf bs vals).length≤bs.length:=by
 have:=kF (zipK (bs.map (·.1)) (intsV vals)) []
 unfold zipK at this
 rw[yYC,List.length_zip,yYC,yYT] at this
 unfold kvsOf zipK
 omega
theorem qMa {bs:List (Str×Int)}{vals:List Int}{i:Nat}{b:Str×Int}{v:Int}(nd:(bs.map (·.1)).Nodup)(hl:vals.length=bs.length)(eb:bs[i]? = some b)(ev:vals[i]? = some v):valV (kvsOf bs vals) (Sum.inr b.1)=some (.int v):=by
 have e:((bs.map (fun b:Str×Int=>b.1)).zip (intsV vals)).map (·.1)=bs.map (·.1):=List.map_fst_zip (by rw[yYC,zM,hl];exact yZC _)
 show valV (mergeK [] (pairK ((bs.map (fun b:Str×Int=>b.1)).zip (intsV vals)))) (Sum.inr b.1)=_
 rw[qXf _ _ (by rw[e];exact nd)]
 have ez:((bs.map (fun b:Str×Int=>b.1)).zip (intsV vals))[i]? = some (b.1,.int v):=List.getElem?_zip_eq_some.mpr ⟨by rw[yYO,eb];rfl,by rw[yYO,ev];rfl⟩
 rw[look_at (by rw[e];exact nd) ez]
theorem qHz {bs:List (Str×Int)}{i:Nat}{b:Str×Int}(nd:(bs.map (·.1)).Nodup)(eb:bs[i]? = some b):sizeOf' bs b.1=b.2:=by
 unfold sizeOf'
 rw[look_at (v:=b.2) nd eb]
theorem qZc {bs:List (Str×Int)}{wy:List (Str×Th)}{vals:List Int}{i:Nat}{b:Str×Int}{v:Int}(eb:bs[i]? = some b)(ev:vals[i]? = some v):
  (xO bs wy vals)[i]? = some (match wy.lookup b.1 with | some t=>t.worth (envOf (kvsOf bs vals)) % b.2 | none=>v):=by
 unfold xO
 have ez:(bs.zip vals)[i]? = some (b,v):=List.getElem?_zip_eq_some.mpr ⟨eb,ev⟩
 rw[yYO,ez]
 rfl
theorem yQ {bs:List (Str×Int)}{wy:List (Str×Th)}{vals:List Int}(hl:vals.length=bs.length):(xO bs wy vals).length=bs.length:=by
 unfold xO
 rw[yYC,List.length_zip,hl,Nat.min_self]
theorem qPz {H:Hp}{bs:List (Str×Int)}{us:List V}(p:Paired (BoxIn H) bs us):Paired (PairIn H) (bs.map fun b=>(b.1,V.int b.2)) us:=by
 induction p with
 | nil=>exact .nil
 | cons h _ ih=>
  obtain⟨a,e,q⟩:=h
  exact .cons ⟨a,e,q⟩ ih
def qCf:Sp:=fun vs H Q _=>∃(bx wa st:Addr) (bs:List (Str×Int)) (wy:List (Str×Th)) (vals:List Int) (us cs:List V),vs=[.ref bx,.ref wa,.ref st]∧H bx=some (.lst us)∧Paired (BoxIn H) bs us∧(bs.map (·.1)).Nodup∧bs.length≤100∧
 (∀b∈bs,2≤b.2∧b.2≤5)∧H wa=some (.lst cs)∧Paired (jY H) wy cs∧WayOk (bs.map (·.1)) wy∧H st=some (.tup (intsV vals))∧Fits bs vals∧∀(r:Addr) (H':Hp),Same H H'→H' r=some (.tup (intsV (xO bs wy vals)))→Q (.ref r) H'
theorem zT:xH ["boxes","way","standing","sizes","ahead","behind","name","expression"] ["boxes","way","standing"] (xA (top 14)):=⟨rfl,rfl,rfl,by decide +kernel,rfl,by decide +kernel,by decide +kernel⟩
theorem yM:CompOk (xA (top 14)) ["boxes","way","standing","sizes","ahead","behind","name","expression"] (scAt (xB (top 14)) [4] [1]) ["name","size","behind"] 2 [5]:=
 ⟨by decide +kernel,by decide +kernel,by decide +kernel,by decide +kernel,by decide +kernel,by decide +kernel,by decide +kernel,by decide +kernel⟩
theorem qNo (F:Fd K mg "behind_way" (top 14) ["boxes","way","standing"])(B:Bl mg)(D_values_by_name:Dn P w K mg base "values_by_name" 1 ["boxes","standing"] qQw)(D_worth_by:Dn P w K mg base "worth_by" 13 ["expression","values"] (jV 12)):
  Dn P w K mg base "behind_way" 14 ["boxes","way","standing"] qCf:=by
 refine F.ok zT (fun vs H Q E h=>?_) (fun f cdv A outer s H vs Q E hr h=>?_)
 ·obtain⟨_,_,_,_,_,_,_,_,rfl,_⟩:=h
  rfl
 obtain⟨bx,wa,st,bs,wy,vals,us,cs,rfl,ebx,pb,nd,hbl,h25,ewa,pc,wok,est,fits,q⟩:=h
 have hu:=qSo hr
 have fs:=fits.stands h25
 have env:=qNw fs
 refine⟨_,(qZ (qM (i:=3) zT.nd rfl (by wtm_at "zo") (xX (qWd rfl) rfl B.dict' qZb (qQ (pv 0) qX)))
  (qZ (qM (i:=4) zT.nd rfl (by wtm_at "zo") (qD D_values_by_name hr (qQ (pv 0) (qQ (pv 2) qX))))
  (qZ (qM (i:=5) zT.nd rfl (by wtm_at "zo") (xX qZm rfl B.dict' qZb (qQ (pv 4) qX)))
  (qZ (jK PassesOwn.never rfl (qU (K:=K) (pv 1)) (yF (K:=K) (n:=2) rfl (qH (qG (i:=6) zT.nd rfl (by wtm_at "zo")) (qH (qG (i:=7) zT.nd rfl (by wtm_at "zo")) qI))) (qJ (qAa hu (pv 5) (pv 6) (xQ yE (qD D_worth_by hr (qQ (pv 7) (qQ (pv 4) qX))) (qXa hu (pv 3) (pv 6) (fun _ _=>rfl))) rfl)))
  (qJ (qN (xX (vP (K:=K)) rfl B.tuple' qKe (qQ (zF rfl yM (qU (K:=K) (pv 0)) (fun cl fp s H=>(yF (K:=K) (n:=2) rfl (qH (qG (i:=0) yM.nd rfl (Or.inl rfl) (.inr rfl)) (qH (qG (i:=1) yM.nd rfl (Or.inl rfl) (.inr rfl)) qI)))) (fun cl fp s H=>zO) (fun cl fp s H=>(qXa hu (pv 2) (pv 0) (fun _ _=>rfl)))) qX)))))))),?_⟩
 wtm_at "zw"
 refine⟨bx,us,_,rfl,ebx,qPz pb,by rw[yYC];omega,fun sz hsz=>?_⟩
 have S1:=qV hsz (.dK (mergeK [] (pairK (bs.map fun b=>(b.1,V.int b.2)))))
 have esz:upd H sz (.dK (mergeK [] (pairK (bs.map fun b=>(b.1,V.int b.2))))) sz=some (.dK (mergeK [] (pairK (bs.map fun b=>(b.1,V.int b.2))))):=qW
 generalize upd H sz (.dK (mergeK [] (pairK (bs.map fun b=>(b.1,V.int b.2)))))=H1 at S1 esz
 wtm_at "zw"
 refine⟨bx,st,bs,vals,rfl,⟨⟨us,S1 _ _ ebx,xY (qC S1) pb⟩,S1 _ _ est,fs,hbl⟩,fun ah H2 S2 eah=>?_⟩
 wtm_at "zw"
 refine⟨ah,_,rfl,eah,fun be hbe=>?_⟩
 have S3:Same H1 (upd H2 be (.dK (kvsOf bs vals))):=S2.trans (qV hbe _)
 have S03:=S1.trans S3
 have ebe:upd H2 be (.dK (kvsOf bs vals)) be=some (.dK (kvsOf bs vals)):=qW
 have eah3:=qV hbe (.dK (kvsOf bs vals)) _ _ eah
 have nbe:H1 be=none:=S2.free hbe
 have nahb:ah≠be:=qB eah hbe
 generalize upd H2 be (.dK (kvsOf bs vals))=H3 at S3 S03 ebe eah3
 wtm_at "zf"
 refine⟨wa,rfl,⟨cs,SqL.of (S03 _ _ ewa)⟩,?_⟩
 have lc:=pc.length
 have wle:=wok.le
 have kl:=xZc bs vals
 have nwb:wa≠be:=qB (S1 _ _ ewa) nbe
 refine yT (xs:=cs) (fun i σ' H'=>∃z6 z7:Option V,σ'=[some (.ref bx),some (.ref wa),some (.ref st),some (.ref sz),some (.ref ah),some (.ref be),z6,z7]∧But be H3 H'∧H' be=some (.dK (putsK bs (envOf (kvsOf bs vals)) (kvsOf bs vals) (wy.take i))))
  ⟨none,none,rfl,But.refl _,ebe⟩ (fun i σ' H' _ hP=>?_) (fun N rt bk i x σ' H' ex hP hN=>?_) (fun σ' H' hP=>?_)
 ·obtain⟨_,_,rfl,hb,_⟩:=hP
  exact SqL.of (hb _ _ nwb (S03 _ _ ewa))
 ·obtain⟨z6,z7,rfl,hb,ebe'⟩:=hP
  have hi:i<wy.length:=by rw[lc];exact(yYB.mp ex).1
  obtain⟨c,ec⟩:∃b,wy[i]? = some b:=⟨_,yYA hi⟩
  obtain⟨ca,cv,rfl,eca,cat⟩:=xK pc ec ex
  obtain⟨o1,o2,o3⟩:=wok.ok c (yYE ec)
  have T3:Tups H H':=(qC S03).trans fun b ys e=>hb _ _ (xT e ebe (by intro z;cases z)) e
  have eca':=T3 _ _ eca
  obtain⟨b,hbm,eb1⟩:=yYP.mp o1
  obtain⟨k,ek⟩:=List.mem_iff_getElem?.mp hbm
  have hb25:=h25 b hbm
  have zs:=qHz nd ek
  wtm_at "zw"
  refine⟨c.2,cv,ah,_,_,envOf (kvsOf bs vals),rfl,cat.mono T3,o2,o3,hb _ _ nahb eah3,env,?_⟩
  wtm_at "zw"
  refine⟨sz,.int (sizeOf' bs c.1),rfl,?_,?_⟩
  ·have hv:valV (mergeK [] (pairK (bs.map fun b=>(b.1,V.int b.2)))) (Sum.inr c.1)=some (.int (sizeOf' bs c.1)):=by
    have e2:(bs.map fun b=>(b.1,V.int b.2)).map (·.1)=bs.map (·.1):=by rw[List.map_map];rfl
    rw[qXf _ _ (by rw[e2];exact nd),← eb1,look_at (v:=.int b.2) (i:=k) (by rw[e2];exact nd) (by rw[yYO,ek];rfl),zs]
   rw[← hv]
   exact DGet.k (k:=Sum.inr c.1) (hb _ _ (qB esz nbe) (S3 _ _ esz))
  refine w_I (show 0<sizeOf' bs c.1 by rw[← eb1,zs];omega) ?_
  wtm_at "zw"
  have pl:=qCn (bs:=bs) (ρ:=envOf (kvsOf bs vals)) (wy.take i) (kvsOf bs vals)
  rw[yYF] at pl
  refine⟨be,_,rfl,DPut.k (k:=Sum.inr c.1) ebe' (small (by omega)),?_⟩
  refine hN _ _ ⟨_,_,rfl,hb.trans But.upd,?_⟩
  rw[qW,qHl ec]
 obtain⟨z6,z7,rfl,hb,ebe'⟩:=hP
 rw[← lc,yYJ] at ebe'
 have K3:∀b o,H b=some o→H' b=some o:=fun b o e=>hb _ _ (qB (S1 _ _ e) nbe) (S03 _ _ e)
 have S4:Same H H':=K3
 have lb:=pb.length
 wtm_at "zw"
 refine⟨_,rfl,bx,rfl,⟨us,SqL.of (S4 _ _ ebx)⟩,?_⟩
 refine jA (xs:=us) (fun D i ys H''=>ys=intsV ((xO bs wy vals).take i)∧∀b o,H' b=some o→H'' b=some o) (fun D hD=>⟨rfl,qV hD _⟩)
  (fun D i ys H'' _ hP=>SqL.of (hP.2 _ _ (S4 _ _ ebx))) (fun D i x ys H'' N hD hDy ex hP hN=>?_) (fun D ys H5 hD hDy hP=>?_)
 ·obtain⟨rfl,hk⟩:=hP
  have hi:i<bs.length:=by rw[lb];exact(yYB.mp ex).1
  obtain⟨b,eb⟩:∃b,bs[i]? = some b:=⟨_,yYA hi⟩
  obtain⟨v,ev⟩:∃v,vals[i]? = some v:=⟨_,yYA (by rw[fits.1];exact hi)⟩
  obtain⟨ba,rfl,hba⟩:=xK pb eb ex
  have bat:=qZc (wy:=wy) eb ev
  have hv:valV (putsK bs (envOf (kvsOf bs vals)) (kvsOf bs vals) wy) (Sum.inr b.1)=some (.int (match wy.lookup b.1 with | some t=>t.worth (envOf (kvsOf bs vals)) % b.2 | none=>v)):=by
   rw[qCm _ _ wok.nd,qHz nd eb,qMa nd fits.1 eb ev]
   cases wy.lookup b.1 <;> rfl
  refine⟨ba,_,rfl,SqT.of (hk _ _ (S4 _ _ hba)),rfl,_,_,rfl,_,_,rfl,rfl,⟨[some (.str b.1),some (.int b.2)],rfl,rfl⟩,?_⟩
  refine⟨_,rfl,_,rfl,be,_,rfl,(by rw[← hv];exact DGet.k (k:=Sum.inr b.1) (hk _ _ ebe')),hDy,?_,hN _ _ qW ⟨?_,fun b o e=>?_⟩⟩
  ·rw[zM,yYF];exact small (by omega)
  ·rw[yYM,bat,← qJi];rfl
  ·rw[qA (qB e hD)];exact hk _ _ e
 obtain⟨rfl,hk⟩:=hP
 rw[← lb,List.take_of_length_le (by rw[yQ fits.1];exact yZC _)] at hDy
 wtm_at "zw"
 refine⟨D,_,rfl,SqL.of hDy,fun r hr'=>?_⟩
 exact q r _ (S4.trans ((show Same H' H5 from hk).trans (qV hr' _))) qW

theorem qXz:xH ["world","name","standing","ways"] ["world","name","standing"] (xA (top 11)):=⟨rfl,rfl,rfl,by decide +kernel,rfl,by decide +kernel,by decide +kernel⟩
theorem qQz:CompOk (xA (top 11)) ["world","name","standing","ways"] (scAt (xB (top 11)) [1] []) ["way","standing","world"] 1 [2,0]:=
 ⟨by decide +kernel,by decide +kernel,by decide +kernel,by decide +kernel,by decide +kernel,by decide +kernel,by decide +kernel,by decide +kernel⟩
theorem qFe {σ:St}{H:Hp}{Q:VK}{js:List Nat}{te:TE}{wa:Addr}{wu:List V}{wys:List (List (Str×Th))}{bs:List (Str×Int)}{vals:List Int}(ewa:H wa=some (.lst wu))(pw:Paired (WayIn H) wys wu)(hl:wys.length≤100)
  (hte:∀(u:V) (wy:List (Str×Th)) (H':Hp) (R:VK),wy∈wys→WayIn H' wy u→Same H H'→(∀(r:Addr) (H'':Hp),Same H' H''→H'' r=some (.tup (intsV (xO bs wy vals)))→R (.ref r) H'')→te ([some u]++frees js σ) H' R)
  (q:∀(D:Addr) (ys:List V) (H':Hp),H D=none→Same H H'→H' D=some (.lst ys)→Paired (TupIn H') (wys.map fun wy=>xO bs wy vals) ys→Q (.ref D) H'):
  rdC 1 js (gName 0) tYes te (Itl K wa) σ H Q:=by
 have lw:=pw.length
 refine jA (xs:=wu) (fun D i ys H'=>Paired (TupIn H') ((wys.take i).map fun wy=>xO bs wy vals) ys∧∀b o,H b=some o→H' b=some o) (fun D hD=>⟨.nil,qV hD _⟩)
  (fun D i ys H' _ hP=>SqL.of (hP.2 _ _ ewa)) (fun D i x ys H' N hD hDy ex hP hN=>?_) (fun D ys H5 hD hDy hP=>?_)
 ·obtain⟨pl,hk⟩:=hP
  have hi:i<wys.length:=by rw[lw];exact(yYB.mp ex).1
  obtain⟨wy,ewy⟩:∃b,wys[i]? = some b:=⟨_,yYA hi⟩
  have wi:=(xK pw ewy ex).same hk
  have ll:=pl.length
  rw[yYC,yYF] at ll
  refine⟨⟨[some x],rfl,rfl⟩,?_⟩
  refine hte x wy H' _ (yYE ewy) wi hk fun r H4 S4 er=>?_
  have eD:=S4 _ _ hDy
  refine⟨eD,small (by omega),hN _ _ qW ⟨?_,fun b o e=>?_⟩⟩
  ·have T4:Tups H4 (upd H4 D (.lst (ys++[.ref r]))):=fun b xs e=>by rw[qA (xT e eD (by intro z;cases z))];exact e
   rw[yYM,ewy,yYV]
   exact Paired.snoc (xJ T4 (xJ (qC S4) pl)) ⟨r,rfl,T4 _ _ er⟩
  ·rw[qA (qB e hD)];exact S4 _ _ (hk _ _ e)
 obtain⟨pl,hk⟩:=hP
 rw[← lw,yYJ] at pl
 exact q D ys H5 hD hk hDy pl
def qGo:Sp:=fun vs H Q _=>∃(W:Wd) (p bx dx lx:Addr) (bv gv:V) (st:Addr) (vals:List Int) (d:Deed),vs=[.ref p,.str d.name,.ref st]∧H p=some (.tup [.ref bx,.ref dx,.ref lx,bv,gv])∧WAt H W bx dx lx bv gv∧WOk W∧
 H st=some (.tup (intsV vals))∧Fits W.bs vals∧d∈W.ds∧∀(r:Addr) (us:List V) (H':Hp),H r=none→Same H H'→H' r=some (.lst us)→Paired (TupIn H') (d.ways.map fun wy=>xO W.bs wy vals) us→Q (.ref r) H'
theorem qUj (F:Fd K mg "comes_of" (top 11) ["world","name","standing"])(D_named:Dn P w K mg base "named" 1 ["things","name","kind"] qQm)(D_behind_way:Dn P w K mg base "behind_way" 14 ["boxes","way","standing"] qCf):Dn P w K mg base "comes_of" 15 ["world","name","standing"] qGo:=by
 refine F.ok qXz (fun vs H Q E h=>?_) (fun f cdv A outer s H vs Q E hr h=>?_)
 ·obtain⟨_,_,_,_,_,_,_,_,_,_,rfl,_⟩:=h
  rfl
 obtain⟨W,p,bx,dx,lx,bv,gv,st,vals,d,rfl,ep,A0,ok,est,fits,hd,q⟩:=h
 obtain⟨us,ebx,pb⟩:=A0.boxes
 obtain⟨du,edx,pd⟩:=A0.deeds
 have b6:=ok.b6
 obtain⟨i,ei⟩:=List.mem_iff_getElem?.mp hd
 have dok:=ok.deeds d hd
 refine⟨_,(qZ (qM (i:=3) qXz.nd rfl (by wtm_at "zo") (xE (qS (K:=K)) (qD D_named hr (qQ (xE (qS (K:=K)) (pv 0) qE (fun _ _=>rfl)) (qQ (pv 1) (qQ qF qX)))) qE (fun _ _=>rfl)))
  (qJ (qN (zF rfl qQz (qU (K:=K) (pv 3)) (fun cl fp s H=>(qG (i:=0) qQz.nd rfl (Or.inl rfl) (.inr rfl))) (fun cl fp s H=>zO) (fun cl fp s H=>(qD D_behind_way hr (qQ (xE (qS (K:=K)) (pv 2) qE (fun _ _=>rfl)) (qQ (pv 0) (qQ (pv 1) qX))))))))),?_⟩
 wtm_at "zw"
 refine⟨dx,du,W.ds.map Deed.name,d.name,.str "deed",rfl,edx,yV pd,(yYU.mp ok.nd).1,i,by rw[yYO,ei];rfl,fun u eu=>?_⟩
 obtain⟨a,nv,wa,wu,rfl,ea,nat,ewa,pw⟩:=xK pd ei eu
 wtm_at "zf"
 refine⟨wa,rfl,⟨wu,SqL.of ewa⟩,?_⟩
 refine qFe ewa pw dok.le (fun u wy H' R hwy wi S1 hR=>?_) fun D ys H' nD S1 eD py=>q D ys H' nD S1 eD py
 obtain⟨ya,cs,rfl,eya,pc⟩:=wi
 have ep':=S1 _ _ ep
 refine⟨_,rfl,p,_,0,.ref bx,rfl,rfl,SqT.of ep',rfl,_,rfl,_,rfl,bx,ya,st,W.bs,wy,vals,us,cs,rfl,S1 _ _ ebx,xY (qC S1) pb,ok.named.nd,by omega,ok.b25,eya,pc,dok.ways wy hwy,S1 _ _ est,fits,hR⟩

theorem _root_.L2.Room.units3 {k:Nat}{A:Around}(r:Room k A):A.units+3<cLine:=by have:=r.units;omega
structure Kind (K:yZO)(C:Addr)(fs:List Str):Prop where
 cls:Cls K C
 no:∀f∈fs,NoAttr K C f
theorem xR {a C dx:Addr}{fs:List (Str×V)}{ns:List Str}{v:V}{f:Str}{i:Nat}{σ:St}{H:Hp}{Q:VK}(hv:σ[i]? = some (some (.ref a)))(ha:H a=some (.ins C dx fs))(kd:Kind K C ns)(hf:f∈ns)(l:fs.lookup f=some v)(q:Q v H):tFld K (tVar i) f σ H Q:=
 ⟨_,hv,a,C,dx,fs,v,rfl,ha,kd.cls,kd.no f hf,l,q⟩
def ik (vals:List Int):List Key:=vals.map Sum.inl
theorem qSn (vals:List Int):(ik vals).map kV=intsV vals:=by unfold ik intsV;rw[List.map_map];rfl
theorem xQj {a b:List Int}(h:ik a=ik b):a=b:=(List.map_inj_right (fun x y e=>Sum.inl.inj e)).mp h
def jG:List Str:=["world","nodes","forks","goals","needs","comings","showings"]
structure CA where
 co:Addr
 dx:Addr
 p:Addr
 pl:Addr
 fo:Addr
 g:Addr
 n:Addr
 c:Addr
 s:Addr
def CA.fs (a:CA):List (Str×V):=[("world",.ref a.p),("nodes",.ref a.pl),("forks",.ref a.fo),("goals",.ref a.g),("needs",.ref a.n),("comings",.ref a.c),("showings",.ref a.s)]
theorem CA.l1 (a:CA):a.fs.lookup (Str.ofString "world")=some (.ref a.p):=rfl
theorem CA.l2 (a:CA):a.fs.lookup (Str.ofString "nodes")=some (.ref a.pl):=rfl
theorem CA.l3 (a:CA):a.fs.lookup (Str.ofString "forks")=some (.ref a.fo):=rfl
theorem CA.l4 (a:CA):a.fs.lookup (Str.ofString "goals")=some (.ref a.g):=rfl
theorem CA.l5 (a:CA):a.fs.lookup (Str.ofString "needs")=some (.ref a.n):=rfl
theorem CA.l6 (a:CA):a.fs.lookup (Str.ofString "comings")=some (.ref a.c):=rfl
theorem CA.l7 (a:CA):a.fs.lookup (Str.ofString "showings")=some (.ref a.s):=rfl
theorem cF:Str.ofString "world" ∈ jG∧Str.ofString "nodes" ∈ jG∧Str.ofString "forks" ∈ jG∧Str.ofString "goals" ∈ jG∧Str.ofString "needs" ∈ jG∧Str.ofString "comings" ∈ jG∧Str.ofString "showings" ∈ jG:=by decide +kernel
structure Crs (K:yZO)(C:Addr)(H:Hp)(a:CA)(W:Wd)(bx dx lx:Addr)(bv gv:V):Prop where
 at':H a.co=some (.ins C a.dx a.fs)
 kd:Kind K C jG
 p:H a.p=some (.tup [.ref bx,.ref dx,.ref lx,bv,gv])
 lies:WAt H W bx dx lx bv gv
 ok:WOk W
structure Std (H:Hp)(W:Wd)(st:Addr)(vals:List Int):Prop where
 at':H st=some (.tup (intsV vals))
 fits:Fits W.bs vals
def Saves (d:Addr)(H H':Hp):Prop:=∀b o,b≠d→H b=some o→H' b=some o
theorem vV:xH ["self","standing"] ["self","standing"] (xA (mth 25 1)):=⟨rfl,rfl,rfl,by decide +kernel,rfl,by decide +kernel,by decide +kernel⟩
def qKn (W:Wd)(kvs:List (List Key×V)):Prop:=∀vals v,valV kvs (ik vals)=some v→v=.bl (W.gt.truth (envOf (kvsOf W.bs vals)))
def spGoal (K:yZO)(C:Addr):Sp:=fun vs H Q _=>∃(a:CA) (W:Wd) (bx dx lx:Addr) (bv gv:V) (st:Addr) (vals:List Int) (kvs:List (List Key×V)),vs=[.ref a.co,.ref st]∧Crs K C H a W bx dx lx bv gv∧Std H W st vals∧H a.g=some (.dT kvs)∧qKn W kvs∧kvs.length≤10000∧
 ∀(kvs':List (List Key×V)) (H':Hp),Saves a.g H H'→H' a.g=some (.dT kvs')→qKn W kvs'→kvs'.length≤kvs.length+1→Q (.bl (W.gt.truth (envOf (kvsOf W.bs vals)))) H'
theorem xJh {C:Addr}(F:Md K C "goal_holds" "Course.goal_holds" (mth 25 1) ["self","standing"])(D_holds:Dn P w K mg base "holds" 26 ["condition","boxes","standing"] qAq):Dm P w K mg base C "goal_holds" 27 ["self","standing"] (spGoal K C):=by
 refine F.ok vV (fun vs H Q E h=>?_) (fun f cdv A outer s H vs Q E hr h=>?_)
 ·obtain⟨_,_,_,_,_,_,_,_,_,_,rfl,_⟩:=h
  rfl
 obtain⟨a,W,bx,dx,lx,bv,gv,st,vals,kvs,rfl,c,⟨est,fits⟩,eg,gok,hl,q⟩:=h
 obtain⟨us,ebx,pb⟩:=c.lies.boxes
 have eco:=c.at'
 have ep:=c.p
 have b6:=c.ok.b6
 have ek:H st=some (.tup ((ik vals).map kV)):=by rw[qSn];exact est
 have hu:=qSo hr
 refine⟨_,(qZ (xU (qJv (qVd hu (pv 1) (xI (K:=K) (pv 0))) (by with_unfolding_all rfl)) (qJ (qAa hu (xI (K:=K) (pv 0)) (pv 1) (qD D_holds hr (qQ (xE (qS (K:=K)) (xI (K:=K) (pv 0)) qE (fun _ _=>rfl)) (qQ (xE (qS (K:=K)) (xI (K:=K) (pv 0)) qE (fun _ _=>rfl)) (qQ (pv 1) qX)))) rfl)) qY)
  (qJ (qN (qXa hu (xI (K:=K) (pv 0)) (pv 1) (fun _ _=>rfl))))),?_⟩
 wtm_at "zw"
 refine⟨_,rfl,xR rfl eco c.kd cF.2.2.2.1 a.l4 ⟨a.g,_,rfl,.t eg ek,_,rfl,?_⟩⟩
 cases e:valV kvs (ik vals) with
 | some v=>
  refine iteF ?_
  wtm_at "zw"
  refine xR rfl eco c.kd cF.2.2.2.1 a.l4 ⟨_,rfl,a.g,v,rfl,by rw[← e];exact .t eg ek,?_⟩
  rw[gok vals v e]
  exact q kvs H (fun b o _ h=>h) eg gok (Nat.le_succ _)
 | none=>
  refine iteT ?_
  wtm_at "zw"
  refine xR rfl eco c.kd cF.1 a.l1 ?_
  wtm_at "zw"
  refine xR rfl eco c.kd cF.1 a.l1 ?_
  wtm_at "zw"
  refine⟨W.gt,gv,bx,st,W.bs,vals,rfl,c.lies.goal,c.ok.goal,c.ok.goald,⟨⟨us,ebx,pb⟩,est,fits.stands c.ok.b25,by omega⟩,fun H1 S1=>?_⟩
  refine xR rfl (S1 _ _ eco) c.kd cF.2.2.2.1 a.l4 ⟨_,rfl,a.g,_,rfl,.t (S1 _ _ eg) (S1 _ _ ek) (yZH hl (by decide)),?_⟩
  have lp:=yJ kvs (ik vals) (.bl (W.gt.truth (envOf (kvsOf W.bs vals))))
  have ne:a.co≠a.g:=xT eco eg (fun z=>nomatch z)
  have nst:st≠a.g:=xT est eg (fun z=>nomatch z)
  have eg2:upd H1 a.g (.dT (putK kvs (ik vals) (.bl (W.gt.truth (envOf (kvsOf W.bs vals)))))) a.g=some (.dT (putK kvs (ik vals) (.bl (W.gt.truth (envOf (kvsOf W.bs vals)))))):=qW
  have e2:upd H1 a.g (.dT (putK kvs (ik vals) (.bl (W.gt.truth (envOf (kvsOf W.bs vals)))))) a.co=some (.ins C a.dx a.fs):=by rw[qA ne];exact S1 _ _ eco
  have e3:upd H1 a.g (.dT (putK kvs (ik vals) (.bl (W.gt.truth (envOf (kvsOf W.bs vals)))))) st=some (.tup ((ik vals).map kV)):=by rw[qA nst];exact S1 _ _ ek
  have sv:Saves a.g H (upd H1 a.g (.dT (putK kvs (ik vals) (.bl (W.gt.truth (envOf (kvsOf W.bs vals))))))):=fun b o hb h=>by rw[qA hb];exact S1 _ _ h
  generalize upd H1 a.g (.dT (putK kvs (ik vals) (.bl (W.gt.truth (envOf (kvsOf W.bs vals))))))=H2 at eg2 e2 e3 sv
  wtm_at "zw"
  refine xR rfl e2 c.kd cF.2.2.2.1 a.l4 ⟨_,rfl,a.g,.bl (W.gt.truth (envOf (kvsOf W.bs vals))),rfl,?_,q _ H2 sv eg2 (fun v2 v h=>?_) (by omega)⟩
  ·have:=DGet.t eg2 e3
   rw[jT,if_pos rfl] at this
   exact this
  ·rw[jT] at h
   by_cases z:ik v2=ik vals
   ·rw[if_pos z] at h
    cases h
    rw[xQj z]
   ·rw[if_neg z] at h
    exact gok v2 v h
structure PD (P:Program)(w:World)(H:Hp)(a:Addr)(xs:List (PKy×Addr×V)):Prop where
 at':H a=some (PDo P w a xs)
 keys:∀z∈xs,PkIn H z.1 z.2.1
 le:xs.length≤10000
theorem yC {H H':Hp}{d:Addr}{xs:List (PKy×Addr×V)}{k:PKy}{b:Addr}(hd:H d=some (PDo P w d xs))(s:Saves d H H')(h:PkIn H k b):PkIn H' k b:=by
 obtain⟨t,e1,e2⟩:=h
 exact⟨t,s _ _ (xT e1 hd (fun z=>nomatch z)) e1,s _ _ (xT e2 hd (fun z=>nomatch z)) e2⟩
theorem yS {xs:List (PKy×Addr×V)}{k k':PKy}{b:Addr}{v:V}(h:getP xs k=none):getP (xs++[(k,b,v)]) k'=if k'=k then some v else getP xs k':=by
 unfold getP at h ⊢
 rw[List.find?_append]
 by_cases e:k'=k
 ·subst e
  rw[if_pos rfl]
  rw[Option.map_eq_none_iff] at h
  rw[h]
  simp
 ·rw[if_neg e]
  have:List.find? (fun x:PKy×Addr×V=>decide (x.1=k')) [(k,b,v)]=none:=by simp[Ne.symm e]
  rw[this,Option.or_none]
theorem PD.same {H H':Hp}{a:Addr}{xs:List (PKy×Addr×V)}(h:PD P w H a xs)(s:Same H H'):PD P w H' a xs:=⟨s _ _ h.at',fun z hz=>let ⟨t,e1,e2⟩:=h.keys z hz;⟨t,s _ _ e1,s _ _ e2⟩,h.le⟩
theorem PD.more {H H1:Hp}{a b:Addr}{xs:List (PKy×Addr×V)}{k:PKy}{v:V}(h:PD P w H1 a xs)(kb:PkIn H1 k b)(hl:xs.length<10000):PD P w (upd H1 a (PDo P w a (xs++[(k,b,v)]))) a (xs++[(k,b,v)])∧Saves a H1 (upd H1 a (PDo P w a (xs++[(k,b,v)]))):=by
 have sv:Saves a H1 (upd H1 a (PDo P w a (xs++[(k,b,v)]))):=fun c o hc e=>by rw[qA hc];exact e
 refine⟨⟨qW,fun z hz=>?_,by rw[yYI];show _+1≤_;omega⟩,sv⟩
 rcases yYR.mp hz with h1 | h1
 ·exact yC h.at' sv (h.keys z h1)
 ·rw[yYL.mp h1];exact yC h.at' sv kb
theorem nodrop (x:Str)(vals:List Int)(y:Str)(vals':List Int):((y,ik vals'):PKy)=(x,ik vals)↔y=x∧vals'=vals:=⟨fun h=>⟨congrArg Prod.fst h,xQj (congrArg Prod.snd h)⟩,fun⟨a,b⟩=>by rw[a,b]⟩
theorem jP {α:Type}{f:α→Str}{l:List α}(nd:(l.map f).Nodup){a b:α}(ha:a∈l)(hb:b∈l)(e:f a=f b):a=b:=by
 obtain⟨i,hi⟩:=List.mem_iff_getElem?.mp ha
 obtain⟨j,hj⟩:=List.mem_iff_getElem?.mp hb
 have li:i<(l.map f).length:=by rw[yYC];exact(yYB.mp hi).1
 have:(l.map f)[i]? = (l.map f)[j]? := by rw[yYO,yYO,hi,hj];exact congrArg some e
 have:=(List.getElem?_inj li nd).mp this
 subst this
 rw[hi] at hj
 exact Option.some.inj hj
theorem qFi {td ty tv:TE}{D:Ends}{σ:St}{H:Hp}(q:tv σ H fun v H1=>td σ H1 fun x H2=>ty σ H2 fun y H3=>∃a b k xs,PAt P w H3 x y a b k xs∧getP xs k=none∧xs.length<sizeLine∧D.nx σ (upd H3 a (PDo P w a (xs++[(k,b,v)])))):sPPut P w td ty tv D σ H:=q
theorem jQ:xH ["self","name","standing","key","need"] ["self","name","standing"] (xA (mth 25 2)):=⟨rfl,rfl,rfl,by decide +kernel,rfl,by decide +kernel,by decide +kernel⟩
def qKm (W:Wd)(xs:List (PKy×Addr×V)):Prop:=∀x vals v,getP xs (x,ik vals)=some v→∀d∈W.ds,d.name=x→v=.bl (d.need.truth (envOf (kvsOf W.bs vals)))
def spNeed (P:Program)(w:World)(K:yZO)(C:Addr):Sp:=fun vs H Q _=>∃(a:CA) (W:Wd) (bx dx lx:Addr) (bv gv:V) (st:Addr) (vals:List Int) (d:Deed) (xs:List (PKy×Addr×V)),vs=[.ref a.co,.str d.name,.ref st]∧Crs K C H a W bx dx lx bv gv∧Std H W st vals∧d∈W.ds∧PD P w H a.n xs∧xs.length<10000∧qKm W xs∧
 ∀(xs':List (PKy×Addr×V)) (H':Hp),Saves a.n H H'→PD P w H' a.n xs'→qKm W xs'→xs'.length≤xs.length+1→Q (.bl (d.need.truth (envOf (kvsOf W.bs vals)))) H'
theorem xJg {C:Addr}(F:Md K C "need_holds" "Course.need_holds" (mth 25 2) ["self","name","standing"])(D_holds:Dn P w K mg base "holds" 26 ["condition","boxes","standing"] qAq)(D_named:Dn P w K mg base "named" 1 ["things","name","kind"] qQm):Dm P w K mg base C "need_holds" 27 ["self","name","standing"] (spNeed P w K C):=by
 refine F.ok jQ (fun vs H Q E h=>?_) (fun f cdv A outer s H vs Q E hr h=>?_)
 ·obtain⟨_,_,_,_,_,_,_,_,_,_,_,rfl,_⟩:=h
  rfl
 obtain⟨a,W,bx,dx,lx,bv,gv,st,vals,d,xs,rfl,c,⟨est,fits⟩,hd,pd0,hl,nok,q⟩:=h
 obtain⟨us,ebx,pb⟩:=c.lies.boxes
 obtain⟨du,edx,pd⟩:=c.lies.deeds
 have b6:=c.ok.b6
 have ek:H st=some (.tup ((ik vals).map kV)):=by rw[qSn];exact est
 refine⟨_,(qZ (qM (i:=3) jQ.nd rfl (by wtm_at "zo") (zV (qQ (pv 1) (qQ (pv 2) qX))))
  (qZ (xU (qJv (qXc (P:=P) (w:=w) hr.units3 (pv 3) (xI (K:=K) (pv 0))) (by with_unfolding_all rfl)) (qZ (qM (i:=4) jQ.nd rfl (by wtm_at "zo") (xE (qS (K:=K)) (qD D_named hr (qQ (xE (qS (K:=K)) (xI (K:=K) (pv 0)) qE (fun _ _=>rfl)) (qQ (pv 1) (qQ qF qX)))) qE (fun _ _=>rfl)))
  (qJ (qAw (P:=P) (w:=w) hr.units3 (xI (K:=K) (pv 0)) (pv 3) (qD D_holds hr (qQ (pv 4) (qQ (xE (qS (K:=K)) (xI (K:=K) (pv 0)) qE (fun _ _=>rfl)) (qQ (pv 2) qX)))) rfl))) qY)
  (qJ (qN (qAb (P:=P) (w:=w) hr.units3 (xI (K:=K) (pv 0)) (pv 3) (fun _ _=>rfl)))))),?_⟩
 wtm_at "zw"
 refine⟨xF (show 2≤1000000 by decide),fun kt hkt=>?_⟩
 have S0:=qV hkt (.tup [V.str d.name,V.ref st])
 have ekt:upd H kt (.tup [V.str d.name,V.ref st]) kt=some (.tup [V.str d.name,V.ref st]):=qW
 generalize upd H kt (.tup [V.str d.name,V.ref st])=H0 at S0 ekt
 have eco:=S0 _ _ c.at'
 have ep:=S0 _ _ c.p
 have pd1:=pd0.same S0
 have kb:PkIn H0 (d.name,ik vals) kt:=⟨st,ekt,S0 _ _ ek⟩
 wtm_at "zw"
 refine⟨_,rfl,xR rfl eco c.kd cF.2.2.2.2.1 a.l5 ⟨a.n,kt,(d.name,ik vals),xs,⟨rfl,rfl,pd1.at',pd1.keys,kb⟩,_,rfl,?_⟩⟩
 cases e:getP xs (d.name,ik vals) with
 | some v=>
  refine iteF ?_
  wtm_at "zw"
  refine xR rfl eco c.kd cF.2.2.2.2.1 a.l5 ⟨_,rfl,a.n,kt,(d.name,ik vals),xs,v,⟨rfl,rfl,pd1.at',pd1.keys,kb⟩,e,?_⟩
  rw[nok _ _ v e d hd rfl]
  exact q xs H0 (fun b o _ h=>S0 _ _ h) pd1 nok (Nat.le_succ _)
 | none=>
  refine iteT ?_
  wtm_at "zw"
  refine xR rfl eco c.kd cF.1 a.l1 ?_
  wtm_at "zw"
  obtain⟨i,ei⟩:=List.mem_iff_getElem?.mp hd
  refine⟨dx,du,W.ds.map Deed.name,d.name,.str "deed",rfl,S0 _ _ edx,yV (Paired.mapP pd fun _ _ y=>y.same S0),(yYU.mp c.ok.nd).1,i,by rw[yYO,ei];rfl,fun u eu=>?_⟩
  obtain⟨da,nv,wa,wu,rfl,ea,nat,_⟩:=xK pd ei eu
  have ea0:=S0 _ _ ea
  wtm_at "zw"
  dsimp only
  refine qFi ?_
  wtm_at "zw"
  refine xR rfl eco c.kd cF.1 a.l1 ?_
  wtm_at "zw"
  have dok:=c.ok.deeds d hd
  refine⟨d.need,nv,bx,st,W.bs,vals,rfl,nat.mono (qC S0),dok.need,dok.dep,⟨⟨us,S0 _ _ ebx,xY (qC S0) pb⟩,S0 _ _ est,fits.stands c.ok.b25,by omega⟩,fun H1 S1=>?_⟩
  have S01:=S0.trans S1
  have pd2:=pd1.same S1
  have kb1:PkIn H1 (d.name,ik vals) kt:=⟨st,S1 _ _ ekt,S01 _ _ ek⟩
  refine xR rfl (S1 _ _ eco) c.kd cF.2.2.2.2.1 a.l5 ⟨_,rfl,a.n,kt,(d.name,ik vals),xs,⟨rfl,rfl,pd2.at',pd2.keys,kb1⟩,e,Nat.lt_trans hl (by decide),?_⟩
  obtain⟨pd3,sv⟩:=PD.more (H:=H) (v:=.bl (d.need.truth (envOf (kvsOf W.bs vals)))) pd2 kb1 hl
  have kb2:=yC pd2.at' sv kb1
  have eco2:=sv _ _ (xT (S1 _ _ eco) pd2.at' (fun z=>nomatch z)) (S1 _ _ eco)
  generalize upd H1 a.n (PDo P w a.n (xs++[((d.name,ik vals),kt,.bl (d.need.truth (envOf (kvsOf W.bs vals))))]))=H2 at pd3 sv kb2 eco2
  wtm_at "zw"
  refine xR rfl eco2 c.kd cF.2.2.2.2.1 a.l5 ⟨_,rfl,a.n,kt,(d.name,ik vals),_,_,⟨rfl,rfl,pd3.at',pd3.keys,kb2⟩,by rw[yS e,if_pos rfl],?_⟩
  refine q _ H2 (fun b o hb h=>sv _ _ hb (S01 _ _ h)) pd3 (fun x v2 v h d2 hd2 e2=>?_) (by rw[yYI];exact yZC _)
  rw[yS e] at h
  by_cases z:((x,ik v2):PKy)=(d.name,ik vals)
  ·rw[if_pos z] at h
   obtain⟨z1,z2⟩:=(nodrop _ _ _ _).mp z
   cases h
   have:d2=d:=jP (yYU.mp c.ok.nd).1 hd2 hd (e2.trans z1)
   rw[this,z2]
  ·rw[if_neg z] at h
   exact nok x v2 v h d2 hd2 e2
theorem kP:xH ["self","name","standing","key"] ["self","name","standing"] (xA (mth 25 4)):=⟨rfl,rfl,rfl,by decide +kernel,rfl,by decide +kernel,by decide +kernel⟩
def qKl (W:Wd)(xs:List (PKy×Addr×V)):Prop:=∀x vals v,getP xs (x,ik vals)=some v→∀d∈W.ls,d.name=x→v=.int (d.part.worth (envOf (kvsOf W.bs vals)))
def qGi (P:Program)(w:World)(K:yZO)(C:Addr):Sp:=fun vs H Q _=>∃(a:CA) (W:Wd) (bx dx lx:Addr) (bv gv:V) (st:Addr) (vals:List Int) (d:Look) (xs:List (PKy×Addr×V)),vs=[.ref a.co,.str d.name,.ref st]∧Crs K C H a W bx dx lx bv gv∧Std H W st vals∧d∈W.ls∧PD P w H a.s xs∧xs.length<10000∧qKl W xs∧
 ∀(xs':List (PKy×Addr×V)) (H':Hp),Saves a.s H H'→PD P w H' a.s xs'→qKl W xs'→xs'.length≤xs.length+1→Q (.int (d.part.worth (envOf (kvsOf W.bs vals)))) H'
theorem qUk {C:Addr}(F:Md K C "shows" "Course.shows" (mth 25 4) ["self","name","standing"])(D_shown:Dn P w K mg base "shown" 15 ["world","name","standing"] qGl):Dm P w K mg base C "shows" 16 ["self","name","standing"] (qGi P w K C):=by
 refine F.ok kP (fun vs H Q E h=>?_) (fun f cdv A outer s H vs Q E hr h=>?_)
 ·obtain⟨_,_,_,_,_,_,_,_,_,_,_,rfl,_⟩:=h
  rfl
 obtain⟨a,W,bx,dx,lx,bv,gv,st,vals,d,xs,rfl,c,⟨est,fits⟩,hd,pd0,hl,nok,q⟩:=h
 have ek:H st=some (.tup ((ik vals).map kV)):=by rw[qSn];exact est
 refine⟨_,(qZ (qM (i:=3) kP.nd rfl (by wtm_at "zo") (zV (qQ (pv 1) (qQ (pv 2) qX))))
  (qZ (xU (qJv (qXc (P:=P) (w:=w) hr.units3 (pv 3) (xI (K:=K) (pv 0))) (by with_unfolding_all rfl)) (qJ (qAw (P:=P) (w:=w) hr.units3 (xI (K:=K) (pv 0)) (pv 3) (qD D_shown hr (qQ (xI (K:=K) (pv 0)) (qQ (pv 1) (qQ (pv 2) qX)))) rfl)) qY)
  (qJ (qN (qAb (P:=P) (w:=w) hr.units3 (xI (K:=K) (pv 0)) (pv 3) (fun _ _=>rfl)))))),?_⟩
 wtm_at "zw"
 refine⟨xF (show 2≤1000000 by decide),fun kt hkt=>?_⟩
 have S0:=qV hkt (.tup [V.str d.name,V.ref st])
 have ekt:upd H kt (.tup [V.str d.name,V.ref st]) kt=some (.tup [V.str d.name,V.ref st]):=qW
 generalize upd H kt (.tup [V.str d.name,V.ref st])=H0 at S0 ekt
 have eco:=S0 _ _ c.at'
 have ep:=S0 _ _ c.p
 have pd1:=pd0.same S0
 have kb:PkIn H0 (d.name,ik vals) kt:=⟨st,ekt,S0 _ _ ek⟩
 wtm_at "zw"
 refine⟨_,rfl,xR rfl eco c.kd cF.2.2.2.2.2.2 a.l7 ⟨a.s,kt,(d.name,ik vals),xs,⟨rfl,rfl,pd1.at',pd1.keys,kb⟩,_,rfl,?_⟩⟩
 cases e:getP xs (d.name,ik vals) with
 | some v=>
  refine iteF ?_
  wtm_at "zw"
  refine xR rfl eco c.kd cF.2.2.2.2.2.2 a.l7 ⟨_,rfl,a.s,kt,(d.name,ik vals),xs,v,⟨rfl,rfl,pd1.at',pd1.keys,kb⟩,e,?_⟩
  rw[nok _ _ v e d hd rfl]
  exact q xs H0 (fun b o _ h=>S0 _ _ h) pd1 nok (Nat.le_succ _)
 | none=>
  refine iteT ?_
  dsimp only
  refine qFi ?_
  wtm_at "zw"
  refine xR rfl eco c.kd cF.1 a.l1 ?_
  wtm_at "zw"
  refine⟨W,a.p,bx,dx,lx,bv,gv,st,vals,d,rfl,ep,c.lies.same S0,c.ok,S0 _ _ est,fits,hd,fun H1 S1=>?_⟩
  have S01:=S0.trans S1
  have pd2:=pd1.same S1
  have kb1:PkIn H1 (d.name,ik vals) kt:=⟨st,S1 _ _ ekt,S01 _ _ ek⟩
  refine xR rfl (S1 _ _ eco) c.kd cF.2.2.2.2.2.2 a.l7 ⟨_,rfl,a.s,kt,(d.name,ik vals),xs,⟨rfl,rfl,pd2.at',pd2.keys,kb1⟩,e,Nat.lt_trans hl (by decide),?_⟩
  obtain⟨pd3,sv⟩:=PD.more (H:=H) (v:=.int (d.part.worth (envOf (kvsOf W.bs vals)))) pd2 kb1 hl
  have kb2:=yC pd2.at' sv kb1
  have eco2:=sv _ _ (xT (S1 _ _ eco) pd2.at' (fun z=>nomatch z)) (S1 _ _ eco)
  generalize upd H1 a.s (PDo P w a.s (xs++[((d.name,ik vals),kt,.int (d.part.worth (envOf (kvsOf W.bs vals))))]))=H2 at pd3 sv kb2 eco2
  wtm_at "zw"
  refine xR rfl eco2 c.kd cF.2.2.2.2.2.2 a.l7 ⟨_,rfl,a.s,kt,(d.name,ik vals),_,_,⟨rfl,rfl,pd3.at',pd3.keys,kb2⟩,by rw[yS e,if_pos rfl],?_⟩
  refine q _ H2 (fun b o hb h=>sv _ _ hb (S01 _ _ h)) pd3 (fun x v2 v h d2 hd2 e2=>?_) (by rw[yYI];exact yZC _)
  rw[yS e] at h
  by_cases z:((x,ik v2):PKy)=(d.name,ik vals)
  ·rw[if_pos z] at h
   obtain⟨z1,z2⟩:=(nodrop _ _ _ _).mp z
   cases h
   have:d2=d:=jP (yYU.mp c.ok.nd).2.1 hd2 hd (e2.trans z1)
   rw[this,z2]
  ·rw[if_neg z] at h
   exact nok x v2 v h d2 hd2 e2
theorem kR:xH ["self","name","standing","key"] ["self","name","standing"] (xA (mth 25 3)):=⟨rfl,rfl,rfl,by decide +kernel,rfl,by decide +kernel,by decide +kernel⟩
def CameIn (H:Hp)(av:Addr)(W:Wd)(d:Deed)(vals:List Int)(v:V):Prop:=∃l us,v=.ref l∧l≠av∧H l=some (.lst us)∧Paired (TupIn H) (d.ways.map fun wy=>xO W.bs wy vals) us
theorem CameIn.saves {H H':Hp}{c av:Addr}{xs:List (PKy×Addr×V)}{W:Wd}{d:Deed}{vals:List Int}{v:V}(hc:H c=some (PDo P w c xs))(s:Saves c H H')(h:CameIn H av W d vals v):CameIn H' av W d vals v:=by
 obtain⟨l,us,e,nv,el,pu⟩:=h
 exact⟨l,us,e,nv,s _ _ (xT el hc (fun z=>nomatch z)) el,Paired.mapP pu fun _ _ ⟨t,e,et⟩=>⟨t,e,s _ _ (xT et hc (fun z=>nomatch z)) et⟩⟩
theorem CameIn.same {H H':Hp}{av:Addr}{W:Wd}{d:Deed}{vals:List Int}{v:V}(s:Same H H')(h:CameIn H av W d vals v):CameIn H' av W d vals v:=by
 obtain⟨l,us,e,nv,el,pu⟩:=h
 exact⟨l,us,e,nv,s _ _ el,Paired.mapP pu fun _ _ ⟨t,e,et⟩=>⟨t,e,s _ _ et⟩⟩
def qZd (H:Hp)(av:Addr)(W:Wd)(xs:List (PKy×Addr×V)):Prop:=∀x vals v,getP xs (x,ik vals)=some v→∀d∈W.ds,d.name=x→CameIn H av W d vals v
def qCe (P:Program)(w:World)(K:yZO)(C:Addr):Sp:=fun vs H Q _=>∃(a:CA) (W:Wd) (bx dx lx:Addr) (bv gv:V) (st:Addr) (vals:List Int) (d:Deed) (xs:List (PKy×Addr×V)) (av:Addr),vs=[.ref a.co,.str d.name,.ref st]∧Crs K C H a W bx dx lx bv gv∧Std H W st vals∧d∈W.ds∧PD P w H a.c xs∧xs.length<10000∧qZd H av W xs∧H av≠none∧
 ∀(xs':List (PKy×Addr×V)) (v:V) (H':Hp),Saves a.c H H'→PD P w H' a.c xs'→qZd H' av W xs'→xs'.length≤xs.length+1→CameIn H' av W d vals v→Q v H'
theorem qUw {C:Addr}(F:Md K C "comes" "Course.comes" (mth 25 3) ["self","name","standing"])(D_comes_of:Dn P w K mg base "comes_of" 15 ["world","name","standing"] qGo):Dm P w K mg base C "comes" 16 ["self","name","standing"] (qCe P w K C):=by
 refine F.ok kR (fun vs H Q E h=>?_) (fun f cdv A outer s H vs Q E hr h=>?_)
 ·obtain⟨_,_,_,_,_,_,_,_,_,_,_,_,rfl,_⟩:=h
  rfl
 obtain⟨a,W,bx,dx,lx,bv,gv,st,vals,d,xs,av,rfl,c,⟨est,fits⟩,hd,pd0,hl,nok,hav,q⟩:=h
 have ek:H st=some (.tup ((ik vals).map kV)):=by rw[qSn];exact est
 refine⟨_,(qZ (qM (i:=3) kR.nd rfl (by wtm_at "zo") (zV (qQ (pv 1) (qQ (pv 2) qX))))
  (qZ (xU (qJv (qXc (P:=P) (w:=w) hr.units3 (pv 3) (xI (K:=K) (pv 0))) (by with_unfolding_all rfl)) (qJ (qAw (P:=P) (w:=w) hr.units3 (xI (K:=K) (pv 0)) (pv 3) (qD D_comes_of hr (qQ (xI (K:=K) (pv 0)) (qQ (pv 1) (qQ (pv 2) qX)))) rfl)) qY)
  (qJ (qN (qAb (P:=P) (w:=w) hr.units3 (xI (K:=K) (pv 0)) (pv 3) (fun _ _=>rfl)))))),?_⟩
 wtm_at "zw"
 refine⟨xF (show 2≤1000000 by decide),fun kt hkt=>?_⟩
 have S0:=qV hkt (.tup [V.str d.name,V.ref st])
 have ekt:upd H kt (.tup [V.str d.name,V.ref st]) kt=some (.tup [V.str d.name,V.ref st]):=qW
 generalize upd H kt (.tup [V.str d.name,V.ref st])=H0 at S0 ekt
 have eco:=S0 _ _ c.at'
 have ep:=S0 _ _ c.p
 have pd1:=pd0.same S0
 have nok0:qZd H0 av W xs:=fun x v2 v h d2 h2 e2=>(nok x v2 v h d2 h2 e2).same S0
 have kb:PkIn H0 (d.name,ik vals) kt:=⟨st,ekt,S0 _ _ ek⟩
 wtm_at "zw"
 refine⟨_,rfl,xR rfl eco c.kd cF.2.2.2.2.2.1 a.l6 ⟨a.c,kt,(d.name,ik vals),xs,⟨rfl,rfl,pd1.at',pd1.keys,kb⟩,_,rfl,?_⟩⟩
 cases e:getP xs (d.name,ik vals) with
 | some v=>
  refine iteF ?_
  wtm_at "zw"
  refine xR rfl eco c.kd cF.2.2.2.2.2.1 a.l6 ⟨_,rfl,a.c,kt,(d.name,ik vals),xs,v,⟨rfl,rfl,pd1.at',pd1.keys,kb⟩,e,?_⟩
  exact q xs v H0 (fun b o _ h=>S0 _ _ h) pd1 nok0 (Nat.le_succ _) (nok0 _ _ v e d hd rfl)
 | none=>
  refine iteT ?_
  dsimp only
  refine qFi ?_
  wtm_at "zw"
  refine xR rfl eco c.kd cF.1 a.l1 ?_
  wtm_at "zw"
  refine⟨W,a.p,bx,dx,lx,bv,gv,st,vals,d,rfl,ep,c.lies.same S0,c.ok,S0 _ _ est,fits,hd,fun r ru H1 nr S1 er pu=>?_⟩
  have S01:=S0.trans S1
  have pd2:=pd1.same S1
  have kb1:PkIn H1 (d.name,ik vals) kt:=⟨st,S1 _ _ ekt,S01 _ _ ek⟩
  refine xR rfl (S1 _ _ eco) c.kd cF.2.2.2.2.2.1 a.l6 ⟨_,rfl,a.c,kt,(d.name,ik vals),xs,⟨rfl,rfl,pd2.at',pd2.keys,kb1⟩,e,Nat.lt_trans hl (by decide),?_⟩
  obtain⟨pd3,sv⟩:=PD.more (H:=H) (v:=.ref r) pd2 kb1 hl
  have kb2:=yC pd2.at' sv kb1
  have eco2:=sv _ _ (xT (S1 _ _ eco) pd2.at' (fun z=>nomatch z)) (S1 _ _ eco)
  have rav:r≠av:=fun z=>by
   subst z
   cases e:H r with
   | none=>exact hav e
   | some o=>rw[S0 _ _ e] at nr;cases nr
  have came:CameIn H1 av W d vals (.ref r):=⟨r,ru,rfl,rav,er,pu⟩
  have came2:=came.saves pd2.at' sv
  have nok2:∀x v2 v,getP xs (x,ik v2)=some v→∀d2∈W.ds,d2.name=x→CameIn (upd H1 a.c (PDo P w a.c (xs++[((d.name,ik vals),kt,.ref r)]))) av W d2 v2 v:=fun x v2 v h d2 h2 e2=>((nok0 x v2 v h d2 h2 e2).same S1).saves pd2.at' sv
  generalize upd H1 a.c (PDo P w a.c (xs++[((d.name,ik vals),kt,.ref r)]))=H2 at pd3 sv kb2 eco2 came2 nok2
  wtm_at "zw"
  refine xR rfl eco2 c.kd cF.2.2.2.2.2.1 a.l6 ⟨_,rfl,a.c,kt,(d.name,ik vals),_,.ref r,⟨rfl,rfl,pd3.at',pd3.keys,kb2⟩,by rw[yS e,if_pos rfl],?_⟩
  refine q _ (.ref r) H2 (fun b o hb h=>sv _ _ hb (S01 _ _ h)) pd3 (fun x v2 v h d2 hd2 e2=>?_) (by rw[yYI];exact yZC _) came2
  rw[yS e] at h
  by_cases z:((x,ik v2):PKy)=(d.name,ik vals)
  ·rw[if_pos z] at h
   obtain⟨z1,z2⟩:=(nodrop _ _ _ _).mp z
   cases h
   have:d2=d:=jP (yYU.mp c.ok.nd).1 hd2 hd (e2.trans z1)
   rw[this,z2]
   exact came2
  ·rw[if_neg z] at h
   exact nok2 x v2 v h d2 hd2 e2

inductive Nd where
 | fin
 | act (x:Str) (to:Int)
 | see (x:Str) (fs:List (Int×Int))
def NdAt (H:Hp):Nd→V→Prop
 | .fin,u=>∃a,u=.ref a∧H a=some (.tup [.str "end"])
 | .act x to,u=>∃a,u=.ref a∧H a=some (.tup [.str "do",.str x,.int to])
 | .see x fs,u=>∃a p us,u=.ref a∧H a=some (.tup [.str "look",.str x,.ref p])∧H p=some (.tup us)∧Paired (PairI H) fs us
theorem PairI.same {H H':Hp}{f:Int×Int}{u:V}(h:PairI H f u)(S:Same H H'):PairI H' f u:=let ⟨a,e,h⟩:=h;⟨a,e,S _ _ h⟩
theorem NdAt.same {H H':Hp}{n:Nd}{u:V}(h:NdAt H n u)(S:Same H H'):NdAt H' n u:=by
 cases n with
 | fin=>obtain⟨a,e,h⟩:=h;exact⟨a,e,S _ _ h⟩
 | act x to=>obtain⟨a,e,h⟩:=h;exact⟨a,e,S _ _ h⟩
 | see x fs=>obtain⟨a,p,us,e,h,h2,h3⟩:=h;exact⟨a,p,us,e,S _ _ h,S _ _ h2,Paired.mapP h3 fun _ _ z=>PairI.same z S⟩

theorem wrote {H H':Hp}{x:Addr}{o:HO}(h:upd H x o=H'):H' x=some o∧Saves x H H':=by
 subst h
 exact⟨qW,fun b o hb e=>by rw[qA hb];exact e⟩
theorem qZg:xH ["self","world","plan"] ["self","world","plan"] (xA (mth 25 0)):=⟨rfl,rfl,rfl,by decide +kernel,rfl,by decide +kernel,by decide +kernel⟩
theorem kU:CompOk (xA (mth 25 0)) ["self","world","plan"] (scAt (xB (mth 25 0)) [2] []) ["node"] 1 []:=
 ⟨by decide +kernel,by decide +kernel,by decide +kernel,by decide +kernel,by decide +kernel,by decide +kernel,by decide +kernel,by decide +kernel⟩
def Nd.Few:Nd→Prop
 | .see _ fs=>fs.length≤1000
 | _=>True
def vO:Nd→List (Key×V)
 | .see _ fs=>mergeK [] (pairI fs)
 | _=>[]
def xYj (H:Hp)(ns:List Nd)(fo:Addr):Prop:=∃fu,H fo=some (.lst fu)∧Paired (fun n u=>∃d,u=.ref d∧H d=some (.dK (vO n))) ns fu
def qCd (P:Program)(w:World)(K:yZO)(C:Addr):Sp:=fun vs H Q _=>∃(x dx p pl:Addr) (nu:List V) (ns:List Nd),vs=[.ref x,.ref p,.ref pl]∧H x=some (.ins C dx [])∧Kind K C jG∧H pl=some (.lst nu)∧Paired (NdAt H) ns nu∧(∀n∈ns,n.Few)∧ns.length≤1000∧
 ∀(a:CA) (H':Hp),a.co=x→a.dx=dx→a.p=p→a.pl=pl→Saves x H H'→H' x=some (.ins C dx a.fs)→xYj H' ns a.fo→H' a.g=some (.dT [])→PD P w H' a.n []→PD P w H' a.c []→PD P w H' a.s []→(∀b∈[a.fo,a.g,a.n,a.c,a.s],H b=none)→[a.co,a.g,a.n,a.c,a.s].Nodup→Q .non H'
theorem w_yes {σ:St}{H:Hp}{C:Bool→Hp→Prop}(h:C true H):tYes σ H C:=h
def xXq (N:List V→Hp→Prop)(D:Addr)(ys:List V)(H:Hp)(d:Addr):Prop:=H D=some (.lst ys)∧ys.length<sizeLine∧N (ys++[.ref d]) (upd H D (.lst (ys++[.ref d])))
theorem qEo {σ:St}{H:Hp}{Q:VK}{pl:Addr}{nu:List V}{ns:List Nd}(epl:H pl=some (.lst nu))(pn:Paired (NdAt H) ns nu)(few:∀n∈ns,n.Few)(hl:ns.length≤1000)
  (q:∀(D:Addr) (ys:List V) (H':Hp),H D=none→Same H H'→H' D=some (.lst ys)→Paired (fun n u=>∃d,u=.ref d∧H' d=some (.dK (vO n))) ns ys→Q (.ref D) H'):
  rdC 1 [] (gName 0) tYes (tIf (tTest (tOp rEq (tOp (rIxT K) (tVar 0) (tC (V.int 0))) (tC (V.str (Str.ofString "look")))))
   (tCB (fun vs H Q=>∃l us fs,vs=[V.ref l]∧H l=some (HO.tup us)∧Paired (PairI H) fs us∧fs.length≤1000∧∀(p:Addr),H p=none→Q (V.ref p) (upd H p (HO.dK (mergeK [] (pairI fs))))) (tCons (tOp (rIxT K) (tVar 0) (tC (V.int 2))) tNil)) tDNewK) (Itl K pl) σ H Q:=by
 have lb:nu.length=ns.length:=pn.length.symm
 refine jA (xs:=nu) (fun D i ys H'=>Paired (fun n u=>∃d,u=.ref d∧H' d=some (.dK (vO n))) (ns.take i) ys∧∀b o,H b=some o→H' b=some o) (fun D hD=>⟨.nil,qV hD _⟩)
  (fun D i ys H' _ hP=>SqL.of (hP.2 _ _ epl)) (fun D i u ys H' N hD hDy ex hP hN=>?_) (fun D ys H2 hD hDy hP=>?_)
 ·obtain⟨pl',hk⟩:=hP
  have hi:i<ns.length:=by rw[← lb];exact(yYB.mp ex).1
  obtain⟨n,en⟩:∃b,ns[i]? = some b:=⟨_,yYA hi⟩
  have nat:=(xK pn en ex).same (show Same H H' from hk)
  have ll:=pl'.length
  rw[yYF] at ll
  have fin:∀d,H' d=none→xXq N D ys (upd H' d (.dK (vO n))) d:=fun d hd=>by
   have eD:upd H' d (.dK (vO n)) D=some (.lst ys):=qV hd _ _ _ hDy
   refine⟨eD,small (by omega),hN _ _ qW ⟨?_,fun b o e=>?_⟩⟩
   ·rw[yYM,en]
    refine Paired.snoc (Paired.mapP pl' fun _ _ ⟨d',e,h⟩=>⟨d',e,?_⟩) ⟨d,rfl,?_⟩
    ·rw[qA (xT h hDy (fun z=>nomatch z)),qA (qB h hd)];exact h
    ·rw[qA (Ne.symm (qB hDy hd))];exact qW
   ·rw[qA (qB e hD),qA (qB (hk _ _ e) hd)];exact hk _ _ e
  refine⟨⟨[some u],rfl,rfl⟩,?_⟩
  cases n with
  | fin=>
   obtain⟨a,rfl,ea⟩:=nat
   refine w_yes (iteT ?_)
   wtm_at "zw"
   exact fun p hp=>fin p hp
  | act x to=>
   obtain⟨a,rfl,ea⟩:=nat
   refine w_yes (iteT ?_)
   wtm_at "zw"
   exact fun p hp=>fin p hp
  | see x fs=>
   obtain⟨a,p,us,rfl,ea,ep,pf⟩:=nat
   refine w_yes (iteT ?_)
   wtm_at "zw"
   exact⟨p,us,fs,rfl,ep,pf,few _ (yYE en),fun d hd=>fin d hd⟩
 ·obtain⟨pl',hk⟩:=hP
  rw[lb,yYJ] at pl'
  exact q D ys H2 hD hk hDy pl'
theorem Saves.trans {x:Addr}{A B D:Hp}(h:Saves x A B)(k:Saves x B D):Saves x A D:=fun b o hb e=>k b o hb (h b o hb e)
theorem kM {x:Addr}{A B:Hp}(h:Same A B):Saves x A B:=fun b o _ e=>h b o e
theorem Saves.back {x:Addr}{A B:Hp}(h:Saves x A B)(hx:B x≠none){b:Addr}(hb:B b=none):A b=none:=by
 cases e:A b with
 | none=>rfl
 | some o=>
  by_cases z:b=x
  ·subst z;exact absurd hb hx
  ·rw[h b o z e] at hb;cases hb
theorem qSb {H H':Hp}{x C dx:Addr}{fs:List (Str×V)}{n:Nd}{u:V}(ex:H x=some (.ins C dx fs))(s:Saves x H H')(h:NdAt H n u):NdAt H' n u:=by
 have k:∀b xs,H b=some (.tup xs)→H' b=some (.tup xs):=fun b xs e=>s _ _ (xT e ex (fun z=>nomatch z)) e
 cases n with
 | fin=>obtain⟨a,e,h⟩:=h;exact⟨a,e,k _ _ h⟩
 | act x to=>obtain⟨a,e,h⟩:=h;exact⟨a,e,k _ _ h⟩
 | see x fs=>obtain⟨a,p,us,e,h,h2,h3⟩:=h;exact⟨a,p,us,e,k _ _ h,k _ _ h2,Paired.mapP h3 fun _ _ ⟨b,e,z⟩=>⟨b,e,k _ _ z⟩⟩
theorem qOx {C:Addr}(F:Mi K mg "Course" C "Course.__init__" (mth 25 0) ["self","world","plan"])(B:Bl mg):Dk P w K mg base "Course" C 1 ["self","world","plan"] (qCd P w K C):=by
 refine F.ok qZg (fun vs H Q E h=>?_) (fun f cdv A outer s H vs Q E hr h=>?_)
 ·obtain⟨_,_,_,_,_,_,rfl,_⟩:=h
  rfl
 obtain⟨x,dx,p,pl,nu,ns,rfl,ex,kd,epl,pn,few,l1000,q⟩:=h
 refine⟨_,(qZ (zN (K:=K) (pv 0) (pv 1))
  (qZ (zN (K:=K) (pv 0) (pv 2))
  (qZ (zN (K:=K) (pv 0) (zF rfl kU (qU (K:=K) (pv 2)) (fun cl fp s H=>(qG (i:=0) kU.nd rfl (Or.inl rfl) (.inr rfl))) (fun cl fp s H=>zO) (fun cl fp s H=>(qQc (qR zA (xE (qS (K:=K)) (pv 0) qE (fun _ _=>rfl)) qF (xD _)) (xX (wY rfl) rfl B.dict' qZb (qQ (xE (qS (K:=K)) (pv 0) qE (fun _ _=>rfl)) qX)) qKq))))
  (qZ (zN (K:=K) (pv 0) qRn)
  (qZ (zN (K:=K) (pv 0) (qYo (P:=P) (w:=w)))
  (qZ (zN (K:=K) (pv 0) (qYo (P:=P) (w:=w)))
  (qJ (zN (K:=K) (pv 0) (qYo (P:=P) (w:=w)))))))))),?_⟩
 wtm_at "zw"
 refine⟨_,rfl,_,rfl,x,C,dx,_,rfl,ex,kd.cls,kd.no _ cF.1,by decide,?_⟩
 generalize hK:upd H x _=H1
 obtain⟨e1,s1⟩:=wrote hK
 clear hK
 wtm_at "zw"
 refine⟨_,rfl,_,rfl,x,C,dx,_,rfl,e1,kd.cls,kd.no _ cF.2.1,(show 1<1000 by decide),?_⟩
 generalize hK:upd H1 x _=H2
 obtain⟨e2,s2⟩:=wrote hK
 have s2:=s1.trans s2
 clear hK
 have nx:∀b o,H b=some o→(∀C dx fs,o≠.ins C dx fs)→b≠x:=fun b o e hn z=>by subst z;rw[ex] at e;cases e;exact hn _ _ _ rfl
 have fx:∀b,H2 b=none→H b=none:=fun b hb=>by
  cases e:H b with
  | none=>rfl
  | some o=>
   by_cases z:b=x
   ·subst z;rw[e2] at hb;cases hb
   ·rw[s2 _ _ z e] at hb;cases hb
 have epl2:=s2 _ _ (nx _ _ epl (fun _ _ _ z=>nomatch z)) epl
 have pn2:Paired (NdAt H2) ns nu:=Paired.mapP pn fun n u h=>qSb ex s2 h
 wtm_at "zw"
 refine⟨_,rfl,pl,rfl,⟨nu,SqL.of epl2⟩,qEo epl2 pn2 few l1000 fun fo fu H3 nfo S3 efo pfo=>?_⟩
 refine⟨_,rfl,x,C,dx,_,rfl,S3 _ _ e2,kd.cls,kd.no _ cF.2.2.1,(show 2<1000 by decide),?_⟩
 generalize hK:upd H3 x _=K3
 obtain⟨eK3,sK3⟩:=wrote hK
 clear hK
 have xfo:fo≠x:=fun z=>by subst z;rw[S3 _ _ e2] at efo;cases efo
 wtm_at "zw"
 intro g hg
 have Sg:=qV hg (.dT [])
 have eg:upd K3 g (.dT []) g=some (.dT []):=qW
 generalize upd K3 g (.dT [])=L3 at Sg eg
 refine⟨_,rfl,x,C,dx,_,rfl,Sg _ _ eK3,kd.cls,kd.no _ cF.2.2.2.1,(show 3<1000 by decide),?_⟩
 generalize hK:upd L3 x _=K4
 obtain⟨eK4,sK4⟩:=wrote hK
 clear hK
 have xg:g≠x:=fun z=>by subst z;rw[Sg _ _ eK3] at eg;cases eg
 wtm_at "zw"
 intro n hn
 have Sn:=qV hn (PDo P w n [])
 have en:upd K4 n (PDo P w n []) n=some (PDo P w n []):=qW
 generalize upd K4 n (PDo P w n [])=L4 at Sn en
 refine⟨_,rfl,x,C,dx,_,rfl,Sn _ _ eK4,kd.cls,kd.no _ cF.2.2.2.2.1,(show 4<1000 by decide),?_⟩
 generalize hK:upd L4 x _=K5
 obtain⟨eK5,sK5⟩:=wrote hK
 clear hK
 have xn:n≠x:=fun z=>by subst z;rw[Sn _ _ eK4] at en;cases en
 wtm_at "zw"
 intro c hc
 have Sc:=qV hc (PDo P w c [])
 have ec:upd K5 c (PDo P w c []) c=some (PDo P w c []):=qW
 generalize upd K5 c (PDo P w c [])=L5 at Sc ec
 refine⟨_,rfl,x,C,dx,_,rfl,Sc _ _ eK5,kd.cls,kd.no _ cF.2.2.2.2.2.1,(show 5<1000 by decide),?_⟩
 generalize hK:upd L5 x _=K6
 obtain⟨eK6,sK6⟩:=wrote hK
 clear hK
 have xc:c≠x:=fun z=>by subst z;rw[Sc _ _ eK5] at ec;cases ec
 wtm_at "zw"
 intro s' hs'
 have Ss':=qV hs' (PDo P w s' [])
 have es':upd K6 s' (PDo P w s' []) s'=some (PDo P w s' []):=qW
 generalize upd K6 s' (PDo P w s' [])=L6 at Ss' es'
 refine⟨_,rfl,x,C,dx,_,rfl,Ss' _ _ eK6,kd.cls,kd.no _ cF.2.2.2.2.2.2,(show 6<1000 by decide),?_⟩
 generalize hK:upd L6 x _=K7
 obtain⟨eK7,sK7⟩:=wrote hK
 clear hK
 have xs':s'≠x:=fun z=>by subst z;rw[Ss' _ _ eK6] at es';cases es'
 have z23:Saves x H2 K3:=(kM S3).trans sK3
 have z34:Saves x K3 K4:=(kM Sg).trans sK4
 have z45:Saves x K4 K5:=(kM Sn).trans sK5
 have z56:Saves x K5 K6:=(kM Sc).trans sK6
 have z67:Saves x K6 K7:=(kM Ss').trans sK7
 have eg4:=sK4 _ _ xg eg
 have en5:=sK5 _ _ xn en
 have ec6:=sK6 _ _ xc ec
 have es7:=sK7 _ _ xs' es'
 have z47:=z45.trans (z56.trans z67)
 have b3:∀b,K3 b=none→H b=none:=fun b h=>fx b (z23.back (by rw[eK3];exact fun z=>nomatch z) h)
 have b4:∀b,K4 b=none→H b=none:=fun b h=>b3 b (z34.back (by rw[eK4];exact fun z=>nomatch z) h)
 have b5:∀b,K5 b=none→H b=none:=fun b h=>b4 b (z45.back (by rw[eK5];exact fun z=>nomatch z) h)
 have b6:∀b,K6 b=none→H b=none:=fun b h=>b5 b (z56.back (by rw[eK6];exact fun z=>nomatch z) h)
 have nil:∀(a:Addr) (Hh:Hp),Hh a=some (PDo P w a [])→PD P w Hh a []:=fun a Hh e=>⟨e,(fun z h=>by cases h),by decide⟩
 refine q ⟨x,dx,p,pl,fo,g,n,c,s'⟩ K7 rfl rfl rfl rfl (s2.trans (z23.trans (z34.trans z47))) eK7 ⟨fu,(z34.trans z47) _ _ xfo (sK3 _ _ xfo efo),Paired.mapP pfo fun _ _ ⟨d,e,h⟩=>⟨d,e,?_⟩⟩ (z47 _ _ xg eg4) (nil _ _ ((z56.trans z67) _ _ xn en5)) (nil _ _ (z67 _ _ xc ec6)) (nil _ _ es7) ?_ ?_
 ·have xd:d≠x:=fun z=>by subst z;rw[S3 _ _ e2] at h;cases h
  exact(z34.trans z47) _ _ xd (sK3 _ _ xd h)
 ·intro b hb
  simp only[yYK,List.not_mem_nil,or_false] at hb
  rcases hb with rfl | rfl | rfl | rfl | rfl
  ·exact fx _ nfo
  ·exact b3 _ hg
  ·exact b4 _ hn
  ·exact b5 _ hc
  ·exact b6 _ hs'
 ·have gn:g≠n:=qB eg4 hn
  have gc:g≠c:=qB (z45 _ _ xg eg4) hc
  have gs:g≠s':=qB ((z45.trans z56) _ _ xg eg4) hs'
  have nc:n≠c:=qB en5 hc
  have ns':n≠s':=qB (z56 _ _ xn en5) hs'
  have cs:c≠s':=qB ec6 hs'
  simp only[List.nodup_cons,yYK,List.not_mem_nil,or_false,not_or,not_false_eq_true,List.nodup_nil,and_true]
  exact⟨⟨xg.symm,xn.symm,xc.symm,xs'.symm⟩,⟨gn,gc,gs⟩,⟨nc,ns'⟩,cs⟩
theorem qZf:xH ["self","course","standing","choices"] ["self","course","standing","choices"] (xA (mth 26 0)):=⟨rfl,rfl,rfl,by decide +kernel,rfl,by decide +kernel,by decide +kernel⟩
def jR:List Str:=["course","standing","choices","steps","number","deeds_done","looked"]
theorem pF:Str.ofString "course" ∈ jR∧Str.ofString "standing" ∈ jR∧Str.ofString "choices" ∈ jR∧Str.ofString "steps" ∈ jR∧Str.ofString "number" ∈ jR∧Str.ofString "deeds_done" ∈ jR∧Str.ofString "looked" ∈ jR:=by decide +kernel
def plF (co st ch sp:Addr)(num done:Int)(lk:Addr):List (Str×V):=[(Str.ofString "course",.ref co),(Str.ofString "standing",.ref st),(Str.ofString "choices",.ref ch),(Str.ofString "steps",.ref sp),(Str.ofString "number",.int num),(Str.ofString "deeds_done",.int done),(Str.ofString "looked",.ref lk)]
def qCx (K:yZO)(C:Addr):Sp:=fun vs H Q _=>∃(x dx co st ch:Addr),vs=[.ref x,.ref co,.ref st,.ref ch]∧H x=some (.ins C dx [])∧Kind K C jR∧
 ∀(sp lk:Addr) (H':Hp),Saves x H H'→H' x=some (.ins C dx (plF co st ch sp 0 0 lk))→H' sp=some (.lst [])→H' lk=some (.dK [])→H sp=none→H lk=none→sp≠lk→Q .non H'
theorem qOq {C:Addr}(F:Mi K mg "Player" C "Player.__init__" (mth 26 0) ["self","course","standing","choices"]):Dk P w K mg base "Player" C 1 ["self","course","standing","choices"] (qCx K C):=by
 refine F.ok qZf (fun vs H Q E h=>?_) (fun f cdv A outer s H vs Q E hr h=>?_)
 ·obtain⟨_,_,_,_,_,rfl,_⟩:=h
  rfl
 obtain⟨x,dx,co,st,ch,rfl,ex,kd,q⟩:=h
 refine⟨_,(qZ (zN (K:=K) (pv 0) (pv 1))
  (qZ (zN (K:=K) (pv 0) (pv 2))
  (qZ (zN (K:=K) (pv 0) (pv 3))
  (qZ (zN (K:=K) (pv 0) (zE qX))
  (qZ (zN (K:=K) (pv 0) qE)
  (qZ (zN (K:=K) (pv 0) qE)
  (qJ (zN (K:=K) (pv 0) qKq)))))))),?_⟩
 wtm_at "zw"
 refine⟨_,rfl,_,rfl,x,C,dx,_,rfl,ex,kd.cls,kd.no _ pF.1,(show 0<1000 by decide),?_⟩
 generalize hK:upd H x _=K0
 obtain⟨eK0,sK0⟩:=wrote hK
 clear hK
 wtm_at "zw"
 refine⟨_,rfl,_,rfl,x,C,dx,_,rfl,eK0,kd.cls,kd.no _ pF.2.1,(show 1<1000 by decide),?_⟩
 generalize hK:upd K0 x _=K1
 obtain⟨eK1,sK1⟩:=wrote hK
 clear hK
 wtm_at "zw"
 refine⟨_,rfl,_,rfl,x,C,dx,_,rfl,eK1,kd.cls,kd.no _ pF.2.2.1,(show 2<1000 by decide),?_⟩
 generalize hK:upd K1 x _=K2
 obtain⟨eK2,sK2⟩:=wrote hK
 clear hK
 wtm_at "zw"
 refine⟨xF (show 0≤1000000 by decide),fun sp hsp=>?_⟩
 have Ssp:=qV hsp (.lst [])
 have esp:upd K2 sp (.lst []) sp=some (.lst []):=qW
 generalize upd K2 sp (.lst [])=L3 at Ssp esp
 refine⟨_,rfl,x,C,dx,_,rfl,Ssp _ _ eK2,kd.cls,kd.no _ pF.2.2.2.1,(show 3<1000 by decide),?_⟩
 generalize hK:upd L3 x _=K3
 obtain⟨eK3,sK3⟩:=wrote hK
 clear hK
 wtm_at "zw"
 refine⟨_,rfl,x,C,dx,_,rfl,eK3,kd.cls,kd.no _ pF.2.2.2.2.1,(show 4<1000 by decide),?_⟩
 generalize hK:upd K3 x _=K4
 obtain⟨eK4,sK4⟩:=wrote hK
 clear hK
 wtm_at "zw"
 refine⟨_,rfl,x,C,dx,_,rfl,eK4,kd.cls,kd.no _ pF.2.2.2.2.2.1,(show 5<1000 by decide),?_⟩
 generalize hK:upd K4 x _=K5
 obtain⟨eK5,sK5⟩:=wrote hK
 clear hK
 wtm_at "zw"
 intro lk hlk
 have Slk:=qV hlk (.dK [])
 have elk:upd K5 lk (.dK []) lk=some (.dK []):=qW
 generalize upd K5 lk (.dK [])=L6 at Slk elk
 refine⟨_,rfl,x,C,dx,_,rfl,Slk _ _ eK5,kd.cls,kd.no _ pF.2.2.2.2.2.2,(show 6<1000 by decide),?_⟩
 generalize hK:upd L6 x _=K6
 obtain⟨eK6,sK6⟩:=wrote hK
 clear hK
 have xsp:sp≠x:=fun z=>by subst z;rw[Ssp _ _ eK2] at esp;cases esp
 have xlk:lk≠x:=fun z=>by subst z;rw[Slk _ _ eK5] at elk;cases elk
 have z2:Saves x H K2:=sK0.trans (sK1.trans sK2)
 have z25:Saves x K2 K5:=(kM Ssp).trans (sK3.trans (sK4.trans sK5))
 have z56:Saves x K5 K6:=(kM Slk).trans sK6
 have e5:K5 sp=some (.lst []):=(sK3.trans (sK4.trans sK5)) _ _ xsp esp
 exact q sp lk K6 (z2.trans (z25.trans z56)) eK6 (z56 _ _ xsp e5) (sK6 _ _ xlk elk) (z2.back (by rw[eK2];exact fun z=>nomatch z) hsp) ((z2.trans z25).back (by rw[eK5];exact fun z=>nomatch z) hlk) (qB e5 hlk)

def StepIn (H:Hp)(x:Str×Int)(u:V):Prop:=∃a,u=.ref a∧H a=some (.tup [.str x.1,.int x.2])
structure PAd where
 a:CA
 pp:Addr
 dxp:Addr
 st:Addr
 ch:Addr
 sp:Addr
 lk:Addr
structure PSt where
 num:Nat
 vals:List Int
 done:Nat
 steps:List (Str×Int)
 kv:List (Key×V)
structure Mem where
 gk:List (List Key×V)
 xn:List (PKy×Addr×V)
 xc:List (PKy×Addr×V)
 xs:List (PKy×Addr×V)
def Mem.le (m:Mem)(k:Nat):Prop:=m.gk.length≤k∧m.xn.length≤k∧m.xc.length≤k∧m.xs.length≤k
structure Given (H0:Hp)(A:PAd)(W:Wd)(ns:List Nd)(chs:List Int)(bx dx lx:Addr)(bv gv:V):Prop where
 p:H0 A.a.p=some (.tup [.ref bx,.ref dx,.ref lx,bv,gv])
 lies:WAt H0 W bx dx lx bv gv
 ok:WOk W
 nodes:∃nu,H0 A.a.pl=some (.lst nu)∧Paired (NdAt H0) ns nu
 ch:H0 A.ch=some (.lst (intsV chs))
structure Pl (P:Program)(w:World)(K:yZO)(CC CP:Addr)(H0 H:Hp)(A:PAd)(W:Wd)(ns:List Nd)(s:PSt)(m:Mem):Prop where
 same:Same H0 H
 co:H A.a.co=some (.ins CC A.a.dx A.a.fs)
 kc:Kind K CC jG
 pl:H A.pp=some (.ins CP A.dxp (plF A.a.co A.st A.ch A.sp s.num s.done A.lk))
 kp:Kind K CP jR
 std:Std H W A.st s.vals
 forks:∃fu,H A.a.fo=some (.lst fu)∧A.a.fo≠A.sp∧Paired (fun n u=>∃d,u=.ref d∧d≠A.lk∧H d=some (.dK (vO n))) ns fu
 sp:∃su,H A.sp=some (.lst su)∧Paired (StepIn H) s.steps su
 lk:H A.lk=some (.dK s.kv)
 g:H A.a.g=some (.dT m.gk)
 gok:qKn W m.gk
 n:PD P w H A.a.n m.xn
 nok:qKm W m.xn
 c:PD P w H A.a.c m.xc
 cok:qZd H A.sp W m.xc
 s:PD P w H A.a.s m.xs
 sok:qKl W m.xs
 fresh:∀b∈[A.pp,A.sp,A.lk,A.a.g,A.a.n,A.a.c,A.a.s],H0 b=none
 apart:[A.a.co,A.pp,A.sp,A.lk,A.a.g,A.a.n,A.a.c,A.a.s].Nodup
theorem Given.crs {H0 H:Hp}{A:PAd}{W:Wd}{ns:List Nd}{chs:List Int}{bx dx lx:Addr}{bv gv:V}{CC CP:Addr}{s:PSt}{m:Mem}(G:Given H0 A W ns chs bx dx lx bv gv)(p:Pl P w K CC CP H0 H A W ns s m):Crs K CC H A.a W bx dx lx bv gv:=
 ⟨p.co,p.kc,p.same _ _ G.p,G.lies.same p.same,G.ok⟩
theorem Pl.shows {H0 H H':Hp}{A:PAd}{W:Wd}{ns:List Nd}{CC CP:Addr}{s:PSt}{m:Mem}{xs':List (PKy×Addr×V)}(p:Pl P w K CC CP H0 H A W ns s m)(sv:Saves A.a.s H H')(pd:PD P w H' A.a.s xs')(ok:qKl W xs'):Pl P w K CC CP H0 H' A W ns s { m with xs:=xs' }:=by
 have ap:=p.apart
 simp only[List.nodup_cons,yYK,List.not_mem_nil,or_false,not_or] at ap
 obtain⟨⟨a1,a2,a3,a4,a5,a6,a7⟩,⟨b1,b2,b3,b4,b5,b6⟩,⟨c1,c2,c3,c4,c5⟩,⟨d1,d2,d3,d4⟩,⟨e1,e2,e3⟩,⟨f1,f2⟩,g1,_⟩:=ap
 have hs:=p.s.at'
 have ps:∀a xs,a≠A.a.s→PD P w H a xs→PD P w H' a xs:=fun a xs ne h=>⟨sv _ _ ne h.at',fun z hz=>yC hs sv (h.keys z hz),h.le⟩
 have tp:∀b xs,H b=some (.tup xs)→H' b=some (.tup xs):=fun b xs e=>sv _ _ (xT e hs (fun z=>nomatch z)) e
 obtain⟨fu,f1',f2',f3'⟩:=p.forks
 obtain⟨su,s1',s2'⟩:=p.sp
 exact⟨fun b o e=>sv _ _ (qB e (p.fresh _ (by simp))) (p.same _ _ e),sv _ _ a7 p.co,p.kc,sv _ _ b6 p.pl,p.kp,⟨tp _ _ p.std.at',p.std.fits⟩,⟨fu,sv _ _ (xT f1' hs (fun z=>nomatch z)) f1',f2',Paired.mapP f3' fun _ _ ⟨d,e,n,h⟩=>⟨d,e,n,sv _ _ (xT h hs (fun z=>nomatch z)) h⟩⟩,
  ⟨su,sv _ _ c5 s1',Paired.mapP s2' fun _ _ ⟨a,e,h⟩=>⟨a,e,tp _ _ h⟩⟩,sv _ _ d4 p.lk,sv _ _ e3 p.g,p.gok,ps _ _ f2 p.n,p.nok,ps _ _ g1 p.c,fun x v2 v h d2 h2 e2=>(p.cok x v2 v h d2 h2 e2).saves hs sv,pd,ok,p.fresh,p.apart⟩
theorem Pl.needs {H0 H H':Hp}{A:PAd}{W:Wd}{ns:List Nd}{CC CP:Addr}{s:PSt}{m:Mem}{xs':List (PKy×Addr×V)}(p:Pl P w K CC CP H0 H A W ns s m)(sv:Saves A.a.n H H')(pd:PD P w H' A.a.n xs')(ok:qKm W xs'):Pl P w K CC CP H0 H' A W ns s { m with xn:=xs' }:=by
 have ap:=p.apart
 simp only[List.nodup_cons,yYK,List.not_mem_nil,or_false,not_or] at ap
 obtain⟨⟨a1,a2,a3,a4,a5,a6,a7⟩,⟨b1,b2,b3,b4,b5,b6⟩,⟨c1,c2,c3,c4,c5⟩,⟨d1,d2,d3,d4⟩,⟨e1,e2,e3⟩,⟨f1,f2⟩,g1,_⟩:=ap
 have hs:=p.n.at'
 have ps:∀a xs,a≠A.a.n→PD P w H a xs→PD P w H' a xs:=fun a xs ne h=>⟨sv _ _ ne h.at',fun z hz=>yC hs sv (h.keys z hz),h.le⟩
 have tp:∀b xs,H b=some (.tup xs)→H' b=some (.tup xs):=fun b xs e=>sv _ _ (xT e hs (fun z=>nomatch z)) e
 obtain⟨fu,f1',f2',f3'⟩:=p.forks
 obtain⟨su,s1',s2'⟩:=p.sp
 exact⟨fun b o e=>sv _ _ (qB e (p.fresh _ (by simp))) (p.same _ _ e),sv _ _ a5 p.co,p.kc,sv _ _ b4 p.pl,p.kp,⟨tp _ _ p.std.at',p.std.fits⟩,⟨fu,sv _ _ (xT f1' hs (fun z=>nomatch z)) f1',f2',Paired.mapP f3' fun _ _ ⟨d,e,n,h⟩=>⟨d,e,n,sv _ _ (xT h hs (fun z=>nomatch z)) h⟩⟩,
  ⟨su,sv _ _ c3 s1',Paired.mapP s2' fun _ _ ⟨a,e,h⟩=>⟨a,e,tp _ _ h⟩⟩,sv _ _ d2 p.lk,sv _ _ e1 p.g,p.gok,pd,ok,ps _ _ (Ne.symm f1) p.c,fun x v2 v h d2 h2 e2=>(p.cok x v2 v h d2 h2 e2).saves hs sv,ps _ _ (Ne.symm f2) p.s,p.sok,p.fresh,p.apart⟩
theorem Pl.comes {H0 H H':Hp}{A:PAd}{W:Wd}{ns:List Nd}{CC CP:Addr}{s:PSt}{m:Mem}{xs':List (PKy×Addr×V)}(p:Pl P w K CC CP H0 H A W ns s m)(sv:Saves A.a.c H H')(pd:PD P w H' A.a.c xs')(ok:qZd H' A.sp W xs'):Pl P w K CC CP H0 H' A W ns s { m with xc:=xs' }:=by
 have ap:=p.apart
 simp only[List.nodup_cons,yYK,List.not_mem_nil,or_false,not_or] at ap
 obtain⟨⟨a1,a2,a3,a4,a5,a6,a7⟩,⟨b1,b2,b3,b4,b5,b6⟩,⟨c1,c2,c3,c4,c5⟩,⟨d1,d2,d3,d4⟩,⟨e1,e2,e3⟩,⟨f1,f2⟩,g1,_⟩:=ap
 have hs:=p.c.at'
 have ps:∀a xs,a≠A.a.c→PD P w H a xs→PD P w H' a xs:=fun a xs ne h=>⟨sv _ _ ne h.at',fun z hz=>yC hs sv (h.keys z hz),h.le⟩
 have tp:∀b xs,H b=some (.tup xs)→H' b=some (.tup xs):=fun b xs e=>sv _ _ (xT e hs (fun z=>nomatch z)) e
 obtain⟨fu,f1',f2',f3'⟩:=p.forks
 obtain⟨su,s1',s2'⟩:=p.sp
 exact⟨fun b o e=>sv _ _ (qB e (p.fresh _ (by simp))) (p.same _ _ e),sv _ _ a6 p.co,p.kc,sv _ _ b5 p.pl,p.kp,⟨tp _ _ p.std.at',p.std.fits⟩,⟨fu,sv _ _ (xT f1' hs (fun z=>nomatch z)) f1',f2',Paired.mapP f3' fun _ _ ⟨d,e,n,h⟩=>⟨d,e,n,sv _ _ (xT h hs (fun z=>nomatch z)) h⟩⟩,
  ⟨su,sv _ _ c4 s1',Paired.mapP s2' fun _ _ ⟨a,e,h⟩=>⟨a,e,tp _ _ h⟩⟩,sv _ _ d3 p.lk,sv _ _ e2 p.g,p.gok,ps _ _ f1 p.n,p.nok,pd,ok,ps _ _ (Ne.symm g1) p.s,p.sok,p.fresh,p.apart⟩
theorem Pl.goals {H0 H H':Hp}{A:PAd}{W:Wd}{ns:List Nd}{CC CP:Addr}{s:PSt}{m:Mem}{gk':List (List Key×V)}(p:Pl P w K CC CP H0 H A W ns s m)(sv:Saves A.a.g H H')(eg:H' A.a.g=some (.dT gk'))(ok:qKn W gk'):Pl P w K CC CP H0 H' A W ns s { m with gk:=gk' }:=by
 have ap:=p.apart
 simp only[List.nodup_cons,yYK,List.not_mem_nil,or_false,not_or] at ap
 obtain⟨⟨a1,a2,a3,a4,a5,a6,a7⟩,⟨b1,b2,b3,b4,b5,b6⟩,⟨c1,c2,c3,c4,c5⟩,⟨d1,d2,d3,d4⟩,⟨e1,e2,e3⟩,⟨f1,f2⟩,g1,_⟩:=ap
 have hs:=p.g
 have tp:∀b xs,H b=some (.tup xs)→H' b=some (.tup xs):=fun b xs e=>sv _ _ (xT e hs (fun z=>nomatch z)) e
 have ps:∀a xs,a≠A.a.g→PD P w H a xs→PD P w H' a xs:=fun a xs ne h=>⟨sv _ _ ne h.at',fun z hz=>let ⟨t,e1,e2⟩:=h.keys z hz;⟨t,tp _ _ e1,tp _ _ e2⟩,h.le⟩
 obtain⟨fu,f1',f2',f3'⟩:=p.forks
 obtain⟨su,s1',s2'⟩:=p.sp
 exact⟨fun b o e=>sv _ _ (qB e (p.fresh _ (by simp))) (p.same _ _ e),sv _ _ a4 p.co,p.kc,sv _ _ b3 p.pl,p.kp,⟨tp _ _ p.std.at',p.std.fits⟩,⟨fu,sv _ _ (xT f1' hs (fun z=>nomatch z)) f1',f2',Paired.mapP f3' fun _ _ ⟨d,e,n,h⟩=>⟨d,e,n,sv _ _ (xT h hs (fun z=>nomatch z)) h⟩⟩,
  ⟨su,sv _ _ c2 s1',Paired.mapP s2' fun _ _ ⟨a,e,h⟩=>⟨a,e,tp _ _ h⟩⟩,sv _ _ d1 p.lk,eg,ok,ps _ _ (Ne.symm e1) p.n,p.nok,ps _ _ (Ne.symm e2) p.c,fun x v2 v h d2 h2 e2=>by
   obtain⟨l,us,e,nv,el,pu⟩:=p.cok x v2 v h d2 h2 e2
   exact⟨l,us,e,nv,sv _ _ (xT el hs (fun z=>nomatch z)) el,Paired.mapP pu fun _ _ ⟨t,e,et⟩=>⟨t,e,tp _ _ et⟩⟩,ps _ _ (Ne.symm e3) p.s,p.sok,p.fresh,p.apart⟩
theorem Pl.newer {H0 H H':Hp}{A:PAd}{W:Wd}{ns:List Nd}{CC CP:Addr}{s:PSt}{m:Mem}(p:Pl P w K CC CP H0 H A W ns s m)(S:Same H H'):Pl P w K CC CP H0 H' A W ns s m:=by
 obtain⟨fu,f1',f2',f3'⟩:=p.forks
 obtain⟨su,s1',s2'⟩:=p.sp
 exact⟨p.same.trans S,S _ _ p.co,p.kc,S _ _ p.pl,p.kp,⟨S _ _ p.std.at',p.std.fits⟩,⟨fu,S _ _ f1',f2',Paired.mapP f3' fun _ _ ⟨d,e,n,h⟩=>⟨d,e,n,S _ _ h⟩⟩,
  ⟨su,S _ _ s1',Paired.mapP s2' fun _ _ ⟨a,e,h⟩=>⟨a,e,S _ _ h⟩⟩,S _ _ p.lk,S _ _ p.g,p.gok,p.n.same S,p.nok,p.c.same S,fun x v2 v h d2 h2 e2=>(p.cok x v2 v h d2 h2 e2).same S,p.s.same S,p.sok,p.fresh,p.apart⟩
theorem Pl.step {H0 H H':Hp}{A:PAd}{W:Wd}{ns:List Nd}{CC CP:Addr}{s:PSt}{m:Mem}{su:List V}{x:Str×Int}{u:V}(p:Pl P w K CC CP H0 H A W ns s m)(sv:Saves A.sp H H')(e:H A.sp=some (.lst su))(pu:Paired (StepIn H) s.steps su)(hu:StepIn H x u)(e':H' A.sp=some (.lst (su++[u]))):Pl P w K CC CP H0 H' A W ns { s with steps:=s.steps++[x] } m:=by
 have ap:=p.apart
 simp only[List.nodup_cons,yYK,List.not_mem_nil,or_false,not_or] at ap
 obtain⟨⟨a1,a2,a3,a4,a5,a6,a7⟩,⟨b1,b2,b3,b4,b5,b6⟩,⟨c1,c2,c3,c4,c5⟩,⟨d1,d2,d3,d4⟩,⟨e1,e2,e3⟩,⟨f1,f2⟩,g1,_⟩:=ap
 have tp:∀b xs,H b=some (.tup xs)→H' b=some (.tup xs):=fun b xs h=>sv _ _ (xT h e (fun z=>nomatch z)) h
 have ps:∀a xs,a≠A.sp→PD P w H a xs→PD P w H' a xs:=fun a xs ne h=>⟨sv _ _ ne h.at',fun z hz=>let ⟨t,e1,e2⟩:=h.keys z hz;⟨t,tp _ _ e1,tp _ _ e2⟩,h.le⟩
 have st:∀y v,StepIn H y v→StepIn H' y v:=fun y v ⟨a,h1,h2⟩=>⟨a,h1,tp _ _ h2⟩
 obtain⟨fu,f1',f2',f3'⟩:=p.forks
 exact⟨fun b o h=>sv _ _ (qB h (p.fresh _ (by simp))) (p.same _ _ h),sv _ _ a2 p.co,p.kc,sv _ _ b1 p.pl,p.kp,⟨tp _ _ p.std.at',p.std.fits⟩,⟨fu,sv _ _ f2' f1',f2',Paired.mapP f3' fun _ _ ⟨d,h1,n,h⟩=>⟨d,h1,n,sv _ _ (xT h e (fun z=>nomatch z)) h⟩⟩,
  ⟨_,e',Paired.snoc (Paired.mapP pu st) (st _ _ hu)⟩,sv _ _ (Ne.symm c1) p.lk,sv _ _ (Ne.symm c2) p.g,p.gok,ps _ _ (Ne.symm c3) p.n,p.nok,ps _ _ (Ne.symm c4) p.c,fun x v2 v h d2 h2 z2=>by
   obtain⟨l,us,h1,nv,el,pq⟩:=p.cok x v2 v h d2 h2 z2
   exact⟨l,us,h1,nv,sv _ _ nv el,Paired.mapP pq fun _ _ ⟨t,h3,et⟩=>⟨t,h3,tp _ _ et⟩⟩,ps _ _ (Ne.symm c5) p.s,p.sok,p.fresh,p.apart⟩

theorem qYb {vals:List Int}{i:Nat}(h:i<vals.length):vals[i]? = some (vals.getD i 0):=by
 rw[List.getD_eq_getElem?_getD,yYA h];rfl
theorem qBd {bs:List (Str×Int)}{wy:List (Str×Th)}{vals:List Int}(f:Fits bs vals)(h:∀b∈bs,2≤b.2):Fits bs (xO bs wy vals):=by
 refine⟨yQ f.1,fun i b v eb ev=>?_⟩
 have hi:i<vals.length:=by rw[f.1];exact(yYB.mp eb).1
 rw[qZc eb (qYb hi)] at ev
 have fb:=f.2 i b _ eb (qYb hi)
 have b2:=h b (yYE eb)
 generalize wy.lookup b.1=o at ev
 cases o with
 | none=>cases ev;exact fb
 | some x=>cases ev;exact⟨Int.emod_nonneg _ (by omega),Int.emod_lt_of_pos _ (by omega)⟩
theorem vW {x:Addr}{H:Hp}{o:HO}:Saves x H (upd H x o):=fun b _ hb e=>by rw[qA hb];exact e
theorem Pl.set {H0 H H':Hp}{A:PAd}{W:Wd}{ns:List Nd}{CC CP:Addr}{s:PSt}{m:Mem}{st' lk':Addr}{num' done':Nat}{vals':List Int}{kv':List (Key×V)}(p:Pl P w K CC CP H0 H A W ns s m)(sv:Saves A.pp H H')(e':H' A.pp=some (.ins CP A.dxp (plF A.a.co st' A.ch A.sp num' done' lk')))
  (sd:Std H' W st' vals') (el:H' lk'=some (.dK kv')) (hl:lk'=A.lk∨H lk'=none):Pl P w K CC CP H0 H' { A with st:=st',lk:=lk' } W ns { num:=num',vals:=vals',done:=done',steps:=s.steps,kv:=kv' } m:=by
 have ap:=p.apart
 simp only[List.nodup_cons,yYK,List.not_mem_nil,or_false,not_or] at ap
 obtain⟨⟨a1,a2,a3,a4,a5,a6,a7⟩,⟨b1,b2,b3,b4,b5,b6⟩,⟨c1,c2,c3,c4,c5⟩,⟨d1,d2,d3,d4⟩,⟨e1,e2,e3⟩,⟨f1,f2⟩,g1,_⟩:=ap
 have hp:=p.pl
 have tp:∀b xs,H b=some (.tup xs)→H' b=some (.tup xs):=fun b xs h=>sv _ _ (xT h hp (fun z=>nomatch z)) h
 have ps:∀a xs,a≠A.pp→PD P w H a xs→PD P w H' a xs:=fun a xs ne h=>⟨sv _ _ ne h.at',fun z hz=>let ⟨t,e1,e2⟩:=h.keys z hz;⟨t,tp _ _ e1,tp _ _ e2⟩,h.le⟩
 obtain⟨fu,f1',f2',f3'⟩:=p.forks
 obtain⟨su,s1',s2'⟩:=p.sp
 have nl:∀b o,H b=some o→b≠A.lk→b≠lk':=fun b o h hb=>by
  rcases hl with z | z
  ·rw[z];exact hb
  ·exact qB h z
 refine⟨fun b o h=>sv _ _ (qB h (p.fresh _ (by simp))) (p.same _ _ h),sv _ _ a1 p.co,p.kc,e',p.kp,sd,⟨fu,sv _ _ (xT f1' hp (fun z=>nomatch z)) f1',f2',Paired.mapP f3' fun _ _ ⟨d,h1,n,h⟩=>⟨d,h1,nl _ _ h n,sv _ _ (xT h hp (fun z=>nomatch z)) h⟩⟩,
  ⟨su,sv _ _ (Ne.symm b1) s1',Paired.mapP s2' fun _ _ ⟨a,h1,h⟩=>⟨a,h1,tp _ _ h⟩⟩,el,sv _ _ (Ne.symm b3) p.g,p.gok,ps _ _ (Ne.symm b4) p.n,p.nok,ps _ _ (Ne.symm b5) p.c,fun x v2 v h d2 h2 z2=>by
   obtain⟨l,us,h1,nv,el,pq⟩:=p.cok x v2 v h d2 h2 z2
   exact⟨l,us,h1,nv,sv _ _ (xT el hp (fun z=>nomatch z)) el,Paired.mapP pq fun _ _ ⟨t,h3,et⟩=>⟨t,h3,tp _ _ et⟩⟩,ps _ _ (Ne.symm b6) p.s,p.sok,?_,?_⟩
 ·have fr:H0 lk'=none:=by
   rcases hl with z | z
   ·rw[z];exact p.fresh _ (by simp)
   ·exact p.same.free z
  intro b hb
  simp only[yYK,List.not_mem_nil,or_false] at hb
  rcases hb with rfl | rfl | rfl | rfl | rfl | rfl | rfl
  ·exact p.fresh _ (by simp)
  ·exact p.fresh _ (by simp)
  ·exact fr
  ·exact p.fresh _ (by simp)
  ·exact p.fresh _ (by simp)
  ·exact p.fresh _ (by simp)
  ·exact p.fresh _ (by simp)
 ·have q1:=nl _ _ p.co a3
  have q2:=nl _ _ hp b2
  have q3:=nl _ _ s1' c1
  have q4:=nl _ _ p.g (Ne.symm d1)
  have q5:=nl _ _ p.n.at' (Ne.symm d2)
  have q6:=nl _ _ p.c.at' (Ne.symm d3)
  have q7:=nl _ _ p.s.at' (Ne.symm d4)
  simp only[List.nodup_cons,yYK,List.not_mem_nil,or_false,not_or,not_false_eq_true,List.nodup_nil,and_true]
  exact⟨⟨a1,a2,q1,a4,a5,a6,a7⟩,⟨b1,q2,b3,b4,b5,b6⟩,⟨q3,c2,c3,c4,c5⟩,⟨q4.symm,q5.symm,q6.symm,q7.symm⟩,⟨e1,e2,e3⟩,⟨f1,f2⟩,g1⟩
theorem Pl.mark {H0 H H':Hp}{A:PAd}{W:Wd}{ns:List Nd}{CC CP:Addr}{s:PSt}{m:Mem}{kv':List (Key×V)}(p:Pl P w K CC CP H0 H A W ns s m)(sv:Saves A.lk H H')(e':H' A.lk=some (.dK kv')):Pl P w K CC CP H0 H' A W ns { s with kv:=kv' } m:=by
 have ap:=p.apart
 simp only[List.nodup_cons,yYK,List.not_mem_nil,or_false,not_or] at ap
 obtain⟨⟨a1,a2,a3,a4,a5,a6,a7⟩,⟨b1,b2,b3,b4,b5,b6⟩,⟨c1,c2,c3,c4,c5⟩,⟨d1,d2,d3,d4⟩,⟨e1,e2,e3⟩,⟨f1,f2⟩,g1,_⟩:=ap
 have hp:=p.lk
 have tp:∀b xs,H b=some (.tup xs)→H' b=some (.tup xs):=fun b xs h=>sv _ _ (xT h hp (fun z=>nomatch z)) h
 have ps:∀a xs,a≠A.lk→PD P w H a xs→PD P w H' a xs:=fun a xs ne h=>⟨sv _ _ ne h.at',fun z hz=>let ⟨t,e1,e2⟩:=h.keys z hz;⟨t,tp _ _ e1,tp _ _ e2⟩,h.le⟩
 obtain⟨fu,f1',f2',f3'⟩:=p.forks
 obtain⟨su,s1',s2'⟩:=p.sp
 exact⟨fun b o h=>sv _ _ (qB h (p.fresh _ (by simp))) (p.same _ _ h),sv _ _ a3 p.co,p.kc,sv _ _ b2 p.pl,p.kp,⟨tp _ _ p.std.at',p.std.fits⟩,⟨fu,sv _ _ (xT f1' hp (fun z=>nomatch z)) f1',f2',Paired.mapP f3' fun _ _ ⟨d,h1,n,h⟩=>⟨d,h1,n,sv _ _ n h⟩⟩,
  ⟨su,sv _ _ c1 s1',Paired.mapP s2' fun _ _ ⟨a,h1,h⟩=>⟨a,h1,tp _ _ h⟩⟩,e',sv _ _ (Ne.symm d1) p.g,p.gok,ps _ _ (Ne.symm d2) p.n,p.nok,ps _ _ (Ne.symm d3) p.c,fun x v2 v h d2 h2 z2=>by
   obtain⟨l,us,h1,nv,el,pq⟩:=p.cok x v2 v h d2 h2 z2
   exact⟨l,us,h1,nv,sv _ _ (xT el hp (fun z=>nomatch z)) el,Paired.mapP pq fun _ _ ⟨t,h3,et⟩=>⟨t,h3,tp _ _ et⟩⟩,ps _ _ (Ne.symm d4) p.s,p.sok,p.fresh,p.apart⟩
def forkTo:List (Int×Int)→Int→Option Int
 | [],_=>none
 | p::fs,x=>(forkTo fs x).or (if p.1=x then some p.2 else none)
theorem qTv:∀(fs:List (Int×Int)) (kv:List (Key×V)) (x:Int),valV (mergeK kv (pairI fs)) (Sum.inl x)=((forkTo fs x).map V.int).or (valV kv (Sum.inl x)):=by
 intro fs
 induction fs with
 | nil=>intro kv x;rfl
 | cons p fs ih=>
  intro kv x
  show valV (mergeK (putK kv (Sum.inl p.1) (.int p.2)) (pairI fs)) (Sum.inl x)=(((forkTo fs x).or (if p.1=x then some p.2 else none)).map V.int).or (valV kv (Sum.inl x))
  rw[ih,jT]
  cases forkTo fs x with
  | some r=>rfl
  | none=>
   by_cases e:p.1=x
   ·subst e;simp
   ·have:¬((Sum.inl x:Key)=Sum.inl p.1):=fun z=>e (Sum.inl.inj z).symm
    simp[this,e]
theorem qNx (y:Str)(fs:List (Int×Int))(x:Int):valV (vO (.see y fs)) (Sum.inl x)=(forkTo fs x).map V.int:=by
 show valV (mergeK [] (pairI fs)) _=_
 rw[qTv]
 cases forkTo fs x <;> rfl
theorem qJn {x k:Int}:∀{fs:List (Int×Int)},forkTo fs x=some k→∃f∈fs,f.2=k:=by
 intro fs
 induction fs with
 | nil=>intro h;cases h
 | cons p fs ih=>
  intro h
  change (forkTo fs x).or (if p.1=x then some p.2 else none)=some k at h
  cases e:forkTo fs x with
  | some r=>
   rw[e] at h
   obtain⟨f,h1,h2⟩:=ih (e.trans h)
   exact⟨f,yYH _ h1,h2⟩
  | none=>
   rw[e] at h
   by_cases z:p.1=x
   ·rw[if_pos z] at h
    exact⟨p,yYG,Option.some.inj h⟩
   ·rw[if_neg z] at h
    cases h
def lookS (W:Wd)(s:PSt)(l:Look)(fs:List (Int×Int)):Option Str×PSt:=match valV s.kv (Sum.inl (s.num:Int)) with
 | some _=>(some (Str.ofString "round"),s)
 | none=>match forkTo fs (l.part.worth (envOf (kvsOf W.bs s.vals))) with
  | none=>(some (Str.ofString "lost"),{ s with kv:=putK s.kv (Sum.inl (s.num:Int)) (.bl true),steps:=s.steps++[(l.name,l.part.worth (envOf (kvsOf W.bs s.vals)))] })
  | some k=>(none,{ num:=k.toNat,vals:=s.vals,done:=s.done,kv:=putK s.kv (Sum.inl (s.num:Int)) (.bl true),steps:=s.steps++[(l.name,l.part.worth (envOf (kvsOf W.bs s.vals)))] })
def deedS (W:Wd)(chs:List Int)(s:PSt)(d:Deed)(to:Int):Option Str×PSt:=match d.need.truth (envOf (kvsOf W.bs s.vals)) with
 | false=>(some (Str.ofString "need"),s)
 | true=>match chs[s.done]? with
  | none=>(some (Str.ofString "open"),s)
  | some c=>(none,{ num:=to.toNat,vals:=xO W.bs (d.ways.getD (c % (d.ways.length:Int)).toNat []) s.vals,done:=s.done+1,steps:=s.steps++[(d.name,c % (d.ways.length:Int))],kv:=[] })
def goS (W:Wd)(ns:List Nd)(chs:List Int)(s:PSt):Option Str×PSt:=match ns[s.num]? with
 | some .fin=>(some (match W.gt.truth (envOf (kvsOf W.bs s.vals)) with | true=>Str.ofString "goal" | false=>Str.ofString "short"),s)
 | some (.act x to)=>match W.ds.find? (fun d=>decide (d.name=x)) with
  | some d=>deedS W chs s d to
  | none=>(some (Str.ofString "lost"),s)
 | some (.see x fs)=>match W.ls.find? (fun d=>decide (d.name=x)) with
  | some l=>lookS W s l fs
  | none=>(some (Str.ofString "lost"),s)
 | none=>(some (Str.ofString "lost"),s)
def runS (W:Wd)(ns:List Nd)(chs:List Int):Nat→PSt→Option (Str×PSt)
 | 0,_=>none
 | k+1,s=>match goS W ns chs s with
  | (some e,s')=>some (e,s')
  | (none,s')=>runS W ns chs k s'
def endV:Option Str→V
 | none=>.non
 | some e=>.str e
structure NsOk (W:Wd)(ns:List Nd):Prop where
 act:∀x to,Nd.act x to∈ns→(∃d∈W.ds,d.name=x)∧0≤to∧to<(ns.length:Int)
 see:∀x fs,Nd.see x fs∈ns→(∃l∈W.ls,l.name=x)∧∀f∈fs,0≤f.2∧f.2<(ns.length:Int)
theorem qWk {α:Type}{f:α→Str}{l:List α}(nd:(l.map f).Nodup){a:α}(ha:a∈l):l.find? (fun d=>decide (f d=f a))=some a:=by
 cases e:l.find? (fun d=>decide (f d=f a)) with
 | none=>exact absurd (decide_eq_true rfl) (List.find?_eq_none.mp e a ha)
 | some b=>rw[jP nd (List.mem_of_find?_eq_some e) ha (of_decide_eq_true (List.find?_some (p:=fun d=>decide (f d=f a)) e))]
theorem xQv {W:Wd}{ns:List Nd}{chs:List Int}{s s':PSt}(ok:NsOk W ns)(hd:s.done≤chs.length)(h:goS W ns chs s=(none,s')):s'.num<ns.length∧s'.done≤chs.length:=by
 unfold goS at h
 cases e:ns[s.num]? with
 | none=>rw[e] at h;cases h
 | some n=>
  rw[e] at h
  cases n with
  | fin=>cases h
  | act x to=>
   have o:=ok.act x to (yYE e)
   cases e2:W.ds.find? (fun d=>decide (d.name=x)) with
   | none=>simp only[e2] at h;cases h
   | some d=>
    simp only[e2,deedS] at h
    cases e3:d.need.truth (envOf (kvsOf W.bs s.vals)) with
    | false=>simp only[e3] at h;cases h
    | true=>
     simp only[e3] at h
     cases e4:chs[s.done]? with
     | none=>simp only[e4] at h;cases h
     | some c=>
      simp only[e4] at h
      have lt:=(yYB.mp e4).1
      cases h
      exact⟨by show to.toNat<_;omega,by show s.done+1≤_;omega⟩
  | see x fs=>
   have o:=ok.see x fs (yYE e)
   cases e2:W.ls.find? (fun d=>decide (d.name=x)) with
   | none=>simp only[e2] at h;cases h
   | some l=>
    simp only[e2,lookS] at h
    cases e3:valV s.kv (Sum.inl (s.num:Int)) with
    | some v=>simp only[e3] at h;cases h
    | none=>
     simp only[e3] at h
     cases e4:forkTo fs (l.part.worth (envOf (kvsOf W.bs s.vals))) with
     | none=>simp only[e4] at h;cases h
     | some k=>
      simp only[e4] at h
      obtain⟨f,hf,z⟩:=qJn e4
      have b:=o.2 f hf
      cases h
      exact⟨by show k.toNat<_;omega,hd⟩
theorem qUh {a C dx a2 C2 dx2:Addr}{fs fs2:List (Str×V)}{ms ms2:List Str}{v2:V}{f g:Str}{i:Nat}{σ:St}{H:Hp}{Q:VK}(hv:σ[i]? = some (some (.ref a)))(ha:H a=some (.ins C dx fs))(kd:Kind K C ms)(hf:f∈ms)(l:fs.lookup f=some (.ref a2))(ha2:H a2=some (.ins C2 dx2 fs2))(kd2:Kind K C2 ms2)(hg:g∈ms2)(l2:fs2.lookup g=some v2)(q:Q v2 H):tFld K (tFld K (tVar i) f) g σ H Q:=
 ⟨_,hv,a,C,dx,fs,.ref a2,rfl,ha,kd.cls,kd.no f hf,l,a2,C2,dx2,fs2,v2,rfl,ha2,kd2.cls,kd2.no g hg,l2,q⟩
section
variable {co st ch sp lk:Addr}{num done:Int}
theorem qJw:(plF co st ch sp num done lk).lookup (Str.ofString "course")=some (.ref co):=rfl
theorem qVb:(plF co st ch sp num done lk).lookup (Str.ofString "standing")=some (.ref st):=rfl
theorem qUn:(plF co st ch sp num done lk).lookup (Str.ofString "choices")=some (.ref ch):=rfl
theorem qIq:(plF co st ch sp num done lk).lookup (Str.ofString "steps")=some (.ref sp):=rfl
theorem qRi:(plF co st ch sp num done lk).lookup (Str.ofString "number")=some (.int num):=rfl
theorem xXf:(plF co st ch sp num done lk).lookup (Str.ofString "deeds_done")=some (.int done):=rfl
theorem qUm:(plF co st ch sp num done lk).lookup (Str.ofString "looked")=some (.ref lk):=rfl
end
def Lt (s:PSt)(m:Mem)(k:Nat):Prop:=m.le k∧s.steps.length≤k∧s.kv.length≤k
def PAd.Of (A' A:PAd):Prop:=A'.a=A.a∧A'.ch=A.ch∧A'.pp=A.pp
theorem jC:xH ["self","name","worth","forks"] ["self","name"] (xA (mth 26 3)):=⟨rfl,rfl,rfl,by decide +kernel,rfl,by decide +kernel,by decide +kernel⟩
def qCb (P:Program)(w:World)(K:yZO)(CC CP:Addr):Sp:=fun vs H Q _=>∃(H0:Hp) (A:PAd) (W:Wd) (ns:List Nd) (chs:List Int) (bx dx lx:Addr) (bv gv:V) (s:PSt) (m:Mem) (k:Nat) (l:Look) (fs:List (Int×Int)),vs=[.ref A.pp,.str l.name]∧Given H0 A W ns chs bx dx lx bv gv∧Pl P w K CC CP H0 H A W ns s m∧l∈W.ls∧ns[s.num]? = some (.see l.name fs)∧(∀f∈fs,0≤f.2)∧Lt s m k∧k<9000∧
 ∀(A':PAd) (s':PSt) (m':Mem) (e:Option Str) (H':Hp),lookS W s l fs=(e,s')→A'.Of A→Pl P w K CC CP H0 H' A' W ns s' m'→Lt s' m' (k+1)→Q (endV e) H'
theorem qFj {CC CP:Addr}(CL_Course:Cls K CC)(F:Md K CP "do_look" "Player.do_look" (mth 26 3) ["self","name"])(D_Course_shows:Dm P w K mg base CC "shows" 16 ["self","name","standing"] (qGi P w K CC)):Dm P w K mg base CP "do_look" 29 ["self","name"] (qCb P w K CC CP):=by
 refine F.ok jC (fun vs H Q E h=>?_) (fun f cdv A' outer s' H vs Q E hr h=>?_)
 ·obtain⟨_,_,_,_,_,_,_,_,_,_,_,_,_,_,_,rfl,_⟩:=h
  rfl
 obtain⟨H0,A,W,ns,chs,bx,dx,lx,bv,gv,s,m,k,l,fs,rfl,G,p,hl,en,hfs,⟨⟨g1,g2,g3,g4⟩,g5,g6⟩,hk,q⟩:=h
 have hu:=qSo hr
 refine⟨_,(qZ (xU (qJv (xKc hu (xI (K:=K) (pv 0)) (xI (K:=K) (pv 0))) (by with_unfolding_all rfl)) (qJ (qN qF)) qY)
  (qZ (qAa hu (xI (K:=K) (pv 0)) (xI (K:=K) (pv 0)) qAd rfl)
  (qZ (qM (i:=2) jC.nd rfl (by wtm_at "zo") (vX D_Course_shows CL_Course (xI (K:=K) (pv 0)) hr (qQ (pv 1) (qQ (xI (K:=K) (pv 0)) qX))))
  (qZ (qP (kS (K:=K) PySem.F.plainAttrs_list PySem.F.slot_list_append PySem.F.type_list_append zP (xI (K:=K) (pv 0)) (qQ (zV (qQ (pv 1) (qQ (pv 2) qX))) qX)))
  (qZ (qM (i:=3) jC.nd rfl (by wtm_at "zo") (xE (qT (K:=K)) (xI (K:=K) (xI (K:=K) (pv 0))) (xI (K:=K) (pv 0)) (fun _ _=>rfl)))
  (qZ (xU (qJv (qVd hu (pv 2) (pv 3)) (by with_unfolding_all rfl)) (qJ (qN qF)) qY)
  (qZ (zN (K:=K) (pv 0) (qXa hu (pv 3) (pv 2) (fun _ _=>rfl)))
  (qJ (qN wO))))))))),?_⟩
 wtm_at "zw"
 refine xR rfl p.pl p.kp pF.2.2.2.2.1 qRi (xR rfl p.pl p.kp pF.2.2.2.2.2.2 qUm ⟨A.lk,_,rfl,DGet.k (k:=Sum.inl (s.num:Int)) p.lk,_,rfl,?_⟩)
 cases e:valV s.kv (Sum.inl (s.num:Int)) with
 | some v=>
  refine iteT ?_
  wtm_at "zw"
  exact q A s m (some (Str.ofString "round")) H (by simp only[lookS,e]) ⟨rfl,rfl,rfl⟩ p ⟨⟨by omega,by omega,by omega,by omega⟩,by omega,by omega⟩
 | none=>
  refine iteF ?_
  wtm_at "zw"
  refine xR rfl p.pl p.kp pF.2.2.2.2.2.2 qUm (xR rfl p.pl p.kp pF.2.2.2.2.1 qRi ⟨A.lk,_,rfl,DPut.k (k:=Sum.inl (s.num:Int)) p.lk (small (by omega)),?_⟩)
  have lp:=yJ s.kv (Sum.inl (s.num:Int)) (.bl true)
  have p1:=p.mark (kv':=putK s.kv (Sum.inl (s.num:Int)) (.bl true)) vW qW
  generalize upd H A.lk (.dK (putK s.kv (Sum.inl (s.num:Int)) (.bl true)))=H1 at p1
  wtm_at "zw"
  refine xR rfl p1.pl p1.kp pF.1 qJw ⟨A.a.co,A.a.dx,A.a.fs,rfl,p1.co,rfl,?_⟩
  wtm_at "zw"
  refine xR rfl p1.pl p1.kp pF.2.1 qVb ?_
  wtm_at "zw"
  refine⟨A.a,W,bx,dx,lx,bv,gv,A.st,s.vals,l,m.xs,rfl,G.crs p1,p1.std,hl,p1.s,by omega,p1.sok,fun xs' H2 sv2 pd2 ok2 l2=>?_⟩
  have p2:=p1.shows sv2 pd2 ok2
  wtm_at "zw"
  obtain⟨su,es,ps⟩:=p2.sp
  have ls:su.length=s.steps.length:=ps.length.symm
  refine xR rfl p2.pl p2.kp pF.2.2.2.1 qIq (xQf (SqL.of es) ?_)
  wtm_at "zw"
  refine⟨xF (show 2≤1000000 by decide),fun tt htt=>?_⟩
  have S3:=qV htt (.tup [V.str l.name,V.int (l.part.worth (envOf (kvsOf W.bs s.vals)))])
  have ett:upd H2 tt (.tup [V.str l.name,V.int (l.part.worth (envOf (kvsOf W.bs s.vals)))]) tt=some (.tup [V.str l.name,V.int (l.part.worth (envOf (kvsOf W.bs s.vals)))]):=qW
  generalize upd H2 tt (.tup [V.str l.name,V.int (l.part.worth (envOf (kvsOf W.bs s.vals)))])=H3 at S3 ett
  have p3:=p2.newer S3
  wtm_at "zw"
  refine qYa (S3 _ _ es) (small (by omega)) ?_
  have p4:=p3.step (x:=(l.name,l.part.worth (envOf (kvsOf W.bs s.vals)))) (u:=.ref tt) vW (S3 _ _ es) (Paired.mapP ps fun _ _ ⟨a,h1,h2⟩=>⟨a,h1,S3 _ _ h2⟩) ⟨tt,rfl,ett⟩ qW
  generalize upd H3 A.sp (.lst (su++[.ref tt]))=H4 at p4
  wtm_at "zw"
  obtain⟨fu,ef,_,pf⟩:=p4.forks
  obtain⟨u,eu⟩:∃u,fu[s.num]? = some u:=⟨_,yYA (by rw[← pf.length];exact(yYB.mp en).1)⟩
  obtain⟨d,rfl,nd,ed⟩:=xK pf en eu
  refine qUh rfl p4.pl p4.kp pF.1 qJw p4.co p4.kc cF.2.2.1 A.a.l3 (xR rfl p4.pl p4.kp pF.2.2.2.2.1 qRi (xQg (SqL.of ef) (zQ eu) ?_))
  wtm_at "zw"
  have dg:DGet H4 d (.int (l.part.worth (envOf (kvsOf W.bs s.vals)))) ((forkTo fs (l.part.worth (envOf (kvsOf W.bs s.vals)))).map V.int):=by
   rw[← qNx l.name]
   exact DGet.k (k:=Sum.inl (l.part.worth (envOf (kvsOf W.bs s.vals)))) ed
  refine⟨_,rfl,_,rfl,d,_,rfl,dg,_,rfl,?_⟩
  cases ek:forkTo fs (l.part.worth (envOf (kvsOf W.bs s.vals))) with
  | none=>
   refine iteT ?_
   wtm_at "zw"
   refine q A _ _ (some (Str.ofString "lost")) H4 (by simp only[lookS,e,ek]) ⟨rfl,rfl,rfl⟩ p4 ⟨⟨?_,?_,?_,?_⟩,?_,?_⟩
   ·show m.gk.length≤_;omega
   ·show m.xn.length≤_;omega
   ·show m.xc.length≤_;omega
   ·show xs'.length≤_;omega
   ·show(s.steps++[_]).length≤_;rw[yYI];show _+1≤_;omega
   ·show(putK _ _ _).length≤_;omega
  | some kk=>
   rw[ek] at dg
   refine iteF ?_
   refine⟨_,rfl,_,rfl,d,.int kk,rfl,dg,_,rfl,A.pp,CP,A.dxp,_,rfl,p4.pl,p4.kp.cls,p4.kp.no _ pF.2.2.2.2.1,(show 7<1000 by decide),?_⟩
   obtain⟨g0,hg0,z0⟩:=qJn ek
   have k0:((kk.toNat:Nat):Int)=kk:=Int.toNat_of_nonneg (by rw[← z0];exact hfs g0 hg0)
   have p5:=p4.set (st':=A.st) (lk':=A.lk) (num':=kk.toNat) (done':=s.done) (H':=upd H4 A.pp (.ins CP A.dxp (putF (Str.ofString "number") (.int kk) (plF A.a.co A.st A.ch A.sp s.num s.done A.lk)))) vW (by rw[k0];exact qW) ⟨vW _ _ (xT p4.std.at' p4.pl (fun z=>nomatch z)) p4.std.at',p4.std.fits⟩ (vW _ _ (xT p4.lk p4.pl (fun z=>nomatch z)) p4.lk) (.inl rfl)
   generalize upd H4 A.pp (.ins CP A.dxp (putF (Str.ofString "number") (.int kk) (plF A.a.co A.st A.ch A.sp s.num s.done A.lk)))=H5 at p5
   wtm_at "zw"
   refine q _ _ _ none H5 (by simp only[lookS,e,ek]) ⟨rfl,rfl,rfl⟩ p5 ⟨⟨?_,?_,?_,?_⟩,?_,?_⟩
   ·show m.gk.length≤_;omega
   ·show m.xn.length≤_;omega
   ·show m.xc.length≤_;omega
   ·show xs'.length≤_;omega
   ·show(s.steps++[_]).length≤_;rw[yYI];show _+1≤_;omega
   ·show(putK _ _ _).length≤_;omega
theorem jD:xH ["self","name","follower","coming","way"] ["self","name","follower"] (xA (mth 26 2)):=⟨rfl,rfl,rfl,by decide +kernel,rfl,by decide +kernel,by decide +kernel⟩
def qCc (P:Program)(w:World)(K:yZO)(CC CP:Addr):Sp:=fun vs H Q _=>∃(H0:Hp) (A:PAd) (W:Wd) (ns:List Nd) (chs:List Int) (bx dx lx:Addr) (bv gv:V) (s:PSt) (m:Mem) (k:Nat) (d:Deed) (to:Int),vs=[.ref A.pp,.str d.name,.int to]∧Given H0 A W ns chs bx dx lx bv gv∧Pl P w K CC CP H0 H A W ns s m∧d∈W.ds∧0≤to∧s.done≤chs.length∧Lt s m k∧k<9000∧
 ∀(A':PAd) (s':PSt) (m':Mem) (e:Option Str) (H':Hp),deedS W chs s d to=(e,s')→A'.Of A→Pl P w K CC CP H0 H' A' W ns s' m'→Lt s' m' (k+1)→Q (endV e) H'
theorem qFk {CC CP:Addr}(CL_Course:Cls K CC)(B:Bl mg)(F:Md K CP "do_deed" "Player.do_deed" (mth 26 2) ["self","name","follower"])(D_Course_need_holds:Dm P w K mg base CC "need_holds" 27 ["self","name","standing"] (spNeed P w K CC))(D_Course_comes:Dm P w K mg base CC "comes" 16 ["self","name","standing"] (qCe P w K CC)):Dm P w K mg base CP "do_deed" 29 ["self","name","follower"] (qCc P w K CC CP):=by
 refine F.ok jD (fun vs H Q E h=>?_) (fun f cdv A' outer s' H vs Q E hr h=>?_)
 ·obtain⟨_,_,_,_,_,_,_,_,_,_,_,_,_,_,_,rfl,_⟩:=h
  rfl
 obtain⟨H0,A,W,ns,chs,bx,dx,lx,bv,gv,s,m,k,d,to,rfl,G,p,hd,hto,hdn,⟨⟨g1,g2,g3,g4⟩,g5,g6⟩,hk,q⟩:=h
 refine⟨_,(qZ (xU (qVa (qJk (vX D_Course_need_holds CL_Course (xI (K:=K) (pv 0)) hr (qQ (pv 1) (qQ (xI (K:=K) (pv 0)) qX))))) (qJ (qN qF)) qY)
  (qZ (xU (qR zA (xI (K:=K) (pv 0)) (xZ (xP (K:=K)) rfl B.len' zS (qQ (xI (K:=K) (pv 0)) qX)) (xD _)) (qJ (qN qF)) qY)
  (qZ (qM (i:=3) jD.nd rfl (by wtm_at "zo") (vX D_Course_comes CL_Course (xI (K:=K) (pv 0)) hr (qQ (pv 1) (qQ (xI (K:=K) (pv 0)) qX))))
  (qZ (qM (i:=4) jD.nd rfl (by wtm_at "zo") (xQ yE (xE (qT (K:=K)) (xI (K:=K) (pv 0)) (xI (K:=K) (pv 0)) (fun _ _=>rfl)) (xZ (xP (K:=K)) rfl B.len' zS (qQ (pv 3) qX))))
  (qZ (qP (kS (K:=K) PySem.F.plainAttrs_list PySem.F.slot_list_append PySem.F.type_list_append zP (xI (K:=K) (pv 0)) (qQ (zV (qQ (pv 1) (qQ (pv 4) qX))) qX)))
  (qZ (zN (K:=K) (pv 0) (xE (qT (K:=K)) (pv 3) (pv 4) (fun _ _=>rfl)))
  (qZ (zN (K:=K) (pv 0) (pv 2))
  (qZ (qEc (K:=K) (pv 0) qE)
  (qZ (zN (K:=K) (pv 0) qKq)
  (qJ (qN wO))))))))))),?_⟩
 wtm_at "zw"
 refine xR rfl p.pl p.kp pF.1 qJw ⟨A.a.co,A.a.dx,A.a.fs,rfl,p.co,rfl,?_⟩
 wtm_at "zw"
 refine xR rfl p.pl p.kp pF.2.1 qVb ?_
 wtm_at "zw"
 refine⟨A.a,W,bx,dx,lx,bv,gv,A.st,s.vals,d,m.xn,rfl,G.crs p,p.std,hd,p.n,by omega,p.nok,fun xn' H1 sv1 pd1 ok1 l1=>?_⟩
 have p1:=p.needs sv1 pd1 ok1
 have ech:H1 A.ch=some (.lst (intsV chs)):=p1.same _ _ G.ch
 cases en:d.need.truth (envOf (kvsOf W.bs s.vals)) with
 | false=>
  wtm_at "zw"
  exact q A s _ (some (Str.ofString "need")) H1 (by simp only[deedS,en]) ⟨rfl,rfl,rfl⟩ p1 ⟨⟨by show m.gk.length≤_;omega,by show xn'.length≤_;omega,by show m.xc.length≤_;omega,by show m.xs.length≤_;omega⟩,by omega,by omega⟩
 | true=>
  wtm_at "zw"
  refine xR rfl p1.pl p1.kp pF.2.2.2.2.2.1 xXf ?_
  wtm_at "zw"
  refine xR rfl p1.pl p1.kp pF.2.2.1 qUn ?_
  wtm_at "zw"
  rw[zM]
  by_cases ho:s.done=chs.length
  ·refine qBi (decide_eq_true (by rw[ho])) ?_
   wtm_at "zw"
   exact q A s _ (some (Str.ofString "open")) H1 (by simp only[deedS,en,List.getElem?_eq_none (Nat.le_of_eq ho.symm)]) ⟨rfl,rfl,rfl⟩ p1 ⟨⟨by show m.gk.length≤_;omega,by show xn'.length≤_;omega,by show m.xc.length≤_;omega,by show m.xs.length≤_;omega⟩,by omega,by omega⟩
  refine wA (decide_eq_false fun z=>ho (by have:=V.int.inj z;omega)) ?_
  obtain⟨c,ec⟩:∃c,chs[s.done]? = some c:=⟨_,yYA (by omega)⟩
  have ac:atI (intsV chs) (s.done:Int)=some (.int c):=zQ (by show(List.map _ _)[_]? = _;rw[yYO,ec];rfl)
  wtm_at "zw"
  refine xR rfl p1.pl p1.kp pF.1 qJw ⟨A.a.co,A.a.dx,A.a.fs,rfl,p1.co,rfl,?_⟩
  wtm_at "zw"
  refine xR rfl p1.pl p1.kp pF.2.1 qVb ?_
  wtm_at "zw"
  refine⟨A.a,W,bx,dx,lx,bv,gv,A.st,s.vals,d,m.xc,A.sp,rfl,G.crs p1,p1.std,hd,p1.c,by omega,p1.cok,(by obtain⟨su,es,_⟩:=p1.sp;rw[es];exact fun z=>nomatch z),fun xc' v H2 sv2 pd2 ok2 l2 came=>?_⟩
  have p2:=p1.comes sv2 pd2 ok2
  obtain⟨lc,us,rfl,nlc,elc,pu⟩:=came
  have lu:us.length=d.ways.length:=by rw[← pu.length,yYC]
  have dne:=(G.ok.deeds d hd).ne
  have lpos:0<d.ways.length:=List.length_pos_iff.mpr dne
  have ech2:H2 A.ch=some (.lst (intsV chs)):=p2.same _ _ G.ch
  wtm_at "zw"
  refine xR rfl p2.pl p2.kp pF.2.2.1 qUn ?_
  wtm_at "zw"
  refine xR rfl p2.pl p2.kp pF.2.2.2.2.2.1 xXf ?_
  wtm_at "zw"
  rw[lu]
  refine w_I (by show(0:Int)<_;omega) ?_
  have m0:=Int.emod_nonneg c (show((d.ways.length:Nat):Int)≠0 by omega)
  have m1:=Int.emod_lt_of_pos c (show(0:Int)<(d.ways.length:Int) by omega)
  obtain⟨u,eu⟩:∃u,us[(c % (d.ways.length:Int)).toNat]? = some u:=⟨_,yYA (by omega)⟩
  obtain⟨ta,rfl,eta⟩:=xK pu (show(d.ways.map fun wy=>xO W.bs wy s.vals)[(c % (d.ways.length:Int)).toNat]? = some (xO W.bs (d.ways.getD (c % (d.ways.length:Int)).toNat []) s.vals) from by rw[yYO,List.getD_eq_getElem?_getD,yYA (by omega)];rfl) eu
  have au:atI us (c % (d.ways.length:Int))=some (.ref ta):=by
   have:=zQ eu
   rw[Int.toNat_of_nonneg m0] at this
   exact this
  wtm_at "zw"
  obtain⟨su,es,ps⟩:=p2.sp
  have ls:su.length=s.steps.length:=ps.length.symm
  refine xR rfl p2.pl p2.kp pF.2.2.2.1 qIq (xQf (SqL.of es) ?_)
  wtm_at "zw"
  refine⟨xF (show 2≤1000000 by decide),fun tt htt=>?_⟩
  have S3:=qV htt (.tup [V.str d.name,V.int (c % (d.ways.length:Int))])
  have ett:upd H2 tt (.tup [V.str d.name,V.int (c % (d.ways.length:Int))]) tt=some (.tup [V.str d.name,V.int (c % (d.ways.length:Int))]):=qW
  generalize upd H2 tt (.tup [V.str d.name,V.int (c % (d.ways.length:Int))])=H3 at S3 ett
  have p3:=p2.newer S3
  wtm_at "zw"
  refine qYa (S3 _ _ es) (small (by omega)) ?_
  have p4:=p3.step (x:=(d.name,c % (d.ways.length:Int))) (u:=.ref tt) vW (S3 _ _ es) (Paired.mapP ps fun _ _ ⟨a,h1,h2⟩=>⟨a,h1,S3 _ _ h2⟩) ⟨tt,rfl,ett⟩ qW
  have elc4:upd H3 A.sp (.lst (su++[.ref tt])) lc=some (.lst us):=by rw[qA nlc];exact S3 _ _ elc
  have eta4:upd H3 A.sp (.lst (su++[.ref tt])) ta=some (.tup (intsV (xO W.bs (d.ways.getD (c % (d.ways.length:Int)).toNat []) s.vals))):=by rw[qA (xT (S3 _ _ eta) (S3 _ _ es) (fun z=>nomatch z))];exact S3 _ _ eta
  generalize upd H3 A.sp (.lst (su++[.ref tt]))=H4 at p4 elc4 eta4
  wtm_at "zw"
  refine⟨_,rfl,_,rfl,lc,us,_,.ref ta,rfl,rfl,SqL.of elc4,au,_,rfl,A.pp,CP,A.dxp,_,rfl,p4.pl,p4.kp.cls,p4.kp.no _ pF.2.1,(show 7<1000 by decide),?_⟩
  have e5:upd H4 A.pp (.ins CP A.dxp (putF (Str.ofString "standing") (.ref ta) (plF A.a.co A.st A.ch A.sp s.num s.done A.lk))) A.pp=some (.ins CP A.dxp (plF A.a.co ta A.ch A.sp s.num s.done A.lk)):=qW
  have s5:Saves A.pp H4 (upd H4 A.pp (.ins CP A.dxp (putF (Str.ofString "standing") (.ref ta) (plF A.a.co A.st A.ch A.sp s.num s.done A.lk)))):=vW
  generalize upd H4 A.pp (.ins CP A.dxp (putF (Str.ofString "standing") (.ref ta) (plF A.a.co A.st A.ch A.sp s.num s.done A.lk)))=H5 at e5 s5
  wtm_at "zw"
  refine⟨_,rfl,_,rfl,A.pp,CP,A.dxp,_,rfl,e5,p4.kp.cls,p4.kp.no _ pF.2.2.2.2.1,(show 7<1000 by decide),?_⟩
  have e6:upd H5 A.pp (.ins CP A.dxp (putF (Str.ofString "number") (.int to) (plF A.a.co ta A.ch A.sp s.num s.done A.lk))) A.pp=some (.ins CP A.dxp (plF A.a.co ta A.ch A.sp to s.done A.lk)):=qW
  have s6:Saves A.pp H5 (upd H5 A.pp (.ins CP A.dxp (putF (Str.ofString "number") (.int to) (plF A.a.co ta A.ch A.sp s.num s.done A.lk)))):=vW
  generalize upd H5 A.pp (.ins CP A.dxp (putF (Str.ofString "number") (.int to) (plF A.a.co ta A.ch A.sp s.num s.done A.lk)))=H6 at e6 s6
  wtm_at "zw"
  refine⟨_,rfl,A.pp,CP,A.dxp,_,_,rfl,e6,p4.kp.cls,p4.kp.no _ pF.2.2.2.2.2.1,xXf,⟨_,_,rfl,rfl,A.dxp,_,e6,(show 7<1000 by decide),?_⟩⟩
  have e7:upd H6 A.pp (.ins CP A.dxp (putF (Str.ofString "deeds_done") (.int ((s.done:Int)+1)) (plF A.a.co ta A.ch A.sp to s.done A.lk))) A.pp=some (.ins CP A.dxp (plF A.a.co ta A.ch A.sp to ((s.done:Int)+1) A.lk)):=qW
  have s7:Saves A.pp H6 (upd H6 A.pp (.ins CP A.dxp (putF (Str.ofString "deeds_done") (.int ((s.done:Int)+1)) (plF A.a.co ta A.ch A.sp to s.done A.lk)))):=vW
  generalize upd H6 A.pp (.ins CP A.dxp (putF (Str.ofString "deeds_done") (.int ((s.done:Int)+1)) (plF A.a.co ta A.ch A.sp to s.done A.lk)))=H7 at e7 s7
  wtm_at "zw"
  intro lk hlk
  have Sl:=qV hlk (.dK [])
  have el:upd H7 lk (.dK []) lk=some (.dK []):=qW
  generalize upd H7 lk (.dK [])=H8 at Sl el
  refine⟨_,rfl,A.pp,CP,A.dxp,_,rfl,Sl _ _ e7,p4.kp.cls,p4.kp.no _ pF.2.2.2.2.2.2,(show 7<1000 by decide),?_⟩
  have e9:upd H8 A.pp (.ins CP A.dxp (putF (Str.ofString "looked") (.ref lk) (plF A.a.co ta A.ch A.sp to ((s.done:Int)+1) A.lk))) A.pp=some (.ins CP A.dxp (plF A.a.co ta A.ch A.sp to ((s.done:Int)+1) lk)):=qW
  have s9:Saves A.pp H8 (upd H8 A.pp (.ins CP A.dxp (putF (Str.ofString "looked") (.ref lk) (plF A.a.co ta A.ch A.sp to ((s.done:Int)+1) A.lk)))):=vW
  generalize upd H8 A.pp (.ins CP A.dxp (putF (Str.ofString "looked") (.ref lk) (plF A.a.co ta A.ch A.sp to ((s.done:Int)+1) A.lk)))=H9 at e9 s9
  have s47:=s5.trans (s6.trans s7)
  have s49:Saves A.pp H4 H9:=s47.trans ((kM Sl).trans s9)
  have k0:((to.toNat:Nat):Int)=to:=Int.toNat_of_nonneg hto
  have pe:=p4.set (st':=ta) (lk':=lk) (num':=to.toNat) (done':=s.done+1) (kv':=[]) s49 (by rw[k0];exact e9) ⟨s49 _ _ (xT eta4 p4.pl (fun z=>nomatch z)) eta4,qBd p4.std.fits fun b hb=>(G.ok.b25 b hb).1⟩ (s9 _ _ (xT el (Sl _ _ e7) (fun z=>nomatch z)) el) (.inr (s47.back (by rw[e7];exact fun z=>nomatch z) hlk))
  wtm_at "zw"
  refine q { A with st:=ta,lk:=lk } _ _ none H9 (by simp only[deedS,en,ec]) ⟨rfl,rfl,rfl⟩ pe ⟨⟨?_,?_,?_,?_⟩,?_,?_⟩
  ·show m.gk.length≤_;omega
  ·show xn'.length≤_;omega
  ·show xc'.length≤_;omega
  ·show m.xs.length≤_;omega
  ·show(s.steps++[_]).length≤_;rw[yYI];show _+1≤_;omega
  ·exact yZF _

theorem kO:xH ["self","node"] ["self"] (xA (mth 26 1)):=⟨rfl,rfl,rfl,by decide +kernel,rfl,by decide +kernel,by decide +kernel⟩
def spGoOn (P:Program)(w:World)(K:yZO)(CC CP:Addr):Sp:=fun vs H Q _=>∃(H0:Hp) (A:PAd) (W:Wd) (ns:List Nd) (chs:List Int) (bx dx lx:Addr) (bv gv:V) (s:PSt) (m:Mem) (k:Nat),vs=[.ref A.pp]∧Given H0 A W ns chs bx dx lx bv gv∧NsOk W ns∧Pl P w K CC CP H0 H A W ns s m∧s.num<ns.length∧s.done≤chs.length∧Lt s m k∧k<9000∧
 ∀(A':PAd) (s':PSt) (m':Mem) (e:Option Str) (H':Hp),goS W ns chs s=(e,s')→A'.Of A→Pl P w K CC CP H0 H' A' W ns s' m'→Lt s' m' (k+1)→Q (endV e) H'
theorem qUv {CC CP:Addr}(CL_Course:Cls K CC)(CL_Player:Cls K CP)(F:Md K CP "go_on" "Player.go_on" (mth 26 1) ["self"])(D_Course_goal_holds:Dm P w K mg base CC "goal_holds" 27 ["self","standing"] (spGoal K CC))(D_Player_do_deed:Dm P w K mg base CP "do_deed" 29 ["self","name","follower"] (qCc P w K CC CP))(D_Player_do_look:Dm P w K mg base CP "do_look" 29 ["self","name"] (qCb P w K CC CP)):Dm P w K mg base CP "go_on" 30 ["self"] (spGoOn P w K CC CP):=by
 refine F.ok kO (fun vs H Q E h=>?_) (fun f cdv A' outer s' H vs Q E hr h=>?_)
 ·obtain⟨_,_,_,_,_,_,_,_,_,_,_,_,_,rfl,_⟩:=h
  rfl
 obtain⟨H0,A,W,ns,chs,bx,dx,lx,bv,gv,s,m,k,rfl,G,ok,p,hnum,hdn,lt,hk,q⟩:=h
 obtain⟨nu,enu0,pn0⟩:=G.nodes
 have enu:=p.same _ _ enu0
 obtain⟨n,en⟩:∃n,ns[s.num]? = some n:=⟨_,yYA hnum⟩
 obtain⟨u,eu⟩:∃u,nu[s.num]? = some u:=⟨_,yYA (by rw[← pn0.length];exact hnum)⟩
 have nat:=(xK pn0 en eu).same p.same
 have mn:=yYE en
 refine⟨_,(qZ (qM (i:=1) kO.nd rfl (by wtm_at "zo") (xE (qT (K:=K)) (xI (K:=K) (xI (K:=K) (pv 0))) (xI (K:=K) (pv 0)) (fun _ _=>rfl)))
  (qZ (xU (qR zA (xE (qS (K:=K)) (pv 1) qE (fun _ _=>rfl)) qF (xD _)) (qJ (qN (qQc (qJk (vX D_Course_goal_holds CL_Course (xI (K:=K) (pv 0)) hr (qQ (xI (K:=K) (pv 0)) qX))) qF qF))) qY)
  (qZ (xU (qR zA (xE (qS (K:=K)) (pv 1) qE (fun _ _=>rfl)) qF (xD _)) (qJ (qN (vX D_Player_do_deed CL_Player (pv 0) hr (qQ (xE (qS (K:=K)) (pv 1) qE (fun _ _=>rfl)) (qQ (xE (qS (K:=K)) (pv 1) qE (fun _ _=>rfl)) qX))))) qY)
  (qJ (qN (vX D_Player_do_look CL_Player (pv 0) hr (qQ (xE (qS (K:=K)) (pv 1) qE (fun _ _=>rfl)) qX))))))),?_⟩
 wtm_at "zw"
 refine qUh rfl p.pl p.kp pF.1 qJw p.co p.kc cF.2.1 A.a.l2 (xR rfl p.pl p.kp pF.2.2.2.2.1 qRi (xQg (SqL.of enu) (zQ eu) ?_))
 cases n with
 | fin=>
  obtain⟨a,rfl,ea⟩:=nat
  wtm_at "zw"
  refine xR rfl p.pl p.kp pF.1 qJw ⟨A.a.co,A.a.dx,A.a.fs,rfl,p.co,rfl,?_⟩
  wtm_at "zw"
  refine xR rfl p.pl p.kp pF.2.1 qVb ?_
  wtm_at "zw"
  obtain⟨⟨g1,g2,g3,g4⟩,g5,g6⟩:=lt
  refine⟨A.a,W,bx,dx,lx,bv,gv,A.st,s.vals,m.gk,rfl,G.crs p,p.std,p.g,p.gok,by omega,fun gk' H1 sv1 eg ok1 l1=>?_⟩
  have p1:=p.goals sv1 eg ok1
  have lt1:Lt s { m with gk:=gk' } (k+1):=⟨⟨by show gk'.length≤_;omega,by show m.xn.length≤_;omega,by show m.xc.length≤_;omega,by show m.xs.length≤_;omega⟩,by omega,by omega⟩
  cases e:W.gt.truth (envOf (kvsOf W.bs s.vals)) with
  | true=>
   wtm_at "zw"
   exact q A s _ (some (Str.ofString "goal")) H1 (by simp only[goS,en,e]) ⟨rfl,rfl,rfl⟩ p1 lt1
  | false=>
   wtm_at "zw"
   exact q A s _ (some (Str.ofString "short")) H1 (by simp only[goS,en,e]) ⟨rfl,rfl,rfl⟩ p1 lt1
 | act x to=>
  obtain⟨a,rfl,ea⟩:=nat
  obtain⟨⟨d,hd,rfl⟩,t0,t1⟩:=ok.act x to mn
  have fd:=qWk (yYU.mp G.ok.nd).1 hd
  wtm_at "zw"
  refine⟨_,rfl,A.pp,A.dxp,_,rfl,p.pl,rfl,?_⟩
  wtm_at "zw"
  exact⟨H0,A,W,ns,chs,bx,dx,lx,bv,gv,s,m,k,d,to,rfl,G,p,hd,t0,hdn,lt,hk,fun A' s' m' e H' h=>q A' s' m' e H' (by simp only[goS,en,fd];exact h)⟩
 | see x fs=>
  obtain⟨a,fp,us,rfl,ea,ep,pf⟩:=nat
  obtain⟨⟨l,hl,rfl⟩,t0⟩:=ok.see x fs mn
  have fd:=qWk (yYU.mp G.ok.nd).2.1 hl
  wtm_at "zw"
  refine⟨_,rfl,A.pp,A.dxp,_,rfl,p.pl,rfl,?_⟩
  wtm_at "zw"
  exact⟨H0,A,W,ns,chs,bx,dx,lx,bv,gv,s,m,k,l,fs,rfl,G,p,hl,en,fun f hf=>(t0 f hf).1,lt,hk,fun A' s' m' e H' h=>q A' s' m' e H' (by simp only[goS,en,fd];exact h)⟩
theorem qCi:xH ["world","plan","standing","choices","player","end"] ["world","plan","standing","choices"] (xA (top 18)):=⟨rfl,rfl,rfl,by decide +kernel,rfl,by decide +kernel,by decide +kernel⟩
theorem qUg {C:Addr}{sp:Sp}{dvs:List V}{E:XK}{t:TA}{σ:St}{H:Hp}{Q:VK}(q:t σ H fun vs H1=>∀x dx,H1 x=none→H1 dx=none→dx≠x→sp (.ref x::(vs++dvs)) (upd (upd H1 dx (.own x)) x (.ins C dx [])) (fun v H2=>v=.non∧Q (.ref x) H2) E):tMake C sp dvs E t σ H Q:=q
theorem qVw {C x dx:Addr}{H:Hp}(h1:H x=none)(h2:H dx=none)(h3:dx≠x):Same H (upd (upd H dx (.own x)) x (.ins C dx [])):=fun b o e=>by
 rw[qA (qB e h1),qA (qB e h2)];exact e
def st0 (vals:List Int):PSt:=⟨0,vals,0,[],[]⟩
def spRun:Sp:=fun vs H Q _=>∃(W:Wd) (p pl bx dx lx:Addr) (bv gv:V) (nu:List V) (ns:List Nd) (st ch:Addr) (vals chs:List Int) (fuel:Nat) (e:Str) (s':PSt),vs=[.ref p,.ref pl,.ref st,.ref ch]∧H p=some (.tup [.ref bx,.ref dx,.ref lx,bv,gv])∧WAt H W bx dx lx bv gv∧WOk W∧
 H pl=some (.lst nu)∧Paired (NdAt H) ns nu∧NsOk W ns∧(∀n∈ns,n.Few)∧0<ns.length∧ns.length≤1000∧Std H W st vals∧H ch=some (.lst (intsV chs))∧fuel≤8000∧runS W ns chs fuel (st0 vals)=some (e,s')∧
 ∀(r sp st':Addr) (su:List V) (H':Hp),Same H H'→H' r=some (.tup [.str e,.ref sp,.ref st'])→H r=none→H sp=none→H' sp=some (.lst su)→Paired (StepIn H') s'.steps su→H' st'=some (.tup (intsV s'.vals))→Q (.ref r) H'
structure Going (P:Program)(w:World)(K:yZO)(CC CP:Addr)(H0:Hp)(a:CA)(ch pp:Addr)(W:Wd)(ns:List Nd)(chs:List Int)(fuel:Nat)(E:Str)(S:PSt)(vs:List (Option V))(j:Nat)(σ:St)(H:Hp)(A:PAd)(s:PSt)(m:Mem)(en:Option Str)(k:Nat):Prop where
 st:σ=vs++[some (.ref A.pp),some (endV en)]
 a:A.a=a
 ch:A.ch=ch
 pp:A.pp=pp
 pl:Pl P w K CC CP H0 H A W ns s m
 lt:Lt s m k
 kj:k+j≤fuel
 go:(en=none∧runS W ns chs j s=some (E,S)∧s.num<ns.length∧s.done≤chs.length)∨(en=some E∧s=S)
theorem xVd {CC CP:Addr}(F:Fd K mg "run" (top 18) ["world","plan","standing","choices"])(KC:Kind K CC jG)(KP:Kind K CP jR)(CL_Player:Cls K CP)(D_Course:Dk P w K mg base "Course" CC 1 ["self","world","plan"] (qCd P w K CC))(D_Player:Dk P w K mg base "Player" CP 1 ["self","course","standing","choices"] (qCx K CP))
  (D_Player_go_on:Dm P w K mg base CP "go_on" 30 ["self"] (spGoOn P w K CC CP)):Dn P w K mg base "run" 31 ["world","plan","standing","choices"] spRun:=by
 refine F.ok qCi (fun vs H Q E h=>?_) (fun f cdv A' outer s' H vs Q E hr h=>?_)
 ·obtain⟨_,_,_,_,_,_,_,_,_,_,_,_,_,_,_,_,_,rfl,_⟩:=h
  rfl
 obtain⟨W,p,pl,bx,dx,lx,bv,gv,nu,ns,st,ch,vals,chs,fuel,e,S,rfl,ep,wat,wok,epl,pn,nok,few,n0,n1000,std,ech,hf,hrun,q⟩:=h
 refine⟨_,(qZ (qM (i:=4) qCi.nd rfl (by wtm_at "zo") (qDz D_Player hr (qQ (qDz D_Course hr (qQ (pv 0) (qQ (pv 1) qX))) (qQ (pv 2) (qQ (pv 3) qX)))))
  (qZ (qM (i:=5) qCi.nd rfl (by wtm_at "zo") wO)
  (qZ (qRh PassesOwn.never (qR xZz (pv 5) wO (xD _)) (qJ (qM (i:=5) qCi.nd rfl (by wtm_at "zo") (qId D_Player_go_on CL_Player (pv 4) hr))))
  (qJ (qN (zV (qQ (pv 5) (qQ (xI (K:=K) (pv 4)) (qQ (xI (K:=K) (pv 4)) qX))))))))),?_⟩
 wtm_at "zw"
 refine qUg ?_
 wtm_at "zw"
 refine qUg ?_
 wtm_at "zw"
 intro x1 dx1 h1 h2 h3
 have Sa:=qVw (C:=CC) h1 h2 h3
 have exa:upd (upd H dx1 (.own x1)) x1 (.ins CC dx1 []) x1=some (.ins CC dx1 []):=qW
 generalize upd (upd H dx1 (.own x1)) x1 (.ins CC dx1 [])=Ha at Sa exa
 refine⟨x1,dx1,p,pl,nu,ns,rfl,exa,KC,Sa _ _ epl,Paired.mapP pn fun _ _ z=>z.same Sa,few,n1000,fun a H1 r1 r2 r3 r4 sv1 ex1 fo1 g1 pn1 pc1 ps1 fresh1 apart1=>⟨rfl,?_⟩⟩
 subst r1 r2 r3 r4
 wtm_at "zw"
 intro x2 dx2 h4 h5 h6
 have Sb:=qVw (C:=CP) h4 h5 h6
 have exb:upd (upd H1 dx2 (.own x2)) x2 (.ins CP dx2 []) x2=some (.ins CP dx2 []):=qW
 generalize upd (upd H1 dx2 (.own x2)) x2 (.ins CP dx2 [])=Hb at Sb exb
 refine⟨x2,dx2,a.co,st,ch,rfl,exb,KP,fun sp lk H2 sv2 ex2 esp elk nsp nlk nsl=>⟨rfl,?_⟩⟩
 have S01:Same H H1:=fun b o hb=>sv1 _ _ (qB hb h1) (Sa _ _ hb)
 have S02:Same H H2:=fun b o hb=>sv2 _ _ (qB (S01 _ _ hb) h4) (Sb _ _ (S01 _ _ hb))
 have S12:∀b o,H1 b=some o→H2 b=some o:=fun b o hb=>sv2 _ _ (qB hb h4) (Sb _ _ hb)
 have n2:∀b o,H1 b=some o→b≠x2∧b≠sp∧b≠lk:=fun b o hb=>⟨qB hb h4,qB (Sb _ _ hb) nsp,qB (Sb _ _ hb) nlk⟩
 obtain⟨fu,efu,pfu⟩:=fo1
 have G:Given H ⟨a,x2,dx2,st,ch,sp,lk⟩ W ns chs bx dx lx bv gv:=⟨ep,wat,wok,⟨nu,epl,pn⟩,ech⟩
 have P0:Pl P w K CC CP H H2 ⟨a,x2,dx2,st,ch,sp,lk⟩ W ns (st0 vals) ⟨[],[],[],[]⟩:=by
  have ap:=apart1
  simp only[List.nodup_cons,yYK,List.not_mem_nil,or_false,not_or] at ap
  obtain⟨⟨a1,a2,a3,a4⟩,⟨b1,b2,b3⟩,⟨c1,c2⟩,d1,_⟩:=ap
  have P12:∀b xs,PD P w H1 b xs→PD P w H2 b xs:=fun b xs z=>⟨S12 _ _ z.at',fun y hy=>let ⟨t,e1,e2⟩:=z.keys y hy;⟨t,S12 _ _ e1,S12 _ _ e2⟩,z.le⟩
  refine⟨S02,S12 _ _ ex1,KC,ex2,KP,⟨S02 _ _ std.at',std.fits⟩,⟨fu,S12 _ _ efu,(n2 _ _ efu).2.1,Paired.mapP pfu fun _ _ ⟨d,e1,e2⟩=>⟨d,e1,(n2 _ _ e2).2.2,S12 _ _ e2⟩⟩,⟨[],esp,.nil⟩,elk,S12 _ _ g1,(fun _ _ z=>nomatch z),P12 _ _ pn1,(fun _ _ _ z=>nomatch z),P12 _ _ pc1,(fun _ _ _ z=>nomatch z),P12 _ _ ps1,(fun _ _ _ z=>nomatch z),?_,?_⟩
  ·intro b hb
   simp only[yYK,List.not_mem_nil,or_false] at hb
   rcases hb with rfl | rfl | rfl | rfl | rfl | rfl | rfl
   ·exact S01.free h4
   ·exact S01.free (Sb.free nsp)
   ·exact S01.free (Sb.free nlk)
   ·exact Sa.free (fresh1 _ (by simp))
   ·exact Sa.free (fresh1 _ (by simp))
   ·exact Sa.free (fresh1 _ (by simp))
   ·exact Sa.free (fresh1 _ (by simp))
  ·have qc:=n2 _ _ ex1
   have qg:=n2 _ _ g1
   have qn:=n2 _ _ pn1.at'
   have qo:=n2 _ _ pc1.at'
   have qs:=n2 _ _ ps1.at'
   have x2s:x2≠sp:=qB exb nsp
   have x2l:x2≠lk:=qB exb nlk
   simp only[List.nodup_cons,yYK,List.not_mem_nil,or_false,not_or,not_false_eq_true,List.nodup_nil,and_true]
   exact⟨⟨qc.1,qc.2.1,qc.2.2,a1,a2,a3,a4⟩,⟨x2s,x2l,qg.1.symm,qn.1.symm,qo.1.symm,qs.1.symm⟩,⟨nsl,qg.2.1.symm,qn.2.1.symm,qo.2.1.symm,qs.2.1.symm⟩,⟨qg.2.2.symm,qn.2.2.symm,qo.2.2.symm,qs.2.2.symm⟩,⟨b1,b2,b3⟩,⟨c1,c2⟩,d1⟩
 wtm_at "zw"
 refine⟨fun j σ H'=>∃A s m en k,Going P w K CC CP H a ch x2 W ns chs fuel e S [some (.ref a.p),some (.ref a.pl),some (.ref st),some (.ref ch)] j σ H' A s m en k,⟨fuel,⟨a,x2,dx2,st,ch,sp,lk⟩,st0 vals,⟨[],[],[],[]⟩,none,0,⟨rfl,rfl,rfl,rfl,P0,⟨⟨yZC _,yZC _,yZC _,yZC _⟩,yZC _,yZC _⟩,by omega,.inl ⟨rfl,hrun,n0,yZF _⟩⟩⟩,fun j σ H' hW=>?_⟩
 obtain⟨A,s,m,en,k,⟨rfl,ea,eh,epp,pp,lt,kj,go⟩⟩:=hW
 rcases go with⟨rfl,hr2,hnum,hdn⟩ | ⟨rfl,rfl⟩
 ·wtm_at "zw"
  refine⟨rfl,_,rfl,qBi (decide_eq_true rfl) ?_⟩
  cases j with
  | zero=>cases hr2
  | succ j=>
   refine⟨_,fun σ' H' h=>⟨j,Nat.lt_succ_self j,h⟩,?_⟩
   wtm_at "zw"
   refine⟨_,rfl,A.pp,A.dxp,_,rfl,pp.pl,rfl,?_⟩
   wtm_at "zw"
   refine⟨H,A,W,ns,chs,bx,dx,lx,bv,gv,s,m,k,rfl,⟨by rw[ea];exact ep,wat,wok,⟨nu,by rw[ea];exact epl,pn⟩,by rw[eh];exact ech⟩,nok,pp,hnum,hdn,lt,by omega,fun A2 s2 m2 e2 H3 hgo hof hpl hlt=>?_⟩
   wtm_at "zw"
   obtain⟨o1,o2,o3⟩:=hof
   have hr3:=hr2
   unfold runS at hr3
   rw[hgo] at hr3
   refine⟨A2,s2,m2,e2,k+1,⟨by rw[o3];rfl,o1.trans ea,o2.trans eh,o3.trans epp,hpl,hlt,by omega,?_⟩⟩
   cases e2 with
   | none=>
    have g:=xQv nok hdn hgo
    exact .inl ⟨rfl,hr3,g.1,g.2⟩
   | some t=>
    have hr4:some (t,s2)=some (e,S):=hr3
    cases hr4
    exact .inr ⟨rfl,rfl⟩
 ·wtm_at "zw"
  refine⟨rfl,_,rfl,wA (decide_eq_false fun z=>nomatch z) ?_⟩
  wtm_at "zw"
  refine xR rfl pp.pl pp.kp pF.2.2.2.1 qIq ?_
  wtm_at "zw"
  refine xR rfl pp.pl pp.kp pF.2.1 qVb ?_
  wtm_at "zw"
  refine⟨xF (show 3≤1000000 by decide),fun r hr'=>?_⟩
  obtain⟨su,es,ps⟩:=pp.sp
  have S5:=qV hr' (.tup [V.str e,V.ref A.sp,V.ref A.st])
  exact q r A.sp A.st su _ (pp.same.trans S5) qW (pp.same.free hr') (pp.fresh _ (by simp)) (S5 _ _ es) (Paired.mapP ps fun _ _ ⟨a,h1,h2⟩=>⟨a,h1,S5 _ _ h2⟩) (S5 _ _ pp.std.at')

def Nd.leads:Nd→List Int
 | .fin=>[]
 | .act _ to=>[to]
 | .see _ fs=>fs.map (·.2)
theorem qXx:xH ["node"] ["node"] (xA (top 19)):=⟨rfl,rfl,rfl,by decide +kernel,rfl,by decide +kernel,by decide +kernel⟩
theorem jS:CompOk (xA (top 19)) ["node"] (scAt (xB (top 19)) [2] []) ["worth","follower"] 2 []:=
 ⟨by decide +kernel,by decide +kernel,by decide +kernel,by decide +kernel,by decide +kernel,by decide +kernel,by decide +kernel,by decide +kernel⟩
def qCa:Sp:=fun vs H Q _=>∃(n:Nd) (u:V),vs=[u]∧NdAt H n u∧n.Few∧∀(l:Addr) (H':Hp),H l=none→Same H H'→H' l=some (.lst (intsV n.leads))→Q (.ref l) H'
theorem qNn (F:Fd K mg "followers_of" (top 19) ["node"]):Dn P w K mg base "followers_of" 1 ["node"] qCa:=by
 refine F.ok qXx (fun vs H Q E h=>?_) (fun f cdv A outer s H vs Q E hr h=>?_)
 ·obtain⟨_,_,rfl,_⟩:=h
  rfl
 obtain⟨n,u,rfl,hn,few,q⟩:=h
 refine⟨_,(qZ (xU (qR zA (xE (qS (K:=K)) (pv 0) qE (fun _ _=>rfl)) qF (xD _)) (qJ (qN (zE qX))) qY)
  (qZ (xU (qR zA (xE (qS (K:=K)) (pv 0) qE (fun _ _=>rfl)) qF (xD _)) (qJ (qN (zE (qQ (xE (qS (K:=K)) (pv 0) qE (fun _ _=>rfl)) qX)))) qY)
  (qJ (qN (zF rfl jS (xXi (K:=K) (xE (qS (K:=K)) (pv 0) qE (fun _ _=>rfl))) (fun cl fp s H=>(yF (K:=K) (n:=2) rfl (qH (qG (i:=0) jS.nd rfl (Or.inl rfl) (.inr rfl)) (qH (qG (i:=1) jS.nd rfl (Or.inl rfl) (.inr rfl)) qI)))) (fun cl fp s H=>zO) (fun cl fp s H=>(pv 1))))))),?_⟩
 cases n with
 | fin=>
  obtain⟨a,rfl,ea⟩:=hn
  wtm_at "zw"
  exact⟨xF (by decide),fun p hp=>q p _ hp (qV hp _) qW⟩
 | act x to=>
  obtain⟨a,rfl,ea⟩:=hn
  wtm_at "zw"
  exact⟨xF (show 1≤1000000 by decide),fun p hp=>q p _ hp (qV hp _) qW⟩
 | see x fs=>
  obtain⟨a,p,us,rfl,ea,ep,pf⟩:=hn
  have lf:fs.length≤1000:=few
  have lu:=pf.length
  wtm_at "zf"
  refine⟨p,rfl,⟨us,SqT.of ep⟩,?_⟩
  refine qUf (xs:=us) (fun D i ys H'=>ys=intsV ((fs.take i).map (·.2))∧Same H H') (fun D hD=>⟨rfl,qV hD _⟩)
   (fun D i ys H' _ hP=>SqT.of (hP.2 _ _ ep)) (fun D i u ys H' N hD hDy ex hP hN=>?_) (fun D ys H2 hD hDy hP=>?_)
  ·obtain⟨rfl,hk⟩:=hP
   have hi:=(yYB.mp ex).1
   obtain⟨g,eg⟩:∃b,fs[i]? = some b:=⟨_,yYA (by omega)⟩
   obtain⟨c,rfl,ec⟩:=xK pf eg ex
   have ec':=hk _ _ ec
   refine⟨c,_,rfl,SqT.of ec',rfl,_,_,rfl,_,_,rfl,rfl,⟨[some (.int g.1),some (.int g.2)],rfl,rfl⟩,?_⟩
   refine⟨_,rfl,hDy,?_,hN _ _ qW ⟨?_,fun b o e=>?_⟩⟩
   ·rw[yYC,yYC,yYF];exact small (by omega)
   ·rw[yYM,eg,yYV];unfold intsV;rw[yYV];rfl
   ·rw[qA (qB e hD)];exact hk _ _ e
  ·obtain⟨rfl,hk⟩:=hP
   rw[← lu,yYJ] at hDy
   exact q D H2 hD hk hDy
theorem qAj:xH ["thing"] ["thing"] (xA (top 15)):=⟨rfl,rfl,rfl,by decide +kernel,rfl,by decide +kernel,by decide +kernel⟩
def qGg:Sp:=fun vs H Q _=>∃i:Int,vs=[.int i]∧Q (.bl true) H
theorem xVx:PySem.W.kitOne K (.type "int") (.type "bool")=some false:=by with_unfolding_all rfl
theorem qTf (F:Fd K mg "is_whole" (top 15) ["thing"])(B:Bl mg):Dn P w K mg base "is_whole" 1 ["thing"] qGg:=by
 refine F.ok qAj (fun vs H Q E h=>?_) (fun f cdv A outer s H vs Q E hr h=>?_)
 ·obtain⟨_,rfl,_⟩:=h
  rfl
 obtain⟨i,rfl,q⟩:=h
 refine⟨_,(qJ (qN (qVc (xZ (qQk (K:=K)) rfl B.isinstance' wV (qQ (pv 0) (qQ (xKa rfl B.int' qPq) qX))) (qDx (qIc (xZ (qQk (K:=K)) rfl B.isinstance' wV (qQ (pv 0) (qQ (xKa rfl B.bool' xJn) qX)))))))),?_⟩
 wtm_at "zw"
 refine⟨.int i,"int",_,true,rfl,.int i,xVq,?_⟩
 wtm_at "zw"
 refine⟨.int i,"bool",_,false,rfl,.int i,xVx,?_⟩
 wtm_at "zw"
 exact q
theorem wH:xH ["number","size"] ["number","size"] (xA (top 20)):=⟨rfl,rfl,rfl,by decide +kernel,rfl,by decide +kernel,by decide +kernel⟩
def qCk:Sp:=fun vs H Q _=>∃(i:Int) (m:Nat),vs=[.int i,.int m]∧Q (.bl (decide (0≤i∧i<m))) H
theorem qNf (F:Fd K mg "is_node_number" (top 20) ["number","size"])(D_is_whole:Dn P w K mg base "is_whole" 1 ["thing"] qGg):Dn P w K mg base "is_node_number" 2 ["number","size"] qCk:=by
 refine F.ok wH (fun vs H Q E h=>?_) (fun f cdv A outer s H vs Q E hr h=>?_)
 ·obtain⟨_,_,rfl,_⟩:=h
  rfl
 obtain⟨i,m,rfl,q⟩:=h
 refine⟨_,(qJ (qN (qVc (qD D_is_whole hr (qQ (pv 0) qX)) (qVc (yG xKf (pv 0) qE (xD _)) (qDx (yG qKz (pv 0) (pv 1) (xD _))))))),?_⟩
 wtm_at "zw"
 refine⟨i,rfl,?_⟩
 wtm_at "zw"
 by_cases h0:0≤i
 ·rw[decide_eq_true h0]
  refine iteT ?_
  wtm_at "zw"
  have e:decide (i<(m:Int))=decide (0≤i∧i<(m:Int)):=decide_eq_decide.mpr ⟨fun z=>⟨h0,z⟩,fun z=>z.2⟩
  rw[e]
  exact q
 ·rw[decide_eq_false h0]
  refine iteF ?_
  rw[decide_eq_false fun z=>h0 z.1] at q
  exact q
theorem yX:xH ["node","size","follower"] ["node","size"] (xA (top 21)):=⟨rfl,rfl,rfl,by decide +kernel,rfl,by decide +kernel,by decide +kernel⟩
def Leads (n:Nd)(m:Nat):Prop:=∀t∈n.leads,0≤t∧t<(m:Int)
def spRefF:Sp:=fun vs H Q _=>∃(n:Nd) (u:V) (m:Nat),vs=[u,.int m]∧NdAt H n u∧n.Few∧Leads n m∧∀H',Same H H'→Q .non H'
theorem xJv (F:Fd K mg "refuse_followers" (top 21) ["node","size"])(D_followers_of:Dn P w K mg base "followers_of" 1 ["node"] qCa)
  (D_is_node_number:Dn P w K mg base "is_node_number" 2 ["number","size"] qCk):Dn P w K mg base "refuse_followers" 3 ["node","size"] spRefF:=by
 refine F.ok yX (fun vs H Q E h=>?_) (fun f cdv A outer s H vs Q E hr h=>?_)
 ·obtain⟨_,_,_,rfl,_⟩:=h
  rfl
 obtain⟨n,u,m,rfl,hn,few,g,q⟩:=h
 refine⟨_,(qJ (jK PassesOwn.never rfl (qU (K:=K) (qD D_followers_of hr (qQ (pv 0) qX))) (qG (i:=2) yX.nd rfl (by wtm_at "zo")) (qJ (xU (qVa (qJk (qD D_is_node_number hr (qQ (pv 2) (qQ (pv 1) qX))))) (qJ qQb) qY)))),?_⟩
 wtm_at "zf"
 refine⟨n,u,rfl,hn,few,fun l H1 nl S1 el=>?_⟩
 refine⟨l,rfl,⟨_,SqL.of el⟩,?_⟩
 refine vY (xs:=intsV n.leads) (fun i σ' H'=>∃z:Option V,σ'=[some u,some (.int m),z]∧Same H1 H') ⟨none,rfl,.refl _⟩ (fun i σ' H' _ hP=>?_) (fun i v σ' H' ex hP=>?_) (fun σ' H' hP=>?_)
 ·obtain⟨_,rfl,S2⟩:=hP
  exact SqL.of (S2 _ _ el)
 ·obtain⟨z,rfl,S2⟩:=hP
  obtain⟨t,et,rfl⟩:∃t,n.leads[i]? = some t∧v=.int t:=by
   rw[yYO] at ex
   cases h:n.leads[i]? with
   | none=>rw[h] at ex;cases ex
   | some t=>rw[h] at ex;cases ex;exact⟨t,rfl,rfl⟩
  wtm_at "zw"
  refine⟨t,m,rfl,?_⟩
  wtm_at "zw"
  rw[decide_eq_true (g t (yYE et))]
  exact iteNT ⟨_,rfl,S2⟩
 ·obtain⟨z,rfl,S2⟩:=hP
  exact q _ (S1.trans S2)
theorem qQn:xH ["node"] ["node"] (xA (top 22)):=⟨rfl,rfl,rfl,by decide +kernel,rfl,by decide +kernel,by decide +kernel⟩
def Nd.Once:Nd→Prop
 | .see _ fs=>(fs.map (·.1)).Nodup
 | _=>True
instance (n:Nd):Decidable n.Once:=by
 cases n with
 | see x fs=>exact inferInstanceAs (Decidable ((fs.map (·.1)).Nodup))
 | fin=>exact .isTrue trivial
 | act x to=>exact .isTrue trivial
def spRefK:Sp:=fun vs H Q _=>∃(n:Nd) (u:V),vs=[u]∧NdAt H n u∧n.Few∧n.Once∧∀H',Same H H'→Q .non H'
theorem xJk (F:Fd K mg "refuse_forks" (top 22) ["node"])(B:Bl mg):Dn P w K mg base "refuse_forks" 1 ["node"] spRefK:=by
 refine F.ok qQn (fun vs H Q E h=>?_) (fun f cdv A outer s H vs Q E hr h=>?_)
 ·obtain⟨_,_,rfl,_⟩:=h
  rfl
 obtain⟨n,u,rfl,hn,few,nd,q⟩:=h
 refine⟨_,(qJ (xU (PW.pt (qHi (qR zA (xE (qS (K:=K)) (pv 0) qE (fun _ _=>rfl)) qF (xD _)) (qAv (qR qKz (xZ qOm rfl B.len' zS (qQ (xX (wY rfl) rfl B.dict' qZb (qQ (xE (qS (K:=K)) (pv 0) qE (fun _ _=>rfl)) qX)) qX)) (xZ (xP (K:=K)) rfl B.len' zS (qQ (xE (qS (K:=K)) (pv 0) qE (fun _ _=>rfl)) qX)) (xD _))))) (qJ qQb) qY)),?_⟩
 cases n with
 | fin=>
  obtain⟨a,rfl,ea⟩:=hn
  wtm_at "zw"
  exact q _ (.refl _)
 | act x to=>
  obtain⟨a,rfl,ea⟩:=hn
  wtm_at "zw"
  exact q _ (.refl _)
 | see x fs=>
  obtain⟨a,p,us,rfl,ea,ep,pf⟩:=hn
  have lf:fs.length≤1000:=few
  have lu:=pf.length
  wtm_at "zw"
  refine⟨p,us,fs,rfl,ep,pf,lf,fun d hd=>?_⟩
  have S1:=qV hd (.dK (mergeK [] (pairI fs)))
  have ed:upd H d (.dK (mergeK [] (pairI fs))) d=some _:=qW
  generalize upd H d (.dK (mergeK [] (pairI fs)))=H1 at S1 ed
  have ea1:=S1 _ _ ea
  have ep1:=S1 _ _ ep
  refine⟨d,_,rfl,ed,?_⟩
  wtm_at "zw"
  have nd':(fs.map (·.1)).Nodup:=nd
  rw[decide_eq_false (show¬(((mergeK [] (pairI fs)).length:Int)<(us.length:Int)) from fun z=>absurd nd' ((qFn fs).mp (by omega)))]
  exact iteF (q _ S1)
theorem wE:xH ["world","node"] ["world","node"] (xA (top 24)):=⟨rfl,rfl,rfl,by decide +kernel,rfl,by decide +kernel,by decide +kernel⟩
def PlanW (H:Hp)(W:Wd)(wv:V):Prop:=∃(a bx dx lx:Addr) (bv gv:V),wv=.ref a∧H a=some (.tup [.ref bx,.ref dx,.ref lx,bv,gv])∧WAt H W bx dx lx bv gv∧WOk W
theorem PlanW.same {H H':Hp}{W:Wd}{wv:V}(h:PlanW H W wv)(S:Same H H'):PlanW H' W wv:=let ⟨a,bx,dx,lx,bv,gv,e,e1,e2,e3⟩:=h;⟨a,bx,dx,lx,bv,gv,e,S _ _ e1,e2.same S,e3⟩
def Nd.Known (W:Wd):Nd→Prop
 | .fin=>True
 | .act x _=>∃d∈W.ds,d.name=x
 | .see x _=>∃d∈W.ls,d.name=x
def qGh:Sp:=fun vs H Q _=>∃(n:Nd) (u wv:V) (W:Wd),vs=[wv,u]∧n≠.fin∧NdAt H n u∧PlanW H W wv∧n.Known W∧∀u,Q u H
theorem qTg (F:Fd K mg "thing_named_at" (top 24) ["world","node"])(D_named:Dn P w K mg base "named" 1 ["things","name","kind"] qQm):Dn P w K mg base "thing_named_at" 2 ["world","node"] qGh:=by
 refine F.ok wE (fun vs H Q E h=>?_) (fun f cdv A outer s H vs Q E hr h=>?_)
 ·obtain⟨_,_,_,_,rfl,_⟩:=h
  rfl
 obtain⟨n,u,wv,W,rfl,nf,hn,⟨wa,bx,dx,lx,bv,gv,rfl,ew,wat,wok⟩,kn,q⟩:=h
 obtain⟨du,edx,pd⟩:=wat.deeds
 obtain⟨lu,elx,pl⟩:=wat.looks
 refine⟨_,(qZ (xU (qR zA (xE (qS (K:=K)) (pv 1) qE (fun _ _=>rfl)) qF (xD _)) (qJ (qN (qD D_named hr (qQ (xE (qS (K:=K)) (pv 0) qE (fun _ _=>rfl)) (qQ (xE (qS (K:=K)) (pv 1) qE (fun _ _=>rfl)) (qQ qF qX)))))) qY)
  (qJ (qN (qD D_named hr (qQ (xE (qS (K:=K)) (pv 0) qE (fun _ _=>rfl)) (qQ (xE (qS (K:=K)) (pv 1) qE (fun _ _=>rfl)) (qQ qF qX))))))),?_⟩
 cases n with
 | fin=>exact absurd rfl nf
 | act x to=>
  obtain⟨a,rfl,ea⟩:=hn
  obtain⟨d,hd,rfl⟩:=kn
  obtain⟨i,ei⟩:=List.mem_iff_getElem?.mp hd
  wtm_at "zw"
  exact⟨dx,du,W.ds.map Deed.name,d.name,.str "deed",rfl,edx,yV pd,(yYU.mp wok.nd).1,i,by rw[yYO,ei];rfl,fun u _=>q u⟩
 | see x fs=>
  obtain⟨a,p,us,rfl,ea,ep,pf⟩:=hn
  obtain⟨d,hd,rfl⟩:=kn
  obtain⟨i,ei⟩:=List.mem_iff_getElem?.mp hd
  wtm_at "zw"
  exact⟨lx,lu,W.ls.map Look.name,d.name,.str "look",rfl,elx,qXh pl,(yYU.mp wok.nd).2.1,i,by rw[yYO,ei];rfl,fun u _=>q u⟩
theorem qZe:xH ["world","node"] ["world","node"] (xA (top 23)):=⟨rfl,rfl,rfl,by decide +kernel,rfl,by decide +kernel,by decide +kernel⟩
def spRefN:Sp:=fun vs H Q _=>∃(n:Nd) (u wv:V) (W:Wd),vs=[wv,u]∧NdAt H n u∧PlanW H W wv∧n.Known W∧Q .non H
theorem xJj (F:Fd K mg "refuse_name" (top 23) ["world","node"])(D_thing_named_at:Dn P w K mg base "thing_named_at" 2 ["world","node"] qGh):Dn P w K mg base "refuse_name" 3 ["world","node"] spRefN:=by
 refine F.ok qZe (fun vs H Q E h=>?_) (fun f cdv A outer s H vs Q E hr h=>?_)
 ·obtain⟨_,_,_,_,rfl,_⟩:=h
  rfl
 obtain⟨n,u,wv,W,rfl,hn,hw,kn,q⟩:=h
 refine⟨_,(qJ (xU (qR qSj (xE (qS (K:=K)) (pv 1) qE (fun _ _=>rfl)) qF (xD _)) (qJ (qP (qD D_thing_named_at hr (qQ (pv 0) (qQ (pv 1) qX))))) qY)),?_⟩
 cases n with
 | fin=>
  obtain⟨a,rfl,ea⟩:=hn
  wtm_at "zw"
  exact q
 | act x to=>
  obtain⟨a,rfl,ea⟩:=hn
  wtm_at "zw"
  exact⟨_,rfl,_,rfl,.act x to,.ref a,wv,W,rfl,(fun z=>nomatch z),⟨a,rfl,ea⟩,hw,kn,fun _=>q⟩
 | see x fs=>
  obtain⟨a,p,us,rfl,ea,ep,pf⟩:=hn
  wtm_at "zw"
  exact⟨_,rfl,_,rfl,.see x fs,.ref a,wv,W,rfl,(fun z=>nomatch z),⟨a,p,us,rfl,ea,ep,pf⟩,hw,kn,fun _=>q⟩
theorem wF:xH ["world","nodes","node"] ["world","nodes"] (xA (top 17)):=⟨rfl,rfl,rfl,by decide +kernel,rfl,by decide +kernel,by decide +kernel⟩
structure PlanOk (W:Wd)(ns:List Nd):Prop where
 ne:0<ns.length
 le:ns.length≤1000
 few:∀n∈ns,n.Few
 leads:∀n∈ns,Leads n ns.length
 once:∀n∈ns,n.Once
 known:∀n∈ns,n.Known W
theorem PlanOk.nsOk {W:Wd}{ns:List Nd}(h:PlanOk W ns):NsOk W ns:=⟨fun x to m=>⟨h.known _ m,h.leads _ m to yYG⟩,fun x fs m=>⟨h.known _ m,fun f hf=>h.leads _ m f.2 (List.mem_map_of_mem hf)⟩⟩
def spPlan:Sp:=fun vs H Q _=>∃(wv:V) (W:Wd) (la:Addr) (us:List V) (ns:List Nd),vs=[wv,.ref la]∧PlanW H W wv∧H la=some (.lst us)∧Paired (NdAt H) ns us∧PlanOk W ns∧
 ∀(l:Addr) (H':Hp),H l=none→Same H H'→H' l=some (.lst us)→Q (.ref l) H'
theorem xJw (F:Fd K mg "plan_of" (top 17) ["world","nodes"])(B:Bl mg)(D_refuse_followers:Dn P w K mg base "refuse_followers" 3 ["node","size"] spRefF)
  (D_refuse_forks:Dn P w K mg base "refuse_forks" 1 ["node"] spRefK) (D_refuse_name:Dn P w K mg base "refuse_name" 3 ["world","node"] spRefN):Dn P w K mg base "plan_of" 4 ["world","nodes"] spPlan:=by
 refine F.ok wF (fun vs H Q E h=>?_) (fun f cdv A outer s H vs Q E hr h=>?_)
 ·obtain⟨_,_,_,_,_,rfl,_⟩:=h
  rfl
 obtain⟨wv,W,la,us,ns,rfl,hw,ela,pn,ok,q⟩:=h
 have ln:=pn.length
 have l0:=ok.ne
 refine⟨_,(qZ (xU (qR zA (xZ (xP (K:=K)) rfl B.len' zS (qQ (pv 1) qX)) qE (xD _)) (qJ qQb) qY)
  (qZ (jK PassesOwn.never rfl (qU (K:=K) (pv 1)) (qG (i:=2) wF.nd rfl (by wtm_at "zo")) (qZ (qP (qD D_refuse_followers hr (qQ (pv 2) (qQ (xZ (xP (K:=K)) rfl B.len' zS (qQ (pv 1) qX)) qX))))
  (qJ (qP (qD D_refuse_forks hr (qQ (pv 2) qX))))))
  (qZ (jK PassesOwn.never rfl (qU (K:=K) (pv 1)) (qG (i:=2) wF.nd rfl (by wtm_at "zo")) (qJ (qP (qD D_refuse_name hr (qQ (pv 0) (qQ (pv 2) qX))))))
  (qJ (qN (xX (qYj (K:=K)) rfl B.list' qOo (qQ (pv 1) qX))))))),?_⟩
 wtm_at "zw"
 rw[decide_eq_false (show¬(V.int (us.length:Int)=V.int 0) from fun z=>by have:=V.int.inj z;omega)]
 refine iteF ?_
 wtm_at "zf"
 refine⟨la,rfl,⟨us,SqL.of ela⟩,?_⟩
 refine vY (xs:=us) (fun i σ' H'=>∃z:Option V,σ'=[some wv,some (.ref la),z]∧Same H H') ⟨none,rfl,.refl _⟩ (fun i σ' H' _ hP=>?_) (fun i v σ' H' ex hP=>?_) (fun σ' H' hP=>?_)
 ·obtain⟨_,rfl,S2⟩:=hP
  exact SqL.of (S2 _ _ ela)
 ·obtain⟨z,rfl,S2⟩:=hP
  obtain⟨n,en⟩:∃b,ns[i]? = some b:=⟨_,yYA (by rw[ln];exact(yYB.mp ex).1)⟩
  have hn:=xK pn en ex
  have mn:=yYE en
  have ela2:=S2 _ _ ela
  have g1:=ok.leads n mn
  rw[ln] at g1
  wtm_at "zw"
  refine⟨n,v,us.length,rfl,hn.same S2,ok.few n mn,g1,fun H3 S3=>?_⟩
  wtm_at "zw"
  exact⟨n,v,rfl,(hn.same S2).same S3,ok.few n mn,ok.once n mn,fun H4 S4=>⟨_,rfl,(S2.trans S3).trans S4⟩⟩
 ·obtain⟨z,rfl,S2⟩:=hP
  have ela2:=S2 _ _ ela
  have hw2:=hw.same S2
  wtm_at "zf"
  refine⟨la,rfl,⟨us,SqL.of ela2⟩,?_⟩
  refine vY (xs:=us) (fun i σ' H''=>∃z:Option V,σ'=[some wv,some (.ref la),z]∧H''=H') ⟨z,rfl,rfl⟩ (fun i σ' H'' _ hP=>?_) (fun i v σ' H'' ex hP=>?_) (fun σ' H'' hP=>?_)
  ·obtain⟨_,rfl,rfl⟩:=hP
   exact SqL.of ela2
  ·obtain⟨z,rfl,rfl⟩:=hP
   obtain⟨n,en⟩:∃b,ns[i]? = some b:=⟨_,yYA (by rw[ln];exact(yYB.mp ex).1)⟩
   have hn:=xK pn en ex
   have mn:=yYE en
   wtm_at "zw"
   exact⟨n,v,wv,W,rfl,hn.same S2,hw2,ok.known n mn,_,rfl,rfl⟩
  ·obtain⟨z,rfl,rfl⟩:=hP
   wtm_at "zw"
   exact⟨la,us,rfl,.inl (SqL.of ela2),fun l hl=>q l _ (S2.free hl) (S2.trans (qV hl _)) qW⟩

theorem qAz:xH ["script","k"] ["script","k"] (xA (top 28)):=⟨rfl,rfl,rfl,by decide +kernel,rfl,by decide +kernel,by decide +kernel⟩
def cellM (ns:List Int)(k:Nat):Int:=if h:k<ns.length then ns[k] else k
def spCell (K:yZO):Sp:=fun vs H Q _=>∃(a:Addr) (ns:List Int) (k:Nat),vs=[.ref a,.int k]∧SqL K H a (intsV ns)∧Q (.int (cellM ns k)) H
theorem xJf (F:Fd K mg "_law_cell" (top 28) ["script","k"])(B:Bl mg):Dn P w K mg base "_law_cell" 1 ["script","k"] (spCell K):=by
 refine F.ok qAz (fun vs H Q E h=>?_) (fun f cdv A outer s H vs Q E hr h=>?_)
 ·obtain⟨_,_,_,rfl,_⟩:=h
  rfl
 obtain⟨a,ns,k,rfl,ea,q⟩:=h
 refine⟨_,(qZ (xU (qCo xZx qKz qE (pv 1) (xZ (xP (K:=K)) rfl B.len' zS (qQ (pv 0) qX))) (qJ (qN (xE (qT (K:=K)) (pv 0) (pv 1) (fun _ _=>rfl)))) qY)
  (qJ (qN (pv 1)))),?_⟩
 wtm_at "zw"
 refine⟨_,rfl,0,k,rfl,rfl,true,(by show V.bl (decide ((0:Int)≤(k:Int)))=V.bl true;rw[decide_eq_true (Int.natCast_nonneg k)]),iteT ?_⟩
 wtm_at "zw"
 have el:(intsV ns).length=ns.length:=yYC ..
 unfold cellM at q
 by_cases h:k<ns.length
 ·rw[dif_pos h] at q
  rw[decide_eq_true (show(k:Int)<((intsV ns).length:Int) by rw[el];omega)]
  refine iteT ?_
  refine⟨_,rfl,_,rfl,a,_,k,.int ns[k],rfl,rfl,ea,?_,q⟩
  exact zQ (by rw[yYO,yYA h];rfl)
 ·rw[dif_neg h] at q
  rw[decide_eq_false (show¬((k:Int)<((intsV ns).length:Int)) by rw[el];omega)]
  refine iteF ?_
  wtm_at "zw"
  exact q
theorem kW:xH ["cell","k","number"] ["cell","k"] (xA (top 29)):=⟨rfl,rfl,rfl,by decide +kernel,rfl,by decide +kernel,by decide +kernel⟩
abbrev bigM:Int:=170141183460469231731687303715884105727
def stir1 (c k:Int):Int:=(c % 10 ^ 60+7919 * k+1) * 27182818284590452353602874713527
def stir2 (c k:Int):Int:=stir1 c k % bigM
def stir3 (c k:Int):Int:=(stir2 c k * stir2 c k+104729 * k+1) % bigM
def stirM (c k:Int):Int:=stir3 c k * stir3 c k % bigM / 5
theorem qMk (n:Int):(n % bigM).natAbs<2 ^ 1000:=big _ (Int.emod_nonneg _ (by decide)) (Int.lt_trans (Int.emod_lt_of_pos n (show 0<bigM by decide)) (by decide +kernel))
def spStir:Sp:=fun vs H Q _=>∃c k:Int,vs=[.int c,.int k]∧0≤k∧k≤1000000∧Q (.int (stirM c k)) H
theorem xJx (F:Fd K mg "_law_stir" (top 29) ["cell","k"]):Dn P w K mg base "_law_stir" 1 ["cell","k"] spStir:=by
 refine F.ok kW (fun vs H Q E h=>?_) (fun f cdv A outer s H vs Q E hr h=>?_)
 ·obtain⟨c,k,rfl,_⟩:=h
  rfl
 obtain⟨c,k,rfl,h0,h1,q⟩:=h
 have a1:0≤c % 10 ^ 60:=Int.emod_nonneg _ (by decide +kernel)
 have a2:c % 10 ^ 60<10 ^ 60:=Int.emod_lt_of_pos _ (by decide +kernel)
 have pw:∀i j:Int,0≤j→j≤1000→i.natAbs<2 ^ 64→CPow i j:=fun i j x y z=>⟨x,by omega,z⟩
 refine⟨_,(qZ (qM (i:=2) kW.nd rfl (by wtm_at "zo") (xQ vM (xQ zC (xQ zC (xQ yE (pv 0) (xQ qDj qE qE)) (xQ vM qE (pv 1))) qE) qE))
  (qZ (qM (i:=2) kW.nd rfl (by wtm_at "zo") (xQ yE (pv 2) qE))
  (qZ (qM (i:=2) kW.nd rfl (by wtm_at "zo") (xQ yE (xQ zC (xQ zC (xQ vM (pv 2) (pv 2)) (xQ vM qE (pv 1))) qE) qE))
  (qJ (qN (xQ qKj (xQ yE (xQ vM (pv 2) (pv 2)) qE) qE)))))),?_⟩
 have b1:=xQx (a:=7919) (b:=k) (c:=7919) (d:=1000000) (by decide) h0 (Int.le_refl _) h1
 have b2:=xQx (a:=104729) (b:=k) (c:=104729) (d:=1000000) (by decide) h0 (Int.le_refl _) h1
 have kb:k.natAbs<2 ^ 1000:=big _ h0 (Int.lt_of_le_of_lt h1 (by decide +kernel))
 wtm_at "zw"
 refine w_I (pw 10 60 (by decide) (by decide) (by decide)) ?_
 refine w_I (show(0:Int)<10 ^ 60 by decide +kernel) ?_
 wtm_at "zw"
 refine w_I ⟨by decide +kernel,kb⟩ ?_
 wtm_at "zw"
 refine w_I ⟨big _ (by show 0≤c % 10 ^ 60+7919 * k+1;omega) ?_,by decide +kernel⟩ ?_
 ·show c % 10 ^ 60+7919 * k+1<10 ^ 200
  have e:(10:Int) ^ 60+7919 * 1000000+1<10 ^ 200:=by decide +kernel
  generalize (10:Int) ^ 60=u at *
  generalize (10:Int) ^ 200=v at *
  omega
 wtm_at "zw"
 refine w_I (show(0:Int)<bigM by decide) ?_
 wtm_at "zw"
 have m2:=qMk (stir1 c k)
 refine w_I ⟨m2,m2⟩ ?_
 wtm_at "zw"
 refine w_I ⟨by decide +kernel,kb⟩ ?_
 wtm_at "zw"
 refine w_I (show(0:Int)<bigM by decide) ?_
 wtm_at "zw"
 have m3:=qMk (stir2 c k * stir2 c k+104729 * k+1)
 refine w_I ⟨m3,m3⟩ ?_
 wtm_at "zw"
 refine w_I (show(0:Int)<bigM by decide) ?_
 wtm_at "zw"
 refine w_I ⟨by decide,by decide +kernel⟩ ?_
 exact q
theorem qVv:xH ["cell"] ["cell"] (xA (top 30)):=⟨rfl,rfl,rfl,by decide +kernel,rfl,by decide +kernel,by decide +kernel⟩
structure S3 where
 a:Int
 c:Int
 n:Nat
def St3 (H:Hp)(p:Addr)(s:S3):Prop:=H p=some (.lst [.int s.a,.int s.c,.int s.n])
def stateM (c:Int):S3:=⟨c - 10 ^ 18,c,0⟩
def qQl:Sp:=fun vs H Q _=>∃c:Int,vs=[.int c]∧∀(p:Addr) (H':Hp),H p=none→Same H H'→St3 H' p (stateM c)→Q (.ref p) H'
theorem qTh (F:Fd K mg "_law_state" (top 30) ["cell"]):Dn P w K mg base "_law_state" 1 ["cell"] qQl:=by
 refine F.ok qVv (fun vs H Q E h=>?_) (fun f cdv A outer s H vs Q E hr h=>?_)
 ·obtain⟨c,rfl,_⟩:=h
  rfl
 obtain⟨c,rfl,q⟩:=h
 refine⟨_,(qJ (qN (zE (qQ (xQ yP (pv 0) (xQ qDj qE qE)) (qQ (pv 0) (qQ qE qX)))))),?_⟩
 have pw:∀i j:Int,0≤j→j≤1000→i.natAbs<2 ^ 64→CPow i j:=fun i j x y z=>⟨x,by omega,z⟩
 wtm_at "zw"
 refine w_I (pw 10 18 (by decide) (by decide) (by decide)) ?_
 wtm_at "zw"
 exact⟨xF (show 3≤1000000 by decide),fun p hp=>q p _ hp (qV hp _) qW⟩
theorem qQo:xH ["state","many","found"] ["state","many"] (xA (top 31)):=⟨rfl,rfl,rfl,by decide +kernel,rfl,by decide +kernel,by decide +kernel⟩
def takeV (s:S3)(m:Int):Int:=if 0≤s.a then s.a % m else stirM s.c (s.n+1:Nat) % m
def takeS (s:S3)(m:Int):S3:=⟨if 0≤s.a then s.a / m else s.a,s.c,s.n+1⟩
theorem xG (s:S3){m:Int}(h:0<m):0≤takeV s m∧takeV s m<m:=by
 unfold takeV
 split
 ·exact⟨Int.emod_nonneg _ (by omega),Int.emod_lt_of_pos _ h⟩
 ·exact⟨Int.emod_nonneg _ (by omega),Int.emod_lt_of_pos _ h⟩
def But1 (p:Addr)(H H':Hp):Prop:=∀b o,b≠p→H b=some o→H' b=some o
def spTake:Sp:=fun vs H Q _=>∃(p:Addr) (s:S3) (m:Int),vs=[.ref p,.int m]∧St3 H p s∧0<m∧m.natAbs<2 ^ 1000∧s.n≤999999∧∀H':Hp,But1 p H H'→St3 H' p (takeS s m)→Q (.int (takeV s m)) H'
theorem xJq (F:Fd K mg "_law_take" (top 31) ["state","many"])(D_law_stir:Dn P w K mg base "_law_stir" 1 ["cell","k"] spStir):Dn P w K mg base "_law_take" 2 ["state","many"] spTake:=by
 refine F.ok qQo (fun vs H Q E h=>?_) (fun f cdv A outer s H vs Q E hr h=>?_)
 ·obtain⟨_,_,_,rfl,_⟩:=h
  rfl
 obtain⟨p,s,m,rfl,es,m0,m1,ns,q⟩:=h
 unfold St3 at es
 refine⟨_,(qZ (qO (xQ zC (xE (qT (K:=K)) (pv 0) qE (fun _ _=>rfl)) qE) (qIa (pv 0) qE qYg))
  (qZ (xU (qR xKf (xE (qT (K:=K)) (pv 0) qE (fun _ _=>rfl)) qE (xD _)) (qZ (qM (i:=2) qQo.nd rfl (by wtm_at "zo") (xQ yE (xE (qT (K:=K)) (pv 0) qE (fun _ _=>rfl)) (pv 1)))
  (qZ (qO (xQ qKj (xE (qT (K:=K)) (pv 0) qE (fun _ _=>rfl)) (pv 1)) (qIa (pv 0) qE qYg))
  (qJ (qN (pv 2))))) qY)
  (qJ (qN (xQ yE (qD D_law_stir hr (qQ (xE (qT (K:=K)) (pv 0) qE (fun _ _=>rfl)) (qQ (xE (qT (K:=K)) (pv 0) qE (fun _ _=>rfl)) qX))) (pv 1)))))),?_⟩
 wtm_at "zw"
 refine⟨_,rfl,p,_,2,2,rfl,rfl,es,rfl,?_⟩
 have e1:upd H p (.lst ([V.int s.a,.int s.c,.int s.n].set 2 (.int (s.n+1)))) p=some (.lst [.int s.a,.int s.c,.int (s.n+1)]):=qW
 have S1:But1 p H (upd H p (.lst ([V.int s.a,.int s.c,.int s.n].set 2 (.int (s.n+1))))):=fun b o n e=>by rw[qA n];exact e
 generalize upd H p (.lst ([V.int s.a,.int s.c,.int s.n].set 2 (.int (s.n+1))))=H1 at e1 S1 ⊢
 unfold takeV takeS at q
 wtm_at "zw"
 by_cases h:0≤s.a
 ·rw[if_pos h,if_pos h] at q
  rw[decide_eq_true h]
  refine iteT ?_
  wtm_at "zw"
  refine w_I m0 ?_
  wtm_at "zw"
  refine w_I ⟨m0,m1⟩ ?_
  refine⟨_,rfl,p,_,0,0,rfl,rfl,e1,rfl,?_⟩
  wtm_at "zw"
  exact q _ (fun b o n e=>by rw[qA n];exact S1 b o n e) qW
 ·rw[if_neg h,if_neg h] at q
  rw[decide_eq_false h]
  refine iteF ?_
  wtm_at "zw"
  refine⟨s.c,s.n+1,rfl,by omega,by omega,?_⟩
  wtm_at "zw"
  refine w_I m0 ?_
  exact q _ S1 e1

def Short (x:Str):Prop:=x.length≤1000∧(reprText x).length≤100000
theorem qAn {α:Type}{p:α→Bool}{l:List α}{i:Nat}{x:α}(h:l[i]? = some x):(l.take (i+1)).filter p=(l.take i).filter p++(if p x=true then [x] else []):=by
 rw[yYM,h,List.filter_append]
 congr 1
 show [x].filter p=_
 cases e:p x with
 | true=>rw[List.filter_cons_of_pos e];rfl
 | false=>rw[List.filter_cons_of_neg (by rw[e];exact yZK)];rfl

structure Bx (H:Hp)(bx:Addr)(bs:List (Str×Int)):Prop where
 ex:∃us,H bx=some (.lst us)∧Paired (BoxIn H) bs us
 ne:bs≠[]
 le:bs.length≤3
theorem zY {p:Addr}{H H':Hp}{s:S3}(B:But1 p H H')(e:St3 H p s):Tups H H':=fun b xs q=>B b _ (xT q e (by intro z;cases z)) q
theorem But1.trans {p:Addr}{H H1 H2:Hp}(a:But1 p H H1)(b:But1 p H1 H2):But1 p H H2:=fun c o n h=>b c o n (a c o n h)
theorem But1.of {p:Addr}{H H':Hp}(s:Same H H'):But1 p H H':=fun c o _ h=>s c o h
theorem Bx.apart {H:Hp}{bx p:Addr}{bs:List (Str×Int)}{s:S3}(h:Bx H bx bs)(e:St3 H p s):bx≠p:=by
 obtain⟨us,eu,pu⟩:=h.ex
 refine xT eu e fun z=>?_
 have e2:=HO.lst.inj z
 subst e2
 cases pu with
 | cons r _=>obtain⟨a,e3,_⟩:=r;cases e3
theorem Bx.but1 {H H':Hp}{bx p:Addr}{bs:List (Str×Int)}{s:S3}(h:Bx H bx bs)(e:St3 H p s)(B:But1 p H H'):Bx H' bx bs:=by
 have n:=h.apart e
 have t:=zY B e
 obtain⟨⟨us,eu,pu⟩,h2,h3⟩:=h
 exact⟨⟨us,B _ _ n eu,Paired.mapP pu fun _ _ ⟨a,e1,e2⟩=>⟨a,e1,t _ _ e2⟩⟩,h2,h3⟩
theorem Bx.same {H H':Hp}{bx:Addr}{bs:List (Str×Int)}(h:Bx H bx bs)(S:Same H H'):Bx H' bx bs:=by
 obtain⟨⟨us,eu,pu⟩,h2,h3⟩:=h
 exact⟨⟨us,S _ _ eu,Paired.mapP pu fun _ _ ⟨a,e1,e2⟩=>⟨a,e1,S _ _ e2⟩⟩,h2,h3⟩
def nameAt (bs:List (Str×Int))(i:Int):Str:=(bs.getD i.toNat ("",0)).1
theorem Bx.at {H:Hp}{bx:Addr}{bs:List (Str×Int)}(h:Bx H bx bs){i:Int}(h0:0≤i)(h1:i<bs.length):∃us a z,H bx=some (.lst us)∧us.length=bs.length∧atI us i=some (.ref a)∧H a=some (.tup [.str (nameAt bs i),.int z]):=by
 obtain⟨⟨us,eu,pu⟩,_,_⟩:=h
 have hk:i.toNat<bs.length:=by omega
 have hu:i.toNat<us.length:=by rw[← pu.length];exact hk
 obtain⟨a,e1,e2⟩:=xK pu (yYA hk) (yYA hu)
 refine⟨us,a,bs[i.toNat].2,eu,pu.length.symm,?_,?_⟩
 ·have z:atI us ((i.toNat:Nat):Int)=some (.ref a):=zQ (by rw[yYA hu,e1])
  rwa [show((i.toNat:Nat):Int)=i by omega] at z
 ·unfold nameAt
  rw[show bs.getD i.toNat ("",0)=bs[i.toNat] by rw[List.getD_eq_getElem?_getD,yYA hk];rfl]
  exact e2
theorem jB:xH ["state","boxes","deep","kind","one"] ["state","boxes","deep"] (xA (top 32)):=⟨rfl,rfl,rfl,by decide +kernel,rfl,by decide +kernel,by decide +kernel⟩
def opM (k:Int):Str:=if k=3 then "plus" else "less"
theorem xWd {k:Int}(h:k<5)(h3:¬k<3):atI [V.str "plus",V.str "less"] (k - 3)=some (.str (opM k)):=by
 have c:k=3∨k=4:=by omega
 rcases c with c | c
 ·subst c;rfl
 ·subst c;rfl
def exprM (bs:List (Str×Int)):Nat→S3→Th×S3
 | 0,s=>if takeV s 5=0 then (.num (takeV (takeS s 5) 10),takeS (takeS s 5) 10) else (.box (nameAt bs (takeV (takeS s 5) bs.length)),takeS (takeS s 5) bs.length)
 | d+1,s=>if takeV s 5=0 then (.num (takeV (takeS s 5) 10),takeS (takeS s 5) 10) else if takeV s 5<3 then (.box (nameAt bs (takeV (takeS s 5) bs.length)),takeS (takeS s 5) bs.length)
  else (.bin (opM (takeV s 5)) (exprM bs d (takeS s 5)).1 (exprM bs d (exprM bs d (takeS s 5)).2).1,(exprM bs d (exprM bs d (takeS s 5)).2).2)
theorem qZz (bs:List (Str×Int))(d:Nat):∀s:S3,(exprM bs d s).2.n+1≤s.n+3 * 2 ^ d:=by
 induction d with
 | zero=>
  intro s
  unfold exprM
  split
  ·show s.n+1+1+1≤_;omega
  ·show s.n+1+1+1≤_;omega
 | succ d ih=>
  intro s
  have h1:=ih (takeS s 5)
  have h2:=ih (exprM bs d (takeS s 5)).2
  have e:(takeS s 5).n=s.n+1:=rfl
  have p2:1≤2 ^ d:=Nat.one_le_two_pow
  unfold exprM
  rw[Nat.pow_succ]
  split
  ·show s.n+1+1+1≤_;omega
  ·split
   ·show s.n+1+1+1≤_;omega
   ·show(exprM bs d (exprM bs d (takeS s 5)).2).2.n+1≤_;omega
def kJ (n:Nat):Sp:=fun vs H Q _=>∃(p bx:Addr) (bs:List (Str×Int)) (s:S3) (d:Nat),vs=[.ref p,.ref bx,.int d]∧St3 H p s∧Bx H bx bs∧d<n∧s.n+3 * 2 ^ d≤900000∧
 ∀(v:V) (H':Hp),But1 p H H'→St3 H' p (exprM bs d s).2→(exprM bs d s).1.At H' v→Q v H'
theorem qUq (F:Fd K mg "_law_expression" (top 32) ["state","boxes","deep"]):Dn P w K mg base "_law_expression" 3 ["state","boxes","deep"] (kJ 0):=by
 have no:∀vs H Q E,¬kJ 0 vs H Q E:=fun vs H Q E h=>by
  obtain⟨_,_,_,_,d,_,_,_,h1,_⟩:=h
  omega
 obtain⟨f,fd,F,a,b,c⟩:=F.ex
 exact⟨f,fd,⟨fun vs H Q E h=>absurd h (no vs H Q E),fun A outer s H args us vs Q E _ _ _ _ h=>absurd h (no vs H Q E)⟩,a,b,c⟩
theorem qTo {n:Nat}(F:Fd K mg "_law_expression" (top 32) ["state","boxes","deep"])(B:Bl mg)(D_law_take:Dn P w K mg base "_law_take" 2 ["state","many"] spTake)
  (D_law_expression:Dn P w K mg base "_law_expression" (n+3) ["state","boxes","deep"] (kJ n)):Dn P w K mg base "_law_expression" (n+4) ["state","boxes","deep"] (kJ (n+1)):=by
 refine F.ok (k:=n+3) jB (fun vs H Q E h=>?_) (fun f cdv A outer s H vs Q E hr h=>?_)
 ·obtain⟨_,_,_,_,_,rfl,_⟩:=h
  rfl
 obtain⟨p,bx,bs,s,d,rfl,es,hb,hd,hn,q⟩:=h
 have pd:1≤2 ^ d:=Nat.one_le_two_pow
 have b3:=hb.le
 have bl:0<bs.length:=List.length_pos_iff.mpr hb.ne
 have lbig:((bs.length:Nat):Int).natAbs<2 ^ 1000:=big _ (by omega) (Int.lt_of_le_of_lt (b:=3) (by omega) (by decide +kernel))
 refine⟨_,(qZ (qM (i:=3) jB.nd rfl (by wtm_at "zo") (qD D_law_take hr (qQ (pv 0) (qQ qE qX))))
  (qZ (xU (qR zA (pv 3) qE (xD _)) (qJ (qN (zV (qQ qF (qQ (qD D_law_take hr (qQ (pv 0) (qQ qE qX))) qX))))) qY)
  (qZ (xU (PW.pt (qYh (qR zA (pv 2) qE (xD _)) (qXv (qR qKz (pv 3) qE (xD _))))) (qJ (qN (zV (qQ qF (qQ (xE (qS (K:=K)) (xE (qT (K:=K)) (pv 1) (qD D_law_take hr (qQ (pv 0) (qQ (xZ (xP (K:=K)) rfl B.len' zS (qQ (pv 1) qX)) qX))) (fun _ _=>rfl)) qE (fun _ _=>rfl)) qX))))) qY)
  (qZ (qM (i:=4) jB.nd rfl (by wtm_at "zo") (qD D_law_expression hr (qQ (pv 0) (qQ (pv 1) (qQ (xQ yP (pv 2) qE) qX)))))
  (qJ (qN (zV (qQ (xE (qT (K:=K)) (zE (qQ qF (qQ qF qX))) (xQ yP (pv 3) qE) (fun _ _=>rfl)) (qQ (pv 4) (qQ (qD D_law_expression hr (qQ (pv 0) (qQ (pv 1) (qQ (xQ yP (pv 2) qE) qX)))) qX)))))))))),?_⟩
 wtm_at "zw"
 refine⟨p,s,5,rfl,es,by decide,by decide +kernel,by omega,fun H1 B1 e1=>?_⟩
 have hb1:=hb.but1 es B1
 have kb:=xG s (m:=5) (by decide)
 wtm_at "zw"
 by_cases k0:takeV s 5=0
 ·rw[decide_eq_true (show V.int (takeV s 5)=V.int 0 by rw[k0])]
  refine iteT ?_
  wtm_at "zw"
  refine⟨p,takeS s 5,10,rfl,e1,by decide,by decide +kernel,by show s.n+1≤_;omega,fun H2 B2 e2=>?_⟩
  wtm_at "zw"
  refine⟨xF (show 2≤1000000 by decide),fun t ht=>?_⟩
  have em:exprM bs d s=(.num (takeV (takeS s 5) 10),takeS (takeS s 5) 10):=by
   cases d <;> (unfold exprM;rw[if_pos k0])
  rw[em] at q
  exact q _ _ ((B1.trans B2).trans (.of (qV ht _))) (qV ht _ _ _ e2) ⟨t,rfl,qW⟩
 rw[decide_eq_false (show¬(V.int (takeV s 5)=V.int 0) from fun z=>k0 (V.int.inj z))]
 refine iteF ?_
 obtain⟨us1,eu1,pu1⟩:=hb1.ex
 have lu1:us1.length=bs.length:=pu1.length.symm
 wtm_at "zw"
 refine ite2 (fun c=>?_) (fun c=>?_)
 ·have d0:d=0:=by have:=V.int.inj (of_decide_eq_true c);omega
  subst d0
  refine iteT ?_
  have em:exprM bs 0 s=(.box (nameAt bs (takeV (takeS s 5) bs.length)),takeS (takeS s 5) bs.length):=by unfold exprM;rw[if_neg k0]
  rw[em] at q
  wtm_at "zw"
  rw[lu1]
  refine⟨p,takeS s 5,bs.length,rfl,e1,by omega,lbig,by show s.n+1≤_;omega,fun H2 B2 e2=>?_⟩
  have tb:=xG (takeS s 5) (m:=bs.length) (by omega)
  obtain⟨us2,a,z,eu2,lu2,ea,et⟩:=(hb1.but1 e1 B2).at tb.1 tb.2
  wtm_at "zw"
  refine⟨xF (show 2≤1000000 by decide),fun t ht=>?_⟩
  exact q _ _ ((B1.trans B2).trans (.of (qV ht _))) (qV ht _ _ _ e2) ⟨t,rfl,qW⟩
 have d0:d≠0:=fun z=>c (decide_eq_true (by rw[z];rfl))
 obtain⟨d,rfl⟩:=Nat.exists_eq_succ_of_ne_zero d0
 wtm_at "zw"
 refine ite2 (fun c=>?_) (fun c=>?_)
 ·have k3:=of_decide_eq_true c
  have em:exprM bs (d+1) s=(.box (nameAt bs (takeV (takeS s 5) bs.length)),takeS (takeS s 5) bs.length):=by unfold exprM;rw[if_neg k0,if_pos k3]
  rw[em] at q
  wtm_at "zw"
  rw[lu1]
  refine⟨p,takeS s 5,bs.length,rfl,e1,by omega,lbig,by show s.n+1≤_;omega,fun H2 B2 e2=>?_⟩
  have tb:=xG (takeS s 5) (m:=bs.length) (by omega)
  obtain⟨us2,a,z,eu2,lu2,ea,et⟩:=(hb1.but1 e1 B2).at tb.1 tb.2
  wtm_at "zw"
  refine⟨xF (show 2≤1000000 by decide),fun t ht=>?_⟩
  exact q _ _ ((B1.trans B2).trans (.of (qV ht _))) (qV ht _ _ _ e2) ⟨t,rfl,qW⟩
 have k3:¬(takeV s 5<3):=fun z=>c (decide_eq_true z)
 have em:exprM bs (d+1) s=(.bin (opM (takeV s 5)) (exprM bs d (takeS s 5)).1 (exprM bs d (exprM bs d (takeS s 5)).2).1,(exprM bs d (exprM bs d (takeS s 5)).2).2):=by
  conv=>lhs;unfold exprM
  rw[if_neg k0,if_neg k3]
 rw[em] at q
 have c1:=qZz bs d (takeS s 5)
 have ts:(takeS s 5).n=s.n+1:=rfl
 have hn':s.n+3 * (2 ^ d * 2)≤900000:=by rw[← Nat.pow_succ];exact hn
 have dd:((d+1:Nat):Int) - 1=(d:Int):=by omega
 wtm_at "zw"
 refine⟨p,bx,bs,takeS s 5,d,by show [V.ref p,.ref bx,.int (((d+1:Nat):Int) - 1)]=_;rw[dd],e1,hb1,by omega,by omega,fun v1 H2 B2 e2 a1=>?_⟩
 have hb2:=hb1.but1 e1 B2
 wtm_at "zw"
 refine⟨xF (show 2≤1000000 by decide),fun l hl=>?_⟩
 have S3':=qV hl (.lst [V.str "plus",V.str "less"])
 have el:upd H2 l (.lst [V.str "plus",V.str "less"]) l=some _:=qW
 generalize upd H2 l (.lst [V.str "plus",V.str "less"])=H3 at S3' el ⊢
 have e3:=S3' _ _ e2
 have hb3:=hb2.same S3'
 have a3:=Th.At.mono (qC S3') a1
 wtm_at "zw"
 refine⟨l,_,_,.str (opM (takeV s 5)),rfl,rfl,SqL.of el,xWd kb.2 k3,?_⟩
 wtm_at "zw"
 refine⟨p,bx,bs,(exprM bs d (takeS s 5)).2,d,by show [V.ref p,.ref bx,.int (((d+1:Nat):Int) - 1)]=_;rw[dd],e3,hb3,by omega,by omega,fun v2 H4 B4 e4 a4=>?_⟩
 wtm_at "zw"
 refine⟨xF (show 3≤1000000 by decide),fun t ht=>?_⟩
 have S5:=qV ht (.tup [V.str (opM (takeV s 5)),v1,v2])
 have T4:=zY B4 e3
 exact q _ _ ((((B1.trans B2).trans (.of S3')).trans B4).trans (.of S5)) (S5 _ _ e4) ⟨t,v1,v2,rfl,qW,Th.At.mono (qC S5) (Th.At.mono T4 a3),Th.At.mono (qC S5) a4⟩
theorem xJc (F:Fd K mg "_law_expression" (top 32) ["state","boxes","deep"])(B:Bl mg)(D:Dn P w K mg base "_law_take" 2 ["state","many"] spTake)(n:Nat):Dn P w K mg base "_law_expression" (n+3) ["state","boxes","deep"] (kJ n):=by
 induction n with
 | zero=>exact qUq F
 | succ n ih=>exact qTo F B D ih

theorem jJ:xH ["state","boxes","deep","kind","one"] ["state","boxes","deep"] (xA (top 33)):=⟨rfl,rfl,rfl,by decide +kernel,rfl,by decide +kernel,by decide +kernel⟩
def relM (k:Int):Str:=if k % 2=0 then "same" else "under"
def condL (bs:List (Str×Int))(s:S3):Th×S3:=
 (.bin (relM (takeV s 8)) (exprM bs 1 (takeS s 8)).1 (exprM bs 1 (exprM bs 1 (takeS s 8)).2).1,(exprM bs 1 (exprM bs 1 (takeS s 8)).2).2)
def condM (bs:List (Str×Int)):Nat→S3→Th×S3
 | 0,s=>if takeV s 8=4 then (.nul "yes",takeS s 8) else condL bs s
 | d+1,s=>if takeV s 8=4 then (.nul "yes",takeS s 8) else if takeV s 8<5 then condL bs s
  else if takeV s 8=5 then (.un "not" (condM bs d (takeS s 8)).1,(condM bs d (takeS s 8)).2)
  else (.bin "both" (condM bs d (takeS s 8)).1 (condM bs d (condM bs d (takeS s 8)).2).1,(condM bs d (condM bs d (takeS s 8)).2).2)
theorem qOe (bs:List (Str×Int))(s:S3):(condL bs s).2.n+1≤s.n+12:=by
 have h1:=qZz bs 1 (takeS s 8)
 have h2:=qZz bs 1 (exprM bs 1 (takeS s 8)).2
 have e:(takeS s 8).n=s.n+1:=rfl
 show(exprM bs 1 (exprM bs 1 (takeS s 8)).2).2.n+1≤_
 omega
theorem qBk (bs:List (Str×Int))(d:Nat):∀s:S3,(condM bs d s).2.n+1≤s.n+12 * 2 ^ d:=by
 induction d with
 | zero=>
  intro s
  have:=qOe bs s
  unfold condM
  split
  ·show s.n+1+1≤_;omega
  ·omega
 | succ d ih=>
  intro s
  have h1:=ih (takeS s 8)
  have h2:=ih (condM bs d (takeS s 8)).2
  have e:(takeS s 8).n=s.n+1:=rfl
  have p2:1≤2 ^ d:=Nat.one_le_two_pow
  have:=qOe bs s
  unfold condM
  rw[Nat.pow_succ]
  split
  ·show s.n+1+1≤_;omega
  ·split
   ·omega
   ·split
    ·show(condM bs d (takeS s 8)).2.n+1≤_;omega
    ·show(condM bs d (condM bs d (takeS s 8)).2).2.n+1≤_;omega
theorem qUl {k:Int}:atI [V.str "same",V.str "under"] (k % 2)=some (.str (relM k)):=by
 unfold relM
 have c:k % 2=0∨k % 2=1:=by omega
 rcases c with c | c
 ·rw[c];rfl
 ·rw[c];rfl
def vH (n:Nat):Sp:=fun vs H Q _=>∃(p bx:Addr) (bs:List (Str×Int)) (s:S3) (d:Nat),vs=[.ref p,.ref bx,.int d]∧St3 H p s∧Bx H bx bs∧d<n∧s.n+12 * 2 ^ d≤900000∧
 ∀(v:V) (H':Hp),But1 p H H'→St3 H' p (condM bs d s).2→(condM bs d s).1.At H' v→Q v H'
theorem qUz (F:Fd K mg "_law_condition" (top 33) ["state","boxes","deep"]):Dn P w K mg base "_law_condition" 6 ["state","boxes","deep"] (vH 0):=by
 have no:∀vs H Q E,¬vH 0 vs H Q E:=fun vs H Q E h=>by
  obtain⟨_,_,_,_,d,_,_,_,h1,_⟩:=h
  omega
 obtain⟨f,fd,F,a,b,c⟩:=F.ex
 exact⟨f,fd,⟨fun vs H Q E h=>absurd h (no vs H Q E),fun A outer s H args us vs Q E _ _ _ _ h=>absurd h (no vs H Q E)⟩,a,b,c⟩
theorem qUx {n:Nat}(F:Fd K mg "_law_condition" (top 33) ["state","boxes","deep"])(B:Bl mg)(D_law_take:Dn P w K mg base "_law_take" 2 ["state","many"] spTake)
  (D_law_expression:Dn P w K mg base "_law_expression" 6 ["state","boxes","deep"] (kJ 3)) (D_law_condition:Dn P w K mg base "_law_condition" (n+6) ["state","boxes","deep"] (vH n)):Dn P w K mg base "_law_condition" (n+7) ["state","boxes","deep"] (vH (n+1)):=by
 refine F.ok (k:=n+6) jJ (fun vs H Q E h=>?_) (fun f cdv A outer s H vs Q E hr h=>?_)
 ·obtain⟨_,_,_,_,_,rfl,_⟩:=h
  rfl
 obtain⟨p,bx,bs,s,d,rfl,es,hb,hd,hn,q⟩:=h
 have pd:1≤2 ^ d:=Nat.one_le_two_pow
 refine⟨_,(qZ (qM (i:=3) jJ.nd rfl (by wtm_at "zo") (qD D_law_take hr (qQ (pv 0) (qQ qE qX))))
  (qZ (xU (qR zA (pv 3) qE (xD _)) (qJ (qN (zV (qQ qF qX)))) qY)
  (qZ (xU (PW.pt (qYh (qR zA (pv 2) qE (xD _)) (qXv (qR qKz (pv 3) qE (xD _))))) (qZ (qM (i:=4) jJ.nd rfl (by wtm_at "zo") (qD D_law_expression hr (qQ (pv 0) (qQ (pv 1) (qQ qE qX)))))
  (qJ (qN (zV (qQ (xE (qT (K:=K)) (zE (qQ qF (qQ qF qX))) (xQ yE (pv 3) qE) (fun _ _=>rfl)) (qQ (pv 4) (qQ (qD D_law_expression hr (qQ (pv 0) (qQ (pv 1) (qQ qE qX)))) qX))))))) qY)
  (qZ (qM (i:=4) jJ.nd rfl (by wtm_at "zo") (qD D_law_condition hr (qQ (pv 0) (qQ (pv 1) (qQ (xQ yP (pv 2) qE) qX)))))
  (qZ (xU (qR zA (pv 3) qE (xD _)) (qJ (qN (zV (qQ qF (qQ (pv 4) qX))))) qY)
  (qJ (qN (zV (qQ qF (qQ (pv 4) (qQ (qD D_law_condition hr (qQ (pv 0) (qQ (pv 1) (qQ (xQ yP (pv 2) qE) qX)))) qX))))))))))),?_⟩
 wtm_at "zw"
 refine⟨p,s,8,rfl,es,by decide,by decide +kernel,by omega,fun H1 B1 e1=>?_⟩
 have hb1:=hb.but1 es B1
 have kb:=xG s (m:=8) (by decide)
 have ts:(takeS s 8).n=s.n+1:=rfl
 wtm_at "zw"
 by_cases k4:takeV s 8=4
 ·rw[decide_eq_true (show V.int (takeV s 8)=V.int 4 by rw[k4])]
  refine iteT ?_
  wtm_at "zw"
  refine⟨xF (show 1≤1000000 by decide),fun t ht=>?_⟩
  have em:condM bs d s=(.nul "yes",takeS s 8):=by
   cases d <;> (unfold condM;rw[if_pos k4])
  rw[em] at q
  exact q _ _ (B1.trans (.of (qV ht _))) (qV ht _ _ _ e1) ⟨t,rfl,qW⟩
 rw[decide_eq_false (show¬(V.int (takeV s 8)=V.int 4) from fun z=>k4 (V.int.inj z))]
 refine iteF ?_
 wtm_at "zw"
 have c1:=qZz bs 1 (takeS s 8)
 refine ite2 (fun c=>?_) (fun c=>?_)
 ·have d0:d=0:=by have:=V.int.inj (of_decide_eq_true c);omega
  subst d0
  refine iteT ?_
  have em:condM bs 0 s=condL bs s:=by unfold condM;rw[if_neg k4]
  rw[em] at q
  wtm_at "zw"
  refine⟨p,bx,bs,takeS s 8,1,rfl,e1,hb1,by omega,by omega,fun v1 H2 B2 e2 a1=>?_⟩
  have hb2:=hb1.but1 e1 B2
  wtm_at "zw"
  refine⟨xF (show 2≤1000000 by decide),fun l hl=>?_⟩
  have S3':=qV hl (.lst [V.str "same",V.str "under"])
  have el:upd H2 l (.lst [V.str "same",V.str "under"]) l=some _:=qW
  generalize upd H2 l (.lst [V.str "same",V.str "under"])=H3 at S3' el ⊢
  have e3:=S3' _ _ e2
  have hb3:=hb2.same S3'
  have a3:=Th.At.mono (qC S3') a1
  wtm_at "zw"
  refine w_I (show(0:Int)<2 by decide) ?_
  refine⟨l,_,_,.str (relM (takeV s 8)),rfl,rfl,SqL.of el,qUl,?_⟩
  wtm_at "zw"
  refine⟨p,bx,bs,(exprM bs 1 (takeS s 8)).2,1,rfl,e3,hb3,by omega,by omega,fun v2 H4 B4 e4 a4=>?_⟩
  wtm_at "zw"
  refine⟨xF (show 3≤1000000 by decide),fun t ht=>?_⟩
  have S5:=qV ht (.tup [V.str (relM (takeV s 8)),v1,v2])
  have T4:=zY B4 e3
  exact q _ _ ((((B1.trans B2).trans (.of S3')).trans B4).trans (.of S5)) (S5 _ _ e4) ⟨t,v1,v2,rfl,qW,Th.At.mono (qC S5) (Th.At.mono T4 a3),Th.At.mono (qC S5) a4⟩
 have d0:d≠0:=fun z=>c (decide_eq_true (by rw[z];rfl))
 obtain⟨d,rfl⟩:=Nat.exists_eq_succ_of_ne_zero d0
 wtm_at "zw"
 refine ite2 (fun c=>?_) (fun c=>?_)
 ·have k5:=of_decide_eq_true c
  have em:condM bs (d+1) s=condL bs s:=by unfold condM;rw[if_neg k4,if_pos k5]
  rw[em] at q
  wtm_at "zw"
  refine⟨p,bx,bs,takeS s 8,1,rfl,e1,hb1,by omega,by omega,fun v1 H2 B2 e2 a1=>?_⟩
  have hb2:=hb1.but1 e1 B2
  wtm_at "zw"
  refine⟨xF (show 2≤1000000 by decide),fun l hl=>?_⟩
  have S3':=qV hl (.lst [V.str "same",V.str "under"])
  have el:upd H2 l (.lst [V.str "same",V.str "under"]) l=some _:=qW
  generalize upd H2 l (.lst [V.str "same",V.str "under"])=H3 at S3' el ⊢
  have e3:=S3' _ _ e2
  have hb3:=hb2.same S3'
  have a3:=Th.At.mono (qC S3') a1
  wtm_at "zw"
  refine w_I (show(0:Int)<2 by decide) ?_
  refine⟨l,_,_,.str (relM (takeV s 8)),rfl,rfl,SqL.of el,qUl,?_⟩
  wtm_at "zw"
  refine⟨p,bx,bs,(exprM bs 1 (takeS s 8)).2,1,rfl,e3,hb3,by omega,by omega,fun v2 H4 B4 e4 a4=>?_⟩
  wtm_at "zw"
  refine⟨xF (show 3≤1000000 by decide),fun t ht=>?_⟩
  have S5:=qV ht (.tup [V.str (relM (takeV s 8)),v1,v2])
  have T4:=zY B4 e3
  exact q _ _ ((((B1.trans B2).trans (.of S3')).trans B4).trans (.of S5)) (S5 _ _ e4) ⟨t,v1,v2,rfl,qW,Th.At.mono (qC S5) (Th.At.mono T4 a3),Th.At.mono (qC S5) a4⟩
 have k5:¬(takeV s 8<5):=fun z=>c (decide_eq_true z)
 have c2:=qBk bs d (takeS s 8)
 have hn':s.n+12 * (2 ^ d * 2)≤900000:=by rw[← Nat.pow_succ];exact hn
 have dd:((d+1:Nat):Int) - 1=(d:Int):=by omega
 wtm_at "zw"
 refine⟨p,bx,bs,takeS s 8,d,by show [V.ref p,.ref bx,.int (((d+1:Nat):Int) - 1)]=_;rw[dd],e1,hb1,by omega,by omega,fun v1 H2 B2 e2 a1=>?_⟩
 have hb2:=hb1.but1 e1 B2
 wtm_at "zw"
 by_cases k6:takeV s 8=5
 ·rw[decide_eq_true (show V.int (takeV s 8)=V.int 5 by rw[k6])]
  refine iteT ?_
  have em:condM bs (d+1) s=(.un "not" (condM bs d (takeS s 8)).1,(condM bs d (takeS s 8)).2):=by
   conv=>lhs;unfold condM
   rw[if_neg k4,if_neg k5,if_pos k6]
  rw[em] at q
  wtm_at "zw"
  refine⟨xF (show 2≤1000000 by decide),fun t ht=>?_⟩
  have S5:=qV ht (.tup [V.str "not",v1])
  exact q _ _ ((B1.trans B2).trans (.of S5)) (S5 _ _ e2) ⟨t,v1,rfl,qW,Th.At.mono (qC S5) a1⟩
 ·rw[decide_eq_false (show¬(V.int (takeV s 8)=V.int 5) from fun z=>k6 (V.int.inj z))]
  refine iteF ?_
  have em:condM bs (d+1) s=(.bin "both" (condM bs d (takeS s 8)).1 (condM bs d (condM bs d (takeS s 8)).2).1,(condM bs d (condM bs d (takeS s 8)).2).2):=by
   conv=>lhs;unfold condM
   rw[if_neg k4,if_neg k5,if_neg k6]
  rw[em] at q
  wtm_at "zw"
  refine⟨p,bx,bs,(condM bs d (takeS s 8)).2,d,by show [V.ref p,.ref bx,.int (((d+1:Nat):Int) - 1)]=_;rw[dd],e2,hb2,by omega,by omega,fun v2 H4 B4 e4 a4=>?_⟩
  wtm_at "zw"
  refine⟨xF (show 3≤1000000 by decide),fun t ht=>?_⟩
  have S5:=qV ht (.tup [V.str "both",v1,v2])
  have T4:=zY B4 e2
  exact q _ _ (((B1.trans B2).trans B4).trans (.of S5)) (S5 _ _ e4) ⟨t,v1,v2,rfl,qW,Th.At.mono (qC S5) (Th.At.mono T4 a1),Th.At.mono (qC S5) a4⟩
theorem xJe (F:Fd K mg "_law_condition" (top 33) ["state","boxes","deep"])(B:Bl mg)(D:Dn P w K mg base "_law_take" 2 ["state","many"] spTake)(DE:Dn P w K mg base "_law_expression" 6 ["state","boxes","deep"] (kJ 3))(n:Nat):Dn P w K mg base "_law_condition" (n+6) ["state","boxes","deep"] (vH n):=by
 induction n with
 | zero=>exact qUz F
 | succ n ih=>exact qUx F B D DE ih

def abc:List Nat:=("abcdefghijklmnopqrstuvwxyz" : Str).cps.toList
def letter (i:Int):Nat:=abc.getD i.toNat 0
theorem xYx:abc.length=26:=by decide +kernel
theorem qJg {i:Int}(h0:0≤i)(h1:i<26):atI ("abcdefghijklmnopqrstuvwxyz" : Str).cps.toList i=some (letter i):=by
 have e:i=((i.toNat:Nat):Int):=by omega
 have hk:i.toNat<abc.length:=by rw[xYx];omega
 have z:atI abc ((i.toNat:Nat):Int)=some (letter i):=zQ (by unfold letter;rw[List.getD_eq_getElem?_getD,yYA hk];rfl)
 rw[← e] at z
 exact z
def wordOf (c:Nat)(a r:Int)(k:Nat):Str:=Txt.mul ⟨#[c]⟩ a++⟨#[k]⟩++Txt.mul ⟨#[c]⟩ r
theorem qJo (c:Nat):∀(k:Nat) (acc:Array Nat),((List.replicate k #[c]).foldl (·++·) acc).toList=acc.toList++List.replicate k c
 | 0,acc=>by simp
 | k+1,acc=>by
  rw[List.replicate_succ,List.foldl_cons,qJo c k,Array.toList_append,List.append_assoc,List.replicate_succ]
  rfl
theorem qVl (c:Nat)(n:Int):(Txt.mul ⟨#[c]⟩ n).cps.toList=List.replicate n.toNat c:=by
 unfold Txt.mul
 by_cases h1:n<1
 ·rw[if_pos h1,show n.toNat=0 by omega];rfl
 ·rw[if_neg h1]
  by_cases h2:(n == 1 || (⟨#[c]⟩:Str).length == 0)=true
  ·rw[if_pos h2]
   rw[Bool.or_eq_true] at h2
   rcases h2 with h | h
   ·have:n=1:=eq_of_beq h
    subst this;rfl
   ·exact absurd (show((1:Nat) == 0)=true from h) (by decide)
  ·rw[if_neg h2,qJo];rfl
theorem qZo (c:Nat)(a r:Int)(k:Nat):(wordOf c a r k).cps.toList=List.replicate a.toNat c++k::List.replicate r.toNat c:=by
 show((Txt.mul ⟨#[c]⟩ a).cps++#[k]++(Txt.mul ⟨#[c]⟩ r).cps).toList=_
 rw[Array.toList_append,Array.toList_append,qVl,qVl]
 simp
theorem qXi:("abcdefghijklmnopqrstuvwxyz" : Str).length≤sizeLine:=by decide +kernel
theorem xZb (x y:Str):(x++y).length=x.length+y.length:=by
 show(x.cps++y.cps).size=_
 rw[Array.size_append];rfl
def Low (c:Nat):Prop:=(Builtin.Str.reprChar 34 c).length≤1∧(Builtin.Str.reprChar 39 c).length≤1
theorem xZa:∀i:Fin 26,(Builtin.Str.reprChar 34 (abc.getD i.val 0)).length≤1∧(Builtin.Str.reprChar 39 (abc.getD i.val 0)).length≤1:=by decide +kernel
theorem qJf {i:Int}(h0:0≤i)(h1:i<26):Low (letter i):=xZa ⟨i.toNat,by omega⟩
theorem qDw {q:Nat}:∀(l:List Nat) (n:Nat),(∀c∈l,(Builtin.Str.reprChar q c).length≤1)→l.foldl (fun n c=>n+(Builtin.Str.reprChar q c).length) n≤n+l.length
 | [],n,_=>by simp
 | c::l,n,h=>by
  have h1:=h c (yYG ..)
  have ih:=qDw l (n+(Builtin.Str.reprChar q c).length) fun d hd=>h d (yYH _ hd)
  rw[List.foldl_cons,yYS]
  omega
theorem qRx {x:Str}(h:∀c∈x.cps.toList,Low c)(hl:x.length≤1000):Short x:=by
 refine⟨hl,?_⟩
 rw[← reprLen_eq,← Array.foldl_toList]
 have hq:∀c∈x.cps.toList,(Builtin.Str.reprChar (reprQuote x) c).length≤1:=fun c hc=>by
  unfold reprQuote
  split
  ·exact(h c hc).1
  ·exact(h c hc).2
 have:=qDw x.cps.toList 2 hq
 have e:x.cps.toList.length=x.length:=rfl
 omega
theorem zW:xH ["state","many","letters","size","at","pad","first","found","k","sign"] ["state","many"] (xA (top 35)):=⟨rfl,rfl,rfl,by decide +kernel,rfl,by decide +kernel,by decide +kernel⟩
def wordM (s:S3)(j:Nat):Str:=
 wordOf (letter (takeV (takeS (takeS s 8) (1+takeV s 8)) 26)) (takeV (takeS s 8) (1+takeV s 8)) (1+takeV s 8 - takeV (takeS s 8) (1+takeV s 8) - 1)
  (letter ((takeV (takeS (takeS (takeS s 8) (1+takeV s 8)) 26) 26+3 * (0+(j:Int))) % 26))
def wordsM (s:S3)(m:Nat):List Str:=(List.range m).map (wordM s)
def wordsS (s:S3):S3:=takeS (takeS (takeS (takeS s 8) (1+takeV s 8)) 26) 26
theorem qQe (s:S3)(j:Nat):Short (wordM s j):=by
 have a:=xG s (m:=8) (by decide)
 have b:=xG (takeS s 8) (m:=1+takeV s 8) (by omega)
 have c:=xG (takeS (takeS s 8) (1+takeV s 8)) (m:=26) (by decide)
 have lc:=qJf c.1 c.2
 have lk:=qJf (Int.emod_nonneg (takeV (takeS (takeS (takeS s 8) (1+takeV s 8)) 26) 26+3 * (0+(j:Int))) (b:=26) (by decide)) (Int.emod_lt_of_pos _ (by decide))
 refine qRx (fun d hd=>?_) ?_
 ·unfold wordM at hd
  rw[qZo] at hd
  rcases yYR.mp hd with h | h
  ·rw[(List.mem_replicate.mp h).2];exact lc
  ·rcases yYK.mp h with h | h
   ·rw[h];exact lk
   ·rw[(List.mem_replicate.mp h).2];exact lc
 ·show(wordM s j).cps.toList.length≤1000
  unfold wordM
  rw[qZo]
  simp only[yYI,yYS,List.length_replicate]
  omega
def qGf:Sp:=fun vs H Q _=>∃(p:Addr) (s:S3) (m:Nat),vs=[.ref p,.int m]∧St3 H p s∧s.n≤900000∧m≤26∧
 ∀(r:Addr) (H':Hp),H r=none→But1 p H H'→St3 H' p (wordsS s)→H' r=some (.lst (strsV (wordsM s m)))→Q (.ref r) H'
theorem qTe (F:Fd K mg "_law_words" (top 35) ["state","many"])(B:Bl mg)(D_law_take:Dn P w K mg base "_law_take" 2 ["state","many"] spTake):Dn P w K mg base "_law_words" 3 ["state","many"] qGf:=by
 refine F.ok zW (fun vs H Q E h=>?_) (fun f cdv A outer s H vs Q E hr h=>?_)
 ·obtain⟨_,_,_,rfl,_⟩:=h
  rfl
 obtain⟨p,s,m,rfl,es,hn,hm,q⟩:=h
 have a:=xG s (m:=8) (by decide)
 have b:=xG (takeS s 8) (m:=1+takeV s 8) (by omega)
 have c:=xG (takeS (takeS s 8) (1+takeV s 8)) (m:=26) (by decide)
 have c':=xG (takeS (takeS (takeS s 8) (1+takeV s 8)) 26) (m:=26) (by decide)
 refine⟨_,(qZ (qM (i:=2) zW.nd rfl (by wtm_at "zo") qF)
  (qZ (qM (i:=3) zW.nd rfl (by wtm_at "zo") (xQ zC qE (qD D_law_take hr (qQ (pv 0) (qQ qE qX)))))
  (qZ (qM (i:=4) zW.nd rfl (by wtm_at "zo") (qD D_law_take hr (qQ (pv 0) (qQ (pv 3) qX))))
  (qZ (qM (i:=5) zW.nd rfl (by wtm_at "zo") (xE xQz (pv 2) (qD D_law_take hr (qQ (pv 0) (qQ qE qX))) (fun _ _=>rfl)))
  (qZ (qM (i:=6) zW.nd rfl (by wtm_at "zo") (qD D_law_take hr (qQ (pv 0) (qQ qE qX))))
  (qZ (qM (i:=7) zW.nd rfl (by wtm_at "zo") (zE qX))
  (qZ (jK PassesOwn.never rfl (zK rfl B.range' (qQ (pv 1) qX)) (qG (i:=8) zW.nd rfl (by wtm_at "zo")) (qZ (qM (i:=9) zW.nd rfl (by wtm_at "zo") (xE xQz (pv 2) (xQ yE (xQ zC (pv 6) (xQ vM qE (pv 8))) qE) (fun _ _=>rfl)))
  (qJ (qP (kS (K:=K) PySem.F.plainAttrs_list PySem.F.slot_list_append PySem.F.type_list_append zP (pv 7) (qQ (xQ qJd (xQ qJd (xQ qIe (pv 5) (pv 4)) (pv 9)) (xQ qIe (pv 5) (xQ yP (xQ yP (pv 3) (pv 4)) qE))) qX))))))
  (qJ (qN (pv 7)))))))))),?_⟩
 wtm_at "zw"
 refine⟨p,s,8,rfl,es,by decide,by decide +kernel,by omega,fun H1 B1 e1=>?_⟩
 wtm_at "zw"
 refine⟨p,takeS s 8,1+takeV s 8,rfl,e1,by omega,big _ (by omega) (Int.lt_of_le_of_lt (b:=10) (by omega) (by decide +kernel)),by show s.n+1≤_;omega,fun H2 B2 e2=>?_⟩
 wtm_at "zw"
 refine⟨p,_,26,rfl,e2,by decide,by decide +kernel,by show s.n+1+1≤_;omega,fun H3 B3 e3=>?_⟩
 wtm_at "zw"
 refine⟨_,_,letter (takeV (takeS (takeS s 8) (1+takeV s 8)) 26),rfl,rfl,qXi,qJg c.1 c.2,?_⟩
 wtm_at "zw"
 refine⟨p,_,26,rfl,e3,by decide,by decide +kernel,by show s.n+1+1+1≤_;omega,fun H4 B4 e4=>?_⟩
 have BB:=((B1.trans B2).trans B3).trans B4
 have q':=fun r H'=>q r H'
 unfold wordsM wordsS at q'
 wtm_at "zw"
 refine⟨xF (show 0≤1000000 by decide),fun r hr'=>?_⟩
 have np:p≠r:=qB e4 hr'
 have nr:H r=none:=by
  cases h:H r with
  | none=>rfl
  | some o=>rw[BB r o (Ne.symm np) h] at hr';cases hr'
 wtm_at "zf"
 refine⟨m,rfl,by omega,by omega,?_⟩
 refine zU (fun i σ' H'=>∃(z1 z2:Option V),σ'=[some (.ref p),some (.int m),some (.str "abcdefghijklmnopqrstuvwxyz"),some (.int (1+takeV s 8)),some (.int (takeV (takeS s 8) (1+takeV s 8))),some (.str ⟨#[letter (takeV (takeS (takeS s 8) (1+takeV s 8)) 26)]⟩),some (.int (takeV (takeS (takeS (takeS s 8) (1+takeV s 8)) 26) 26)),some (.ref r),z1,z2]∧
   H'=upd H4 r (.lst (strsV ((List.range i).map (wordM s))))) ⟨none,none,rfl,rfl⟩ ?_ ?_
 ·rintro N rt bk i σ' H' hi ⟨z1,z2,rfl,rfl⟩ hN
  have z26:(0:Int)<26:=by decide
  have ec2:=qJg (Int.emod_nonneg (takeV (takeS (takeS (takeS s 8) (1+takeV s 8)) 26) 26+3 * (0+(i:Int))) (b:=26) (by decide)) (Int.emod_lt_of_pos _ z26)
  refine⟨_,rfl,_,rfl,_,rfl,3,_,rfl,rfl,⟨by decide +kernel,big _ (by omega) (Int.lt_of_le_of_lt (b:=100) (by omega) (by decide +kernel))⟩,_,_,rfl,rfl,_,26,rfl,rfl,z26,_,_,_,rfl,rfl,qXi,ec2,?_⟩
  have l1:∀c:Nat,(⟨#[c]⟩:Str).length=1:=fun _=>rfl
  have m1:=qMj ⟨#[letter (takeV (takeS (takeS s 8) (1+takeV s 8)) 26)]⟩ (takeV (takeS s 8) (1+takeV s 8))
  have m2:=qMj ⟨#[letter (takeV (takeS (takeS s 8) (1+takeV s 8)) 26)]⟩ (1+takeV s 8 - takeV (takeS s 8) (1+takeV s 8) - 1)
  rw[l1] at m1 m2
  refine⟨_,rfl,.inl ⟨rfl,_,SqL.of qW⟩,_,rfl,_,rfl,_,_,rfl,rfl,by omega,by omega,by rw[l1];decide,_,rfl,_,_,rfl,rfl,by rw[l1];exact smallE (by omega),_,rfl,_,rfl,_,rfl,_,_,rfl,rfl,_,1,rfl,rfl,_,_,rfl,rfl,by omega,by omega,by rw[l1];decide,_,_,rfl,rfl,?_,?_⟩
  ·rw[xZb,l1];exact smallE (by omega)
  ·refine⟨r,_,_,rfl,rfl,qW,by rw[xW,yYC,List.length_range];exact small (by omega),?_⟩
   refine hN _ _ ⟨_,_,rfl,?_⟩
   rw[xQn,List.range_succ,yYV,vS]
   rfl
 ·rintro σ' H' ⟨z1,z2,rfl,rfl⟩
  refine⟨_,rfl,?_⟩
  refine q' r _ nr (fun b o n e=>?_) ?_ ?_
  ·rw[qA (qB (BB b o n e) hr')];exact BB b o n e
  ·show upd _ _ _ _=_
   rw[qA np];exact e4
  ·rw[qW];rfl

theorem jY.tups {H H':Hp}(t:Tups H H'){c:Str×Th}{u:V}(x:jY H c u):jY H' c u:=let ⟨a,v,e,q,r⟩:=x;⟨a,v,e,t _ _ q,r.mono t⟩
theorem qJj {H:Hp}{a p:Addr}{us:List V}{s:S3}(hu:H a=some (.lst us))(hr:∀u∈us,∃b,u=.ref b)(e:St3 H p s):a≠p:=by
 refine xT hu e fun z=>?_
 have e2:=HO.lst.inj z
 subst e2
 obtain⟨b,hb⟩:=hr (.int s.a) (yYG ..)
 cases hb
theorem qQj {H:Hp}{wy:List (Str×Th)}{us:List V}(h:Paired (jY H) wy us):∀u∈us,∃b,u=.ref b:=by
 induction h with
 | nil=>exact fun u hu=>nomatch hu
 | cons f _ ih=>
  intro u hu
  rcases yYK.mp hu with r | r
  ·obtain⟨a,v,e,_⟩:=f;exact⟨a,r.trans e⟩
  ·exact ih u r
theorem WayIn.but1 {H H':Hp}{p:Addr}{s:S3}(B:But1 p H H')(e:St3 H p s){wy:List (Str×Th)}{u:V}(x:WayIn H wy u):WayIn H' wy u:=by
 obtain⟨a,us,e1,q,r⟩:=x
 exact⟨a,us,e1,B _ _ (qJj q (qQj r) e) q,Paired.mapP r fun _ _ y=>y.tups (zY B e)⟩
theorem jO {H:Hp}{y:Addr}{us vs:List V}(hy:H y=some (.lst us)):Tups H (upd H y (.lst vs)):=fun b xs e=>by rw[qA (xT e hy (by intro z;cases z))];exact e
theorem Bx.upd {H:Hp}{bx y:Addr}{bs:List (Str×Int)}{us vs:List V}(h:Bx H bx bs)(n:bx≠y)(hy:H y=some (.lst us)):Bx (L2.upd H y (.lst vs)) bx bs:=by
 obtain⟨⟨ws,eu,pu⟩,h2,h3⟩:=h
 exact⟨⟨ws,by rw[qA n];exact eu,Paired.mapP pu fun _ _ ⟨a,e1,e2⟩=>⟨a,e1,jO hy _ _ e2⟩⟩,h2,h3⟩
theorem WayIn.upd {H:Hp}{y:Addr}{us vs:List V}{wy:List (Str×Th)}{u:V}(h:WayIn H wy u)(n:u≠.ref y)(hy:H y=some (.lst us)):WayIn (L2.upd H y (.lst vs)) wy u:=by
 obtain⟨a,ws,e1,q,r⟩:=h
 have na:a≠y:=fun z=>n (by rw[e1,z])
 exact⟨a,ws,e1,by rw[qA na];exact q,Paired.mapP r fun _ _ c=>c.tups (jO hy)⟩
theorem WayIn.step {H H':Hp}{p y:Addr}{s:S3}{wy:List (Str×Th)}{u:V}(h:WayIn H wy u)(e:St3 H p s)(hy:H y=none)(B:∀b o,b≠p→b≠y→H b=some o→H' b=some o):WayIn H' wy u:=by
 obtain⟨a,ws,e1,q,r⟩:=h
 have t:Tups H H':=fun b xs z=>B b _ (xT z e (by intro z;cases z)) (qB z hy) z
 exact⟨a,ws,e1,B _ _ (qJj q (qQj r) e) (qB q hy) q,Paired.mapP r fun _ _ c=>c.tups t⟩
theorem Bx.there {H:Hp}{bx y:Addr}{bs:List (Str×Int)}(h:Bx H bx bs)(hy:H y=none):bx≠y:=let ⟨_,eu,_⟩:=h.ex;qB eu hy
def chM (bs:List (Str×Int))(at':Int):Nat→S3→List (Str×Th)×S3
 | 0,s=>([],s)
 | j+1,s=>((chM bs at' j s).1++[(nameAt bs ((at'+(0+(j:Int))) % bs.length),(exprM bs 1 (chM bs at' j s).2).1)],(exprM bs 1 (chM bs at' j s).2).2)
def cntM (bs:List (Str×Int))(k:Int):Int:=if (bs.length:Int)<k then bs.length else k
theorem qBw (bs:List (Str×Int)){k:Int}(h0:0≤k)(h1:k<3):0≤cntM bs k∧cntM bs k≤2:=by
 unfold cntM
 split <;> omega
def wayM (bs:List (Str×Int))(s:S3):List (Str×Th)×S3:=
 chM bs (takeV s bs.length) (cntM bs (takeV (takeS s bs.length) 3)).toNat (takeS (takeS s bs.length) 3)
def waysM (bs:List (Str×Int)):Nat→S3→List (List (Str×Th))×S3
 | 0,s=>([],s)
 | i+1,s=>((waysM bs i s).1++[(wayM bs (waysM bs i s).2).1],(wayM bs (waysM bs i s).2).2)
theorem xVf (bs:List (Str×Int))(a:Int)(j:Nat)(s:S3):(chM bs a j s).2.n≤s.n+6 * j:=by
 induction j with
 | zero=>exact yZC _
 | succ j ih=>
  have:=qZz bs 1 (chM bs a j s).2
  show(exprM bs 1 (chM bs a j s).2).2.n≤_
  omega
theorem qBa (bs:List (Str×Int))(a:Int)(j:Nat)(s:S3):(chM bs a j s).1.length=j:=by
 induction j with
 | zero=>rfl
 | succ j ih=>
  show((chM bs a j s).1++[_]).length=_
  rw[yYI,ih];rfl
theorem qQf (bs:List (Str×Int))(i:Nat)(s:S3):(waysM bs i s).1.length=i:=by
 induction i with
 | zero=>rfl
 | succ i ih=>
  show((waysM bs i s).1++[_]).length=_
  rw[yYI,ih];rfl
theorem Paired.mapP' {α:Type}{F G:α→V→Prop}{l:List α}{us:List V}(r:Paired F l us)(f:∀a u,u∈us→F a u→G a u):Paired G l us:=by
 induction r with
 | nil=>exact .nil
 | cons h _ ih=>exact .cons (f _ _ (yYG ..) h) (ih fun a u hu=>f a u (yYH _ hu))
theorem xYk (bs:List (Str×Int))(s:S3):(wayM bs s).2.n≤s.n+20:=by
 have h:=xVf bs (takeV s bs.length) (cntM bs (takeV (takeS s bs.length) 3)).toNat (takeS (takeS s bs.length) 3)
 have b0:=xG (takeS s bs.length) (m:=3) (by decide)
 have b:=qBw bs b0.1 b0.2
 have e:(takeS (takeS s bs.length) 3).n=s.n+2:=rfl
 show(chM _ _ _ _).2.n≤_
 omega
theorem xQc (bs:List (Str×Int))(i:Nat)(s:S3):(waysM bs i s).2.n≤s.n+20 * i:=by
 induction i with
 | zero=>exact yZC _
 | succ i ih=>
  have:=xYk bs (waysM bs i s).2
  show(wayM bs (waysM bs i s).2).2.n≤_
  omega
def pickM (k:Int):Int:=if k=2 then 10 ^ 6 else 3
def needM (bs:List (Str×Int))(s2:S3):Th×S3:=if takeV s2 3=1 then condM bs 1 (takeS s2 3) else (.nul "yes",takeS s2 3)
def zR (c:Int):S3:=takeS (takeS (stateM c) 3) (pickM (takeV (stateM c) 3))
def deedM (bs:List (Str×Int))(c:Int)(name:Str):Deed:=
 ⟨name,1+takeV (takeS (stateM c) 3) (pickM (takeV (stateM c) 3)),(needM bs (zR c)).1,(waysM bs (1+takeV (needM bs (zR c)).2 3).toNat (takeS (needM bs (zR c)).2 3)).1⟩
theorem zB:xH ["cell","name","boxes","state","price","need","ways","k","at","way","j"] ["cell","name","boxes"] (xA (top 34)):=⟨rfl,rfl,rfl,by decide +kernel,rfl,by decide +kernel,by decide +kernel⟩
def qGn:Sp:=fun vs H Q _=>∃(c:Int) (name:Str) (bx:Addr) (bs:List (Str×Int)),vs=[.int c,.str name,.ref bx]∧Bx H bx bs∧∀(t wa:Addr) (nv:V) (us:List V) (H':Hp),Same H H'→H' t=some (.tup [.str (deedM bs c name).name,.int (deedM bs c name).price,nv,.ref wa])→(deedM bs c name).need.At H' nv→H wa=none→H' wa=some (.lst us)→(∀b,V.ref b∈us→H b=none)→Paired (WayIn H') (deedM bs c name).ways us→Q (.ref t) H'
theorem xXh {k:Int}(h0:0≤k)(h1:k<3):atI [V.int 3,V.int 3,V.int (10 ^ (6:Int).toNat)] k=some (.int (pickM k)):=by
 have c:k=0∨k=1∨k=2:=by omega
 rcases c with c | c | c <;> (subst c;rfl)
theorem qIj (k:Int):0<pickM k∧(pickM k).natAbs<2 ^ 1000:=by
 unfold pickM
 split
 ·exact⟨by decide,by decide +kernel⟩
 ·exact⟨by decide,by decide +kernel⟩
theorem zD {H H1 H':Hp}{p:Addr}(S:Same H H1)(n:H p=none)(B:But1 p H1 H'):Same H H':=fun b o e=>B b o (qB e n) (S b o e)
theorem xJd (F:Fd K mg "_law_deed" (top 34) ["cell","name","boxes"])(B:Bl mg)(D_law_state:Dn P w K mg base "_law_state" 1 ["cell"] qQl)(D_law_take:Dn P w K mg base "_law_take" 2 ["state","many"] spTake)
  (D_law_expression:Dn P w K mg base "_law_expression" 6 ["state","boxes","deep"] (kJ 3)) (D_law_condition:Dn P w K mg base "_law_condition" 9 ["state","boxes","deep"] (vH 3)):Dn P w K mg base "_law_deed" 10 ["cell","name","boxes"] qGn:=by
 refine F.ok zB (fun vs H Q E h=>?_) (fun f cdv A outer s H vs Q E hr h=>?_)
 ·obtain⟨_,_,_,_,rfl,_⟩:=h
  rfl
 obtain⟨c,name,bx,bs,rfl,hb,q⟩:=h
 have b3:=hb.le
 have bl:0<bs.length:=List.length_pos_iff.mpr hb.ne
 have lbig:((bs.length:Nat):Int).natAbs<2 ^ 1000:=big _ (by omega) (Int.lt_of_le_of_lt (b:=3) (by omega) (by decide +kernel))
 unfold deedM at q
 refine⟨_,(qZ (qM (i:=3) zB.nd rfl (by wtm_at "zo") (qD D_law_state hr (qQ (pv 0) qX)))
  (qZ (qM (i:=4) zB.nd rfl (by wtm_at "zo") (xQ zC qE (qD D_law_take hr (qQ (pv 3) (qQ (xE (qT (K:=K)) (zE (qQ qE (qQ qE (qQ (xQ qDj qE qE) qX)))) (qD D_law_take hr (qQ (pv 3) (qQ qE qX))) (fun _ _=>rfl)) qX)))))
  (qZ (qM (i:=5) zB.nd rfl (by wtm_at "zo") (zV (qQ qF qX)))
  (qK (xU (qR zA (qD D_law_take hr (qQ (pv 3) (qQ qE qX))) qE (xD _)) (qJ (qM (i:=5) zB.nd rfl (by wtm_at "zo") (qD D_law_condition hr (qQ (pv 3) (qQ (pv 2) (qQ qE qX)))))) qY)
  (qZ (qM (i:=6) zB.nd rfl (by wtm_at "zo") (zE qX))
  (qZ (jK PassesOwn.never rfl (zK rfl B.range' (qQ (xQ zC qE (qD D_law_take hr (qQ (pv 3) (qQ qE qX)))) qX)) (qG (i:=7) zB.nd rfl (by wtm_at "zo")) (qZ (qM (i:=8) zB.nd rfl (by wtm_at "zo") (qD D_law_take hr (qQ (pv 3) (qQ (xZ (xP (K:=K)) rfl B.len' zS (qQ (pv 2) qX)) qX))))
  (qZ (qM (i:=9) zB.nd rfl (by wtm_at "zo") (zE qX))
  (qZ (jK PassesOwn.never rfl (zK rfl B.range' (qQ (xZ (qOl rfl) rfl B.min' xVi (qQ (qD D_law_take hr (qQ (pv 3) (qQ qE qX))) (qQ (xZ (xP (K:=K)) rfl B.len' zS (qQ (pv 2) qX)) qX))) qX)) (qG (i:=10) zB.nd rfl (by wtm_at "zo")) (qJ (qP (kS (K:=K) PySem.F.plainAttrs_list PySem.F.slot_list_append PySem.F.type_list_append zP (pv 9) (qQ (zV (qQ (xE (qS (K:=K)) (xE (qT (K:=K)) (pv 2) (xQ yE (xQ zC (pv 8) (pv 10)) (xZ (xP (K:=K)) rfl B.len' zS (qQ (pv 2) qX))) (fun _ _=>rfl)) qE (fun _ _=>rfl)) (qQ (qD D_law_expression hr (qQ (pv 3) (qQ (pv 2) (qQ qE qX)))) qX))) qX)))))
  (qJ (qP (kS (K:=K) PySem.F.plainAttrs_list PySem.F.slot_list_append PySem.F.type_list_append zP (pv 6) (qQ (pv 9) qX))))))))
  (qJ (qN (zV (qQ (pv 1) (qQ (pv 4) (qQ (pv 5) (qQ (pv 6) qX))))))))))))),?_⟩
 wtm_at "zw"
 refine⟨c,rfl,fun p H1 np S1 e1=>?_⟩
 have hb1:=hb.same S1
 wtm_at "zw"
 refine w_I ⟨by decide,by decide,by decide⟩ ?_
 wtm_at "zw"
 refine⟨xF (show 3≤1000000 by decide),fun l hl=>?_⟩
 have S2:=qV hl (.lst [V.int 3,V.int 3,V.int (10 ^ (6:Int).toNat)])
 have el:upd H1 l (.lst [V.int 3,V.int 3,V.int (10 ^ (6:Int).toNat)]) l=some (.lst [V.int 3,V.int 3,V.int (10 ^ (6:Int).toNat)]):=qW
 generalize upd H1 l (.lst [V.int 3,V.int 3,V.int (10 ^ (6:Int).toNat)])=H2 at S2 el ⊢
 have nl:l≠p:=(qB (show H1 p=some _ from e1) hl).symm
 have e2:St3 H2 p (stateM c):=S2 _ _ e1
 have hb2:=hb1.same S2
 wtm_at "zw"
 refine⟨p,stateM c,3,rfl,e2,by decide,by decide +kernel,(show(0:Nat)≤999999 by decide),fun H3 B3 e3=>?_⟩
 have k0:=xG (stateM c) (m:=3) (by decide)
 have el3:=B3 _ _ nl el
 have hb3:=hb2.but1 e2 B3
 refine⟨l,_,_,.int (pickM (takeV (stateM c) 3)),rfl,rfl,SqL.of el3,xXh k0.1 k0.2,?_⟩
 have pb:=qIj (takeV (stateM c) 3)
 refine⟨p,takeS (stateM c) 3,_,rfl,e3,pb.1,pb.2,(show(0+1:Nat)≤999999 by decide),fun H4 B4 e4=>?_⟩
 have hb4:=hb3.but1 e3 B4
 have B14:But1 p H1 H4:=(But1.of S2).trans (B3.trans B4)
 clear el3 hb2 hb3 e2 e3 el S2 B3 B4 hl
 have e4':St3 H4 p (zR c):=e4
 have n2:(zR c).n=2:=rfl
 clear e4
 generalize zR c=s2 at e4' q n2
 have e4:=e4'
 generalize takeV (takeS (stateM c) 3) (pickM (takeV (stateM c) 3))=pr at q ⊢
 wtm_at "zw"
 refine⟨xF (show 1≤1000000 by decide),fun t ht=>?_⟩
 have S5:=qV ht (.tup [V.str "yes"])
 have et:upd H4 t (.tup [V.str "yes"]) t=some (.tup [V.str "yes"]):=qW
 generalize upd H4 t (.tup [V.str "yes"])=H5 at S5 et ⊢
 have e5:St3 H5 p s2:=S5 _ _ e4
 have hb5:=hb4.same S5
 have B15:But1 p H1 H5:=B14.trans (.of S5)
 clear S5 e4 e4' hb4 B14 ht
 refine⟨fun σ' H'=>∃nv,σ'=[some (.int c),some (.str name),some (.ref bx),some (.ref p),some (.int (1+pr)),some nv,none,none,none,none,none]∧But1 p H1 H'∧St3 H' p (needM bs s2).2∧(needM bs s2).1.At H' nv∧Bx H' bx bs,?_,?_⟩
 ·unfold needM
  wtm_at "zw"
  refine⟨p,s2,3,rfl,e5,by decide,by decide +kernel,by omega,fun H6 B6 e6=>?_⟩
  have hb6:=hb5.but1 e5 B6
  wtm_at "zw"
  by_cases k1:takeV s2 3=1
  ·rw[if_pos k1,decide_eq_true (show V.int (takeV s2 3)=V.int 1 by rw[k1])]
   refine iteT ?_
   wtm_at "zw"
   refine⟨p,bx,bs,takeS s2 3,1,rfl,e6,hb6,by decide,by show s2.n+1+12 * 2 ^ 1≤_;omega,fun v H7 B7 e7 a7=>?_⟩
   exact⟨v,rfl,(B15.trans B6).trans B7,e7,a7,hb6.but1 e6 B7⟩
  ·rw[if_neg k1,decide_eq_false (show¬(V.int (takeV s2 3)=V.int 1) from fun z=>k1 (V.int.inj z))]
   refine iteF ?_
   exact⟨_,rfl,B15.trans B6,e6,⟨t,rfl,zY B6 e5 _ _ et⟩,hb6⟩
 ·rintro σ' H' ⟨nv,rfl,B16,e6,a6,hb6⟩
  have nn:(needM bs s2).2.n≤26:=by
   have h:=qBk bs 1 (takeS s2 3)
   have e:(takeS s2 3).n=s2.n+1:=rfl
   unfold needM
   split
   ·omega
   ·show s2.n+1≤_;omega
  generalize (needM bs s2).2=s3 at e6 nn q
  wtm_at "zw"
  refine⟨xF (show 0≤1000000 by decide),fun wl hwl=>?_⟩
  have nw:wl≠p:=(qB (show H' p=some _ from e6) hwl).symm
  have w1:H1 wl=none:=by
   cases h:H1 wl with
   | none=>rfl
   | some o=>rw[B16 wl o nw h] at hwl;cases hwl
  have nbw:=hb6.there hwl
  have S7:=qV hwl (.lst [])
  have ew:upd H' wl (.lst []) wl=some (.lst []):=qW
  generalize upd H' wl (.lst [])=H7 at S7 ew ⊢
  have e7:St3 H7 p s3:=S7 _ _ e6
  have hb7:=hb6.same S7
  have a7:=Th.At.mono (qC S7) a6
  have B17:But1 p H1 H7:=B16.trans (.of S7)
  wtm_at "zf"
  refine⟨p,s3,3,rfl,e7,by decide,by decide +kernel,by omega,fun H8 B8 e8=>?_⟩
  have kb:=xG s3 (m:=3) (by decide)
  have n4:(takeS s3 3).n≤27:=by show s3.n+1≤_;omega
  wtm_at "zw"
  refine⟨1+takeV s3 3,rfl,by omega,by omega,?_⟩
  refine zU (fun i σ' H'=>∃(z1 z2 z3 z4:Option V) (us:List V),σ'=[some (.int c),some (.str name),some (.ref bx),some (.ref p),some (.int (1+pr)),some nv,some (.ref wl),z1,z2,z3,z4]∧But1 p H1 H'∧St3 H' p (waysM bs i (takeS s3 3)).2∧(needM bs s2).1.At H' nv∧Bx H' bx bs∧
    H' wl=some (.lst us)∧(∀u∈us,u≠.ref wl)∧(∀b,V.ref b∈us→H b=none)∧Paired (WayIn H') (waysM bs i (takeS s3 3)).1 us) ⟨none,none,none,none,[],rfl,B17.trans B8,e8,Th.At.mono (zY B8 e7) a7,hb7.but1 e7 B8,B8 _ _ nw ew,(fun u h=>nomatch h),(fun b h=>nomatch h),.nil⟩ ?_ ?_
  ·rintro N rt bk i σ' H9 hi ⟨z1,z2,z3,z4,us,rfl,B9,e9,a9,hb9,ew9,nu9,fr9,pw9⟩ hN
   have n9:=xQc bs i (takeS s3 3)
   have i3:i<3:=by omega
   obtain⟨us1,eu1,pu1⟩:=hb9.ex
   have lu1:us1.length=bs.length:=pu1.length.symm
   wtm_at "zw"
   rw[lu1]
   generalize hS:(waysM bs i (takeS s3 3)).2=S at e9 n9
   refine⟨p,S,bs.length,rfl,e9,by omega,lbig,by omega,fun H10 B10 e10=>?_⟩
   have tb:=xG S (m:=bs.length) (by omega)
   have ew10:=B10 _ _ nw ew9
   have hb10:=hb9.but1 e9 B10
   have pw10:=Paired.mapP pw9 fun _ _ y=>WayIn.but1 B10 e9 y
   have a10:=Th.At.mono (zY B10 e9) a9
   have B110:=B9.trans B10
   clear ew9 hb9 pw9 a9 e9 B10 eu1 pu1
   wtm_at "zw"
   refine⟨xF (show 0≤1000000 by decide),fun yl hyl=>?_⟩
   have ny:yl≠p:=(qB (show H10 p=some _ from e10) hyl).symm
   have nyw:yl≠wl:=(qB ew10 hyl).symm
   have nby:=hb10.there hyl
   have S11:=qV hyl (.lst [])
   have ey:upd H10 yl (.lst []) yl=some (.lst []):=qW
   have y1:H1 yl=none:=by
    cases h:H1 yl with
    | none=>rfl
    | some o=>rw[B110 yl o ny h] at hyl;cases hyl
   generalize upd H10 yl (.lst [])=H11 at S11 ey ⊢
   have e11:St3 H11 p (takeS S bs.length):=S11 _ _ e10
   have hb11:=hb10.same S11
   have a11:=Th.At.mono (qC S11) a10
   have B111:But1 p H1 H11:=B110.trans (.of S11)
   have ew11:=S11 _ _ ew10
   have pw11:=Paired.mapP pw10 fun _ _ y=>WayIn.same S11 y
   wtm_at "zf"
   refine⟨p,takeS S bs.length,3,rfl,e11,by decide,by decide +kernel,by show S.n+1≤_;omega,fun H12 B12 e12=>?_⟩
   have cb:=xG (takeS S bs.length) (m:=3) (by decide)
   have cc:=qBw bs cb.1 cb.2
   have hb12:=hb11.but1 e11 B12
   obtain⟨us2,eu2,pu2⟩:=hb12.ex
   have lu2:us2.length=bs.length:=pu2.length.symm
   wtm_at "zw"
   refine⟨_,_,rfl,?_⟩
   wtm_at "zw"
   rw[lu2]
   refine⟨cntM bs (takeV (takeS S bs.length) 3),rfl,by omega,by omega,?_⟩
   refine zU (fun j σ' H'=>∃(z4:Option V) (cs:List V),σ'=[some (.int c),some (.str name),some (.ref bx),some (.ref p),some (.int (1+pr)),some nv,some (.ref wl),some (.int (0+(i:Int))),some (.int (takeV S bs.length)),some (.ref yl),z4]∧
     (∀b o,b≠p→b≠yl→H12 b=some o→H' b=some o)∧St3 H' p (chM bs (takeV S bs.length) j (takeS (takeS S bs.length) 3)).2∧Bx H' bx bs∧H' yl=some (.lst cs)∧Paired (jY H') (chM bs (takeV S bs.length) j (takeS (takeS S bs.length) 3)).1 cs)
    ⟨z4,[],rfl,fun _ _ _ _ e=>e,e12,hb12,B12 _ _ ny ey,.nil⟩ ?_ ?_
   ·rintro N2 rt2 bk2 j σ' H13 hj ⟨z5,cs,rfl,B13,e13,hb13,ey13,pc13⟩ hN2
    have n13:=xVf bs (takeV S bs.length) j (takeS (takeS S bs.length) 3)
    have en:(takeS (takeS S bs.length) 3).n=S.n+2:=rfl
    obtain⟨us3,eu3,pu3⟩:=hb13.ex
    have lu3:us3.length=bs.length:=pu3.length.symm
    have lc:=pc13.length
    wtm_at "zw"
    refine⟨.inl ⟨rfl,_,SqL.of ey13⟩,?_⟩
    wtm_at "zw"
    rw[lu3]
    refine w_I (show(0:Int)<bs.length by omega) ?_
    have i0:=Int.emod_nonneg (takeV S bs.length+(0+(j:Int))) (b:=bs.length) (by omega)
    have i1:=Int.emod_lt_of_pos (takeV S bs.length+(0+(j:Int))) (b:=bs.length) (by omega)
    obtain⟨us4,a,z,eu4,lu4,ea,et⟩:=hb13.at i0 i1
    refine⟨bx,_,_,.ref a,rfl,rfl,SqL.of eu4,ea,?_⟩
    wtm_at "zw"
    refine⟨p,bx,bs,_,1,rfl,e13,hb13,by decide,by omega,fun v H14 B14 e14 a14=>?_⟩
    have ey14:=B14 _ _ ny ey13
    have hb14:=hb13.but1 e13 B14
    have T14:=zY B14 e13
    wtm_at "zw"
    refine⟨xF (show 2≤1000000 by decide),fun t ht=>?_⟩
    have S15:=qV ht (.tup [V.str (nameAt bs ((takeV S bs.length+(0+(j:Int))) % bs.length)),v])
    have et15:upd H14 t (.tup [V.str (nameAt bs ((takeV S bs.length+(0+(j:Int))) % bs.length)),v]) t=some _:=qW
    generalize upd H14 t (.tup [V.str (nameAt bs ((takeV S bs.length+(0+(j:Int))) % bs.length)),v])=H15 at S15 et15 ⊢
    have ey15:=S15 _ _ ey14
    have T16:Tups H15 (upd H15 yl (.lst (cs++[.ref t]))):=jO ey15
    have T15:=qC S15
    refine⟨yl,cs,.ref t,rfl,rfl,ey15,?_,?_⟩
    ·have lcc:cs.length=(chM bs (takeV S bs.length) j (takeS (takeS S bs.length) 3)).1.length:=lc.symm
     rw[lcc,qBa];exact small (by omega)
    refine hN2 _ _ ⟨_,cs++[.ref t],rfl,fun b o n1 n2 e=>?_,?_,(hb14.same S15).upd nby ey15,qW,?_⟩
    ·rw[qA n2];exact S15 _ _ (B14 _ _ n1 (B13 _ _ n1 n2 e))
    ·show upd _ _ _ _=_
     rw[qA (Ne.symm ny)];exact S15 _ _ e14
    ·exact Paired.snoc (Paired.mapP pc13 fun _ _ y=>((y.tups T14).tups T15).tups T16) ⟨t,v,rfl,T16 _ _ et15,(a14.mono T15).mono T16⟩
   ·rintro σ' H13 ⟨z5,cs,rfl,B13,e13,hb13,ey13,pc13⟩
    have B1013:∀b o,b≠p→b≠yl→H10 b=some o→H13 b=some o:=fun b o n1 n2 e=>B13 b o n1 n2 (B12 b o n1 (S11 b o e))
    have ew13:=B1013 _ _ nw (Ne.symm nyw) ew10
    have T13:Tups H10 H13:=fun b xs z=>B1013 b _ (xT z e10 (by intro z;cases z)) (qB z hyl) z
    have T14:Tups H13 (upd H13 wl (.lst (us++[.ref yl]))):=jO ew13
    have lus:=pw10.length
    wtm_at "zw"
    refine⟨.inl ⟨rfl,_,SqL.of ew13⟩,?_⟩
    wtm_at "zw"
    refine⟨wl,us,.ref yl,rfl,rfl,ew13,?_,?_⟩
    ·rw[← lus,qQf];exact small (by omega)
    refine hN _ _ ⟨_,_,_,_,us++[.ref yl],rfl,fun b o n e=>?_,?_,(a10.mono T13).mono T14,hb13.upd nbw ew13,qW,fun u hu=>?_,fun b hb=>?_,?_⟩
    ·have n1:b≠wl:=fun z=>by rw[z,w1] at e;cases e
     have n2:b≠yl:=fun z=>by rw[z,y1] at e;cases e
     rw[qA n1]
     exact B1013 b o n n2 (B110 b o n e)
    ·show upd _ _ _ _=_
     rw[qA (Ne.symm nw)]
     have e13':H13 p=some _:=e13
     show H13 p=some (.lst [.int (wayM bs (waysM bs i (takeS s3 3)).2).2.a,.int (wayM bs (waysM bs i (takeS s3 3)).2).2.c,.int (wayM bs (waysM bs i (takeS s3 3)).2).2.n])
     rw[hS]
     exact e13'
    ·rcases yYR.mp hu with h | h
     ·exact nu9 u h
     ·rw[yYL.mp h]
      exact fun z=>nyw (V.ref.inj z)
    ·rcases yYR.mp hb with h | h
     ·exact fr9 b h
     ·rw[V.ref.inj (yYL.mp h)]
      exact S1.free y1
    ·refine Paired.snoc (FP.Paired.mapP' pw10 fun wy u hu y=>(y.step e10 hyl B1013).upd (nu9 u hu) ew13) ?_
     rw[hS]
     exact(WayIn.upd ⟨yl,cs,rfl,ey13,pc13⟩ (fun z=>nyw (V.ref.inj z)) ew13)
  ·rintro σ' H9 ⟨z1,z2,z3,z4,us,rfl,B9,e9,a9,hb9,ew9,nu9,fr9,pw9⟩
   wtm_at "zw"
   refine⟨xF (show 4≤1000000 by decide),fun t ht=>?_⟩
   have S10:=qV ht (.tup [V.str name,.int (1+pr),nv,.ref wl])
   exact q t wl nv us _ (zD S1 np (B9.trans (.of S10))) qW (Th.At.mono (qC S10) a9) (S1.free w1) (S10 _ _ ew9) fr9 (Paired.mapP pw9 fun _ _ y=>WayIn.same S10 y)

theorem xS:xH ["boxes","rows","name","size","longer","row"] ["boxes"] (xA (top 37)):=⟨rfl,rfl,rfl,by decide +kernel,rfl,by decide +kernel,by decide +kernel⟩
theorem kX:CompOk (xA (top 37)) ["boxes","rows","name","size","longer","row"] (scAt (xB (top 37)) [1,1,0] [1]) ["fig","row"] 1 [5]:=
 ⟨by decide +kernel,by decide +kernel,by decide +kernel,by decide +kernel,by decide +kernel,by decide +kernel,by decide +kernel,by decide +kernel⟩
theorem qNg (F:Fd K mg "_law_standings" (top 37) ["boxes"])(B:Bl mg):Dn P w K mg base "_law_standings" 1 ["boxes"] qQa:=by
 refine F.ok xS (fun vs H Q E h=>?_) (fun f cdv A outer s H vs Q E hr h=>?_)
 ·obtain⟨_,_,_,rfl,_⟩:=h
  rfl
 obtain⟨bx,bs,us,rfl,ebx,pb,h6,h25,q⟩:=h
 have lb:us.length=bs.length:=pb.length.symm
 refine⟨_,(qZ (qM (i:=1) xS.nd rfl (by wtm_at "zo") (zE (qQ (zV qX) qX)))
  (qZ (jK PassesOwn.never rfl (qU (K:=K) (pv 0)) (yF (K:=K) (n:=2) rfl (qH (qG (i:=2) xS.nd rfl (by wtm_at "zo")) (qH (qG (i:=3) xS.nd rfl (by wtm_at "zo")) qI))) (qZ (qM (i:=4) xS.nd rfl (by wtm_at "zo") (zE qX))
  (qZ (jK PassesOwn.never rfl (qU (K:=K) (pv 1)) (qG (i:=5) xS.nd rfl (by wtm_at "zo")) (qJ (qM (i:=4) xS.nd rfl (by wtm_at "zo") (xQ qIo (pv 4) (zF rfl kX (zK rfl B.range' (qQ (pv 3) qX)) (fun cl fp s H=>(qG (i:=0) kX.nd rfl (Or.inl rfl) (.inr rfl))) (fun cl fp s H=>zO) (fun cl fp s H=>(xQ (qSk (K:=K)) (pv 1) (zV (qQ (pv 0) qX)))))))))
  (qJ (qM (i:=1) xS.nd rfl (by wtm_at "zo") (pv 4))))))
  (qJ (qN (pv 1))))),?_⟩
 wtm_at "zw"
 refine⟨(by show 0≤sizeLine;decide),fun t0 ht0=>?_⟩
 wtm_at "zw"
 refine⟨(by show 1≤sizeLine;decide),fun r0 hr0=>?_⟩
 wtm_at "zw"
 have S0:Same H (upd (upd H t0 (.tup [])) r0 (.lst [.ref t0])):=(qV ht0 _).trans (qV hr0 _)
 refine⟨_,rfl,bx,rfl,⟨us,SqL.of (S0 _ _ ebx)⟩,?_⟩
 refine yT (xs:=us) (fun i σ' H'=>∃(ro:Addr) (ss:List V) (z2 z3 z4 z5:Option V),σ'=[some (.ref bx),some (.ref ro),z2,z3,z4,z5]∧Same H H'∧H ro=none∧H' ro=some (.lst ss)∧Paired (TupIn H') (allV (bs.take i)) ss)
  ⟨r0,[.ref t0],none,none,none,none,rfl,S0,(qV ht0 _).free hr0,qW,.cons ⟨t0,rfl,qV hr0 _ _ _ qW⟩ .nil⟩
  (fun i σ' H' _ hP=>?_) (fun N rt bk i x σ' H' ex hP hN=>?_) (fun σ' H' hP=>?_)
 ·obtain⟨ro,ss,z2,z3,z4,z5,rfl,S1,_⟩:=hP
  exact SqL.of (S1 _ _ ebx)
 ·obtain⟨ro,ss,z2,z3,z4,z5,rfl,S1,nro,ero,prs⟩:=hP
  have hi:i<bs.length:=by rw[← lb];exact(yYB.mp ex).1
  obtain⟨b,eb⟩:∃b,bs[i]? = some b:=⟨_,yYA hi⟩
  obtain⟨ba,rfl,hba⟩:=xK pb eb ex
  have hb25:=h25 b (yYE eb)
  have rl:=qKi h25 i (by omega)
  have p5:=pow56 (i:=i) (by omega)
  refine⟨ba,_,rfl,SqT.of (S1 _ _ hba),rfl,_,_,rfl,_,_,rfl,rfl,?_⟩
  wtm_at "zw"
  refine⟨(by show 0≤sizeLine;decide),fun lo0 hlo0=>?_⟩
  wtm_at "zw"
  have lr:=prs.length
  refine⟨_,rfl,ro,rfl,⟨ss,SqL.of (qV hlo0 _ _ _ ero)⟩,?_⟩
  refine yT (xs:=ss) (fun j σ'' H''=>∃(lo:Addr) (ls:List V) (z5:Option V),σ''=[some (.ref bx),some (.ref ro),some (.str b.1),some (.int b.2),some (.ref lo),z5]∧Same H' H''∧H' lo=none∧H'' lo=some (.lst ls)∧Paired (TupIn H'') (rowsBy ((allV (bs.take i)).take j) b.2.toNat) ls)
   ⟨lo0,[],z5,rfl,qV hlo0 _,hlo0,qW,.nil⟩ (fun j σ'' H'' _ hP=>?_) (fun N2 rt2 bk2 j x σ'' H'' ex2 hP hN2=>?_) (fun σ'' H'' hP=>?_)
  ·obtain⟨lo,ls,z5,rfl,k2,_⟩:=hP
   exact SqL.of (k2 _ _ ero)
  ·obtain⟨lo,ls,z5,rfl,k2,nlo,elo,pls⟩:=hP
   have hj:j<(allV (bs.take i)).length:=by rw[lr];exact(yYB.mp ex2).1
   obtain⟨row,erow⟩:∃row,(allV (bs.take i))[j]? = some row:=⟨_,yYA hj⟩
   obtain⟨ra,rfl,hra⟩:=xK prs erow ex2
   have hrl:=qDg bs i (by omega) row (yYE erow)
   have ll:=pls.length
   have lm:=qXj (allV (bs.take i)) b.2.toNat j
   have l5:(allV (bs.take i)).length * b.2.toNat≤15625 * 5:=Nat.mul_le_mul (by omega) (by omega)
   wtm_at "zw"
   refine⟨_,rfl,b.2,rfl,by omega,by omega,qRb (k2 _ _ hra) rfl (by omega) (by omega) fun D zs H3 nD S3 eD pz=>?_⟩
   have lz:=pz.length
   rw[yYC,List.length_range] at lz
   refine⟨lo,D,ls,zs,rfl,rfl,S3 _ _ elo,eD,by rw[← ll,← lz];exact xXk (by omega),fun p hp=>?_⟩
   have S4:Same H3 (upd H3 p (.lst (ls++zs))):=qV hp _
   refine hN2 _ _ ⟨p,ls++zs,_,rfl,k2.trans (S3.trans S4),k2.free (S3.free hp),qW,?_⟩
   rw[qAk erow]
   exact qJb (xJ (qC (S3.trans S4)) pls) (xJ (qC S4) pz)
  ·obtain⟨lo,ls,z5,rfl,k2,nlo,elo,pls⟩:=hP
   rw[← lr,yYJ,← wW eb] at pls
   wtm_at "zw"
   exact hN _ _ ⟨lo,ls,_,_,_,_,rfl,S1.trans k2,S1.free nlo,elo,pls⟩
 ·obtain⟨ro,ss,z2,z3,z4,z5,rfl,S1,nro,ero,prs⟩:=hP
  rw[lb,yYJ] at prs
  wtm_at "zw"
  exact q ro ss H' nro S1 ero prs

def ExprT (ws:List Str):Th→Prop
 | .num _=>True
 | .box x=>x∈ws
 | .bin k a b=>(k = "plus" ∨ k = "less")∧ExprT ws a∧ExprT ws b
 | _=>False
theorem vZ {bs:List (Str×Int)}{i:Int}(h0:0≤i)(h1:i<bs.length):nameAt bs i∈bs.map (·.1):=by
 have hk:i.toNat<bs.length:=by omega
 unfold nameAt
 rw[show bs.getD i.toNat ("",0)=bs[i.toNat] by rw[List.getD_eq_getElem?_getD,yYA hk];rfl]
 exact List.mem_map_of_mem (List.getElem_mem hk)
theorem kG {bs:List (Str×Int)}(hb:bs≠[])(d:Nat):∀s:S3,ExprT (bs.map (·.1)) (exprM bs d s).1∧(exprM bs d s).1.dep≤d+1:=by
 have bl:0<bs.length:=List.length_pos_iff.mpr hb
 induction d with
 | zero=>
  intro s
  have t:=xG (takeS s 5) (m:=bs.length) (by omega)
  unfold exprM
  split
  ·exact⟨trivial,yZC _⟩
  ·exact⟨vZ t.1 t.2,yZC _⟩
 | succ d ih=>
  intro s
  have t:=xG (takeS s 5) (m:=bs.length) (by omega)
  unfold exprM
  split
  ·exact⟨trivial,by show 1≤_;omega⟩
  ·split
   ·exact⟨vZ t.1 t.2,by show 1≤_;omega⟩
   ·have h1:=ih (takeS s 5)
    have h2:=ih (exprM bs d (takeS s 5)).2
    refine⟨⟨?_,h1.1,h2.1⟩,?_⟩
    ·unfold opM;split
     ·exact .inl rfl
     ·exact .inr rfl
    ·show max _ _+1≤_;omega
def worthM (ws:List Str)(vals:List Int):Th→Int
 | .num n=>n
 | .box x=>vals.getD (ws.idxOf x) 0
 | .bin k a b=>worthM ws vals a+(if k = "less" then 0 - worthM ws vals b else worthM ws vals b)
 | _=>0
structure Here (H:Hp)(bx st:Addr)(bs:List (Str×Int))(vals:List Int):Prop where
 boxes:∃us,H bx=some (.lst us)∧Paired (BoxIn H) bs us
 st:H st=some (.tup (intsV vals))
 len:vals.length=bs.length
 le:bs.length≤6
theorem Here.same {H H':Hp}{bx st:Addr}{bs:List (Str×Int)}{vals:List Int}(h:Here H bx st bs vals)(S:Same H H'):Here H' bx st bs vals:=
 ⟨let ⟨us,e,p⟩:=h.boxes;⟨us,S _ _ e,xY (qC S) p⟩,S _ _ h.st,h.len,h.le⟩
theorem wM:xH ["e","boxes","standing","other"] ["e","boxes","standing"] (xA (top 38)):=⟨rfl,rfl,rfl,by decide +kernel,rfl,by decide +kernel,by decide +kernel⟩
theorem kH:CompOk (xA (top 38)) ["e","boxes","standing","other"] (scAt (xB (top 38)) [1,0] [1,0,0]) ["name","size"] 2 []:=
 ⟨by decide +kernel,by decide +kernel,by decide +kernel,by decide +kernel,by decide +kernel,by decide +kernel,by decide +kernel,by decide +kernel⟩
def jI (n:Nat):Sp:=fun vs H Q _=>∃(t:Th) (v:V) (bx st:Addr) (bs:List (Str×Int)) (vals:List Int),vs=[v,.ref bx,.ref st]∧t.At H v∧ExprT (bs.map (·.1)) t∧t.dep≤n∧Here H bx st bs vals∧
 ∀H',Same H H'→Q (.int (worthM (bs.map (·.1)) vals t)) H'
theorem qNc (F:Fd K mg "_law_worth" (top 38) ["e","boxes","standing"]):Dn P w K mg base "_law_worth" 1 ["e","boxes","standing"] (jI 0):=by
 have no:∀vs H Q E,¬jI 0 vs H Q E:=fun vs H Q E h=>by
  obtain⟨t,_,_,_,_,_,_,_,_,h1,_⟩:=h
  have:=Th.dep_pos t
  omega
 obtain⟨f,fd,F,a,b,c⟩:=F.ex
 exact⟨f,fd,⟨fun vs H Q E h=>absurd h (no vs H Q E),fun A outer s H args us vs Q E _ _ _ _ h=>absurd h (no vs H Q E)⟩,a,b,c⟩
theorem qAh {σ:St}{H:Hp}{Q:VK}{bx:Addr}{us:List V}{bs:List (Str×Int)}(e1:H bx=some (.lst us))(p1:Paired (BoxIn H) bs us)(hl:bs.length≤1000)
  (q:∀(D:Addr) (H':Hp),Same H H'→H' D=some (.lst (strsV (bs.map (·.1))))→Q (.ref D) H'):
  rdC 2 [] (gTup K 2 (gCons (gName 0) (gCons (gName 1) gNil))) tYes (tVar 0) (Itl K bx) σ H Q:=by
 have lb:us.length=bs.length:=p1.length.symm
 refine jA (xs:=us) (fun D i ys H'=>ys=strsV ((bs.take i).map (·.1))∧∀b o,H b=some o→H' b=some o) (fun D hD=>⟨rfl,qV hD _⟩)
  (fun D i ys H' _ hP=>(show Same H H' from hP.2).seq (SqL.of e1)) (fun D i x ys H' N hD hDy ex hP hN=>?_) (fun wd ys H2 hD hDy hP=>?_)
 ·obtain⟨rfl,hk⟩:=hP
  obtain⟨b,eb⟩:∃b,bs[i]? = some b:=⟨_,yYA (by rw[← lb];exact(yYB.mp ex).1)⟩
  obtain⟨ba,rfl,hba⟩:=xK p1 eb ex
  refine⟨ba,_,rfl,SqT.of (hk _ _ hba),rfl,_,_,rfl,_,_,rfl,rfl,⟨[some (.str b.1),some (.int b.2)],rfl,rfl⟩,?_⟩
  refine⟨_,rfl,hDy,?_,hN _ _ qW ⟨?_,fun b o e=>?_⟩⟩
  ·rw[xW,yYC,yYF];exact small (by omega)
  ·rw[yYM,eb,yYV,vS];rfl
  ·rw[qA (qB e hD)];exact hk _ _ e
 obtain⟨rfl,hk2⟩:=hP
 rw[lb,yYJ] at hDy
 exact q wd H2 hk2 hDy
theorem qNb {n:Nat}(F:Fd K mg "_law_worth" (top 38) ["e","boxes","standing"])(B:Bl mg)(D_law_worth:Dn P w K mg base "_law_worth" (n+1) ["e","boxes","standing"] (jI n)):Dn P w K mg base "_law_worth" (n+2) ["e","boxes","standing"] (jI (n+1)):=by
 refine F.ok (k:=n+1) wM (fun vs H Q E h=>?_) (fun f cdv A outer s H vs Q E hr h=>?_)
 ·obtain⟨_,_,_,_,_,_,rfl,_⟩:=h
  rfl
 obtain⟨t,v,bx,st,bs,vals,rfl,ht,ok,hd,hh,q⟩:=h
 refine⟨_,(qZ (xU (qR zA (xE (qS (K:=K)) (pv 0) qE (fun _ _=>rfl)) qF (xD _)) (qJ (qN (xE (qS (K:=K)) (pv 0) qE (fun _ _=>rfl)))) qY)
  (qZ (xU (qR zA (xE (qS (K:=K)) (pv 0) qE (fun _ _=>rfl)) qF (xD _)) (qJ (qN (xE (qS (K:=K)) (pv 2) (kS (K:=K) PySem.F.plainAttrs_list PySem.F.slot_list_index PySem.F.type_list_index qSc (zF rfl kH (qU (K:=K) (pv 1)) (fun cl fp s H=>(yF (K:=K) (n:=2) rfl (qH (qG (i:=0) kH.nd rfl (Or.inl rfl) (.inr rfl)) (qH (qG (i:=1) kH.nd rfl (Or.inl rfl) (.inr rfl)) qI)))) (fun cl fp s H=>zO) (fun cl fp s H=>(pv 0))) (qQ (xE (qS (K:=K)) (pv 0) qE (fun _ _=>rfl)) qX)) (fun _ _=>rfl)))) qY)
  (qZ (qM (i:=3) wM.nd rfl (by wtm_at "zo") (qD D_law_worth hr (qQ (xE (qS (K:=K)) (pv 0) qE (fun _ _=>rfl)) (qQ (pv 1) (qQ (pv 2) qX)))))
  (qJ (qN (xQ zC (qD D_law_worth hr (qQ (xE (qS (K:=K)) (pv 0) qE (fun _ _=>rfl)) (qQ (pv 1) (qQ (pv 2) qX)))) (xE (qT (K:=K)) (zE (qQ (pv 3) (qQ (xQ yP qE (pv 3)) qX))) (xX qWc rfl B.int' qPq (qQ (yG zA (xE (qS (K:=K)) (pv 0) qE (fun _ _=>rfl)) qF (xD _)) qX)) (fun _ _=>rfl)))))))),?_⟩
 cases t with
 | nul k=>exact ok.elim
 | un k a=>exact ok.elim
 | num m=>
  obtain⟨a,rfl,ea⟩:=ht
  wtm_at "zw"
  exact q _ (.refl _)
 | box x=>
  obtain⟨a,rfl,ea⟩:=ht
  obtain⟨us,eu,pu⟩:=hh.boxes
  have h6:=hh.le
  have hl:=hh.len
  have ok:x∈bs.map (fun b:Str×Int=>b.1):=ok
  have q:∀H',Same H H'→Q (.int (vals.getD ((bs.map (fun b:Str×Int=>b.1)).idxOf x) 0)) H':=q
  have hx:(bs.map (·.1)).idxOf x<(bs.map (·.1)).length:=List.idxOf_lt_length_iff.mpr ok
  rw[yYC] at hx
  wtm_at "zf"
  refine⟨bx,rfl,⟨us,SqL.of eu⟩,qAh eu pu (by omega) fun D H1 S1 eD=>?_⟩
  refine⟨.inl ⟨rfl,_,SqL.of eD⟩,?_⟩
  have ea1:=S1 _ _ ea
  have est1:=S1 _ _ hh.st
  wtm_at "zw"
  refine⟨D,bs.map (fun b:Str×Int=>b.1),x,rfl,rfl,eD,ok,by rw[yYC];omega,?_⟩
  refine⟨st,_,_,.int (vals.getD ((bs.map (fun b:Str×Int=>b.1)).idxOf x) 0),rfl,rfl,SqT.of est1,?_,q _ S1⟩
  refine zQ ?_
  rw[yYO,List.getD_eq_getElem?_getD,yYA (by omega)]
  rfl
 | bin k x y=>
  obtain⟨a,u1,u2,rfl,ea,h1,h2⟩:=ht
  obtain⟨hk,ok1,ok2⟩:=ok
  have d0:max x.dep y.dep+1≤n+1:=hd
  have k1:k ≠ "number" := by rcases hk with r | r <;> (rw[r];decide)
  have k2:k ≠ "box" := by rcases hk with r | r <;> (rw[r];decide)
  wtm_at "zw"
  refine⟨y,u2,bx,st,bs,vals,rfl,h2,ok2,by omega,hh,fun H1 S1=>?_⟩
  have ea1:=S1 _ _ ea
  wtm_at "zw"
  refine⟨x,u1,bx,st,bs,vals,rfl,Th.At.mono (qC S1) h1,ok1,by omega,hh.same S1,fun H2 S2=>?_⟩
  have ea2:=S2 _ _ ea1
  wtm_at "zw"
  refine⟨xF (show 2≤1000000 by decide),fun l hl=>?_⟩
  have S3':=qV hl (.lst [V.int (worthM (bs.map (·.1)) vals y),V.int (0 - worthM (bs.map (·.1)) vals y)])
  have el:upd H2 l (.lst [V.int (worthM (bs.map (·.1)) vals y),V.int (0 - worthM (bs.map (·.1)) vals y)]) l=some _:=qW
  generalize upd H2 l (.lst [V.int (worthM (bs.map (·.1)) vals y),V.int (0 - worthM (bs.map (·.1)) vals y)])=H3 at S3' el ⊢
  have ea3:=S3' _ _ ea2
  have qq:=q _ ((S1.trans S2).trans S3')
  unfold worthM at qq
  rcases hk with r | r
  ·subst r
   wtm_at "zw"
   refine .inr ⟨false,rfl,?_⟩
   refine⟨l,_,0,.int (worthM (bs.map (·.1)) vals y),rfl,rfl,SqL.of el,rfl,?_⟩
   rw[if_neg (by decide)] at qq
   exact⟨_,_,rfl,rfl,qq⟩
  ·subst r
   wtm_at "zw"
   refine .inr ⟨true,rfl,?_⟩
   refine⟨l,_,1,.int (0 - worthM (bs.map (·.1)) vals y),rfl,rfl,SqL.of el,rfl,?_⟩
   rw[if_pos rfl] at qq
   exact⟨_,_,rfl,rfl,qq⟩
theorem qTc (F:Fd K mg "_law_worth" (top 38) ["e","boxes","standing"])(B:Bl mg)(n:Nat):Dn P w K mg base "_law_worth" (n+1) ["e","boxes","standing"] (jI n):=by
 induction n with
 | zero=>exact qNc F
 | succ n ih=>exact qNb F B ih

def CondT (ws:List Str):Th→Prop
 | .nul k=>k = "yes"
 | .un k a=>k = "not" ∧ CondT ws a
 | .bin k a b=>(k = "both" ∧ CondT ws a∧CondT ws b)∨((k = "same" ∨ k = "under")∧ExprT ws a∧ExprT ws b)
 | _=>False
def holdsM (ws:List Str)(vals:List Int):Th→Bool
 | .nul _=>true
 | .un _ a=>!holdsM ws vals a
 | .bin k a b=>if k = "both" then holdsM ws vals a && holdsM ws vals b else if k = "same" then decide (worthM ws vals a=worthM ws vals b) else decide (worthM ws vals a<worthM ws vals b)
 | _=>false
theorem qDd {bs:List (Str×Int)}(hb:bs≠[])(s:S3):CondT (bs.map (·.1)) (condL bs s).1∧(condL bs s).1.dep≤3:=by
 have h1:=kG hb 1 (takeS s 8)
 have h2:=kG hb 1 (exprM bs 1 (takeS s 8)).2
 refine⟨.inr ⟨?_,h1.1,h2.1⟩,?_⟩
 ·unfold relM;split
  ·exact .inl rfl
  ·exact .inr rfl
 ·show max _ _+1≤_;omega
theorem jN {bs:List (Str×Int)}(hb:bs≠[])(d:Nat):∀s:S3,CondT (bs.map (·.1)) (condM bs d s).1∧(condM bs d s).1.dep≤d+3:=by
 induction d with
 | zero=>
  intro s
  unfold condM
  split
  ·exact⟨rfl,by show 1≤_;omega⟩
  ·exact qDd hb s
 | succ d ih=>
  intro s
  have h0:=qDd hb s
  have h1:=ih (takeS s 8)
  have h2:=ih (condM bs d (takeS s 8)).2
  unfold condM
  split
  ·exact⟨rfl,by show 1≤_;omega⟩
  ·split
   ·exact⟨h0.1,by omega⟩
   ·split
    ·exact⟨⟨rfl,h1.1⟩,by show _+1≤_;omega⟩
    ·exact⟨.inl ⟨rfl,h1.1,h2.1⟩,by show max _ _+1≤_;omega⟩
theorem kN:xH ["c","boxes","standing","one","other"] ["c","boxes","standing"] (xA (top 39)):=⟨rfl,rfl,rfl,by decide +kernel,rfl,by decide +kernel,by decide +kernel⟩
def kZ (n:Nat):Sp:=fun vs H Q _=>∃(t:Th) (v:V) (bx st:Addr) (bs:List (Str×Int)) (vals:List Int),vs=[v,.ref bx,.ref st]∧t.At H v∧CondT (bs.map (·.1)) t∧t.dep≤n∧t.dep≤8∧Here H bx st bs vals∧
 ∀H',Same H H'→Q (.bl (holdsM (bs.map (·.1)) vals t)) H'
theorem qNm (F:Fd K mg "_law_holds" (top 39) ["c","boxes","standing"]):Dn P w K mg base "_law_holds" 9 ["c","boxes","standing"] (kZ 0):=by
 have no:∀vs H Q E,¬kZ 0 vs H Q E:=fun vs H Q E h=>by
  obtain⟨t,_,_,_,_,_,_,_,_,h1,_⟩:=h
  have:=Th.dep_pos t
  omega
 obtain⟨f,fd,F,a,b,c⟩:=F.ex
 exact⟨f,fd,⟨fun vs H Q E h=>absurd h (no vs H Q E),fun A outer s H args us vs Q E _ _ _ _ h=>absurd h (no vs H Q E)⟩,a,b,c⟩
theorem qNl {n:Nat}(F:Fd K mg "_law_holds" (top 39) ["c","boxes","standing"])(B:Bl mg)(D_law_worth:Dn P w K mg base "_law_worth" 9 ["e","boxes","standing"] (jI 8))(D_law_holds:Dn P w K mg base "_law_holds" (n+9) ["c","boxes","standing"] (kZ n)):
  Dn P w K mg base "_law_holds" (n+10) ["c","boxes","standing"] (kZ (n+1)):=by
 refine F.ok (k:=n+9) kN (fun vs H Q E h=>?_) (fun f cdv A outer s H vs Q E hr h=>?_)
 ·obtain⟨_,_,_,_,_,_,rfl,_⟩:=h
  rfl
 obtain⟨t,v,bx,st,bs,vals,rfl,ht,ok,hd,h8,hh,q⟩:=h
 refine⟨_,(qZ (xU (qR zA (xE (qS (K:=K)) (pv 0) qE (fun _ _=>rfl)) qF (xD _)) (qJ (qN qAd)) qY)
  (qZ (xU (qR zA (xE (qS (K:=K)) (pv 0) qE (fun _ _=>rfl)) qF (xD _)) (qJ (qN (qIc (qD D_law_holds hr (qQ (xE (qS (K:=K)) (pv 0) qE (fun _ _=>rfl)) (qQ (pv 1) (qQ (pv 2) qX))))))) qY)
  (qZ (xU (qR zA (xE (qS (K:=K)) (pv 0) qE (fun _ _=>rfl)) qF (xD _)) (qJ (qN (qVc (qD D_law_holds hr (qQ (xE (qS (K:=K)) (pv 0) qE (fun _ _=>rfl)) (qQ (pv 1) (qQ (pv 2) qX)))) (qDx (qD D_law_holds hr (qQ (xE (qS (K:=K)) (pv 0) qE (fun _ _=>rfl)) (qQ (pv 1) (qQ (pv 2) qX)))))))) qY)
  (qZ (qM (i:=3) kN.nd rfl (by wtm_at "zo") (qD D_law_worth hr (qQ (xE (qS (K:=K)) (pv 0) qE (fun _ _=>rfl)) (qQ (pv 1) (qQ (pv 2) qX)))))
  (qZ (qM (i:=4) kN.nd rfl (by wtm_at "zo") (qD D_law_worth hr (qQ (xE (qS (K:=K)) (pv 0) qE (fun _ _=>rfl)) (qQ (pv 1) (qQ (pv 2) qX)))))
  (qJ (qN (xE (qT (K:=K)) (zE (qQ (yG qKz (pv 3) (pv 4) (xD _)) (qQ (yG zA (pv 3) (pv 4) (xD _)) qX))) (xX qWc rfl B.int' qPq (qQ (yG zA (xE (qS (K:=K)) (pv 0) qE (fun _ _=>rfl)) qF (xD _)) qX)) (fun _ _=>rfl))))))))),?_⟩
 cases t with
 | num m=>exact ok.elim
 | box x=>exact ok.elim
 | nul k=>
  obtain⟨a,rfl,ea⟩:=ht
  have ok:k = "yes" := ok
  subst ok
  wtm_at "zw"
  exact q _ (.refl _)
 | un k x=>
  obtain⟨a,u1,rfl,ea,h1⟩:=ht
  obtain⟨hk,ok1⟩:=ok
  subst hk
  have d0:x.dep+1≤n+1:=hd
  have d8:x.dep+1≤8:=h8
  wtm_at "zw"
  refine⟨x,u1,bx,st,bs,vals,rfl,h1,ok1,by omega,by omega,hh,fun H1 S1=>?_⟩
  wtm_at "zw"
  exact q _ S1
 | bin k x y=>
  obtain⟨a,u1,u2,rfl,ea,h1,h2⟩:=ht
  have d0:max x.dep y.dep+1≤n+1:=hd
  have d8:max x.dep y.dep+1≤8:=h8
  rcases ok with⟨hk,ok1,ok2⟩ | ⟨hk,ok1,ok2⟩
  ·subst hk
   have q:∀H',Same H H'→Q (.bl (holdsM (bs.map (·.1)) vals x && holdsM (bs.map (·.1)) vals y)) H':=q
   wtm_at "zw"
   refine⟨x,u1,bx,st,bs,vals,rfl,h1,ok1,by omega,by omega,hh,fun H1 S1=>?_⟩
   have ea1:=S1 _ _ ea
   wtm_at "zw"
   cases hb:holdsM (bs.map (·.1)) vals x with
   | true=>
    refine iteT ?_
    wtm_at "zw"
    refine⟨y,u2,bx,st,bs,vals,rfl,Th.At.mono (qC S1) h2,ok2,by omega,by omega,hh.same S1,fun H2 S2=>?_⟩
    rw[hb,Bool.true_and] at q
    exact q _ (S1.trans S2)
   | false=>
    refine iteF ?_
    rw[hb,Bool.false_and] at q
    exact q _ S1
  ·have k1:k ≠ "yes" := by rcases hk with r | r <;> (rw[r];decide)
   have k2:k ≠ "not" := by rcases hk with r | r <;> (rw[r];decide)
   have k3:k ≠ "both" := by rcases hk with r | r <;> (rw[r];decide)
   wtm_at "zw"
   refine⟨x,u1,bx,st,bs,vals,rfl,h1,ok1,by omega,hh,fun H1 S1=>?_⟩
   have ea1:=S1 _ _ ea
   wtm_at "zw"
   refine⟨y,u2,bx,st,bs,vals,rfl,Th.At.mono (qC S1) h2,ok2,by omega,hh.same S1,fun H2 S2=>?_⟩
   have ea2:=S2 _ _ ea1
   wtm_at "zw"
   refine⟨xF (show 2≤1000000 by decide),fun l hl=>?_⟩
   have S3':=qV hl (.lst [V.bl (decide (worthM (bs.map (·.1)) vals x<worthM (bs.map (·.1)) vals y)),V.bl (decide (V.int (worthM (bs.map (·.1)) vals x)=V.int (worthM (bs.map (·.1)) vals y)))])
   have el:upd H2 l (.lst [V.bl (decide (worthM (bs.map (·.1)) vals x<worthM (bs.map (·.1)) vals y)),V.bl (decide (V.int (worthM (bs.map (·.1)) vals x)=V.int (worthM (bs.map (·.1)) vals y)))]) l=some _:=qW
   generalize upd H2 l (.lst [V.bl (decide (worthM (bs.map (·.1)) vals x<worthM (bs.map (·.1)) vals y)),V.bl (decide (V.int (worthM (bs.map (·.1)) vals x)=V.int (worthM (bs.map (·.1)) vals y)))])=H3 at S3' el ⊢
   have ea3:=S3' _ _ ea2
   have qq:=q _ ((S1.trans S2).trans S3')
   unfold holdsM at qq
   rw[if_neg k3] at qq
   rcases hk with r | r
   ·subst r
    wtm_at "zw"
    refine .inr ⟨true,rfl,?_⟩
    rw[if_pos rfl,decide_eq_decide.mpr (show worthM (bs.map (·.1)) vals x=worthM (bs.map (·.1)) vals y↔V.int (worthM (bs.map (·.1)) vals x)=V.int (worthM (bs.map (·.1)) vals y) from⟨fun z=>by rw[z],fun z=>V.int.inj z⟩)] at qq
    exact⟨l,_,1,_,rfl,rfl,SqL.of el,rfl,qq⟩
   ·subst r
    wtm_at "zw"
    refine .inr ⟨false,rfl,?_⟩
    rw[if_neg (by decide)] at qq
    exact⟨l,_,0,_,rfl,rfl,SqL.of el,rfl,qq⟩
theorem qFz (F:Fd K mg "_law_holds" (top 39) ["c","boxes","standing"])(B:Bl mg)(D:Dn P w K mg base "_law_worth" 9 ["e","boxes","standing"] (jI 8))(n:Nat):Dn P w K mg base "_law_holds" (n+9) ["c","boxes","standing"] (kZ n):=by
 induction n with
 | zero=>exact qNm F
 | succ n ih=>exact qNl F B D ih

def hideL (ds:List Addr)(H:Hp):Hp:=fun b=>if b∈ds then none else H b
def Keep (ds:List Addr)(H H':Hp):Prop:=∀b o,b∉ds→H b=some o→H' b=some o
section
variable {ds:List Addr}{H H' H'':Hp}
theorem jM {b:Addr}{o:HO}(n:b∉ds)(e:H b=some o):hideL ds H b=some o:=by unfold hideL;rw[if_neg n];exact e
theorem jE:Same (hideL ds H) H:=fun b o e=>by
 unfold hideL at e
 by_cases m:b∈ds
 ·rw[if_pos m] at e;cases e
 ·rw[if_neg m] at e;exact e
theorem Keep.hide (h:Keep ds H H'):Same (hideL ds H) (hideL ds H'):=fun b o e=>by
 unfold hideL at e ⊢
 by_cases m:b∈ds
 ·rw[if_pos m] at e;cases e
 ·rw[if_neg m] at e ⊢;exact h b o m e
theorem Keep.refl:Keep ds H H:=fun _ _ _ e=>e
theorem Keep.trans (a:Keep ds H H')(b:Keep ds H' H''):Keep ds H H'':=fun c o m e=>b c o m (a c o m e)
theorem Keep.of (s:Same H H'):Keep ds H H':=fun b o _ e=>s b o e
theorem Keep.but1 {p:Addr}(B:But1 p H H')(m:p∈ds):Keep ds H H':=fun b o n e=>B b o (fun z=>n (z▸m)) e
theorem Keep.upd {y:Addr}{o:HO}(m:y∈ds):Keep ds H (L2.upd H y o):=fun b o' n e=>by
 have nb:b≠y:=fun z=>n (by rw[z];exact m)
 rw[qA nb];exact e
theorem Keep.same {H0:Hp}(k:Keep ds H H')(s:Same H0 H)(n:∀d∈ds,H0 d=none):Same H0 H':=fun b o e=>k b o (fun m=>by rw[n b m] at e;cases e) (s b o e)
end
theorem LookIn.tups {H H':Hp}(t:Tups H H'){c:Look}{u:V}(x:LookIn H c u):LookIn H' c u:=let ⟨a,v,e,q,r⟩:=x;⟨a,v,e,t _ _ q,r.mono t⟩
def WAtV (H:Hp)(W:Wd)(v:V):Prop:=∃p bx dx lx bv gv,v=.ref p∧H p=some (.tup [.ref bx,.ref dx,.ref lx,bv,gv])∧WAt H W bx dx lx bv gv
theorem WAtV.same {H H':Hp}{W:Wd}{v:V}(s:Same H H')(x:WAtV H W v):WAtV H' W v:=let ⟨p,bx,dx,lx,bv,gv,e,q,l⟩:=x;⟨p,bx,dx,lx,bv,gv,e,s _ _ q,l.same s⟩
def boxesM (nm:List Str)(s:S3):Nat→List (Str×Int)×Int×S3
 | 0=>([],40,s)
 | k+1=>if 2+takeV (boxesM nm s k).2.2 4≤(boxesM nm s k).2.1 then ((boxesM nm s k).1++[(nm.getD k "",2+takeV (boxesM nm s k).2.2 4)],(boxesM nm s k).2.1 / (2+takeV (boxesM nm s k).2.2 4),takeS (boxesM nm s k).2.2 4)
  else ((boxesM nm s k).1,(boxesM nm s k).2.1,takeS (boxesM nm s k).2.2 4)
structure qPv (b:List (Str×Int)×Int×S3)(n k:Nat):Prop where
 len:b.1.length≤k
 b25:∀x∈b.1,2≤x.2∧x.2≤5
 r0:0≤b.2.1
 r40:b.2.1≤40
 cnt:b.2.2.n=n+k
 ne:1≤k→b.1≠[]
 r1:1≤b.2.1
 p40:((allV b.1).length:Int) * b.2.1≤40
theorem qPx (nm:List Str)(s:S3)(k:Nat):qPv (boxesM nm s k) s.n k:=by
 induction k with
 | zero=>exact⟨yZC _,(fun x hx=>nomatch hx),(show(0:Int)≤40 by decide),(show(40:Int)≤40 by decide),rfl,fun h=>absurd h (by decide),(show(1:Int)≤40 by decide),(show(1:Int) * 40≤40 by decide)⟩
 | succ k ih=>
  have t:=xG (boxesM nm s k).2.2 (m:=4) (by decide)
  have c:=ih.cnt
  have r0:=ih.r0
  have r4:=ih.r40
  unfold boxesM
  by_cases g:2+takeV (boxesM nm s k).2.2 4≤(boxesM nm s k).2.1
  ·rw[if_pos g]
   refine⟨?_,fun x hx=>?_,Int.ediv_nonneg ih.r0 (by omega),Int.le_trans (Int.ediv_le_self _ ih.r0) ih.r40,?_,fun _ z=>?_,(Int.le_ediv_iff_mul_le (by omega)).mpr (by omega),?_⟩
   ·show(_++[_]).length≤_
    rw[yYI]
    have:=ih.len
    show _+1≤_
    omega
   ·rcases yYR.mp hx with h | h
    ·exact ih.b25 x h
    ·rw[yYL.mp h]
     show 2≤2+takeV (boxesM nm s k).2.2 4∧2+takeV (boxesM nm s k).2.2 4≤5
     omega
   ·show(boxesM nm s k).2.2.n+1=_;omega
   ·exact absurd z (by simp)
   ·have p:=ih.p40
    have dv:(boxesM nm s k).2.1 / (2+takeV (boxesM nm s k).2.2 4) * (2+takeV (boxesM nm s k).2.2 4)≤(boxesM nm s k).2.1:=Int.ediv_mul_le _ (by omega)
    have e1:allV ((boxesM nm s k).1++[(nm.getD k "",2+takeV (boxesM nm s k).2.2 4)])=rowsBy (allV (boxesM nm s k).1) (2+takeV (boxesM nm s k).2.2 4).toNat:=by
     unfold allV
     rw[yYV,List.foldl_append];rfl
    show((allV (_++[_])).length:Int) * _≤40
    rw[e1,yO,Int.natCast_mul,Int.toNat_of_nonneg (by omega),Int.mul_assoc,Int.mul_comm (2+takeV (boxesM nm s k).2.2 4)]
    exact Int.le_trans (Int.mul_le_mul_of_nonneg_left dv (Int.natCast_nonneg _)) p
  ·rw[if_neg g]
   refine⟨Nat.le_succ_of_le ih.len,ih.b25,ih.r0,ih.r40,by show(boxesM nm s k).2.2.n+1=_;omega,fun _=>?_,ih.r1,ih.p40⟩
   by_cases k0:k=0
   ·subst k0
    exact absurd (show 2+takeV (boxesM nm s 0).2.2 4≤(boxesM nm s 0).2.1 by show _≤(40:Int);omega) g
   ·exact ih.ne (by omega)
def w0 (ns:List Int):S3:=stateM (cellM ns 0)
def wNm (ns:List Int):List Str:=if takeV (w0 ns) 2=0 then ["a","b","c"] else ["aa","ab","aab"]
def wS2 (ns:List Int):S3:=takeS (takeS (w0 ns) 2) 3
def wK (ns:List Int):Nat:=(1+takeV (takeS (w0 ns) 2) 3).toNat
def wB (ns:List Int)(k:Nat):List (Str×Int)×Int×S3:=boxesM (wNm ns) (wS2 ns) k
def wBs (ns:List Int):List (Str×Int):=(wB ns (wK ns)).1
def wS3 (ns:List Int):S3:=(wB ns (wK ns)).2.2
def wS4 (ns:List Int):S3:=wordsS (wS3 ns)
def wS5 (ns:List Int):S3:=takeS (wS4 ns) 4
def wDn (ns:List Int):Nat:=(1+takeV (wS4 ns) 4).toNat
def wDeed (ns:List Int)(k:Nat):Deed:=deedM (wBs ns) (cellM ns (1+k)) (wordM (wS3 ns) k)
def wDs (ns:List Int)(m:Nat):List Deed:=(List.range m).map (wDeed ns)
def wLn (ns:List Int):Nat:=(takeV (wS5 ns) 4).toNat
def wS6 (ns:List Int):S3:=takeS (wS5 ns) 4
def wLook (ns:List Int)(k:Nat):Look:=⟨wordM (wS3 ns) (4+k),1+takeV (stateM (cellM ns (5+k))) 4,(exprM (wBs ns) 2 (takeS (stateM (cellM ns (5+k))) 4)).1⟩
def wLs (ns:List Int)(m:Nat):List Look:=(List.range m).map (wLook ns)
def wB0 (ns:List Int):Th×S3:=condM (wBs ns) 1 (wS6 ns)
def wG (ns:List Int):Th:=if 0<takeV (wB0 ns).2 3 then (condM (wBs ns) 1 (takeS (wB0 ns).2 3)).1 else .nul "yes"
def wHold (ns:List Int):List (List Int):=(allV (wBs ns)).filter fun r=>holdsM ((wBs ns).map (·.1)) r (wB0 ns).1
def wBt (ns:List Int):Th:=if (wHold ns).isEmpty=true then .nul "yes" else (wB0 ns).1
def worldM (ns:List Int):Wd:=⟨wBs ns,wDs ns (wDn ns),wLs ns (wLn ns),wBt ns,wG ns⟩
theorem qPf (ns:List Int)(k:Nat):qPv (wB ns k) 2 k:=qPx (wNm ns) (wS2 ns) k
theorem xQm (ns:List Int):1≤wK ns∧wK ns≤3:=by
 have:=xG (takeS (w0 ns) 2) (m:=3) (by decide)
 unfold wK
 omega
structure WOkG (W:Wd):Prop where
 b1:W.bs≠[]
 b3:W.bs.length≤3
 b25:∀b∈W.bs,2≤b.2∧b.2≤5
 d1:W.ds≠[]
 d4:W.ds.length≤4
 l3:W.ls.length≤3
 dn:∀d∈W.ds,Short d.name
 ln:∀l∈W.ls,Short l.name
 lp:∀l∈W.ls,ExprT (W.bs.map (·.1)) l.part∧l.part.dep≤3
 b40:(allV W.bs).length≤40
theorem qYw (ns:List Int):WOkG (worldM ns):=by
 have k:=xQm ns
 have b:=qPf ns (wK ns)
 have t4:=xG (wS4 ns) (m:=4) (by decide)
 have t5:=xG (wS5 ns) (m:=4) (by decide)
 have dn:1≤wDn ns∧wDn ns≤4:=by unfold wDn;omega
 have ll:wLn ns≤3:=by unfold wLn;omega
 refine⟨b.ne k.1,yZI b.len k.2,b.b25,fun z=>?_,?_,?_,fun d hd=>?_,fun l hl=>?_,fun l hl=>?_,?_⟩
 ·have:(wDs ns (wDn ns)).length=0:=congrArg List.length z
  unfold wDs at this
  rw[yYC,List.length_range] at this
  omega
 ·show(wDs ns (wDn ns)).length≤4
  unfold wDs
  rw[yYC,List.length_range];exact dn.2
 ·show(wLs ns (wLn ns)).length≤3
  unfold wLs
  rw[yYC,List.length_range];exact ll
 ·obtain⟨i,_,rfl⟩:=yYP.mp hd
  exact qQe _ _
 ·obtain⟨i,_,rfl⟩:=yYP.mp hl
  exact qQe _ _
 ·obtain⟨i,_,rfl⟩:=yYP.mp hl
  exact kG (b.ne k.1) 2 _
 ·have p:=b.p40
  have m:=Int.mul_le_mul_of_nonneg_left b.r1 (Int.natCast_nonneg (allV (wB ns (wK ns)).1).length)
  show(allV (wB ns (wK ns)).1).length≤40
  omega
theorem jF {α:Type}{F:Hp→α→V→Prop}(mono:∀{H H':Hp},Tups H H'→∀x u,F H x u→F H' x u){σ:St}{H:Hp}{Q:VK}{js:List Nat}{tt:TT}{a:Addr}{us:List V}{rows:List α}{p:α→Bool}(ea:H a=some (.lst us))(pr:Paired (F H) rows us)(hl:rows.length≤100000)
  (htt:∀(u:V) (row:α) (H':Hp) (R:Bool→Hp→Prop),row∈rows→F H' row u→Same H H'→(∀H'',Same H' H''→R (p row) H'')→tt ([some u]++frees js σ) H' R)
  (q:∀(D:Addr) (ys:List V) (H':Hp),H D=none→Same H H'→H' D=some (.lst ys)→Paired (F H') (rows.filter p) ys→Q (.ref D) H'):
  rdC 1 js (gName 0) tt (tVar 0) (Itl K a) σ H Q:=by
 have lr:=pr.length
 refine jA (xs:=us) (fun D i ys H'=>Paired (F H') ((rows.take i).filter p) ys∧∀b o,H b=some o→H' b=some o) (fun D hD=>⟨.nil,qV hD _⟩)
  (fun D i ys H' _ hP=>SqL.of (hP.2 _ _ ea)) (fun D i x ys H' N hD hDy ex hP hN=>?_) (fun D ys H5 hD hDy hP=>?_)
 ·obtain⟨pl,hk⟩:=hP
  have hi:i<rows.length:=by rw[lr];exact(yYB.mp ex).1
  obtain⟨row,erow⟩:∃b,rows[i]? = some b:=⟨_,yYA hi⟩
  have hra:=mono (qC (show Same H H' from hk)) _ _ (xK pr erow ex)
  have ll:=pl.length
  have lf:((rows.take i).filter p).length≤i:=yZI (List.length_filter_le _ _) (by rw[yYF];omega)
  refine⟨⟨[some x],rfl,rfl⟩,?_⟩
  refine htt x row H' _ (yYE erow) hra hk fun H4 S4=>?_
  have eD:=S4 _ _ hDy
  have fs:=qAn (p:=p) erow
  cases e:p row with
  | false=>
   refine iteF (hN _ _ eD ⟨?_,fun b o z=>S4 _ _ (hk _ _ z)⟩)
   rw[fs,e,if_neg yZK,List.append_nil]
   exact Paired.mapP pl (mono (qC S4))
  | true=>
   refine iteT ⟨_,rfl,eD,small2 (by omega),hN _ _ qW ⟨?_,fun b o z=>?_⟩⟩
   ·have T4:Tups H' (upd H4 D (.lst (ys++[x]))):=fun b xs z=>by rw[qA (xT z hDy (by intro z;cases z))];exact S4 _ _ z
    rw[fs,e,if_pos rfl]
    exact Paired.snoc (Paired.mapP pl (mono T4)) (mono T4 _ _ hra)
   ·rw[qA (qB z hD)];exact S4 _ _ (hk _ _ z)
 obtain⟨pl,hk⟩:=hP
 rw[← lr,yYJ] at pl
 exact q D ys H5 hD hk hDy pl
theorem qBh {s:S3}{i:Nat}(h:i<7):atI (strsV (wordsM s 7)) (i:Int)=some (.str (wordM s i)):=zQ (by
 show((wordsM s 7).map V.str)[i]? = _
 unfold wordsM
 rw[yYO,yYO,List.getElem?_range h];rfl)
theorem xVn {ns:List Int}{i:Nat}(h:i<3):atI (strsV (wNm ns)) (0+(i:Int))=some (.str ((wNm ns).getD i "")):=by
 rw[Int.zero_add]
 refine zQ ?_
 have l:(wNm ns).length=3:=by unfold wNm;split <;> rfl
 show((wNm ns).map V.str)[i]? = _
 rw[yYO,List.getD_eq_getElem?_getD,yYA (by omega)]
 rfl
theorem xM:xH ["script","state","names","boxes","room","k","size","words","deeds","looks","own","begin","goal"] ["script"] (xA (top 36)):=⟨rfl,rfl,rfl,by decide +kernel,rfl,by decide +kernel,by decide +kernel⟩
theorem wZ:CompOk (xA (top 36)) ["script","state","names","boxes","room","k","size","words","deeds","looks","own","begin","goal"] (scAt (xB (top 36)) [13] [0]) ["one","begin","boxes"] 1 [11,3]:=
 ⟨by decide +kernel,by decide +kernel,by decide +kernel,by decide +kernel,by decide +kernel,by decide +kernel,by decide +kernel,by decide +kernel⟩
def qGe (K:yZO):Sp:=fun vs H Q _=>∃(a:Addr) (ns:List Int),vs=[.ref a]∧SqL K H a (intsV ns)∧∀(v:V) (H':Hp),Same H H'→WAtV H' (worldM ns) v→Q v H'
theorem qTd (F:Fd K mg "_law_world" (top 36) ["script"])(B:Bl mg)(D_law_cell:Dn P w K mg base "_law_cell" 1 ["script","k"] (spCell K))(D_law_state:Dn P w K mg base "_law_state" 1 ["cell"] qQl)(D_law_take:Dn P w K mg base "_law_take" 2 ["state","many"] spTake)
  (D_law_words:Dn P w K mg base "_law_words" 3 ["state","many"] qGf) (D_law_deed:Dn P w K mg base "_law_deed" 10 ["cell","name","boxes"] qGn) (D_law_expression:Dn P w K mg base "_law_expression" 6 ["state","boxes","deep"] (kJ 3)) (D_law_condition:Dn P w K mg base "_law_condition" 9 ["state","boxes","deep"] (vH 3))
  (D_law_standings:Dn P w K mg base "_law_standings" 1 ["boxes"] qQa) (D_law_holds:Dn P w K mg base "_law_holds" 17 ["c","boxes","standing"] (kZ 8)):Dn P w K mg base "_law_world" 18 ["script"] (qGe K):=by
 refine F.ok xM (fun vs H Q E h=>?_) (fun f cdv A outer s H vs Q E hr h=>?_)
 ·obtain⟨_,_,rfl,_⟩:=h
  rfl
 obtain⟨a,ns,rfl,hS,q⟩:=h
 refine⟨_,(qZ (qM (i:=1) xM.nd rfl (by wtm_at "zo") (qD D_law_state hr (qQ (qD D_law_cell hr (qQ (pv 0) (qQ qE qX))) qX)))
  (qZ (qM (i:=2) xM.nd rfl (by wtm_at "zo") (xE (qT (K:=K)) (zE (qQ (zE (qQ qF (qQ qF (qQ qF qX)))) (qQ (zE (qQ qF (qQ qF (qQ qF qX)))) qX))) (qD D_law_take hr (qQ (pv 1) (qQ qE qX))) (fun _ _=>rfl)))
  (qZ (qM (i:=3) xM.nd rfl (by wtm_at "zo") (zE qX))
  (qZ (qM (i:=4) xM.nd rfl (by wtm_at "zo") qE)
  (qZ (jK PassesOwn.never rfl (zK rfl B.range' (qQ (xQ zC qE (qD D_law_take hr (qQ (pv 1) (qQ qE qX)))) qX)) (qG (i:=5) xM.nd rfl (by wtm_at "zo")) (qZ (qM (i:=6) xM.nd rfl (by wtm_at "zo") (xQ zC qE (qD D_law_take hr (qQ (pv 1) (qQ qE qX)))))
  (qJ (xU (qR xZx (pv 6) (pv 4) (xD _)) (qZ (qP (kS (K:=K) PySem.F.plainAttrs_list PySem.F.slot_list_append PySem.F.type_list_append zP (pv 3) (qQ (zV (qQ (xE (qT (K:=K)) (pv 2) (pv 5) (fun _ _=>rfl)) (qQ (pv 6) qX))) qX)))
  (qJ (qM (i:=4) xM.nd rfl (by wtm_at "zo") (xQ qKj (pv 4) (pv 6))))) qY))))
  (qZ (qM (i:=7) xM.nd rfl (by wtm_at "zo") (qD D_law_words hr (qQ (pv 1) (qQ qE qX))))
  (qZ (qM (i:=8) xM.nd rfl (by wtm_at "zo") (zE qX))
  (qZ (jK PassesOwn.never rfl (zK rfl B.range' (qQ (xQ zC qE (qD D_law_take hr (qQ (pv 1) (qQ qE qX)))) qX)) (qG (i:=5) xM.nd rfl (by wtm_at "zo")) (qJ (qP (kS (K:=K) PySem.F.plainAttrs_list PySem.F.slot_list_append PySem.F.type_list_append zP (pv 8) (qQ (qD D_law_deed hr (qQ (qD D_law_cell hr (qQ (pv 0) (qQ (xQ zC qE (pv 5)) qX))) (qQ (xE (qT (K:=K)) (pv 7) (pv 5) (fun _ _=>rfl)) (qQ (pv 3) qX)))) qX)))))
  (qZ (qM (i:=9) xM.nd rfl (by wtm_at "zo") (zE qX))
  (qZ (jK PassesOwn.never rfl (zK rfl B.range' (qQ (qD D_law_take hr (qQ (pv 1) (qQ qE qX))) qX)) (qG (i:=5) xM.nd rfl (by wtm_at "zo")) (qZ (qM (i:=10) xM.nd rfl (by wtm_at "zo") (qD D_law_state hr (qQ (qD D_law_cell hr (qQ (pv 0) (qQ (xQ zC qE (pv 5)) qX))) qX)))
  (qJ (qP (kS (K:=K) PySem.F.plainAttrs_list PySem.F.slot_list_append PySem.F.type_list_append zP (pv 9) (qQ (zV (qQ (xE (qT (K:=K)) (pv 7) (xQ zC qE (pv 5)) (fun _ _=>rfl)) (qQ (xQ zC qE (qD D_law_take hr (qQ (pv 10) (qQ qE qX)))) (qQ (qD D_law_expression hr (qQ (pv 10) (qQ (pv 3) (qQ qE qX)))) qX)))) qX))))))
  (qZ (qM (i:=11) xM.nd rfl (by wtm_at "zo") (qD D_law_condition hr (qQ (pv 1) (qQ (pv 3) (qQ qE qX)))))
  (qZ (qM (i:=12) xM.nd rfl (by wtm_at "zo") (zV (qQ qF qX)))
  (qK (xU (qR xZj (qD D_law_take hr (qQ (pv 1) (qQ qE qX))) qE (xD _)) (qJ (qM (i:=12) xM.nd rfl (by wtm_at "zo") (qD D_law_condition hr (qQ (pv 1) (qQ (pv 3) (qQ qE qX)))))) qY)
  (qK (xU (qR (qIn (K:=K) hr.units) (zF rfl wZ (qU (K:=K) (qD D_law_standings hr (qQ (pv 3) qX))) (fun cl fp s H=>(qG (i:=0) wZ.nd rfl (Or.inl rfl) (.inr rfl))) (fun cl fp s H=>(vI (qJk (qD D_law_holds hr (qQ (pv 1) (qQ (pv 2) (qQ (pv 0) qX))))))) (fun cl fp s H=>(pv 0))) (zE qX) (xD _)) (qJ (qM (i:=11) xM.nd rfl (by wtm_at "zo") (zV (qQ qF qX)))) qY)
  (qJ (qN (zV (qQ (pv 3) (qQ (pv 8) (qQ (pv 9) (qQ (pv 11) (qQ (pv 12) qX)))))))))))))))))))))),?_⟩
 wtm_at "zw"
 refine⟨a,ns,0,rfl,hS,?_⟩
 wtm_at "zw"
 refine⟨cellM ns 0,rfl,fun p H1 np S1 e1=>?_⟩
 wtm_at "zw"
 refine⟨xF (show 3≤1000000 by decide),fun l1 hl1=>?_⟩
 have S2:Same H1 (upd H1 l1 (.lst [.str "a",.str "b",.str "c"])):=qV hl1 _
 have el1:upd H1 l1 (.lst [.str "a",.str "b",.str "c"]) l1=some (.lst [.str "a",.str "b",.str "c"]):=qW
 have n1:l1≠p:=Ne.symm (qB (show H1 p=some _ from e1) hl1)
 generalize upd H1 l1 (.lst [.str "a",.str "b",.str "c"])=H2 at S2 el1
 wtm_at "zw"
 refine⟨xF (show 3≤1000000 by decide),fun l2 hl2=>?_⟩
 have S3':Same H2 (upd H2 l2 (.lst [.str "aa",.str "ab",.str "aab"])):=qV hl2 _
 have el2:upd H2 l2 (.lst [.str "aa",.str "ab",.str "aab"]) l2=some (.lst [.str "aa",.str "ab",.str "aab"]):=qW
 have n2:l2≠p:=Ne.symm (qB (S2 _ _ (show H1 p=some _ from e1)) hl2)
 generalize upd H2 l2 (.lst [.str "aa",.str "ab",.str "aab"])=H3 at S3' el2
 wtm_at "zw"
 refine⟨xF (show 2≤1000000 by decide),fun l3 hl3=>?_⟩
 have S4:Same H3 (upd H3 l3 (.lst [.ref l1,.ref l2])):=qV hl3 _
 have el3:upd H3 l3 (.lst [.ref l1,.ref l2]) l3=some (.lst [.ref l1,.ref l2]):=qW
 have n3:l3≠p:=Ne.symm (qB (S3' _ _ (S2 _ _ (show H1 p=some _ from e1))) hl3)
 generalize upd H3 l3 (.lst [.ref l1,.ref l2])=H4 at S4 el3
 have S14:=S2.trans (S3'.trans S4)
 wtm_at "zw"
 refine⟨p,w0 ns,2,rfl,S14 _ _ e1,by decide,by decide +kernel,by show 0≤_;omega,fun H5 B5 e5=>?_⟩
 have S05:Same H H5:=zD (S1.trans S14) np B5
 have tb:=xG (w0 ns) (m:=2) (by decide)
 have el3':=B5 _ _ n3 el3
 obtain⟨nA,hat,enA,nAp⟩:∃nA,atI [V.ref l1,.ref l2] (takeV (w0 ns) 2)=some (.ref nA)∧H5 nA=some (.lst (strsV (wNm ns)))∧nA≠p:=by
  have c:takeV (w0 ns) 2=0∨takeV (w0 ns) 2=1:=by omega
  rcases c with c | c
  ·refine⟨l1,by rw[c];rfl,?_,n1⟩
   unfold wNm;rw[if_pos c]
   exact B5 _ _ n1 (S4 _ _ (S3' _ _ el1))
  ·refine⟨l2,by rw[c];rfl,?_,n2⟩
   unfold wNm;rw[if_neg (by omega)]
   exact B5 _ _ n2 (S4 _ _ el2)
 clear el1 el2 hl1 hl2 hl3 S2 S3' S4 el3
 wtm_at "zw"
 refine⟨xF (show 0≤1000000 by decide),fun bx hbx=>?_⟩
 have S6:Same H5 (upd H5 bx (.lst [])):=qV hbx _
 have ebx:upd H5 bx (.lst []) bx=some (.lst []):=qW
 have nbp:p≠bx:=qB (show H5 p=some _ from e5) hbx
 have nAb:nA≠bx:=qB enA hbx
 have hb0:H bx=none:=S05.free hbx
 generalize upd H5 bx (.lst [])=H6 at S6 ebx
 have S06:=S05.trans S6
 wtm_at "zf"
 refine⟨p,takeS (w0 ns) 2,3,rfl,S6 _ _ e5,by decide,by decide +kernel,by show 1≤_;omega,fun H7 B7 e7=>?_⟩
 have t3:=xG (takeS (w0 ns) 2) (m:=3) (by decide)
 wtm_at "zw"
 refine⟨1+takeV (takeS (w0 ns) 2) 3,rfl,by omega,by omega,?_⟩
 have hnA:Keep [p,bx] H5 H7:=(Keep.of S6).trans (.but1 B7 (by simp))
 refine zU (fun i σ' H'=>∃(z5 z6:Option V) (us:List V),σ'=[some (.ref a),some (.ref p),some (.ref nA),some (.ref bx),some (.int (wB ns i).2.1),z5,z6,none,none,none,none,none,none]∧Keep [p,bx] H5 H'∧St3 H' p (wB ns i).2.2∧H' bx=some (.lst us)∧Paired (BoxIn H') (wB ns i).1 us)
  ⟨none,none,[],rfl,hnA,e7,B7 _ _ (Ne.symm nbp) ebx,.nil⟩ ?_ ?_
 ·rintro N rt bk i σ' H8 hi ⟨z5,z6,us,rfl,k8,e8,ebx8,pb8⟩ hN
  have i3:i<3:=by omega
  have ok:=qPf ns i
  have okn:=ok.cnt
  have enm8:=k8 nA _ (by simp[nAp,nAb]) enA
  have hat8:=xVn (ns:=ns) i3
  have lus:=pb8.length
  have lbi:=ok.len
  wtm_at "zw"
  refine⟨p,(wB ns i).2.2,4,rfl,e8,by decide,by decide +kernel,by omega,fun H9 B9 e9=>?_⟩
  have t4:=xG (wB ns i).2.2 (m:=4) (by decide)
  have k9:=k8.trans (.but1 B9 (by simp))
  have ebx9:=B9 _ _ (Ne.symm nbp) ebx8
  have enm9:=k9 nA _ (by simp[nAp,nAb]) enA
  have pb9:=xY (zY B9 e8) pb8
  have step:wB ns (i+1)=if 2+takeV (wB ns i).2.2 4≤(wB ns i).2.1 then ((wB ns i).1++[((wNm ns).getD i "",2+takeV (wB ns i).2.2 4)],(wB ns i).2.1 / (2+takeV (wB ns i).2.2 4),takeS (wB ns i).2.2 4) else ((wB ns i).1,(wB ns i).2.1,takeS (wB ns i).2.2 4):=rfl
  wtm_at "zw"
  by_cases g:2+takeV (wB ns i).2.2 4≤(wB ns i).2.1
  ·rw[if_pos g] at step
   rw[decide_eq_true g]
   refine iteT ?_
   wtm_at "zw"
   refine⟨.inl ⟨rfl,_,SqL.of ebx9⟩,?_⟩
   wtm_at "zw"
   refine⟨xF (show 2≤1000000 by decide),fun t ht=>?_⟩
   have S10:=qV ht (.tup [V.str ((wNm ns).getD i ""),.int (2+takeV (wB ns i).2.2 4)])
   have et:upd H9 t (.tup [V.str ((wNm ns).getD i ""),.int (2+takeV (wB ns i).2.2 4)]) t=some _:=qW
   generalize upd H9 t (.tup [V.str ((wNm ns).getD i ""),.int (2+takeV (wB ns i).2.2 4)])=H10 at S10 et
   have ebx10:=S10 _ _ ebx9
   refine⟨bx,us,.ref t,rfl,rfl,ebx10,small (by omega),?_⟩
   have T11:Tups H10 (upd H10 bx (.lst (us++[.ref t]))):=jO ebx10
   have k11:Keep [p,bx] H5 (upd H10 bx (.lst (us++[.ref t]))):=(k9.trans (.of S10)).trans (.upd (by simp))
   have e11:St3 (upd H10 bx (.lst (us++[.ref t]))) p (takeS (wB ns i).2.2 4):=by
    show upd _ _ _ _=_
    rw[qA nbp];exact S10 _ _ e9
   have ebx11:upd H10 bx (.lst (us++[.ref t])) bx=some _:=qW
   generalize upd H10 bx (.lst (us++[.ref t]))=H11 at T11 k11 e11 ebx11
   wtm_at "zw"
   refine w_I ⟨by omega,big _ (by omega) (Int.lt_of_le_of_lt (b:=10) (by omega) (by decide +kernel))⟩ ?_
   wtm_at "zw"
   refine hN _ _ ⟨_,_,us++[.ref t],by rw[step];rfl,k11,by rw[step];exact e11,ebx11,?_⟩
   rw[step]
   exact Paired.snoc (xY T11 (xY (qC S10) pb9)) ⟨t,rfl,T11 _ _ et⟩
  ·rw[if_neg g] at step
   rw[decide_eq_false g]
   refine iteF ?_
   wtm_at "zw"
   exact hN _ _ ⟨_,_,us,by rw[step];rfl,k9,by rw[step];exact e9,ebx9,by rw[step];exact pb9⟩
 rintro σ' H8 ⟨z5,z6,us,rfl,k8,e8,ebx8,pb8⟩
 have e8:St3 H8 p (wS3 ns):=e8
 have pb8:Paired (BoxIn H8) (wBs ns) us:=pb8
 have kK:=xQm ns
 have okB:=qPf ns (wK ns)
 have n3':(wS3 ns).n=2+wK ns:=okB.cnt
 have S08:Same H H8:=k8.same S05 (by intro d hd;simp at hd;rcases hd with rfl | rfl;exact np;exact hb0)
 have hB8:Bx H8 bx (wBs ns):=⟨⟨us,ebx8,pb8⟩,okB.ne kK.1,yZI okB.len kK.2⟩
 clear k8 hnA B7 e7 S6 S06 ebx enA hat el3' S14 B5 S1 e1
 wtm_at "zw"
 refine⟨p,wS3 ns,7,rfl,e8,by omega,by decide,fun wd H9 nwd B9 e9 ewd=>?_⟩
 have hB9:=hB8.but1 e8 B9
 have S09:Same H H9:=zD S08 np B9
 have e9:St3 H9 p (wS4 ns):=e9
 have nwp:wd≠p:=Ne.symm (qB (show H8 p=some _ from e8) nwd)
 have n4:(wS4 ns).n=(wS3 ns).n+4:=rfl
 wtm_at "zw"
 refine⟨xF (show 0≤1000000 by decide),fun dx hdx=>?_⟩
 have S10:Same H9 (upd H9 dx (.lst [])):=qV hdx _
 have edx:upd H9 dx (.lst []) dx=some (.lst []):=qW
 have ndp:p≠dx:=qB (show H9 p=some _ from e9) hdx
 have hd0:H dx=none:=S09.free hdx
 have nbd:bx≠dx:=hB9.there hdx
 have nwd':wd≠dx:=qB ewd hdx
 generalize upd H9 dx (.lst [])=H10 at S10 edx
 wtm_at "zf"
 refine⟨p,wS4 ns,4,rfl,S10 _ _ e9,by decide,by decide +kernel,by omega,fun H11 B11 e11=>?_⟩
 have t4:=xG (wS4 ns) (m:=4) (by decide)
 have e11:St3 H11 p (wS5 ns):=e11
 have n5:(wS5 ns).n=(wS3 ns).n+5:=rfl
 have S911:∀b o,b≠p→b≠dx→H9 b=some o→H11 b=some o:=fun b o m1 _ e=>B11 b o m1 (S10 _ _ e)
 have hB11:Bx (hideL [p,dx] H11) bx (wBs ns):=by
  obtain⟨⟨us,eu,pu⟩,b2,b3⟩:=hB9
  have T:Tups H9 (hideL [p,dx] H11):=fun b xs e=>jM (by
   have m1:b≠p:=xT e e9 (by intro z;cases z)
   have m2:b≠dx:=qB e hdx
   simp[m1,m2]) (S911 b _ (xT e e9 (by intro z;cases z)) (qB e hdx) e)
  have m1:bx≠p:=Ne.symm nbp
  exact⟨⟨us,jM (by simp[m1,nbd]) (S911 _ _ m1 nbd eu),xY T pu⟩,b2,b3⟩
 wtm_at "zw"
 refine⟨1+takeV (wS4 ns) 4,rfl,by omega,by omega,?_⟩
 have K911:Keep [p,dx] H9 H11:=fun b o m e=>by
  simp at m
  exact S911 b o m.1 m.2 e
 refine zU (fun i σ' H'=>∃(z5:Option V) (du:List V),σ'=[some (.ref a),some (.ref p),some (.ref nA),some (.ref bx),some (.int (wB ns (wK ns)).2.1),z5,z6,some (.ref wd),some (.ref dx),none,none,none,none]∧Keep [p,dx] H11 H'∧St3 H' p (wS5 ns)∧H' dx=some (.lst du)∧Paired (DeedIn (hideL [p,dx] H')) (wDs ns i) du)
  ⟨z5,[],rfl,.refl,e11,B11 _ _ (Ne.symm ndp) edx,.nil⟩ ?_ ?_
 ·rintro N rt bk i σ' H12 hi ⟨z5,du,rfl,k12,e12,edx12,pd12⟩ hN
  have i4:i<4:=by omega
  have k912:=K911.trans k12
  have S012:=k912.same S09 (by intro d hd;simp at hd;rcases hd with rfl | rfl;exact np;exact hd0)
  have ewd12:=k912 wd _ (by simp[nwp,nwd']) ewd
  have hw12:atI (strsV (wordsM (wS3 ns) 7)) (0+(i:Int))=some (.str (wordM (wS3 ns) i)):=by rw[Int.zero_add];exact qBh (by omega)
  have hB12:Bx H12 bx (wBs ns):=(hB11.same k12.hide).same jE
  have lp:=pd12.length
  have ld:(wDs ns i).length=i:=by unfold wDs;rw[yYC,List.length_range]
  wtm_at "zw"
  refine⟨.inl ⟨rfl,_,SqL.of edx12⟩,?_⟩
  wtm_at "zw"
  refine⟨a,ns,1+i,by rw[show(1+(0+(i:Int)))=((1+i:Nat):Int) by omega];rfl,S012.seq hS,?_⟩
  wtm_at "zw"
  refine⟨cellM ns (1+i),wordM (wS3 ns) i,bx,wBs ns,rfl,hB12,fun t wa nv wu H13 S13 et nat fw ewa fwu pw=>?_⟩
  have edx13:=S13 _ _ edx12
  refine⟨dx,du,.ref t,rfl,rfl,edx13,small (by omega),?_⟩
  have T14:Tups H13 (hideL [p,dx] (upd H13 dx (.lst (du++[.ref t])))):=fun b xs e=>by
   have m1:b≠p:=xT e (S13 _ _ e12) (by intro z;cases z)
   have m2:b≠dx:=xT e edx13 (by intro z;cases z)
   exact jM (by simp[m1,m2]) (by rw[qA m2];exact e)
  have U14:∀b o,H12 b=none→H13 b=some o→hideL [p,dx] (upd H13 dx (.lst (du++[.ref t]))) b=some o:=fun b o n e=>by
   have m1:b≠p:=fun z=>by rw[z,(show H12 p=some _ from e12)] at n;cases n
   have m2:b≠dx:=fun z=>by rw[z,edx12] at n;cases n
   exact jM (by simp[m1,m2]) (by rw[qA m2];exact e)
  have k14:Keep [p,dx] H12 (upd H13 dx (.lst (du++[.ref t]))):=(Keep.of S13).trans (.upd (by simp))
  have e14:St3 (upd H13 dx (.lst (du++[.ref t]))) p (wS5 ns):=by
   show upd _ _ _ _=_
   rw[qA ndp];exact S13 _ _ e12
  have edx14:upd H13 dx (.lst (du++[.ref t])) dx=some _:=qW
  generalize upd H13 dx (.lst (du++[.ref t]))=H14 at T14 U14 k14 e14 edx14
  refine hN _ _ ⟨_,du++[.ref t],rfl,k12.trans k14,e14,edx14,?_⟩
  have es:wDs ns (i+1)=wDs ns i++[wDeed ns i]:=by unfold wDs;rw[List.range_succ,yYV];rfl
  rw[es]
  refine Paired.snoc (Paired.mapP pd12 fun _ _ y=>y.same k14.hide) ?_
  refine⟨t,nv,wa,wu,rfl,T14 _ _ et,nat.mono T14,U14 _ _ fw ewa,FP.Paired.mapP' pw fun wy u hu y=>?_⟩
  obtain⟨ya,cs,rfl,eya,pc⟩:=y
  exact⟨ya,cs,rfl,U14 _ _ (fwu ya hu) eya,Paired.mapP pc fun _ _ c=>c.tups T14⟩
 rintro σ' H12 ⟨z5,du,rfl,k12,e12,edx12,pd12⟩
 have pd12:Paired (DeedIn (hideL [p,dx] H12)) (wDs ns (wDn ns)) du:=pd12
 have k912:=K911.trans k12
 have S012:=k912.same S09 (by intro d hd;simp at hd;rcases hd with rfl | rfl;exact np;exact hd0)
 have ewd12:=k912 wd _ (by simp[nwp,nwd']) ewd
 have hBh:=hB11.same k12.hide
 clear K911 k12 k912 hB11 S911 B11 e11 S10 edx hB9 hB8
 have D12:Paired (DeedIn (hideL [p] H12)) (wDs ns (wDn ns)) du:=Paired.mapP pd12 fun _ _ y=>y.same fun b o e=>by
  have e2:=jE _ _ e
  refine jM (fun m=>?_) e2
  unfold hideL at e
  rw[if_pos (yYK.mpr (.inl (yYL.mp m)))] at e
  cases e
 have B12:Bx (hideL [p] H12) bx (wBs ns):=hBh.same fun b o e=>by
  have e2:=jE _ _ e
  refine jM (fun m=>?_) e2
  unfold hideL at e
  rw[if_pos (yYK.mpr (.inl (yYL.mp m)))] at e
  cases e
 have X12:hideL [p] H12 dx=some (.lst du):=jM (by simp[Ne.symm ndp]) edx12
 clear pd12 hBh edx12
 wtm_at "zw"
 refine⟨xF (show 0≤1000000 by decide),fun lx hlx=>?_⟩
 have S13:Same H12 (upd H12 lx (.lst [])):=qV hlx _
 have elx:upd H12 lx (.lst []) lx=some (.lst []):=qW
 have nlp:p≠lx:=qB (show H12 p=some _ from e12) hlx
 have hl0:H lx=none:=S012.free hlx
 have nwl:wd≠lx:=qB ewd12 hlx
 generalize upd H12 lx (.lst [])=H13 at S13 elx
 have N12:hideL [p] H12 lx=none:=by
  unfold hideL;rw[if_neg (by simp[Ne.symm nlp])];exact hlx
 wtm_at "zf"
 refine⟨p,wS5 ns,4,rfl,S13 _ _ e12,by decide,by decide +kernel,by omega,fun H14 B14 e14=>?_⟩
 have t5:=xG (wS5 ns) (m:=4) (by decide)
 have e14:St3 H14 p (wS6 ns):=e14
 have n6:(wS6 ns).n=(wS3 ns).n+6:=rfl
 have K14:Keep [p,lx] H12 H14:=fun b o m e=>by
  simp at m
  exact B14 b o m.1 (S13 _ _ e)
 wtm_at "zw"
 refine⟨takeV (wS5 ns) 4,rfl,by omega,by omega,?_⟩
 refine zU (fun i σ' H'=>∃(z5 z10:Option V) (lu:List V),σ'=[some (.ref a),some (.ref p),some (.ref nA),some (.ref bx),some (.int (wB ns (wK ns)).2.1),z5,z6,some (.ref wd),some (.ref dx),some (.ref lx),z10,none,none]∧Keep [p,lx] H12 H'∧St3 H' p (wS6 ns)∧H' lx=some (.lst lu)∧Paired (LookIn H') (wLs ns i) lu)
  ⟨z5,none,[],rfl,K14,e14,B14 _ _ (Ne.symm nlp) elx,.nil⟩ ?_ ?_
 ·rintro N rt bk i σ' H15 hi ⟨z5,z10,lu,rfl,k15,e15,elx15,pl15⟩ hN
  have i4:i<4:=by omega
  have S015:=k15.same S012 (by intro d hd;simp at hd;rcases hd with rfl | rfl;exact np;exact hl0)
  have ewd15:=k15 wd _ (by simp[nwp,nwl]) ewd12
  have hw15:atI (strsV (wordsM (wS3 ns) 7)) (4+(0+(i:Int)))=some (.str (wordM (wS3 ns) (4+i))):=by
   rw[show(4+(0+(i:Int)))=((4+i:Nat):Int) by omega];exact qBh (by omega)
  have lp:=pl15.length
  have ld:(wLs ns i).length=i:=by unfold wLs;rw[yYC,List.length_range]
  have SH:Same (hideL [p] H12) H15:=fun b o e=>by
   have m1:b≠p:=fun z=>by unfold hideL at e;rw[if_pos (by simp[z])] at e;cases e
   have m2:b≠lx:=fun z=>by rw[z,N12] at e;cases e
   exact k15 b o (by simp[m1,m2]) (jE _ _ e)
  have hB15:=B12.same SH
  wtm_at "zw"
  refine⟨a,ns,5+i,by rw[show(5+(0+(i:Int)))=((5+i:Nat):Int) by omega];rfl,S015.seq hS,?_⟩
  wtm_at "zw"
  refine⟨cellM ns (5+i),rfl,fun o H16 no S16 e16=>?_⟩
  have ewd16:=S16 _ _ ewd15
  have elx16:=S16 _ _ elx15
  have nol:o≠lx:=Ne.symm (qB elx15 no)
  have nop:o≠p:=Ne.symm (qB (show H15 p=some _ from e15) no)
  wtm_at "zw"
  refine⟨.inl ⟨rfl,_,SqL.of elx16⟩,?_⟩
  wtm_at "zw"
  refine⟨o,stateM (cellM ns (5+i)),4,rfl,e16,by decide,by decide +kernel,by show 0≤_;omega,fun H17 B17 e17=>?_⟩
  have hB17:=(hB15.same S16).but1 e16 B17
  wtm_at "zw"
  refine⟨o,bx,wBs ns,_,2,rfl,e17,hB17,by decide,by show 1+12≤_;omega,fun v H18 B18 e18 a18=>?_⟩
  have B1618:=B17.trans B18
  have S1518:Same H15 H18:=zD S16 no B1618
  wtm_at "zw"
  refine⟨xF (show 3≤1000000 by decide),fun t ht=>?_⟩
  have S19:=qV ht (.tup [V.str (wordM (wS3 ns) (4+i)),.int (1+takeV (stateM (cellM ns (5+i))) 4),v])
  have et:upd H18 t (.tup [V.str (wordM (wS3 ns) (4+i)),.int (1+takeV (stateM (cellM ns (5+i))) 4),v]) t=some _:=qW
  generalize upd H18 t (.tup [V.str (wordM (wS3 ns) (4+i)),.int (1+takeV (stateM (cellM ns (5+i))) 4),v])=H19 at S19 et
  have S1519:=S1518.trans S19
  have elx19:=S1519 _ _ elx15
  have a19:=Th.At.mono (qC S19) a18
  refine⟨lx,lu,.ref t,rfl,rfl,elx19,small (by omega),?_⟩
  have T20:Tups H19 (upd H19 lx (.lst (lu++[.ref t]))):=jO elx19
  have k20:Keep [p,lx] H15 (upd H19 lx (.lst (lu++[.ref t]))):=(Keep.of S1519).trans (.upd (by simp))
  have e20:St3 (upd H19 lx (.lst (lu++[.ref t]))) p (wS6 ns):=by
   show upd _ _ _ _=_
   rw[qA nlp];exact S1519 _ _ e15
  have elx20:upd H19 lx (.lst (lu++[.ref t])) lx=some _:=qW
  generalize upd H19 lx (.lst (lu++[.ref t]))=H20 at T20 k20 e20 elx20
  refine hN _ _ ⟨_,_,lu++[.ref t],rfl,k15.trans k20,e20,elx20,?_⟩
  have es:wLs ns (i+1)=wLs ns i++[wLook ns i]:=by unfold wLs;rw[List.range_succ,yYV];rfl
  rw[es]
  exact Paired.snoc (Paired.mapP pl15 fun _ _ y=>(y.tups (qC S1519)).tups T20) ⟨t,v,rfl,T20 _ _ et,a19.mono T20⟩
 rintro σ' H15 ⟨z5,z10,lu,rfl,k15,e15,elx15,pl15⟩
 have pl15:Paired (LookIn H15) (wLs ns (wLn ns)) lu:=pl15
 have SH:Same (hideL [p] H12) H15:=fun b o e=>by
  have m1:b≠p:=fun z=>by unfold hideL at e;rw[if_pos (by simp[z])] at e;cases e
  have m2:b≠lx:=fun z=>by rw[z,N12] at e;cases e
  exact k15 b o (by simp[m1,m2]) (jE _ _ e)
 have SH':Same (hideL [p] H12) (hideL [p] H15):=fun b o e=>by
  have m1:b≠p:=fun z=>by unfold hideL at e;rw[if_pos (by simp[z])] at e;cases e
  exact jM (by simp[m1]) (SH _ _ e)
 have S015:=k15.same S012 (by intro d hd;simp at hd;rcases hd with rfl | rfl;exact np;exact hl0)
 have D15:Paired (DeedIn (hideL [p] H15)) (wDs ns (wDn ns)) du:=Paired.mapP D12 fun _ _ y=>y.same SH'
 have X15:=SH' _ _ X12
 have hB15:=B12.same SH'
 have L15:hideL [p] H15 lx=some (.lst lu):=jM (by simp[Ne.symm nlp]) elx15
 have TL:Tups H15 (hideL [p] H15):=fun b xs e=>jM (by simp[xT e e15 (by intro z;cases z)]) e
 have pl15':=Paired.mapP pl15 fun _ _ y=>y.tups TL
 have fin:∀{H':Hp} {bv gv:V} {t:Addr},Keep [p] H15 H'→(wBt ns).At H' bv→(wG ns).At H' gv→H' t=some (.tup [.ref bx,.ref dx,.ref lx,bv,gv])→Q (.ref t) H':=fun{H'} {bv} {gv} {t} k ab ag et=>by
  have S:=k.hide.trans jE
  obtain⟨us,eu,pu⟩:=(hB15.same S).ex
  refine q _ _ (k.same S015 (by intro d hd;simp at hd;rw[hd];exact np)) ⟨t,bx,dx,lx,bv,gv,rfl,et,⟨⟨us,eu,pu⟩,⟨du,S _ _ X15,Paired.mapP D15 fun _ _ y=>y.same S⟩,⟨lu,S _ _ L15,Paired.mapP pl15' fun _ _ y=>y.tups (qC S)⟩,ab,ag⟩⟩
 clear D12 X12 SH SH' B12 pl15 D15 X15 L15 pl15' k15 S012 K14 ewd12 S13 elx elx15 B14 e14
 have hbx:∀{H':Hp},Keep [p] H15 H'→Bx H' bx (wBs ns):=fun k=>(hB15.same k.hide).same jE
 wtm_at "zw"
 refine⟨p,bx,wBs ns,wS6 ns,1,rfl,e15,hbx .refl,by decide,by omega,fun v1 H16 B16 e16 a16=>?_⟩
 have e16:St3 H16 p (wB0 ns).2:=e16
 have a16:(wB0 ns).1.At H16 v1:=a16
 have k16:Keep [p] H15 H16:=.but1 B16 (by simp)
 have cn:=qBk (wBs ns) 1 (wS6 ns)
 have cn:(wB0 ns).2.n+1≤(wS6 ns).n+12 * 2 ^ 1:=cn
 wtm_at "zw"
 refine⟨xF (show 1≤1000000 by decide),fun y0 hy0=>?_⟩
 have S17:=qV hy0 (.tup [V.str "yes"])
 have ey0:upd H16 y0 (.tup [V.str "yes"]) y0=some _:=qW
 generalize upd H16 y0 (.tup [V.str "yes"])=H17 at S17 ey0
 have k17:=k16.trans (.of S17)
 have a17:=Th.At.mono (qC S17) a16
 wtm_at "zw"
 refine⟨fun σ' H'=>∃gv:V,σ'=[some (.ref a),some (.ref p),some (.ref nA),some (.ref bx),some (.int (wB ns (wK ns)).2.1),z5,z6,some (.ref wd),some (.ref dx),some (.ref lx),z10,some v1,some gv]∧Keep [p] H15 H'∧(wB0 ns).1.At H' v1∧(wG ns).At H' gv,?_,fun σ' H18 hP=>?_⟩
 ·wtm_at "zw"
  refine⟨p,(wB0 ns).2,3,rfl,S17 _ _ e16,by decide,by decide +kernel,by omega,fun H18 B18 e18=>?_⟩
  have T18:=zY B18 (S17 _ _ e16)
  have k18:=k17.trans (.but1 B18 (by simp))
  have a18:=a17.mono T18
  wtm_at "zw"
  by_cases g:0<takeV (wB0 ns).2 3
  ·rw[decide_eq_true g]
   refine iteT ?_
   wtm_at "zw"
   refine⟨p,bx,wBs ns,_,1,rfl,e18,hbx k18,by decide,by show(wB0 ns).2.n+1+24≤_;omega,fun v2 H19 B19 e19 a19=>?_⟩
   refine⟨v2,rfl,k18.trans (.but1 B19 (by simp)),a18.mono (zY B19 e18),?_⟩
   unfold wG;rw[if_pos g];exact a19
  ·rw[decide_eq_false g]
   refine iteF ?_
   refine⟨.ref y0,rfl,k18,a18,?_⟩
   unfold wG;rw[if_neg g]
   exact⟨y0,rfl,T18 _ _ ey0⟩
 obtain⟨gv,rfl,k18,a18,g18⟩:=hP
 have hb18:=hbx k18
 obtain⟨us,eu,pu⟩:=hb18.ex
 have cok:=jN (bs:=wBs ns) hb18.ne 1 (wS6 ns)
 have cok:CondT ((wBs ns).map (·.1)) (wB0 ns).1∧(wB0 ns).1.dep≤1+3:=cok
 have l3:=hb18.le
 wtm_at "zw"
 refine⟨fun σ' H'=>∃bv:V,σ'=[some (.ref a),some (.ref p),some (.ref nA),some (.ref bx),some (.int (wB ns (wK ns)).2.1),z5,z6,some (.ref wd),some (.ref dx),some (.ref lx),z10,some bv,some gv]∧Keep [p] H15 H'∧(wBt ns).At H' bv∧(wG ns).At H' gv,?_,fun σ' H19 hP=>?_⟩
 ·wtm_at "zf"
  refine⟨bx,wBs ns,us,rfl,eu,pu,by omega,okB.b25,fun r ss H19 nr S19 er pr=>?_⟩
  have b25:=okB.b25
  have al:=qKi (bs:=wBs ns) b25 (wBs ns).length (yZC _)
  rw[yYJ] at al
  have p5:=pow56 (i:=(wBs ns).length) (by omega)
  refine⟨r,rfl,⟨ss,SqL.of er⟩,?_⟩
  refine jF (F:=TupIn) (fun t x u y=>let ⟨a,e,q⟩:=y;⟨a,e,t _ _ q⟩) (p:=fun r=>holdsM ((wBs ns).map (·.1)) r (wB0 ns).1) er pr (by omega) (fun u row H' R hm hu S' hR=>?_) fun D ys H20 nD S20 eD py=>?_
  ·obtain⟨ra,rfl,hra⟩:=hu
   have S18':=S19.trans S'
   wtm_at "zw"
   refine⟨(wB0 ns).1,v1,bx,ra,wBs ns,row,rfl,a18.mono (qC S18'),cok.1,by omega,by omega,⟨⟨us,S18' _ _ eu,xY (qC S18') pu⟩,hra,(qKh hm).1,by omega⟩,fun H'' S''=>?_⟩
   wtm_at "zw"
   exact hR _ S''
  wtm_at "zw"
  refine⟨xF (show 0≤1000000 by decide),fun e0 he0=>?_⟩
  have S21:=qV he0 (.lst [])
  have ee0:upd H20 e0 (.lst []) e0=some (.lst []):=qW
  generalize upd H20 e0 (.lst [])=H21 at S21 ee0
  refine⟨D,e0,ys,rfl,rfl,SqL.of (S21 _ _ eD),SqL.of ee0,?_⟩
  have S1821:=S19.trans (S20.trans S21)
  have ey:ys.isEmpty=(wHold ns).isEmpty:=by
   have l:(wHold ns).length=ys.length:=py.length
   cases h1:ys with
   | nil=>rw[h1] at l;rw[List.length_eq_zero_iff.mp l];rfl
   | cons y ys'=>
    rw[h1] at l
    cases h2:wHold ns with
    | nil=>rw[h2] at l;cases l
    | cons x xs=>rfl
  rw[ey]
  have k21:=k18.trans (.of S1821)
  cases g:(wHold ns).isEmpty with
  | true=>
   refine⟨true,rfl,iteT ?_⟩
   wtm_at "zw"
   refine⟨xF (show 1≤1000000 by decide),fun y1 hy1=>?_⟩
   have S22:=qV hy1 (.tup [V.str "yes"])
   refine⟨.ref y1,rfl,k21.trans (.of S22),?_,(g18.mono (qC S1821)).mono (qC S22)⟩
   unfold wBt;rw[if_pos g]
   exact⟨y1,rfl,qW⟩
  | false=>
   refine⟨false,rfl,iteF ?_⟩
   refine⟨v1,rfl,k21,?_,g18.mono (qC S1821)⟩
   unfold wBt;rw[if_neg (by rw[g];decide)]
   exact a18.mono (qC S1821)
 obtain⟨bv,rfl,k19,b19,g19⟩:=hP
 wtm_at "zw"
 refine⟨xF (show 5≤1000000 by decide),fun t ht=>?_⟩
 have S20:=qV ht (.tup [V.ref bx,.ref dx,.ref lx,bv,gv])
 exact fin (k19.trans (.of S20)) (b19.mono (qC S20)) (g19.mono (qC S20)) qW

theorem yW:xH ["world","name","standing","look"] ["world","name","standing"] (xA (top 41)):=⟨rfl,rfl,rfl,by decide +kernel,rfl,by decide +kernel,by decide +kernel⟩
theorem jU:CompOk (xA (top 41)) ["world","name","standing","look"] (scAt (xB (top 41)) [0] [0]) ["look","name"] 1 [1]:=
 ⟨by decide +kernel,by decide +kernel,by decide +kernel,by decide +kernel,by decide +kernel,by decide +kernel,by decide +kernel,by decide +kernel⟩
def qCv:Sp:=fun vs H Q _=>∃(W:Wd) (wv:V) (x:Str) (st:Addr) (vals:List Int),vs=[wv,.str x,.ref st]∧WAtV H W wv∧WOkG W∧(∃l∈W.ls,l.name=x)∧H st=some (.tup (intsV vals))∧vals.length=W.bs.length∧
 ∀(n:Int) (H':Hp),Same H H'→Q (.int n) H'
theorem qNh (F:Fd K mg "_law_shown" (top 41) ["world","name","standing"])(D_law_worth:Dn P w K mg base "_law_worth" 9 ["e","boxes","standing"] (jI 8)):Dn P w K mg base "_law_shown" 10 ["world","name","standing"] qCv:=by
 refine F.ok yW (fun vs H Q E h=>?_) (fun f cdv A outer s H vs Q E hr h=>?_)
 ·obtain⟨_,_,_,_,_,rfl,_⟩:=h
  rfl
 obtain⟨W,wv,x,st,vals,rfl,⟨wp,bx,dx,lx,bv,gv,rfl,ewp,L⟩,ok,⟨l0,hl0,el0⟩,est,lv,q⟩:=h
 obtain⟨bu,ebx,pb⟩:=L.boxes
 obtain⟨lu,elx,pl⟩:=L.looks
 have l3:=ok.l3
 have b3:=ok.b3
 refine⟨_,(qZ (qM (i:=3) yW.nd rfl (by wtm_at "zo") (xE (qT (K:=K)) (zF rfl jU (qU (K:=K) (xE (qS (K:=K)) (pv 0) qE (fun _ _=>rfl))) (fun cl fp s H=>(qG (i:=0) jU.nd rfl (Or.inl rfl) (.inr rfl))) (fun cl fp s H=>(vI (qR zA (xE (qS (K:=K)) (pv 0) qE (fun _ _=>rfl)) (pv 1) (xD _)))) (fun cl fp s H=>(pv 0))) qE (fun _ _=>rfl)))
  (qJ (qN (qD D_law_worth hr (qQ (xE (qS (K:=K)) (pv 3) qE (fun _ _=>rfl)) (qQ (xE (qS (K:=K)) (pv 0) qE (fun _ _=>rfl)) (qQ (pv 2) qX))))))),?_⟩
 wtm_at "zf"
 refine⟨lx,rfl,⟨lu,SqL.of elx⟩,?_⟩
 refine jF (F:=LookIn) (fun t x u y=>y.tups t) (p:=fun l=>decide (l.name=x)) elx pl (by omega) (fun u l H' R hm hu S' hR=>?_) fun D ys H1 nD S1 eD py=>?_
 ·obtain⟨la,v,rfl,ela,_⟩:=hu
  wtm_at "zw"
  have e:decide (V.str l.name=V.str x)=decide (l.name=x):=decide_eq_decide.mpr ⟨fun z=>V.str.inj z,fun z=>by rw[z]⟩
  rw[e]
  exact hR _ (.refl _)
 have hm:l0∈W.ls.filter fun l=>decide (l.name=x):=yYQ.mpr ⟨hl0,decide_eq_true el0⟩
 obtain⟨l1,y1,e1,e2⟩:∃l1 y1,(W.ls.filter fun l=>decide (l.name=x))[0]? = some l1∧ys[0]? = some y1:=by
  have h0:0<(W.ls.filter fun l=>decide (l.name=x)).length:=List.length_pos_of_mem hm
  exact⟨_,_,yYA h0,yYA (by rw[← py.length];exact h0)⟩
 have hl1:=ok.lp l1 (yYQ.mp (yYE e1)).1
 obtain⟨la,v,rfl,ela,av⟩:=xK py e1 e2
 have hat:atI ys 0=some (.ref la):=zQ (j:=0) e2
 have ewp1:=S1 _ _ ewp
 wtm_at "zw"
 exact⟨l1.part,v,bx,st,W.bs,vals,rfl,av,hl1.1,by omega,⟨⟨bu,S1 _ _ ebx,xY (qC S1) pb⟩,S1 _ _ est,lv,by omega⟩,fun H' S'=>q _ _ (S1.trans S')⟩
theorem zH:xH ["state","world","many","k","kind","leads","name","worths","forks","j"] ["state","world","many","k"] (xA (top 44)):=⟨rfl,rfl,rfl,by decide +kernel,rfl,by decide +kernel,by decide +kernel⟩
theorem qQq:CompOk (xA (top 44)) ["state","world","many","k","kind","leads","name","worths","forks","j"] (scAt (xB (top 44)) [2] []) ["j","k","state","many"] 1 [3,0,2]:=
 ⟨by decide +kernel,by decide +kernel,by decide +kernel,by decide +kernel,by decide +kernel,by decide +kernel,by decide +kernel,by decide +kernel⟩
theorem wU:CompOk (xA (top 44)) ["state","world","many","k","kind","leads","name","worths","forks","j"] (scAt (xB (top 44)) [3,0] []) ["j","state","many"] 1 [0,2]:=
 ⟨by decide +kernel,by decide +kernel,by decide +kernel,by decide +kernel,by decide +kernel,by decide +kernel,by decide +kernel,by decide +kernel⟩
theorem wT:CompOk (xA (top 44)) ["state","world","many","k","kind","leads","name","worths","forks","j"] (scAt (xB (top 44)) [6] [1,1]) ["standing","world","name"] 1 [1,6]:=
 ⟨by decide +kernel,by decide +kernel,by decide +kernel,by decide +kernel,by decide +kernel,by decide +kernel,by decide +kernel,by decide +kernel⟩
theorem qYx {σ:St}{H H0:Hp}{Q:VK}{js:List Nat}{te:TE}{n c:Nat}{p:Addr}{Z:Int→Prop}(hn:n≤100)(hs:Same H0 H)(h0:H0 p=none)(st:∃s:S3,St3 H p s∧s.n≤c)
  (hte:∀(i:Nat) (H':Hp) (s:S3) (R:VK),i<n→Same H0 H'→St3 H' p s→s.n≤c+i→(∀(z:Int) (H'':Hp) (s':S3),Z z→But1 p H' H''→St3 H'' p s'→s'.n≤s.n+1→R (.int z) H'')→te ([some (.int (i:Int))]++frees js σ) H' R)
  (q:∀(D:Addr) (zs:List Int) (H':Hp),H D=none→Same H0 H'→But1 p H H'→H' D=some (.lst (intsV zs))→zs.length=n→(∀z∈zs,Z z)→(∃s:S3,St3 H' p s∧s.n≤c+n)→Q (.ref D) H'):
  rdC 1 js (gName 0) tYes te (Itr 0 n) σ H Q:=by
 obtain⟨s0,es0,hs0⟩:=st
 refine kQ (fun D i ys H'=>∃zs:List Int,ys=intsV zs∧zs.length=i∧(∀z∈zs,Z z)∧(∃s:S3,St3 H' p s∧s.n≤c+i)∧But1 p H H'∧D≠p) (fun D hD=>⟨[],rfl,rfl,(fun z hz=>nomatch hz),⟨s0,qV hD _ _ _ es0,hs0⟩,.of (qV hD _),Ne.symm (qB (show H p=some _ from es0) hD)⟩)
  (fun D i ys H' N hD hDy hi hP hN=>?_) (fun D ys H2 hD hDy hP=>?_)
 ·obtain⟨zs,rfl,lz,bz,⟨s,es,hsn⟩,bt,nD⟩:=hP
  rw[Int.zero_add]
  refine⟨⟨[some (.int (i:Int))],rfl,rfl⟩,?_⟩
  refine hte i H' s _ hi (zD hs h0 bt) es hsn fun z H'' s' zb b2 es' hs'=>?_
  have eD:=b2 _ _ nD hDy
  refine⟨eD,?_,hN _ _ qW ⟨zs++[z],?_,?_,fun y hy=>?_,⟨s',?_,by omega⟩,fun b o nb e=>?_,nD⟩⟩
  ·rw[yYC,lz];exact small (by omega)
  ·unfold intsV;rw[yYV];rfl
  ·rw[yYI,lz];rfl
  ·rcases yYR.mp hy with h | h
   ·exact bz y h
   ·rw[yYL.mp h];exact zb
  ·show upd _ _ _ _=_
   rw[qA (Ne.symm nD)];exact es'
  ·rw[qA (qB e hD)];exact b2 _ _ nb (bt _ _ nb e)
 ·obtain⟨zs,rfl,lz,bz,st2,bt,nD⟩:=hP
  exact q D zs H2 hD (zD hs h0 bt) bt hDy lz bz st2
theorem qMx {σ:St}{H:Hp}{Q:VK}{js:List Nat}{te:TE}{a:Addr}{us:List V}{rows:List (List Int)}(ea:H a=some (.lst us))(pr:Paired (TupIn H) rows us)(hl:rows.length≤1000)
  (hte:∀(ra:Addr) (row:List Int) (H':Hp) (R:VK),row∈rows→H' ra=some (.tup (intsV row))→Same H H'→(∀(z:Int) (H'':Hp),Same H' H''→R (.int z) H'')→te ([some (.ref ra)]++frees js σ) H' R)
  (q:∀(D:Addr) (zs:List Int) (H':Hp),H D=none→Same H H'→H' D=some (.lst (intsV zs))→zs.length=rows.length→Q (.ref D) H'):
  rdC 1 js (gName 0) tYes te (Itl K a) σ H Q:=by
 have lr:=pr.length
 refine jA (xs:=us) (fun D i ys H'=>∃zs:List Int,ys=intsV zs∧zs.length=i∧Same H H') (fun D hD=>⟨[],rfl,rfl,qV hD _⟩)
  (fun D i ys H' _ hP=>let ⟨_,_,_,hk⟩:=hP;SqL.of (hk _ _ ea)) (fun D i x ys H' N hD hDy ex hP hN=>?_) (fun D ys H5 hD hDy hP=>?_)
 ·obtain⟨zs,rfl,lz,hk⟩:=hP
  have hi:i<rows.length:=by rw[lr];exact(yYB.mp ex).1
  obtain⟨row,erow⟩:∃b,rows[i]? = some b:=⟨_,yYA hi⟩
  obtain⟨ra,rfl,hra⟩:=xK pr erow ex
  refine⟨⟨[some (.ref ra)],rfl,rfl⟩,?_⟩
  refine hte ra row H' _ (yYE erow) (hk _ _ hra) hk fun z H4 S4=>?_
  refine⟨S4 _ _ hDy,by rw[yYC,lz];exact small (by omega),hN _ _ qW ⟨zs++[z],?_,by rw[yYI,lz];rfl,fun b o e=>?_⟩⟩
  ·unfold intsV;rw[yYV];rfl
  ·rw[qA (qB e hD)];exact S4 _ _ (hk _ _ e)
 ·obtain⟨zs,rfl,lz,hk⟩:=hP
  exact q D zs H5 hD hk hDy (by rw[lz,lr])
structure NodeOk (W:Wd)(m:Nat)(n:Nd):Prop where
 few:n.Few
 leads:Leads n m
 once:n.Once
 known:n.Known W
def Fk (H:Hp)(m:Nat)(ms:List Int)(i:Nat)(us:List V):Prop:=∃fs:List (Int×Int),Paired (PairI H) fs us∧(fs.map (·.1)).Nodup∧∀f∈fs,(0≤f.2∧f.2<(m:Int))∧∃j<i,f.1=ms.getD j 0
def FkE (H:Hp)(m:Nat)(us:List V):Prop:=∃fs:List (Int×Int),Paired (PairI H) fs us∧(fs.map (·.1)).Nodup∧∀f∈fs,0≤f.2∧f.2<(m:Int)
theorem qJa {H H':Hp}(t:Tups H H'){fs:List (Int×Int)}{us:List V}(p:Paired (PairI H) fs us):Paired (PairI H') fs us:=Paired.mapP p fun _ _ ⟨a,e,q⟩=>⟨a,e,t _ _ q⟩
theorem Fk.tups {H H':Hp}(t:Tups H H'){m:Nat}{ms:List Int}{i:Nat}{us:List V}(h:Fk H m ms i us):Fk H' m ms i us:=let ⟨fs,p,n,f⟩:=h;⟨fs,qJa t p,n,f⟩
theorem Fk.up {H:Hp}{m:Nat}{ms:List Int}{i:Nat}{us:List V}(h:Fk H m ms i us):Fk H m ms (i+1) us:=let ⟨fs,p,n,f⟩:=h;⟨fs,p,n,fun g hg=>let ⟨a,j,hj,e⟩:=f g hg;⟨a,j,Nat.lt_succ_of_lt hj,e⟩⟩
theorem Fk.e {H:Hp}{m:Nat}{ms:List Int}{i:Nat}{us:List V}(h:Fk H m ms i us):FkE H m us:=let ⟨fs,p,n,f⟩:=h;⟨fs,p,n,fun g hg=>(f g hg).1⟩
theorem qTk {ms:List Int}(nd:ms.Nodup){i j:Nat}(hi:i<ms.length)(hj:j<ms.length)(e:ms.getD i 0=ms.getD j 0):i=j:=by
 refine(List.getElem?_inj hi nd).mp ?_
 rw[List.getD_eq_getElem?_getD,List.getD_eq_getElem?_getD,yYA hi,yYA hj] at e
 rw[yYA hi,yYA hj]
 exact congrArg some e
theorem qMo {ms:List Int}(so:ms.Pairwise (·≤·)){j:Nat}(hj:j<ms.length):ms.getD j 0≤ms.getD (ms.length - 1) 0:=by
 rw[List.getD_eq_getElem?_getD,List.getD_eq_getElem?_getD,yYA hj,yYA (by omega)]
 by_cases e:j=ms.length - 1
 ·subst e;exact Int.le_refl _
 ·exact List.pairwise_iff_getElem.mp so j (ms.length - 1) hj (by omega) (by omega)
theorem Fk.snoc {H:Hp}{m:Nat}{ms:List Int}{i:Nat}{us:List V}{u:V}{z:Int}(h:Fk H m ms i us)(nd:ms.Nodup)(hi:i<ms.length)(hz:0≤z∧z<(m:Int))(hu:PairI H (ms.getD i 0,z) u):Fk H m ms (i+1) (us++[u]):=by
 obtain⟨fs,p,n,f⟩:=h
 refine⟨fs++[(ms.getD i 0,z)],Paired.snoc p hu,?_,fun g hg=>?_⟩
 ·rw[yYV]
  refine yYU.mpr ⟨n,by simp,fun a ha b hb=>?_⟩
  obtain⟨g,hg,rfl⟩:=yYP.mp ha
  obtain⟨_,j,hj,e⟩:=f g hg
  rw[yYL.mp hb]
  intro q
  have:=qTk nd (i:=j) (j:=i) (by omega) hi (by rw[← e];exact q)
  omega
 ·rcases yYR.mp hg with h | h
  ·obtain⟨a,j,hj,e⟩:=f g h;exact⟨a,j,Nat.lt_succ_of_lt hj,e⟩
  ·rw[yYL.mp h];exact⟨hz,i,Nat.lt_succ_self i,rfl⟩
theorem qEf {α:Type}{F:α→V→Prop}{l:List α}{us:List V}(p:Paired F l us):Paired F l.reverse us.reverse:=by
 induction p with
 | nil=>exact .nil
 | cons h _ ih=>rw[List.reverse_cons,List.reverse_cons];exact Paired.snoc ih h
theorem Fk.first {H:Hp}{m:Nat}{ms:List Int}{i:Nat}{us:List V}{u:V}{z:Int}(h:Fk H m ms i us)(so:ms.Pairwise (·≤·))(hi:i≤ms.length)(hz:0≤z∧z<(m:Int))(hu:PairI H (ms.getD (ms.length - 1) 0+1,z) u):FkE H m ([u]++us.reverse):=by
 obtain⟨fs,p,n,f⟩:=h
 refine⟨(ms.getD (ms.length - 1) 0+1,z)::fs.reverse,.cons hu (qEf p),?_,fun g hg=>?_⟩
 ·rw[List.map_cons,List.map_reverse]
  refine List.nodup_cons.mpr ⟨fun q=>?_,(List.reverse_perm _).nodup_iff.mpr n⟩
  obtain⟨g,hg,e⟩:=yYP.mp (List.mem_reverse.mp q)
  obtain⟨_,j,hj,e2⟩:=f g hg
  have:=qMo so (j:=j) (by omega)
  have e:g.1=ms.getD (ms.length - 1) 0+1:=e
  omega
 ·rcases yYK.mp hg with h | h
  ·rw[h];exact hz
  ·exact(f g (List.mem_reverse.mp h)).1
def spNode:Sp:=fun vs H Q _=>∃(p:Addr) (s:S3) (H0:Hp) (wv:V) (W:Wd) (m k:Nat),vs=[.ref p,wv,.int m,.int k]∧Same H0 H∧H0 p=none∧St3 H p s∧s.n≤100∧WAtV H0 W wv∧WOkG W∧1≤m∧m≤10∧k<m∧
 ∀(n:Nd) (u:V) (H':Hp),Same H0 H'→NodeOk W m n→NdAt H' n u→Q u H'
theorem qHf {acc:List (List Int)}{n:Nat}(h:acc≠[])(hn:1≤n):rowsBy acc n≠[]:=fun z=>by
 have l:=yO n acc
 rw[z] at l
 have p:0<acc.length * n:=Nat.mul_pos (List.length_pos_iff.mpr h) hn
 have l:0=acc.length * n:=l
 omega
theorem qNj:∀(bs:List (Str×Int)) (acc:List (List Int)),acc≠[]→(∀b∈bs,2≤b.2∧b.2≤5)→(bs.map fun b=>b.2.toNat).foldl rowsBy acc≠[]
 | [],acc,h,_=>h
 | b::bs,acc,h,hb=>qNj bs (rowsBy acc b.2.toNat) (qHf h (by have:=(hb b yYG).1;omega)) fun c hc=>hb c (yYH _ hc)
theorem qBg {bs:List (Str×Int)}(h:∀b∈bs,2≤b.2∧b.2≤5):allV bs≠[]:=qNj bs [[]] (by simp) h
theorem qDb {H:Hp}{dx:Addr}{du:List V}{ds:List Deed}{i:Int}(_:H dx=some (.lst du))(pd:Paired (DeedIn H) ds du)(h0:0≤i)(h1:i<du.length):∃(dd:Deed) (da:Addr) (ys:List V),dd∈ds∧atI du i=some (.ref da)∧H da=some (.tup (.str dd.name::ys)):=by
 have l:=pd.length
 have hk:i.toNat<du.length:=by omega
 obtain⟨a,nv,wa,us,e1,e2,_⟩:=xK pd (yYA (by omega:i.toNat<ds.length)) (yYA hk)
 refine⟨_,a,_,List.getElem_mem _,?_,e2⟩
 have z:atI du ((i.toNat:Nat):Int)=some (.ref a):=zQ (by rw[yYA hk,e1])
 rwa [show((i.toNat:Nat):Int)=i by omega] at z
theorem look_at {H:Hp}{lx:Addr}{lu:List V}{ls:List Look}{i:Int}(_:H lx=some (.lst lu))(pl:Paired (LookIn H) ls lu)(h0:0≤i)(h1:i<lu.length):∃(l:Look) (a:Addr) (ys:List V),l∈ls∧atI lu i=some (.ref a)∧H a=some (.tup (.str l.name::ys)):=by
 have l:=pl.length
 have hk:i.toNat<lu.length:=by omega
 obtain⟨a,v,e1,e2,_⟩:=xK pl (yYA (by omega:i.toNat<ls.length)) (yYA hk)
 refine⟨_,a,_,List.getElem_mem _,?_,e2⟩
 have z:atI lu ((i.toNat:Nat):Int)=some (.ref a):=zQ (by rw[yYA hk,e1])
 rwa [show((i.toNat:Nat):Int)=i by omega] at z
theorem qKw {zs:List Int}{i:Nat}(h:i<zs.length):atI (intsV zs) (i:Int)=some (.int (zs.getD i 0)):=zQ (by
 show(zs.map V.int)[i]? = _
 rw[yYO,List.getD_eq_getElem?_getD,yYA h];rfl)
theorem xJa (F:Fd K mg "_law_node" (top 44) ["state","world","many","k"])(B:Bl mg)(B_set:mg "set" = none)(B_sorted:mg "sorted" = none)(D_law_take:Dn P w K mg base "_law_take" 2 ["state","many"] spTake)(D_law_standings:Dn P w K mg base "_law_standings" 1 ["boxes"] qQa)
  (D_law_shown:Dn P w K mg base "_law_shown" 10 ["world","name","standing"] qCv):Dn P w K mg base "_law_node" 11 ["state","world","many","k"] spNode:=by
 refine F.ok zH (fun vs H Q E h=>?_) (fun f cdv A outer s' H vs Q E hr h=>?_)
 ·obtain⟨_,_,_,_,_,_,_,rfl,_⟩:=h
  rfl
 obtain⟨p,s,H0,wv,W,m,k,rfl,S0,np,es,hs,hW,ok,m1,m10,km,q⟩:=h
 obtain⟨wp,bx,dx,lx,bv,gv,rfl,ewp,L⟩:=id hW
 obtain⟨bu,ebx,pb⟩:=L.boxes
 obtain⟨du,edx,pd⟩:=L.deeds
 obtain⟨lu,elx,pl⟩:=L.looks
 have ld:=pd.length
 have ll:=pl.length
 have d4:=ok.d4
 have l3:=ok.l3
 have b3:=ok.b3
 have d1:1≤du.length:=by
  rw[← ld]
  exact List.length_pos_iff.mpr ok.d1
 have fin:∀H1,Same H0 H1→∀t,H1 t=none→Q (.ref t) (upd H1 t (.tup [.str "end"])):=fun H1 S1 t ht=>q .fin _ _ (S1.trans (qV ht _)) ⟨trivial,(fun t h=>nomatch h),trivial,trivial⟩ ⟨t,rfl,qW⟩
 refine⟨_,(qZ (qM (i:=4) zH.nd rfl (by wtm_at "zo") (qD D_law_take hr (qQ (pv 0) (qQ qE qX))))
  (qZ (xU (PW.pt (qYh (qR zA (pv 4) qE (xD _)) (qYh (qR zA (pv 2) qE (xD _)) (qXv (qR zA (pv 3) (xQ yP (pv 2) qE) (xD _)))))) (qJ (qN (zV (qQ qF qX)))) qY)
  (qZ (vQ (i:=5) zH.nd rfl (by wtm_at "zo") rfl qQq (zK rfl B.range' (qQ qE qX)) (fun cl fp s H=>(qG (i:=0) qQq.nd rfl (Or.inl rfl) (.inr rfl))) (fun cl fp s H=>zO) (fun cl fp s H=>(xQ zC (xQ zC (pv 1) qE) (qD D_law_take hr (qQ (pv 2) (qQ (xQ yP (xQ yP (pv 3) (pv 1)) qE) qX))))))
  (qK (xU (qR zA (qD D_law_take hr (qQ (pv 0) (qQ qE qX))) qE (xD _)) (qJ (vQ (i:=5) zH.nd rfl (by wtm_at "zo") rfl wU (zK rfl B.range' (qQ qE qX)) (fun cl fp s H=>(qG (i:=0) wU.nd rfl (Or.inl rfl) (.inr rfl))) (fun cl fp s H=>zO) (fun cl fp s H=>(qD D_law_take hr (qQ (pv 1) (qQ (pv 2) qX)))))) qY)
  (qZ (xU (PW.pt (qYh (qR qKz (pv 4) qE (xD _)) (qXv (qR (qIn (K:=K) hr.units) (xE (qS (K:=K)) (pv 1) qE (fun _ _=>rfl)) (zE qX) (xD _))))) (qJ (qN (zV (qQ qF (qQ (xE (qS (K:=K)) (xE (qT (K:=K)) (xE (qS (K:=K)) (pv 1) qE (fun _ _=>rfl)) (qD D_law_take hr (qQ (pv 0) (qQ (xZ (xP (K:=K)) rfl B.len' zS (qQ (xE (qS (K:=K)) (pv 1) qE (fun _ _=>rfl)) qX)) qX))) (fun _ _=>rfl)) qE (fun _ _=>rfl)) (qQ (xE (qT (K:=K)) (pv 5) qE (fun _ _=>rfl)) qX)))))) qY)
  (qZ (qM (i:=6) zH.nd rfl (by wtm_at "zo") (xE (qS (K:=K)) (xE (qT (K:=K)) (xE (qS (K:=K)) (pv 1) qE (fun _ _=>rfl)) (qD D_law_take hr (qQ (pv 0) (qQ (xZ (xP (K:=K)) rfl B.len' zS (qQ (xE (qS (K:=K)) (pv 1) qE (fun _ _=>rfl)) qX)) qX))) (fun _ _=>rfl)) qE (fun _ _=>rfl)))
  (qZ (qM (i:=7) zH.nd rfl (by wtm_at "zo") (xZ (qFw (P:=P) (w:=w) rfl) rfl B_sorted qOn (qQ (xX (qOi (P:=P) (w:=w) (K:=K) rfl) rfl B_set xVh (qQ (zF rfl wT (qU (K:=K) (qD D_law_standings hr (qQ (xE (qS (K:=K)) (pv 1) qE (fun _ _=>rfl)) qX))) (fun cl fp s H=>(qG (i:=0) wT.nd rfl (Or.inl rfl) (.inr rfl))) (fun cl fp s H=>zO) (fun cl fp s H=>(qD D_law_shown hr (qQ (pv 1) (qQ (pv 2) (qQ (pv 0) qX)))))) qX)) qX)))
  (qZ (qM (i:=8) zH.nd rfl (by wtm_at "zo") (zE qX))
  (qZ (jK PassesOwn.never rfl (zK rfl B.range' (qQ (xZ (xP (K:=K)) rfl B.len' zS (qQ (pv 7) qX)) qX)) (qG (i:=9) zH.nd rfl (by wtm_at "zo")) (qJ (xU (qR xZj (qD D_law_take hr (qQ (pv 0) (qQ qE qX))) qE (xD _)) (qJ (qP (kS (K:=K) PySem.F.plainAttrs_list PySem.F.slot_list_append PySem.F.type_list_append zP (pv 8) (qQ (zV (qQ (xE (qT (K:=K)) (pv 7) (pv 9) (fun _ _=>rfl)) (qQ (xE (qT (K:=K)) (pv 5) (xQ yE (pv 9) qE) (fun _ _=>rfl)) qX))) qX)))) qY)))
  (qK (xU (qR zA (qD D_law_take hr (qQ (pv 0) (qQ qE qX))) qE (xD _)) (qJ (qM (i:=8) zH.nd rfl (by wtm_at "zo") (xQ qIo (zE (qQ (zV (qQ (xQ zC (xE (qT (K:=K)) (pv 7) (xKw qUi qE) (fun _ _=>rfl)) qE) (qQ (xE (qT (K:=K)) (pv 5) qE (fun _ _=>rfl)) qX))) qX)) (qIb (K:=K) (pv 8) qYm qYm (xKw qUi qE))))) qY)
  (qJ (qN (zV (qQ qF (qQ (pv 6) (qQ (xX (vP (K:=K)) rfl B.tuple' qKe (qQ (pv 8) qX)) qX)))))))))))))))),?_⟩
 wtm_at "zw"
 refine⟨p,s,7,rfl,es,by decide,by decide +kernel,by omega,fun H1 B1 e1=>?_⟩
 have S1:=zD S0 np B1
 have n1:(takeS s 7).n≤101:=by show s.n+1≤_;omega
 generalize takeV s 7=kind
 generalize takeS s 7=s1 at e1 n1
 wtm_at "zw"
 refine ite2 (fun c=>iteT ?_) (fun c=>?_)
 ·wtm_at "zw"
  exact⟨xF (show 1≤1000000 by decide),fin _ S1⟩
 wtm_at "zw"
 refine ite2 (fun c=>iteT ?_) (fun c=>?_)
 ·wtm_at "zw"
  exact⟨xF (show 1≤1000000 by decide),fin _ S1⟩
 wtm_at "zw"
 refine ite2 (fun c=>?_) (fun c=>?_)
 ·wtm_at "zw"
  exact⟨xF (show 1≤1000000 by decide),fin _ S1⟩
 have km2:(k:Int)≠(m:Int) - 1:=fun z=>c (decide_eq_true (by rw[z]))
 wtm_at "zf"
 refine⟨12,rfl,by decide,by decide,?_⟩
 refine qYx (Z:=fun z=>0≤z∧z<(m:Int)) (n:=12) (c:=101) (p:=p) (by decide) S1 np ⟨s1,e1,n1⟩ (fun i H' s2 R hi S' e' n' hR=>?_) fun D zs H2 nD S2 B2 eD lz bz st2=>?_
 ·wtm_at "zw"
  refine⟨p,s2,(m:Int) - k - 1,rfl,e',by omega,big _ (by omega) (Int.lt_of_le_of_lt (b:=100) (by omega) (by decide +kernel)),by omega,fun H'' B'' e''=>?_⟩
  have tb:=xG s2 (m:=(m:Int) - k - 1) (by omega)
  wtm_at "zw"
  exact hR _ _ _ ⟨by omega,by omega⟩ B'' e'' (yZC _)
 obtain⟨s2,e2,n2⟩:=st2
 have nDp:D≠p:=Ne.symm (qB (show H1 p=some _ from e1) nD)
 wtm_at "zw"
 refine⟨fun σ' H'=>∃(D:Addr) (zs:List Int) (s3:S3),σ'=[some (.ref p),some (.ref wp),some (.int m),some (.int k),some (.int kind),some (.ref D),none,none,none,none]∧Same H0 H'∧D≠p∧H' D=some (.lst (intsV zs))∧zs.length=12∧(∀z∈zs,0≤z∧z<(m:Int))∧St3 H' p s3∧s3.n≤200,?_,fun σ' H3 hP=>?_⟩
 ·wtm_at "zw"
  refine⟨p,s2,4,rfl,e2,by decide,by decide +kernel,by omega,fun H3 B3 e3=>?_⟩
  have S3':=zD S2 np B3
  wtm_at "zw"
  refine ite2 (fun c=>?_) (fun c=>?_)
  ·wtm_at "zf"
   refine⟨12,rfl,by decide,by decide,?_⟩
   refine qYx (Z:=fun z=>0≤z∧z<(m:Int)) (n:=12) (c:=150) (p:=p) (by decide) S3' np ⟨_,e3,by show s2.n+1≤_;omega⟩ (fun i H' s4 R hi S' e' n' hR=>?_) fun D' zs' H4 nD' S4 B4 eD' lz' bz' st4=>?_
   ·wtm_at "zw"
    refine⟨p,s4,m,rfl,e',by omega,big _ (by omega) (Int.lt_of_le_of_lt (b:=100) (by omega) (by decide +kernel)),by omega,fun H'' B'' e''=>?_⟩
    have tb:=xG s4 (m:=(m:Int)) (by omega)
    exact hR _ _ _ ⟨by omega,by omega⟩ B'' e'' (yZC _)
   obtain⟨s4,e4,n4⟩:=st4
   exact⟨D',zs',s4,rfl,S4,Ne.symm (qB (show H3 p=some _ from e3) nD'),eD',lz',bz',e4,by omega⟩
  ·exact⟨D,zs,_,rfl,S3',nDp,B3 _ _ nDp eD,lz,bz,e3,by show s2.n+1≤_;omega⟩
 clear nDp eD lz bz e2 n2 B2 S2 nD e1 n1 B1 S1 es hs
 obtain⟨D,zs,s3,rfl,S3',nDp,eD,lz,bz,e3,n3⟩:=hP
 have hz:∀i,i<12→0≤zs.getD i 0∧zs.getD i 0<(m:Int):=fun i hi=>by
  have e:zs[i]? = some (zs.getD i 0):=by rw[List.getD_eq_getElem?_getD,yYA (by omega)];rfl
  exact bz _ (yYE e)
 have z0:atI (intsV zs) 0=some (.int (zs.getD 0 0)):=qKw (i:=0) (by omega)
 have ewp3:=S3' _ _ ewp
 have edx3:=S3' _ _ edx
 have elx3:=S3' _ _ elx
 wtm_at "zw"
 refine ite2 (fun c=>iteT ?_) (fun c=>?_)
 ·have t5:=xG s3 (m:=du.length) (by omega)
  wtm_at "zw"
  refine⟨p,s3,du.length,rfl,e3,by omega,big _ (by omega) (Int.lt_of_le_of_lt (b:=10) (by omega) (by decide +kernel)),by omega,fun H6 B6 e6=>?_⟩
  have S6:=zD S3' np B6
  obtain⟨dd,da,ys,hd,hda,eda⟩:=qDb (S6 _ _ edx) (Paired.mapP pd fun _ _ y=>y.same S6) t5.1 t5.2
  have eD6:=B6 _ _ nDp eD
  refine⟨dx,_,_,.ref da,rfl,rfl,SqL.of (S6 _ _ edx),hda,?_⟩
  wtm_at "zw"
  refine⟨xF (show 3≤1000000 by decide),fun t ht=>q (.act dd.name (zs.getD 0 0)) _ _ (S6.trans (qV ht _)) ⟨trivial,fun t h=>by rw[yYL.mp h];exact hz 0 (by decide),trivial,⟨dd,hd,rfl⟩⟩ ⟨t,rfl,qW⟩⟩

 wtm_at "zw"
 refine⟨xF (show 0≤1000000 by decide),fun e0 he0=>?_⟩
 have S4:=qV he0 (.lst [])
 have ee0:upd H3 e0 (.lst []) e0=some (.lst []):=qW
 generalize upd H3 e0 (.lst [])=H4 at S4 ee0
 refine⟨lx,e0,lu,rfl,rfl,SqL.of (S4 _ _ elx3),SqL.of ee0,?_⟩
 have S4':=S3'.trans S4
 have e4:St3 H4 p s3:=S4 _ _ e3
 have eD4:=S4 _ _ eD
 have ewp4:=S4 _ _ ewp3
 have edx4:=S4 _ _ edx3
 have elx4:=S4 _ _ elx3
 cases hlu:lu.isEmpty with
 | true=>
  refine⟨true,rfl,iteT ?_⟩
  have t5:=xG s3 (m:=du.length) (by omega)
  wtm_at "zw"
  refine⟨p,s3,du.length,rfl,e4,by omega,big _ (by omega) (Int.lt_of_le_of_lt (b:=10) (by omega) (by decide +kernel)),by omega,fun H6 B6 e6=>?_⟩
  have S6:=zD S4' np B6
  obtain⟨dd,da,ys,hd,hda,eda⟩:=qDb (S6 _ _ edx) (Paired.mapP pd fun _ _ y=>y.same S6) t5.1 t5.2
  have eD6:=B6 _ _ nDp eD4
  refine⟨dx,_,_,.ref da,rfl,rfl,SqL.of (S6 _ _ edx),hda,?_⟩
  wtm_at "zw"
  refine⟨xF (show 3≤1000000 by decide),fun t ht=>q (.act dd.name (zs.getD 0 0)) _ _ (S6.trans (qV ht _)) ⟨trivial,fun t h=>by rw[yYL.mp h];exact hz 0 (by decide),trivial,⟨dd,hd,rfl⟩⟩ ⟨t,rfl,qW⟩⟩
 | false=>
 have l1:1≤lu.length:=by
  cases lu with
  | nil=>cases hlu
  | cons _ _=>exact Nat.succ_le_succ (yZF _)
 refine⟨false,rfl,iteF ?_⟩
 have t5:=xG s3 (m:=lu.length) (by omega)
 wtm_at "zw"
 refine⟨p,s3,lu.length,rfl,e4,by omega,big _ (by omega) (Int.lt_of_le_of_lt (b:=10) (by omega) (by decide +kernel)),by omega,fun H6 B6 e6=>?_⟩
 have S6:=zD S4' np B6
 obtain⟨dd,da,yl,hd,hda,eda⟩:=look_at (S6 _ _ elx) (Paired.mapP pl fun _ _ y=>y.tups (qC S6)) t5.1 t5.2
 have eD6:=B6 _ _ nDp eD4
 have n6:(takeS s3 lu.length).n≤201:=by show s3.n+1≤_;omega
 generalize takeS s3 lu.length=s6 at e6 n6
 generalize takeV s3 lu.length=i6 at hda t5
 refine⟨lx,_,_,.ref da,rfl,rfl,SqL.of (S6 _ _ elx),hda,?_⟩
 have ewp6:=S6 _ _ ewp
 wtm_at "zf"
 refine⟨bx,W.bs,bu,rfl,S6 _ _ ebx,xY (qC S6) pb,by omega,ok.b25,fun r ss H7 nr S7 er pr=>?_⟩
 have al:=ok.b40
 have a0:(allV W.bs)≠[]:=qBg ok.b25
 have a1:1≤(allV W.bs).length:=List.length_pos_iff.mpr a0
 refine⟨r,rfl,⟨ss,SqL.of er⟩,qMx er pr (by omega) (fun ra row H' R hm hra S' hR=>?_) fun D2 ws H8 nD2 S8 eD2 lws=>?_⟩
 ·wtm_at "zw"
  exact⟨W,.ref wp,dd.name,ra,row,rfl,hW.same (S6.trans (S7.trans S')),ok,⟨dd,hd,rfl⟩,hra,(qKh hm).1,hR⟩
 wtm_at "zw"
 refine⟨D2,ws,rfl,SqL.of eD2,by omega,fun st hst=>?_⟩
 have S9:=qV hst (SetI P w st (SI.uniq ws))
 have est:upd H8 st (SetI P w st (SI.uniq ws)) st=some _:=qW
 generalize upd H8 st (SetI P w st (SI.uniq ws))=H9 at S9 est
 have ul:=SI.uniq_le ws
 wtm_at "zw"
 refine⟨st,_,rfl,est,SI.uniq_nd ws,by omega,fun wo ms hwo pm so=>?_⟩
 have msn:ms.Nodup:=pm.nodup_iff.mpr (SI.uniq_nd ws)
 have lms:ms.length≤125:=by rw[pm.length_eq];omega
 have ms1:1≤ms.length:=by
  rw[pm.length_eq]
  cases hw:ws with
  | nil=>rw[hw] at lws;simp at lws;omega
  | cons x xs=>
   refine List.length_pos_of_mem (a:=x) ?_
   rw[← hw]
   exact(SI.uniq_mem ws x).mpr (by rw[hw];exact yYG)
 have S10:=qV hwo (.lst (ms.map V.int))
 have ewo:upd H9 wo (.lst (ms.map V.int)) wo=some (.lst (intsV ms)):=qW
 generalize upd H9 wo (.lst (ms.map V.int))=H10 at S10 ewo
 have S610:=S7.trans (S8.trans (S9.trans S10))
 have e10:St3 H10 p s6:=S610 _ _ e6
 have eD10:=S610 _ _ eD6
 have S010:=S6.trans S610
 have nwp:wo≠p:=Ne.symm (qB (S9 _ _ (S8 _ _ (S7 _ _ (show H6 p=some _ from e6)))) hwo)
 clear pm est eD2 er pr lws ul hst hwo nD2 nr a0 a1 al S7 S8 S9 S10
 wtm_at "zw"
 refine⟨xF (show 0≤1000000 by decide),fun fo hfo=>?_⟩
 have S11:=qV hfo (.lst [])
 have efo:upd H10 fo (.lst []) fo=some (.lst []):=qW
 have nfp:fo≠p:=Ne.symm (qB (show H10 p=some _ from e10) hfo)
 have nfw:wo≠fo:=qB ewo hfo
 have nfD:D≠fo:=qB eD10 hfo
 have f0:H0 fo=none:=S010.free hfo
 generalize upd H10 fo (.lst [])=H11 at S11 efo
 have e11:St3 H11 p s6:=S11 _ _ e10
 have ewo11:=S11 _ _ ewo
 have eD11:=S11 _ _ eD10
 have S011:=S010.trans S11
 have fr0:∀d∈[p,fo],H0 d=none:=fun d hd=>by
  simp at hd
  rcases hd with rfl | rfl
  ·exact np
  ·exact f0
 have lmi:(intsV ms).length=ms.length:=yYC _
 wtm_at "zf"
 refine⟨(intsV ms).length,rfl,by omega,by omega,?_⟩
 refine zU (fun i σ' H'=>∃(z9:Option V) (fu:List V) (s7:S3),σ'=[some (.ref p),some (.ref wp),some (.int m),some (.int k),some (.int kind),some (.ref D),some (.str dd.name),some (.ref wo),some (.ref fo),z9]∧Keep [p,fo] H11 H'∧St3 H' p s7∧s7.n≤201+i∧H' fo=some (.lst fu)∧fu.length≤i∧Fk H' m ms i fu)
  ⟨none,[],s6,rfl,.refl,e11,n6,efo,yZC _,[],.nil,List.nodup_nil,fun f h=>nomatch h⟩ ?_ ?_
 ·rintro N rt bk i σ' H12 hi ⟨z9,fu,s7,rfl,k12,e12,n12,efo12,lf12,ff12⟩ hN
  have i125:i<125:=by omega
  wtm_at "zw"
  refine⟨p,s7,9,rfl,e12,by decide,by decide +kernel,by omega,fun H13 B13 e13=>?_⟩
  have k13:=k12.trans (.but1 B13 (by simp))
  have efo13:=B13 _ _ nfp efo12
  have ff13:=ff12.tups (zY B13 e12)
  have ewo13:=k13 wo _ (by simp[nwp,nfw]) ewo11
  have eD13:=k13 D _ (by simp[nDp,nfD]) eD11
  have n13:(takeS s7 9).n≤201+(i+1):=by show s7.n+1≤_;omega
  wtm_at "zw"
  refine ite2 (fun c=>?_) (fun c=>?_)
  ·wtm_at "zw"
   refine⟨.inl ⟨rfl,_,SqL.of efo13⟩,?_⟩
   have hwi:atI (intsV ms) (0+(i:Int))=some (.int (ms.getD i 0)):=by rw[Int.zero_add];exact qKw (by omega)
   have hj:((0+(i:Int)) % 12)=((i % 12:Nat):Int):=by omega
   have hDi:atI (intsV zs) ((0+(i:Int)) % 12)=some (.int (zs.getD (i % 12) 0)):=by rw[hj];exact qKw (by omega)
   wtm_at "zw"
   refine w_I (show(0:Int)<12 by decide) ?_
   wtm_at "zw"
   refine⟨xF (show 2≤1000000 by decide),fun t ht=>?_⟩
   have S14:=qV ht (.tup [V.int (ms.getD i 0),.int (zs.getD (i % 12) 0)])
   have et:upd H13 t (.tup [V.int (ms.getD i 0),.int (zs.getD (i % 12) 0)]) t=some _:=qW
   generalize upd H13 t (.tup [V.int (ms.getD i 0),.int (zs.getD (i % 12) 0)])=H14 at S14 et
   have efo14:=S14 _ _ efo13
   refine⟨fo,fu,.ref t,rfl,rfl,efo14,small (by omega),?_⟩
   have T15:Tups H14 (upd H14 fo (.lst (fu++[.ref t]))):=jO efo14
   refine hN _ _ ⟨_,fu++[.ref t],_,rfl,(k13.trans (.of S14)).trans (.upd (by simp)),?_,n13,qW,by rw[yYI];show _+1≤_;omega,((ff13.tups (qC S14)).tups T15).snoc msn (by omega) (hz _ (Nat.mod_lt _ (by decide))) ⟨t,rfl,T15 _ _ et⟩⟩
   show upd _ _ _ _=_
   rw[qA (Ne.symm nfp)];exact S14 _ _ e13
  ·exact hN _ _ ⟨_,fu,_,rfl,k13,e13,n13,efo13,by omega,ff13.up⟩
 rintro σ' H12 ⟨z9,fu,s7,rfl,k12,e12,n12,efo12,lf12,ff12⟩
 have lf125:fu.length≤125:=by omega
 wtm_at "zw"
 refine⟨fun σ' H'=>∃(fo':Addr) (fu:List V),σ'=[some (.ref p),some (.ref wp),some (.int m),some (.int k),some (.int kind),some (.ref D),some (.str dd.name),some (.ref wo),some (.ref fo'),z9]∧Keep [p,fo] H11 H'∧H' fo'=some (.lst fu)∧fu.length≤500∧FkE H' m fu,?_,fun σ' H13 hP=>?_⟩
 ·wtm_at "zw"
  refine⟨p,s7,5,rfl,e12,by decide,by decide +kernel,by omega,fun H13 B13 e13=>?_⟩
  have k13:=k12.trans (.but1 B13 (by simp))
  have efo13:=B13 _ _ nfp efo12
  have ff13:=ff12.tups (zY B13 e12)
  have ewo13:=k13 wo _ (by simp[nwp,nfw]) ewo11
  have eD13:=k13 D _ (by simp[nDp,nfD]) eD11
  wtm_at "zw"
  refine ite2 (fun c=>?_) (fun c=>?_)
  ·have hl:atI (intsV ms) (-1)=some (.int (ms.getD (ms.length - 1) 0)):=by
    unfold atI ixN
    rw[if_neg (by decide),if_pos (by rw[lmi];omega),show(-1+((intsV ms).length:Int)).toNat=ms.length - 1 by rw[lmi];omega]
    show(ms.map V.int)[ms.length - 1]? = _
    rw[yYO,List.getD_eq_getElem?_getD,yYA (by omega)];rfl
   have h11:atI (intsV zs) 11=some (.int (zs.getD 11 0)):=qKw (i:=11) (by omega)
   wtm_at "zw"
   refine⟨xF (show 2≤1000000 by decide),fun t ht=>?_⟩
   have S14:=qV ht (.tup [V.int (ms.getD (ms.length - 1) 0+1),.int (zs.getD 11 0)])
   have et:upd H13 t (.tup [V.int (ms.getD (ms.length - 1) 0+1),.int (zs.getD 11 0)]) t=some _:=qW
   generalize upd H13 t (.tup [V.int (ms.getD (ms.length - 1) 0+1),.int (zs.getD 11 0)])=H14 at S14 et
   wtm_at "zw"
   refine⟨xF (show 1≤1000000 by decide),fun l5 hl5=>?_⟩
   have S15:=qV hl5 (.lst [V.ref t])
   have el5:upd H14 l5 (.lst [V.ref t]) l5=some _:=qW
   generalize upd H14 l5 (.lst [V.ref t])=H15 at S15 el5
   have efo15:=S15 _ _ (S14 _ _ efo13)
   wtm_at "zw"
   refine⟨_,rfl,1,rfl,fo,fu,rfl,rfl,rfl,rfl,SqL.of efo15,fun l6 hl6=>?_⟩
   have S16:=qV hl6 (.lst fu.reverse)
   have el6:upd H15 l6 (.lst fu.reverse) l6=some _:=qW
   generalize upd H15 l6 (.lst fu.reverse)=H16 at S16 el6
   refine⟨l5,l6,_,_,rfl,rfl,S16 _ _ el5,el6,smallE (by rw[List.length_reverse];show 1+fu.length≤_;omega),fun l7 hl7=>?_⟩
   have S17:=qV hl7 (.lst ([V.ref t]++fu.reverse))
   have S1317:=S14.trans (S15.trans (S16.trans S17))
   exact⟨l7,[V.ref t]++fu.reverse,rfl,k13.trans (.of S1317),qW,by rw[yYI,List.length_reverse];show 1+_≤_;omega,(ff13.tups (qC S1317)).first so (by omega) (hz 11 (by decide)) ⟨t,rfl,S17 _ _ (S16 _ _ (S15 _ _ et))⟩⟩
  ·exact⟨fo,fu,rfl,k13,efo13,by omega,ff13.e⟩
 obtain⟨fo',fu',rfl,k13,efo13,lf13,ff13⟩:=hP
 have S013:=k13.same S011 fr0
 wtm_at "zw"
 refine⟨fo',fu',rfl,SqL.of efo13,fun t1 ht1=>?_⟩
 have S14:=qV ht1 (.tup fu')
 have et1:upd H13 t1 (.tup fu') t1=some _:=qW
 generalize upd H13 t1 (.tup fu')=H14 at S14 et1
 wtm_at "zw"
 refine⟨xF (show 3≤1000000 by decide),fun t2 ht2=>?_⟩
 have S15:=qV ht2 (.tup [V.str "look",.str dd.name,.ref t1])
 obtain⟨fs,pf0,nf,fb⟩:=ff13
 have pf:=qJa (qC (S14.trans S15)) pf0
 have lfs:=pf.length
 exact q (.see dd.name fs) _ _ (S013.trans (S14.trans S15)) ⟨(show fs.length≤1000 by omega),fun t h=>by obtain⟨g,hg,e⟩:=yYP.mp h;rw[← e];exact fb g hg,nf,⟨dd,hd,rfl⟩⟩ ⟨t2,t1,fu',rfl,qW,S15 _ _ et1,pf⟩

theorem qXq:xH ["script","world","first","many"] ["script","world","first"] (xA (top 45)):=⟨rfl,rfl,rfl,by decide +kernel,rfl,by decide +kernel,by decide +kernel⟩
theorem wS:CompOk (xA (top 45)) ["script","world","first","many"] (scAt (xB (top 45)) [1] []) ["k","world","many","script","first"] 1 [1,3,0,2]:=
 ⟨by decide +kernel,by decide +kernel,by decide +kernel,by decide +kernel,by decide +kernel,by decide +kernel,by decide +kernel,by decide +kernel⟩
def qGm (K:yZO):Sp:=fun vs H Q _=>∃(a:Addr) (ns:List Int) (wv:V) (W:Wd) (f:Nat),vs=[.ref a,wv,.int f]∧SqL K H a (intsV ns)∧WAtV H W wv∧WOkG W∧
 ∀(r:Addr) (us:List V) (nds:List Nd) (H':Hp),H r=none→Same H H'→H' r=some (.lst us)→Paired (NdAt H') nds us→(∀n∈nds,NodeOk W nds.length n)→1≤nds.length→nds.length≤10→Q (.ref r) H'
theorem NdAt.tups {H H':Hp}{n:Nd}{u:V}(h:NdAt H n u)(t:Tups H H'):NdAt H' n u:=by
 cases n with
 | fin=>obtain⟨a,e,h⟩:=h;exact⟨a,e,t _ _ h⟩
 | act x to=>obtain⟨a,e,h⟩:=h;exact⟨a,e,t _ _ h⟩
 | see x fs=>obtain⟨a,p,us,e,h,h2,h3⟩:=h;exact⟨a,p,us,e,t _ _ h,t _ _ h2,Paired.mapP h3 fun _ _ z=>let ⟨b,e1,e2⟩:=z;⟨b,e1,t _ _ e2⟩⟩
theorem qTm (F:Fd K mg "_law_plan" (top 45) ["script","world","first"])(B:Bl mg)(D_law_cell:Dn P w K mg base "_law_cell" 1 ["script","k"] (spCell K))(D_law_state:Dn P w K mg base "_law_state" 1 ["cell"] qQl)(D_law_take:Dn P w K mg base "_law_take" 2 ["state","many"] spTake)
  (D_law_node:Dn P w K mg base "_law_node" 11 ["state","world","many","k"] spNode):Dn P w K mg base "_law_plan" 12 ["script","world","first"] (qGm K):=by
 refine F.ok qXq (fun vs H Q E h=>?_) (fun f cdv A outer s H vs Q E hr h=>?_)
 ·obtain⟨_,_,_,_,_,rfl,_⟩:=h
  rfl
 obtain⟨a,ns,wv,W,f,rfl,hS,hW,ok,q⟩:=h
 refine⟨_,(qZ (qM (i:=3) qXq.nd rfl (by wtm_at "zo") (xQ zC qE (qD D_law_take hr (qQ (qD D_law_state hr (qQ (qD D_law_cell hr (qQ (pv 0) (qQ (pv 2) qX))) qX)) (qQ qE qX)))))
  (qJ (qN (zF rfl wS (zK rfl B.range' (qQ (pv 3) qX)) (fun cl fp s H=>(qG (i:=0) wS.nd rfl (Or.inl rfl) (.inr rfl))) (fun cl fp s H=>zO) (fun cl fp s H=>(qD D_law_node hr (qQ (qD D_law_state hr (qQ (qD D_law_cell hr (qQ (pv 3) (qQ (xQ zC (xQ zC (pv 4) qE) (pv 0)) qX))) qX)) (qQ (pv 1) (qQ (pv 2) (qQ (pv 0) qX)))))))))),?_⟩
 wtm_at "zw"
 refine⟨a,ns,f,rfl,hS,?_⟩
 wtm_at "zw"
 refine⟨cellM ns f,rfl,fun p H1 np S1 e1=>?_⟩
 wtm_at "zw"
 refine⟨p,_,10,rfl,e1,by decide,by decide +kernel,by show 0≤_;omega,fun H2 B2 e2=>?_⟩
 have tb:=xG (stateM (cellM ns f)) (m:=10) (by decide)
 have S2:=zD S1 np B2
 obtain⟨m,em⟩:∃m:Nat,1+takeV (stateM (cellM ns f)) 10=(m:Int):=⟨(1+takeV (stateM (cellM ns f)) 10).toNat,by omega⟩
 wtm_at "zf"
 rw[em]
 refine⟨m,rfl,by omega,by omega,?_⟩
 rw[Int.toNat_natCast]
 refine kQ (fun D i ys H'=>∃nds:List Nd,Paired (NdAt H') nds ys∧nds.length=i∧(∀n∈nds,NodeOk W m n)∧Same H2 H') (fun D hD=>⟨[],.nil,rfl,(fun n h=>nomatch h),qV hD _⟩) (fun D i ys H' N hD hDy hi hP hN=>?_) (fun D ys H3 hD hDy hP=>?_)
 ·obtain⟨nds,pn,ln,fine,S3⟩:=hP
  have l1:=pn.length
  refine⟨⟨[some (.int (0+(i:Int)))],rfl,rfl⟩,?_⟩
  wtm_at "zw"
  refine⟨a,ns,f+1+i,by rw[show((f:Int)+1+(0+(i:Int)))=((f+1+i:Nat):Int) by omega];rfl,(S2.trans S3).seq hS,?_⟩
  wtm_at "zw"
  refine⟨cellM ns (f+1+i),rfl,fun p2 H4 np2 S4 e4=>?_⟩
  wtm_at "zw"
  refine⟨p2,_,H',wv,W,m,i,by rw[Int.zero_add];rfl,S4,np2,e4,by show 0≤_;omega,hW.same (S2.trans S3),ok,by omega,by omega,hi,fun n u H5 S5 fn hn=>?_⟩
  have eD:=S5 _ _ hDy
  have T6:Tups H5 (upd H5 D (.lst (ys++[u]))):=jO eD
  refine⟨eD,small (by omega),hN _ _ qW ⟨nds++[n],Paired.snoc (Paired.mapP pn fun _ _ y=>(y.same S5).tups T6) (hn.tups T6),by rw[yYI,ln];rfl,fun n' h=>?_,fun b o e=>?_⟩⟩
  ·rcases yYR.mp h with r | r
   ·exact fine n' r
   ·rw[yYL.mp r];exact fn
  ·rw[qA (qB e hD)];exact S5 _ _ (S3 _ _ e)
 ·obtain⟨nds,pn,ln,fine,S3⟩:=hP
  exact q D ys nds H3 (S2.free hD) (S2.trans S3) hDy pn (by rw[ln];exact fine) (by omega) (by omega)

section
variable {bs:List (Str×Int)}{vals:List Int}
theorem vR (nd:(bs.map (·.1)).Nodup)(hl:vals.length=bs.length):∀{t:Th},ExprT (bs.map (·.1)) t→worthM (bs.map (·.1)) vals t=t.worth (envOf (kvsOf bs vals)):=by
 intro t
 induction t with
 | num n=>intro _;rfl
 | box x=>
  intro hx
  have hx:x∈bs.map (·.1):=hx
  have hi:(bs.map (·.1)).idxOf x<(bs.map (·.1)).length:=List.idxOf_lt_length_of_mem hx
  have hb:(bs.map (·.1)).idxOf x<bs.length:=by rw[yYC] at hi;exact hi
  have ex:bs[(bs.map (·.1)).idxOf x].1=x:=by
   have:=List.getElem_idxOf hi
   rw[List.getElem_map] at this
   exact this
  have kv:=qMa nd hl (yYA hb) (qYb (vals:=vals) (i:=(bs.map (·.1)).idxOf x) (by omega))
  rw[ex] at kv
  show vals.getD ((bs.map (·.1)).idxOf x) 0=envOf (kvsOf bs vals) x
  unfold envOf
  rw[kv]
 | nul k=>intro h;exact h.elim
 | un k a _=>intro h;exact h.elim
 | bin k a b iha ihb=>
  intro h
  show worthM _ vals a+(if k = "less" then 0 - worthM _ vals b else worthM _ vals b)=if k = "plus" then a.worth _+b.worth _ else a.worth _ - b.worth _
  rw[iha h.2.1,ihb h.2.2]
  rcases h.1 with rfl | rfl
  ·rw[if_neg (fun z=>xKn z.symm),if_pos rfl]
  ·rw[if_pos rfl,if_neg xKn];omega
theorem qWx (nd:(bs.map (·.1)).Nodup)(hl:vals.length=bs.length):∀{t:Th},CondT (bs.map (·.1)) t→holdsM (bs.map (·.1)) vals t=t.truth (envOf (kvsOf bs vals)):=by
 intro t
 induction t with
 | num n=>intro h;exact h.elim
 | box x=>intro h;exact h.elim
 | nul k=>intro _;rfl
 | un k a ih=>intro h;show(!holdsM _ vals a)=!a.truth _;rw[ih h.2]
 | bin k a b iha ihb=>
  intro h
  show(if k = "both" then holdsM _ vals a && holdsM _ vals b else if k = "same" then decide (worthM _ vals a=worthM _ vals b) else decide (worthM _ vals a<worthM _ vals b))=if k = "both" then a.truth _ && b.truth _ else if k = "same" then decide (a.worth _=b.worth _) else decide (a.worth _<b.worth _)
  rcases h with h | h
  ·rw[if_pos h.1,if_pos h.1,iha h.2.1,ihb h.2.2]
  ·have nb:k ≠ "both" := by rcases h.1 with rfl | rfl;exact xKm;exact xKl
   rw[if_neg nb,if_neg nb,vR nd hl h.2.1,vR nd hl h.2.2]
theorem qDa {ws:List Str}:∀{t:Th},Expr' ws t→ExprT ws t:=by
 intro t
 induction t with
 | num n=>intro _;trivial
 | box x=>intro h;exact h
 | nul k=>intro h;exact h.elim
 | un k a _=>intro h;exact h.elim
 | bin k a b iha ihb=>intro h;exact⟨h.1,iha h.2.1,ihb h.2.2⟩
theorem qOd {ws:List Str}:∀{t:Th},Cond' ws t→CondT ws t:=by
 intro t
 induction t with
 | num n=>intro h;exact h.elim
 | box x=>intro h;exact h.elim
 | nul k=>intro h;exact h
 | un k a ih=>intro h;exact⟨h.1,ih h.2⟩
 | bin k a b iha ihb=>
  intro h
  rcases h with h | h
  ·exact .inr ⟨h.1,qDa h.2.1,qDa h.2.2⟩
  ·exact .inl ⟨h.1,iha h.2.1,ihb h.2.2⟩
theorem wQ (hb:bs≠[])(d:Nat):∀s:S3,Expr' (bs.map (·.1)) (exprM bs d s).1:=by
 have bl:0<bs.length:=List.length_pos_iff.mpr hb
 have leaf:∀s:S3,Expr' (bs.map (·.1)) (.num (takeV (takeS s 5) 10)):=fun s=>by
  have t:=xG (takeS s 5) (m:=10) (by decide)
  exact⟨t.1,t.2⟩
 have box:∀s:S3,Expr' (bs.map (·.1)) (.box (nameAt bs (takeV (takeS s 5) bs.length))):=fun s=>by
  have t:=xG (takeS s 5) (m:=bs.length) (by omega)
  exact vZ t.1 t.2
 induction d with
 | zero=>
  intro s
  unfold exprM
  by_cases c:takeV s 5=0
  ·rw[if_pos c];exact leaf s
  ·rw[if_neg c];exact box s
 | succ d ih=>
  intro s
  unfold exprM
  by_cases c:takeV s 5=0
  ·rw[if_pos c];exact leaf s
  ·rw[if_neg c]
   by_cases c2:takeV s 5<3
   ·rw[if_pos c2];exact box s
   ·rw[if_neg c2]
    refine⟨?_,ih _,ih _⟩
    unfold opM
    by_cases c3:takeV s 5=3
    ·rw[if_pos c3];exact .inl rfl
    ·rw[if_neg c3];exact .inr rfl
theorem qWw (hb:bs≠[])(s:S3):Cond' (bs.map (·.1)) (condL bs s).1:=by
 refine .inl ⟨?_,wQ hb 1 _,wQ hb 1 _⟩
 unfold relM
 by_cases c:takeV s 8 % 2=0
 ·rw[if_pos c];exact .inl rfl
 ·rw[if_neg c];exact .inr rfl
theorem qZv (hb:bs≠[])(d:Nat):∀s:S3,Cond' (bs.map (·.1)) (condM bs d s).1:=by
 induction d with
 | zero=>
  intro s
  unfold condM
  by_cases c:takeV s 8=4
  ·rw[if_pos c];rfl
  ·rw[if_neg c];exact qWw hb s
 | succ d ih=>
  intro s
  unfold condM
  by_cases c:takeV s 8=4
  ·rw[if_pos c];rfl
  ·rw[if_neg c]
   by_cases c2:takeV s 8<5
   ·rw[if_pos c2];exact qWw hb s
   ·rw[if_neg c2]
    by_cases c3:takeV s 8=5
    ·rw[if_pos c3];exact⟨rfl,ih _⟩
    ·rw[if_neg c3];exact .inr ⟨rfl,ih _,ih _⟩
theorem qEh (nd:(bs.map (·.1)).Nodup){i j:Int}(h0:0≤i)(h1:i<bs.length)(g0:0≤j)(g1:j<bs.length)(e:nameAt bs i=nameAt bs j):i=j:=by
 have hi:i.toNat<bs.length:=by omega
 have hj:j.toNat<bs.length:=by omega
 unfold nameAt at e
 rw[List.getD_eq_getElem?_getD,List.getD_eq_getElem?_getD,yYA hi,yYA hj] at e
 have e:bs[i.toNat].1=bs[j.toNat].1:=e
 have:=(List.getElem?_inj (l:=bs.map (·.1)) (i:=i.toNat) (j:=j.toNat) (by rw[yYC];exact hi) nd).mp (by rw[yYO,yYO,yYA hi,yYA hj];exact congrArg some e)
 omega
theorem xJl (hb:bs≠[])(nd:(bs.map (·.1)).Nodup)(a:Int)(s:S3):∀j,j≤bs.length→((chM bs a j s).1.map (·.1)).Nodup∧(∀c∈(chM bs a j s).1,(∃i,i<j∧c.1=nameAt bs ((a+(0+(i:Int))) % bs.length))∧c.1∈bs.map (·.1)∧Expr' (bs.map (·.1)) c.2∧c.2.dep≤12):=by
 have bl:0<bs.length:=List.length_pos_iff.mpr hb
 have md:∀z:Int,0≤z % (bs.length:Int)∧z % (bs.length:Int)<bs.length:=fun z=>⟨Int.emod_nonneg _ (by omega),Int.emod_lt_of_pos _ (by omega)⟩
 intro j
 induction j with
 | zero=>intro _;exact⟨List.nodup_nil,fun c h=>nomatch h⟩
 | succ j ih=>
  intro hj
  obtain⟨n,f⟩:=ih (by omega)
  refine⟨?_,fun c hc=>?_⟩
  ·show((_++[_]).map _).Nodup
   rw[yYV]
   refine yYU.mpr ⟨n,by simp,fun x hx y hy=>?_⟩
   obtain⟨c,hc,rfl⟩:=yYP.mp hx
   obtain⟨⟨i,hi,e⟩,_⟩:=f c hc
   rw[yYL.mp hy]
   intro q
   have q2:nameAt bs ((a+(0+(i:Int))) % bs.length)=nameAt bs ((a+(0+(j:Int))) % bs.length):=e.symm.trans q
   have q3:=qEh nd (md _).1 (md _).2 (md _).1 (md _).2 q2
   have q4:=Int.emod_eq_emod_iff_emod_sub_eq_zero.mp q3.symm
   rw[show a+(0+(j:Int)) - (a+(0+(i:Int)))=(j:Int) - i by omega,Int.emod_eq_of_lt (by omega) (by omega)] at q4
   omega
  ·rcases yYR.mp hc with h | h
   ·obtain⟨⟨i,hi,e⟩,r⟩:=f c h;exact⟨⟨i,by omega,e⟩,r⟩
   ·rw[yYL.mp h]
    exact⟨⟨j,Nat.lt_succ_self j,rfl⟩,vZ (md _).1 (md _).2,wQ hb 1 _,yZI (kG hb 1 _).2 (by decide)⟩
theorem qPc (hb:bs≠[])(nd:(bs.map (·.1)).Nodup)(s:S3):WayOk (bs.map (·.1)) (wayM bs s).1:=by
 have b0:=xG (takeS s bs.length) (m:=3) (by decide)
 have c:(cntM bs (takeV (takeS s bs.length) 3)).toNat≤bs.length∧(cntM bs (takeV (takeS s bs.length) 3)).toNat≤2:=by
  unfold cntM
  by_cases h:(bs.length:Int)<takeV (takeS s bs.length) 3
  ·rw[if_pos h];omega
  ·rw[if_neg h];omega
 obtain⟨n,f⟩:=xJl hb nd (takeV s bs.length) (takeS (takeS s bs.length) 3) _ c.1
 refine⟨n,?_,fun x hx=>(f x hx).2⟩
 show(chM _ _ _ _).1.length≤100
 rw[qBa];omega
theorem qFf (hb:bs≠[])(nd:(bs.map (·.1)).Nodup)(s:S3)(i:Nat):∀wy∈(waysM bs i s).1,WayOk (bs.map (·.1)) wy:=by
 induction i with
 | zero=>intro wy h;cases h
 | succ i ih=>
  intro wy h
  rcases yYR.mp h with h | h
  ·exact ih wy h
  ·rw[yYL.mp h];exact qPc hb nd _
theorem qOk (hb:bs≠[])(nd:(bs.map (·.1)).Nodup)(c:Int)(x:Str):DeedOk (bs.map (·.1)) (deedM bs c x):=by
 have tp:=xG (takeS (stateM c) 3) (m:=pickM (takeV (stateM c) 3)) (qIj _).1
 have tw:=xG (needM bs (zR c)).2 (m:=3) (by decide)
 have lw:(deedM bs c x).ways.length=(1+takeV (needM bs (zR c)).2 3).toNat:=qQf _ _ _
 refine⟨by show 1≤1+takeV _ _;omega,?_,?_,fun z=>?_,by rw[lw];omega,qFf hb nd _ _⟩
 ·show Cond' _ (needM bs (zR c)).1
  unfold needM
  by_cases h:takeV (zR c) 3=1
  ·rw[if_pos h];exact qZv hb 1 _
  ·rw[if_neg h];rfl
 ·show(needM bs (zR c)).1.dep≤12
  unfold needM
  by_cases h:takeV (zR c) 3=1
  ·rw[if_pos h];exact yZI (jN hb 1 _).2 (by decide)
  ·rw[if_neg h];exact(by decide:1≤12)
 ·rw[z] at lw
  have lw:0=(1+takeV (needM bs (zR c)).2 3).toNat:=lw
  omega
end
theorem qEn {i j:Int}(h0:0≤i)(h1:i<26)(g0:0≤j)(g1:j<26)(e:letter i=letter j):i=j:=by
 have al:abc.length=26:=by decide +kernel
 have nd:abc.Nodup:=by decide +kernel
 unfold letter at e
 have hi:i.toNat<abc.length:=by omega
 have hj:j.toNat<abc.length:=by omega
 rw[List.getD_eq_getElem?_getD,List.getD_eq_getElem?_getD,yYA hi,yYA hj] at e
 have e:abc[i.toNat]=abc[j.toNat]:=e
 have:=(List.getElem?_inj (l:=abc) (i:=i.toNat) (j:=j.toNat) hi nd).mp (by rw[yYA hi,yYA hj];exact congrArg some e)
 omega
theorem qPb (s:S3){i j:Nat}(hi:i<7)(hj:j<7)(e:wordM s i=wordM s j):i=j:=by
 unfold wordM wordOf at e
 have e:=congrArg (fun z:Str=>z.cps.toList) e
 simp only[qOg] at e
 have e:=List.append_cancel_left (List.append_cancel_right e)
 have md:∀z:Int,0≤z % 26∧z % 26<26:=fun z=>⟨Int.emod_nonneg _ (by decide),Int.emod_lt_of_pos _ (by decide)⟩
 have q:=qEn (md _).1 (md _).2 (md _).1 (md _).2 (List.cons.inj e).1
 omega
structure qDh (nm:List Str)(b:List (Str×Int)×Int×S3)(k:Nat):Prop where
 nd:(b.1.map (·.1)).Nodup
 from':∀x∈b.1,∃j,j<k∧x.1=nm.getD j ""
 room:1≤b.2.1
 one:1≤(b.1.map (·.2)).foldl (· * ·) 1
 prod:(b.1.map (·.2)).foldl (· * ·) 1 * b.2.1≤40
theorem qFa {nm:List Str}(hn:nm.Nodup)(s:S3):∀k,k≤nm.length→qDh nm (boxesM nm s k) k:=by
 intro k
 induction k with
 | zero=>intro _;exact⟨List.nodup_nil,(fun x h=>nomatch h),(show(1:Int)≤40 by decide),(show(1:Int)≤1 by decide),(show(1:Int) * 40≤40 by decide)⟩
 | succ k ih=>
  intro hk
  have f:=ih (by omega)
  have t:=xG (boxesM nm s k).2.2 (m:=4) (by decide)
  unfold boxesM
  by_cases g:2+takeV (boxesM nm s k).2.2 4≤(boxesM nm s k).2.1
  ·rw[if_pos g]
   have e1:((boxesM nm s k).1++[(nm.getD k "",2+takeV (boxesM nm s k).2.2 4)]).map (·.2)=(boxesM nm s k).1.map (·.2)++[2+takeV (boxesM nm s k).2.2 4]:=by rw[yYV];rfl
   have p1:=f.one
   have p2:=f.prod
   have dv:(boxesM nm s k).2.1 / (2+takeV (boxesM nm s k).2.2 4) * (2+takeV (boxesM nm s k).2.2 4)≤(boxesM nm s k).2.1:=Int.ediv_mul_le _ (by omega)
   refine⟨?_,fun x hx=>?_,?_,?_,?_⟩
   ·rw[yYV]
    refine yYU.mpr ⟨f.nd,by simp,fun a ha b hb=>?_⟩
    obtain⟨x,hx,rfl⟩:=yYP.mp ha
    obtain⟨j,hj,e⟩:=f.from' x hx
    rw[yYL.mp hb]
    intro q
    have q:nm.getD j "" = nm.getD k "" := e.symm.trans q
    rw[List.getD_eq_getElem?_getD,List.getD_eq_getElem?_getD,yYA (by omega:j<nm.length),yYA (by omega:k<nm.length)] at q
    have:=(List.getElem?_inj (l:=nm) (i:=j) (j:=k) (by omega) hn).mp (by rw[yYA (by omega),yYA (by omega)];exact congrArg some q)
    omega
   ·rcases yYR.mp hx with h | h
    ·obtain⟨j,hj,e⟩:=f.from' x h;exact⟨j,by omega,e⟩
    ·rw[yYL.mp h];exact⟨k,Nat.lt_succ_self k,rfl⟩
   ·exact(Int.le_ediv_iff_mul_le (by omega)).mpr (by omega)
   ·show 1≤(List.map _ (_++[_])).foldl _ _
    rw[e1,List.foldl_append]
    show 1≤_ * (2+takeV (boxesM nm s k).2.2 4)
    exact Int.mul_le_mul p1 (show(1:Int)≤2+takeV (boxesM nm s k).2.2 4 by omega) (by decide) (by omega)
   ·show(List.map _ (_++[_])).foldl _ _ * _≤40
    rw[e1,List.foldl_append]
    show _ * (2+takeV (boxesM nm s k).2.2 4) * _≤40
    rw[Int.mul_assoc,Int.mul_comm (2+takeV (boxesM nm s k).2.2 4)]
    exact Int.le_trans (Int.mul_le_mul_of_nonneg_left dv (by omega)) p2
  ·rw[if_neg g]
   exact⟨f.nd,fun x hx=>by obtain⟨j,hj,e⟩:=f.from' x hx;exact⟨j,by omega,e⟩,f.room,f.one,f.prod⟩
theorem xYo (ns:List Int):(wNm ns).Nodup∧(wNm ns).length=3∧∀x∈wNm ns,x∉cwords:=by
 unfold wNm
 by_cases h:takeV (w0 ns) 2=0
 ·rw[if_pos h];exact⟨by decide +kernel,rfl,by decide +kernel⟩
 ·rw[if_neg h];exact⟨by decide +kernel,rfl,by decide +kernel⟩
theorem qPa (S:S3){d l:Nat}(hd:d≤4)(hl:l≤3):((List.range d).map (wordM S)++(List.range l).map fun k=>wordM S (4+k)).Nodup:=by
 have e:(List.range d).map (wordM S)++(List.range l).map (fun k=>wordM S (4+k))=(List.range d++(List.range l).map (4+·)).map (wordM S):=by rw[yYV,List.map_map];rfl
 have lt:∀a∈List.range d++(List.range l).map (4+·),a<7:=fun a ha=>by
  rcases yYR.mp ha with h | h
  ·have:=List.mem_range.mp h;omega
  ·obtain⟨k,hk,rfl⟩:=yYP.mp h
   have:=List.mem_range.mp hk
   omega
 have nd:(List.range d++(List.range l).map (4+·)).Nodup:=by
  refine yYU.mpr ⟨List.nodup_range,List.Pairwise.map _ (fun a b hab z=>hab (by omega)) List.nodup_range,fun a ha b hb=>?_⟩
  obtain⟨k,hk,rfl⟩:=yYP.mp hb
  have:=List.mem_range.mp ha
  omega
 rw[e]
 exact List.pairwise_map.mpr (List.Pairwise.imp_of_mem (fun ha hb hab z=>hab (qPb S (lt _ ha) (lt _ hb) z)) nd)
theorem qFc (ns:List Int):WOk (worldM ns):=by
 have k:=xQm ns
 have b:=qPf ns (wK ns)
 have n:=xYo ns
 have f:qDh (wNm ns) (wB ns (wK ns)) (wK ns):=qFa n.1 (wS2 ns) (wK ns) (by omega)
 have nd:((wBs ns).map (·.1)).Nodup:=f.nd
 have hb:wBs ns≠[]:=b.ne k.1
 have bl:0<(wBs ns).length:=List.length_pos_iff.mpr hb
 have b3:(wBs ns).length≤wK ns:=b.len
 have t4:=xG (wS4 ns) (m:=4) (by decide)
 have t5:=xG (wS5 ns) (m:=4) (by decide)
 have dn:1≤wDn ns∧wDn ns≤4:=by unfold wDn;omega
 have ll:wLn ns≤3:=by unfold wLn;omega
 have c0:Cond' ((wBs ns).map (·.1)) (wB0 ns).1:=qZv hb 1 _
 have d0:(wB0 ns).1.dep≤12:=yZI (jN hb 1 _).2 (by decide)
 refine⟨bl,by show(wBs ns).length≤6;omega,b.b25,?_,⟨nd,fun x hx hc=>?_⟩,?_,?_,?_,fun d hd=>?_,fun l hl=>?_,?_,?_,?_,?_,?_⟩
 ·have p:=f.prod
  have o:=f.one
  have r:=f.room
  have m:=Int.mul_le_mul_of_nonneg_left r (show 0≤((wB ns (wK ns)).1.map (·.2)).foldl (· * ·) 1 by omega)
  show((wB ns (wK ns)).1.map (·.2)).foldl (· * ·) 1≤200
  omega
 ·obtain⟨c,hc2,rfl⟩:=yYP.mp hx
  obtain⟨j,hj,e⟩:=f.from' c hc2
  have hj3:j<(wNm ns).length:=by omega
  refine n.2.2 c.1 ?_ hc
  rw[e,List.getD_eq_getElem?_getD,yYA hj3]
  exact List.getElem_mem hj3
 ·show(List.map _ _).length≤100
  rw[yYC,List.length_range];omega
 ·show(List.map _ _).length≤100
  rw[yYC,List.length_range];omega
 ·show(List.map Deed.name (List.map (wDeed ns) _)++List.map Look.name (List.map (wLook ns) _)).Nodup
  rw[List.map_map,List.map_map]
  exact qPa (wS3 ns) dn.2 ll
 ·obtain⟨i,_,rfl⟩:=yYP.mp hd
  exact qOk hb nd _ _
 ·obtain⟨i,_,rfl⟩:=yYP.mp hl
  have t:=xG (stateM (cellM ns (5+i))) (m:=4) (by decide)
  exact⟨by show 1≤1+takeV _ _;omega,wQ hb 2 _,yZI (kG hb 2 _).2 (by decide)⟩
 ·show Cond' _ (wBt ns)
  unfold wBt
  by_cases h:(wHold ns).isEmpty=true
  ·rw[if_pos h];rfl
  ·rw[if_neg h];exact c0
 ·show(wBt ns).dep≤12
  unfold wBt
  by_cases h:(wHold ns).isEmpty=true
  ·rw[if_pos h];exact(by decide:1≤12)
  ·rw[if_neg h];exact d0
 ·show Cond' _ (wG ns)
  unfold wG
  by_cases h:0<takeV (wB0 ns).2 3
  ·rw[if_pos h];exact qZv hb 1 _
  ·rw[if_neg h];rfl
 ·show(wG ns).dep≤12
  unfold wG
  by_cases h:0<takeV (wB0 ns).2 3
  ·rw[if_pos h];exact yZI (jN hb 1 _).2 (by decide)
  ·rw[if_neg h];exact(by decide:1≤12)
 ·show∃vals∈allV (wBs ns),(wBt ns).truth (envOf (kvsOf (wBs ns) vals))=true
  unfold wBt
  by_cases h:(wHold ns).isEmpty=true
  ·rw[if_pos h]
   obtain⟨r,hr⟩:=List.exists_mem_of_ne_nil _ (qBg b.b25)
   exact⟨r,hr,rfl⟩
  ·rw[if_neg h]
   have ne:wHold ns≠[]:=fun z=>h (by rw[z];rfl)
   obtain⟨r,hr⟩:=List.exists_mem_of_ne_nil _ ne
   obtain⟨h1,h2⟩:=yYQ.mp hr
   refine⟨r,h1,?_⟩
   rw[← qWx nd (qKh h1).1 (qOd c0)]
   exact h2

structure WGd (W:Wd):Prop where
 ok:WOk W
 g:WOkG W
 ds8:∀d∈W.ds,d.need.dep≤8∧∀wy∈d.ways,wy.length≤3∧∀c∈wy,c.2.dep≤8
 gt8:W.gt.dep≤8
 bt8:W.bt.dep≤8
theorem WGd.nd {W:Wd}(h:WGd W):(W.bs.map (·.1)).Nodup:=h.ok.named.nd
theorem qDl {bs:List (Str×Int)}(hb:bs≠[])(s:S3)(i:Nat):∀wy∈(waysM bs i s).1,wy.length≤3∧∀c∈wy,c.2.dep≤8:=by
 have ch:∀(a:Int) (s:S3) (j:Nat),∀c∈(chM bs a j s).1,c.2.dep≤8:=fun a s j=>by
  induction j with
  | zero=>intro c h;cases h
  | succ j ih=>
   intro c h
   rcases yYR.mp h with h | h
   ·exact ih c h
   ·rw[yYL.mp h];exact yZI (kG hb 1 _).2 (by decide)
 induction i with
 | zero=>intro wy h;cases h
 | succ i ih=>
  intro wy h
  rcases yYR.mp h with h | h
  ·exact ih wy h
  ·rw[yYL.mp h]
   have b0:=xG (takeS (waysM bs i s).2 bs.length) (m:=3) (by decide)
   have c:=qBw bs b0.1 b0.2
   exact⟨by show(chM _ _ _ _).1.length≤3;rw[qBa];omega,ch _ _ _⟩
theorem qPw (ns:List Int):WGd (worldM ns):=by
 have g:=qYw ns
 have hb:wBs ns≠[]:=g.b1
 refine⟨qFc ns,g,fun d hd=>?_,?_,?_⟩
 ·obtain⟨i,_,rfl⟩:=yYP.mp hd
  refine⟨?_,qDl hb _ _⟩
  show(needM (wBs ns) (zR (cellM ns (1+i)))).1.dep≤8
  unfold needM
  by_cases h:takeV (zR (cellM ns (1+i))) 3=1
  ·rw[if_pos h];exact yZI (jN hb 1 _).2 (by decide)
  ·rw[if_neg h];exact(by decide:1≤8)
 ·show(wG ns).dep≤8
  unfold wG
  by_cases h:0<takeV (wB0 ns).2 3
  ·rw[if_pos h];exact yZI (jN hb 1 _).2 (by decide)
  ·rw[if_neg h];exact(by decide:1≤8)
 ·show(wBt ns).dep≤8
  unfold wBt
  by_cases h:(wHold ns).isEmpty=true
  ·rw[if_pos h];exact(by decide:1≤8)
  ·rw[if_neg h];exact yZI (jN hb 1 _).2 (by decide)
def spSeen:Sp:=fun vs H Q _=>∃(W:Wd) (wv:V) (l:Look) (st:Addr) (vals:List Int),vs=[wv,.str l.name,.ref st]∧WAtV H W wv∧WGd W∧l∈W.ls∧H st=some (.tup (intsV vals))∧vals.length=W.bs.length∧
 ∀H',Same H H'→Q (.int (l.part.worth (envOf (kvsOf W.bs vals)))) H'
theorem xJz (F:Fd K mg "_law_shown" (top 41) ["world","name","standing"])(D_law_worth:Dn P w K mg base "_law_worth" 9 ["e","boxes","standing"] (jI 8)):Dn P w K mg base "_law_shown" 10 ["world","name","standing"] spSeen:=by
 refine F.ok yW (fun vs H Q E h=>?_) (fun f cdv A outer s H vs Q E hr h=>?_)
 ·obtain⟨_,_,_,_,_,rfl,_⟩:=h
  rfl
 obtain⟨W,wv,l0,st,vals,rfl,⟨wp,bx,dx,lx,bv,gv,rfl,ewp,L⟩,gd,hl0,est,lv,q⟩:=h
 obtain⟨bu,ebx,pb⟩:=L.boxes
 obtain⟨lu,elx,pl⟩:=L.looks
 have l3:=gd.g.l3
 have b3:=gd.g.b3
 refine⟨_,(qZ (qM (i:=3) yW.nd rfl (by wtm_at "zo") (xE (qT (K:=K)) (zF rfl jU (qU (K:=K) (xE (qS (K:=K)) (pv 0) qE (fun _ _=>rfl))) (fun cl fp s H=>(qG (i:=0) jU.nd rfl (Or.inl rfl) (.inr rfl))) (fun cl fp s H=>(vI (qR zA (xE (qS (K:=K)) (pv 0) qE (fun _ _=>rfl)) (pv 1) (xD _)))) (fun cl fp s H=>(pv 0))) qE (fun _ _=>rfl)))
  (qJ (qN (qD D_law_worth hr (qQ (xE (qS (K:=K)) (pv 3) qE (fun _ _=>rfl)) (qQ (xE (qS (K:=K)) (pv 0) qE (fun _ _=>rfl)) (qQ (pv 2) qX))))))),?_⟩
 wtm_at "zf"
 refine⟨lx,rfl,⟨lu,SqL.of elx⟩,?_⟩
 refine jF (F:=LookIn) (fun t x u y=>y.tups t) (p:=fun l=>decide (l.name=l0.name)) elx pl (by omega) (fun u l H' R hm hu S' hR=>?_) fun D ys H1 nD S1 eD py=>?_
 ·obtain⟨la,v,rfl,ela,_⟩:=hu
  wtm_at "zw"
  have e:decide (V.str l.name=V.str l0.name)=decide (l.name=l0.name):=decide_eq_decide.mpr ⟨fun z=>V.str.inj z,fun z=>by rw[z]⟩
  rw[e]
  exact hR _ (.refl _)
 have hm:l0∈W.ls.filter fun l=>decide (l.name=l0.name):=yYQ.mpr ⟨hl0,decide_eq_true rfl⟩
 obtain⟨l1,y1,e1,e2⟩:∃l1 y1,(W.ls.filter fun l=>decide (l.name=l0.name))[0]? = some l1∧ys[0]? = some y1:=by
  have h0:0<(W.ls.filter fun l=>decide (l.name=l0.name)).length:=List.length_pos_of_mem hm
  exact⟨_,_,yYA h0,yYA (by rw[← py.length];exact h0)⟩
 have m1:=yYQ.mp (yYE e1)
 have el:l1=l0:=jP (f:=Look.name) (yYU.mp gd.ok.nd).2.1 m1.1 hl0 (of_decide_eq_true m1.2)
 subst el
 have hl1:=gd.g.lp l1 hl0
 obtain⟨la,v,rfl,ela,av⟩:=xK py e1 e2
 have hat:atI ys 0=some (.ref la):=zQ (j:=0) e2
 have ewp1:=S1 _ _ ewp
 wtm_at "zw"
 exact⟨l1.part,v,bx,st,W.bs,vals,rfl,av,hl1.1,by omega,⟨⟨bu,S1 _ _ ebx,xY (qC S1) pb⟩,S1 _ _ est,lv,by omega⟩,fun H' S'=>by rw[vR gd.nd lv hl1.1];exact q _ (S1.trans S')⟩
theorem qJx:xH ["world","name","standing","deed"] ["world","name","standing"] (xA (top 42)):=⟨rfl,rfl,rfl,by decide +kernel,rfl,by decide +kernel,by decide +kernel⟩
theorem qZw:CompOk (xA (top 42)) ["world","name","standing","deed"] (scAt (xB (top 42)) [0] [0]) ["deed","name"] 1 [1]:=
 ⟨by decide +kernel,by decide +kernel,by decide +kernel,by decide +kernel,by decide +kernel,by decide +kernel,by decide +kernel,by decide +kernel⟩
def DeedN (H0 H:Hp)(d:Deed)(u:V):Prop:=(∃a ys,u=.ref a∧H a=some (.tup (.str d.name::ys)))∧DeedIn H0 d u
theorem qBx {H:Hp}{ds:List Deed}{us:List V}(p:Paired (DeedIn H) ds us):Paired (DeedN H H) ds us:=Paired.mapP p fun _ _ y=>⟨let ⟨a,nv,wa,us,e,q,_⟩:=y;⟨a,_,e,q⟩,y⟩
theorem DeedN.tups {H0 H H':Hp}(t:Tups H H'){d:Deed}{u:V}(h:DeedN H0 H d u):DeedN H0 H' d u:=⟨let ⟨a,ys,e,q⟩:=h.1;⟨a,ys,e,t _ _ q⟩,h.2⟩
def spLet:Sp:=fun vs H Q _=>∃(W:Wd) (wv:V) (d:Deed) (st:Addr) (vals:List Int),vs=[wv,.str d.name,.ref st]∧WAtV H W wv∧WGd W∧d∈W.ds∧H st=some (.tup (intsV vals))∧vals.length=W.bs.length∧
 ∀H',Same H H'→Q (.bl (d.need.truth (envOf (kvsOf W.bs vals)))) H'
theorem xVe (F:Fd K mg "_law_let" (top 42) ["world","name","standing"])(D_law_holds:Dn P w K mg base "_law_holds" 17 ["c","boxes","standing"] (kZ 8)):Dn P w K mg base "_law_let" 18 ["world","name","standing"] spLet:=by
 refine F.ok qJx (fun vs H Q E h=>?_) (fun f cdv A outer s H vs Q E hr h=>?_)
 ·obtain⟨_,_,_,_,_,rfl,_⟩:=h
  rfl
 obtain⟨W,wv,d,st,vals,rfl,⟨wp,bx,dx,lx,bv,gv,rfl,ewp,L⟩,gd,hd,est,lv,q⟩:=h
 obtain⟨bu,ebx,pb⟩:=L.boxes
 obtain⟨du,edx,pd⟩:=L.deeds
 have d4:=gd.g.d4
 have b3:=gd.g.b3
 refine⟨_,(qZ (qM (i:=3) qJx.nd rfl (by wtm_at "zo") (xE (qT (K:=K)) (zF rfl qZw (qU (K:=K) (xE (qS (K:=K)) (pv 0) qE (fun _ _=>rfl))) (fun cl fp s H=>(qG (i:=0) qZw.nd rfl (Or.inl rfl) (.inr rfl))) (fun cl fp s H=>(vI (qR zA (xE (qS (K:=K)) (pv 0) qE (fun _ _=>rfl)) (pv 1) (xD _)))) (fun cl fp s H=>(pv 0))) qE (fun _ _=>rfl)))
  (qJ (qN (qD D_law_holds hr (qQ (xE (qS (K:=K)) (pv 3) qE (fun _ _=>rfl)) (qQ (xE (qS (K:=K)) (pv 0) qE (fun _ _=>rfl)) (qQ (pv 2) qX))))))),?_⟩
 wtm_at "zf"
 refine⟨dx,rfl,⟨du,SqL.of edx⟩,?_⟩
 refine jF (F:=DeedN H) (fun t x u y=>y.tups t) (p:=fun l=>decide (l.name=d.name)) edx (qBx pd) (by omega) (fun u l H' R hm hu S' hR=>?_) fun D ys H1 nD S1 eD py=>?_
 ·obtain⟨⟨la,ys,rfl,ela⟩,_⟩:=hu
  wtm_at "zw"
  have e:decide (V.str l.name=V.str d.name)=decide (l.name=d.name):=decide_eq_decide.mpr ⟨fun z=>V.str.inj z,fun z=>by rw[z]⟩
  rw[e]
  exact hR _ (.refl _)
 have hm:d∈W.ds.filter fun l=>decide (l.name=d.name):=yYQ.mpr ⟨hd,decide_eq_true rfl⟩
 obtain⟨d1,y1,e1,e2⟩:∃l1 y1,(W.ds.filter fun l=>decide (l.name=d.name))[0]? = some l1∧ys[0]? = some y1:=by
  have h0:0<(W.ds.filter fun l=>decide (l.name=d.name)).length:=List.length_pos_of_mem hm
  exact⟨_,_,yYA h0,yYA (by rw[← py.length];exact h0)⟩
 have m1:=yYQ.mp (yYE e1)
 have el:d1=d:=jP (f:=Deed.name) (yYU.mp gd.ok.nd).1 m1.1 hd (of_decide_eq_true m1.2)
 subst el
 obtain⟨_,din⟩:=xK py e1 e2
 obtain⟨da,nv,wa,wu,rfl,eda,nat,ewa,pw⟩:=din
 have hat:atI ys 0=some (.ref da):=zQ (j:=0) e2
 have ewp1:=S1 _ _ ewp
 have eda1:=S1 _ _ eda
 have cn:=(gd.ok.deeds d1 hd).need
 wtm_at "zw"
 exact⟨d1.need,nv,bx,st,W.bs,vals,rfl,nat.mono (qC S1),qOd cn,(gd.ds8 d1 hd).1,(gd.ds8 d1 hd).1,⟨⟨bu,S1 _ _ ebx,xY (qC S1) pb⟩,S1 _ _ est,lv,by omega⟩,fun H' S'=>by rw[qWx gd.nd lv (qOd cn)];exact q _ (S1.trans S')⟩

theorem zG:xH ["world","name","standing","deed","found","way","there","k","box","e"] ["world","name","standing"] (xA (top 40)):=⟨rfl,rfl,rfl,by decide +kernel,rfl,by decide +kernel,by decide +kernel⟩
theorem wJ:CompOk (xA (top 40)) ["world","name","standing","deed","found","way","there","k","box","e"] (scAt (xB (top 40)) [0] [0]) ["deed","name"] 1 [1]:=
 ⟨by decide +kernel,by decide +kernel,by decide +kernel,by decide +kernel,by decide +kernel,by decide +kernel,by decide +kernel,by decide +kernel⟩
theorem xZg {n k:Nat}(h:k<n):ixN n (k:Int)=some k:=by
 unfold ixN
 rw[if_pos (by omega),if_pos (by omega)];simp
section
variable {bs:List (Str×Int)}{wy:List (Str×Th)}{vals:List Int}
def rowK (bs:List (Str×Int))(wy:List (Str×Th))(vals:List Int)(k:Nat)(v:Int):List Int:=(xO bs wy vals).take k++v::vals.drop (k+1)
def upK (bs:List (Str×Int))(wy:List (Str×Th))(vals:List Int)(b:Str×Int)(v:Int)(j:Nat):Int:=match (wy.take j).lookup b.1 with
 | some t=>t.worth (envOf (kvsOf bs vals)) % b.2
 | none=>v
theorem qRd (hl:vals.length=bs.length){k:Nat}(hk:k<bs.length)(v:Int):(rowK bs wy vals k v).length=bs.length:=by
 unfold rowK
 rw[yYI,yYF,yQ hl,yYS,List.length_drop]
 omega
theorem qRc (hl:vals.length=bs.length){k:Nat}(hk:k<bs.length)(v v':Int):(rowK bs wy vals k v).set k v'=rowK bs wy vals k v':=by
 unfold rowK
 have e:((xO bs wy vals).take k).length=k:=by rw[yYF,yQ hl];omega
 rw[List.set_append_right _ _ (by omega),e,Nat.sub_self];rfl
def thereK (bs:List (Str×Int))(wy:List (Str×Th))(vals:List Int)(k:Nat):List Int:=(xO bs wy vals).take k++vals.drop k
theorem qGj (hl:vals.length=bs.length){k:Nat}(hk:k<bs.length):thereK bs wy vals k=rowK bs wy vals k (vals.getD k 0):=by
 unfold thereK rowK
 rw[List.drop_eq_getElem_cons (by omega:k<vals.length),List.getD_eq_getElem?_getD,yYA (by omega:k<vals.length)]
 rfl
theorem qEx {k:Nat}{v:Int}(e:(xO bs wy vals)[k]? = some v):rowK bs wy vals k v=thereK bs wy vals (k+1):=by
 unfold thereK rowK
 rw[yYM,e,List.append_assoc];rfl
theorem qGk (hl:vals.length=bs.length):thereK bs wy vals bs.length=xO bs wy vals:=by
 unfold thereK
 rw[List.take_of_length_le (by rw[yQ hl];exact yZC _),List.drop_eq_nil_of_le (by omega),List.append_nil]
theorem qSf {α:Type}{x:Str}{v:α}:∀{l:List (Str×α)},l.lookup x=some v→(x,v)∈l:=by
 intro l
 induction l with
 | nil=>intro h;cases h
 | cons p l ih=>
  intro h
  obtain⟨a,b⟩:=p
  rw[List.lookup_cons] at h
  cases e:x == a with
  | true=>
   rw[e] at h
   cases h
   rw[eq_of_beq e]
   exact yYG
  | false=>
   rw[e] at h
   exact yYH _ (ih h)
theorem qPh (nd:(wy.map (·.1)).Nodup){j:Nat}{c:Str×Th}(ec:wy[j]? = some c)(b:Str×Int)(v:Int):upK bs wy vals b v (j+1)=if c.1=b.1 then c.2.worth (envOf (kvsOf bs vals)) % b.2 else upK bs wy vals b v j:=by
 unfold upK
 have e1:(wy.take (j+1)).lookup b.1=((wy.take j).lookup b.1).or (if c.1=b.1 then some c.2 else none):=by
  rw[yYM,ec,List.lookup_append]
  congr 1
  show [c].lookup b.1=_
  obtain⟨x,t⟩:=c
  rw[List.lookup_cons]
  by_cases h:x=b.1
  ·rw[if_pos h,← h,beq_self_eq_true]
  ·rw[if_neg h,beq_eq_false_iff_ne.mpr (Ne.symm h)];rfl
 rw[e1]
 cases e:(wy.take j).lookup b.1 with
 | none=>
  by_cases h:c.1=b.1
  ·rw[if_pos h,if_pos h];rfl
  ·rw[if_neg h,if_neg h];rfl
 | some t=>
  by_cases h:c.1=b.1
  ·exfalso
   obtain⟨i,ei⟩:=List.mem_iff_getElem?.mp (qSf e)
   rw[List.getElem?_take] at ei
   by_cases hi:i<j
   ·rw[if_pos hi] at ei
    have hw:=(yYB.mp ei).1
    have:=(List.getElem?_inj (l:=wy.map (·.1)) (i:=i) (j:=j) (by rw[yYC];exact hw) nd).mp (by rw[yYO,yYO,ei,ec];exact congrArg some h.symm)
    omega
   ·rw[if_neg hi] at ei;cases ei
  ·rw[if_neg h,if_neg h];rfl
theorem xQo {k:Nat}{b:Str×Int}{v:Int}(eb:bs[k]? = some b)(ev:vals[k]? = some v):(xO bs wy vals)[k]? = some (upK bs wy vals b v wy.length):=by
 rw[qZc eb ev]
 unfold upK
 rw[yYJ]
 try rfl
end
theorem qJz {H H1:Hp}{r:Addr}{o:HO}(S:Same H H1)(n:H r=none):Same H (upd H1 r o):=fun b u e=>by rw[qA (qB e n)];exact S _ _ e
def qCw:Sp:=fun vs H Q _=>∃(W:Wd) (wv:V) (d:Deed) (st:Addr) (vals:List Int),vs=[wv,.str d.name,.ref st]∧WAtV H W wv∧WGd W∧d∈W.ds∧H st=some (.tup (intsV vals))∧vals.length=W.bs.length∧
 ∀(r:Addr) (us:List V) (H':Hp),H r=none→Same H H'→H' r=some (.lst us)→Paired (TupIn H') (d.ways.map fun wy=>xO W.bs wy vals) us→Q (.ref r) H'
theorem qNi (F:Fd K mg "_law_comes" (top 40) ["world","name","standing"])(B:Bl mg)(D_law_worth:Dn P w K mg base "_law_worth" 9 ["e","boxes","standing"] (jI 8)):Dn P w K mg base "_law_comes" 10 ["world","name","standing"] qCw:=by
 refine F.ok zG (fun vs H Q E h=>?_) (fun f cdv A outer s H vs Q E hr h=>?_)
 ·obtain⟨_,_,_,_,_,rfl,_⟩:=h
  rfl
 obtain⟨W,wv,d,st,vals,rfl,⟨wp,bx,dx,lx,bv,gv,rfl,ewp,L⟩,gd,hd,est,lv,q⟩:=h
 obtain⟨bu,ebx,pb⟩:=L.boxes
 obtain⟨du,edx,pd⟩:=L.deeds
 have d4:=gd.g.d4
 have b3:=gd.g.b3
 have bl:0<W.bs.length:=gd.ok.b1
 have lb:=pb.length
 refine⟨_,(qZ (qM (i:=3) zG.nd rfl (by wtm_at "zo") (xE (qT (K:=K)) (zF rfl wJ (qU (K:=K) (xE (qS (K:=K)) (pv 0) qE (fun _ _=>rfl))) (fun cl fp s H=>(qG (i:=0) wJ.nd rfl (Or.inl rfl) (.inr rfl))) (fun cl fp s H=>(vI (qR zA (xE (qS (K:=K)) (pv 0) qE (fun _ _=>rfl)) (pv 1) (xD _)))) (fun cl fp s H=>(pv 0))) qE (fun _ _=>rfl)))
  (qZ (qM (i:=4) zG.nd rfl (by wtm_at "zo") (zE qX))
  (qZ (jK PassesOwn.never rfl (qU (K:=K) (xE (qS (K:=K)) (pv 3) qE (fun _ _=>rfl))) (qG (i:=5) zG.nd rfl (by wtm_at "zo")) (qZ (qM (i:=6) zG.nd rfl (by wtm_at "zo") (xX (qYj (K:=K)) rfl B.list' qOo (qQ (pv 2) qX)))
  (qZ (jK PassesOwn.never rfl (zK rfl B.range' (qQ (xZ (xP (K:=K)) rfl B.len' zS (qQ (xE (qS (K:=K)) (pv 0) qE (fun _ _=>rfl)) qX)) qX)) (qG (i:=7) zG.nd rfl (by wtm_at "zo")) (qJ (jK PassesOwn.never rfl (qU (K:=K) (pv 5)) (yF (K:=K) (n:=2) rfl (qH (qG (i:=8) zG.nd rfl (by wtm_at "zo")) (qH (qG (i:=9) zG.nd rfl (by wtm_at "zo")) qI))) (qJ (xU (qR zA (pv 8) (xE (qS (K:=K)) (xE (qT (K:=K)) (xE (qS (K:=K)) (pv 0) qE (fun _ _=>rfl)) (pv 7) (fun _ _=>rfl)) qE (fun _ _=>rfl)) (xD _)) (qJ (qO (xQ yE (qD D_law_worth hr (qQ (pv 9) (qQ (xE (qS (K:=K)) (pv 0) qE (fun _ _=>rfl)) (qQ (pv 2) qX)))) (xE (qS (K:=K)) (xE (qT (K:=K)) (xE (qS (K:=K)) (pv 0) qE (fun _ _=>rfl)) (pv 7) (fun _ _=>rfl)) qE (fun _ _=>rfl))) (qIa (pv 6) (pv 7) qYg))) qY)))))
  (qJ (qP (kS (K:=K) PySem.F.plainAttrs_list PySem.F.slot_list_append PySem.F.type_list_append zP (pv 4) (qQ (xX (vP (K:=K)) rfl B.tuple' qKe (qQ (pv 6) qX)) qX)))))))
  (qJ (qN (pv 4)))))),?_⟩
 wtm_at "zf"
 refine⟨dx,rfl,⟨du,SqL.of edx⟩,?_⟩
 refine jF (F:=DeedN H) (fun t x u y=>y.tups t) (p:=fun l=>decide (l.name=d.name)) edx (qBx pd) (by omega) (fun u l H' R hm hu S' hR=>?_) fun D ys H1 nD S1 eD py=>?_
 ·obtain⟨⟨la,ys,rfl,ela⟩,_⟩:=hu
  wtm_at "zw"
  have e:decide (V.str l.name=V.str d.name)=decide (l.name=d.name):=decide_eq_decide.mpr ⟨fun z=>V.str.inj z,fun z=>by rw[z]⟩
  rw[e]
  exact hR _ (.refl _)
 have hm:d∈W.ds.filter fun l=>decide (l.name=d.name):=yYQ.mpr ⟨hd,decide_eq_true rfl⟩
 obtain⟨d1,y1,e1,e2⟩:∃l1 y1,(W.ds.filter fun l=>decide (l.name=d.name))[0]? = some l1∧ys[0]? = some y1:=by
  have h0:0<(W.ds.filter fun l=>decide (l.name=d.name)).length:=List.length_pos_of_mem hm
  exact⟨_,_,yYA h0,yYA (by rw[← py.length];exact h0)⟩
 have m1:=yYQ.mp (yYE e1)
 have el:d1=d:=jP (f:=Deed.name) (yYU.mp gd.ok.nd).1 m1.1 hd (of_decide_eq_true m1.2)
 subst el
 obtain⟨_,din⟩:=xK py e1 e2
 obtain⟨da,nv,wa,wu,rfl,eda,nat,ewa,pw⟩:=din
 have hat:atI ys 0=some (.ref da):=zQ (j:=0) e2
 have dok:=gd.ok.deeds d1 hd
 have wl:=dok.le
 have lw:=pw.length
 clear py e2 e1 m1 hm nD
 wtm_at "zw"
 refine⟨xF (show 0≤1000000 by decide),fun fl hfl=>?_⟩
 have Sfl:=qV hfl (.lst [])
 have efl:upd H1 fl (.lst []) fl=some (.lst []):=qW
 generalize upd H1 fl (.lst [])=H2 at Sfl efl
 have S02:=S1.trans Sfl
 have nfl:H fl=none:=S1.free hfl
 have eda2:=S02 _ _ eda
 wtm_at "zf"
 refine⟨wa,rfl,⟨wu,SqL.of (S02 _ _ ewa)⟩,?_⟩
 refine yT (xs:=wu) (fun i σ' H'=>∃(fu:List V) (z5 z6 z7 z8 z9:Option V),σ'=[some (.ref wp),some (.str d1.name),some (.ref st),some (.ref da),some (.ref fl),z5,z6,z7,z8,z9]∧Same H H'∧H' fl=some (.lst fu)∧Paired (TupIn H') ((d1.ways.take i).map fun wy=>xO W.bs wy vals) fu) ⟨[],none,none,none,none,none,rfl,S02,efl,.nil⟩ (fun i σ' H' _ hP=>?_) ?_ ?_
 ·obtain⟨_,_,_,_,_,_,rfl,S',_⟩:=hP
  exact SqL.of (S' _ _ ewa)
 ·rintro N rt bk i u σ' H' eu ⟨fu,z5,z6,z7,z8,z9,rfl,S',ef',pf'⟩ hN
  have hi:i<d1.ways.length:=by rw[lw];exact(yYB.mp eu).1
  obtain⟨wy,ewy⟩:∃wy,d1.ways[i]? = some wy:=⟨_,yYA hi⟩
  obtain⟨ca,cu,rfl,eca,pc⟩:=xK pw ewy eu
  have mw:=yYE ewy
  have wok:=dok.ways wy mw
  have w8:=(gd.ds8 d1 hd).2 wy mw
  have lc:=pc.length
  have lfu:=pf'.length
  rw[yYC,yYF] at lfu
  have est':=S' _ _ est
  wtm_at "zw"
  refine⟨st,_,rfl,.inr (SqT.of est'),fun tl htl=>?_⟩
  have Stl:=qV htl (.lst (intsV vals))
  have etl:upd H' tl (.lst (intsV vals)) tl=some (.lst (intsV vals)):=qW
  generalize upd H' tl (.lst (intsV vals))=HA at Stl etl
  have ntl:H tl=none:=S'.free htl
  have ntf:fl≠tl:=qB ef' htl
  have ewpA:=Stl _ _ (S' _ _ ewp)
  have ebxA:=Stl _ _ (S' _ _ ebx)
  wtm_at "zf"
  rw[← lb]
  refine⟨((W.bs.length:Nat):Int),rfl,by omega,by omega,?_⟩
  refine zU (fun k σ' H''=>∃(z7 z8 z9:Option V),σ'=[some (.ref wp),some (.str d1.name),some (.ref st),some (.ref da),some (.ref fl),some (.ref ca),some (.ref tl),z7,z8,z9]∧Same H H''∧H'' fl=some (.lst fu)∧Paired (TupIn H'') ((d1.ways.take i).map fun wy=>xO W.bs wy vals) fu∧H'' tl=some (.lst (intsV (thereK W.bs wy vals k)))) ⟨z7,z8,z9,rfl,S'.trans Stl,Stl _ _ ef',xJ (qC Stl) pf',etl⟩ ?_ ?_
  ·rintro N2 rt2 bk2 k σ' HB hk ⟨z7,z8,z9,rfl,SB,efB,pfB,etB⟩ hN2
   rw[Int.toNat_natCast] at hk
   rw[Int.zero_add]
   obtain⟨b,eb⟩:∃b,W.bs[k]? = some b:=⟨_,yYA hk⟩
   obtain⟨bu1,ebu⟩:∃u,bu[k]? = some u:=⟨_,yYA (by omega)⟩
   obtain⟨ba,rfl,eba⟩:=xK pb eb ebu
   have abu:=zQ ebu
   have ev:=qYb (vals:=vals) (i:=k) (by omega)
   have b25:=gd.ok.b25 b (yYE eb)
   wtm_at "zf"
   refine⟨ca,rfl,⟨cu,SqL.of (SB _ _ eca)⟩,?_⟩
   refine yT (xs:=cu) (fun j σ' H3=>∃(z8 z9:Option V),σ'=[some (.ref wp),some (.str d1.name),some (.ref st),some (.ref da),some (.ref fl),some (.ref ca),some (.ref tl),some (.int (k:Int)),z8,z9]∧Same H H3∧H3 fl=some (.lst fu)∧Paired (TupIn H3) ((d1.ways.take i).map fun wy=>xO W.bs wy vals) fu∧H3 tl=some (.lst (intsV (rowK W.bs wy vals k (upK W.bs wy vals b (vals.getD k 0) j))))) ⟨z8,z9,rfl,SB,efB,pfB,by rw[qGj lv hk] at etB;exact etB⟩ (fun j σ' H3 _ hP=>?_) ?_ ?_
   ·obtain⟨_,_,rfl,S3,_⟩:=hP
    exact SqL.of (S3 _ _ eca)
   ·rintro N3 rt3 bk3 j u σ' H3 eu3 ⟨z8,z9,rfl,S3,ef3,pf3,et3⟩ hN3
    obtain⟨c,ec⟩:∃c,wy[j]? = some c:=⟨_,yYA (by rw[lc];exact(yYB.mp eu3).1)⟩
    obtain⟨ta,tv,rfl,eta,tat⟩:=xK pc ec eu3
    have mc:=yYE ec
    have cok:=wok.ok c mc
    have us:=qPh (bs:=W.bs) (vals:=vals) wok.nd ec b (vals.getD k 0)
    have eta3:=S3 _ _ eta
    have ewp3:=S3 _ _ ewp
    have ebx3:=S3 _ _ ebx
    have eba3:=S3 _ _ eba
    wtm_at "zw"
    by_cases h:c.1=b.1
    ·rw[if_pos h] at us
     refine qBi (decide_eq_true (by rw[h])) ?_
     wtm_at "zw"
     refine⟨c.2,tv,bx,st,W.bs,vals,rfl,tat.mono (qC S3),qDa cok.2.1,w8.2 c mc,⟨⟨bu,ebx3,xY (qC S3) pb⟩,S3 _ _ est,lv,by omega⟩,fun H4 S4=>?_⟩
     rw[vR gd.nd lv (qDa cok.2.1)]
     have ewp4:=S4 _ _ ewp3
     have ebx4:=S4 _ _ ebx3
     have eba4:=S4 _ _ eba3
     wtm_at "zw"
     refine w_I (show(0:Int)<b.2 by omega) ?_
     refine⟨_,rfl,_,rfl,tl,_,(k:Int),k,rfl,rfl,S4 _ _ et3,xZg (by rw[zM,qRd lv hk];exact hk),?_⟩
     have e5:(intsV (rowK W.bs wy vals k (upK W.bs wy vals b (vals.getD k 0) j))).set k (.int (c.2.worth (envOf (kvsOf W.bs vals)) % b.2))=intsV (rowK W.bs wy vals k (upK W.bs wy vals b (vals.getD k 0) (j+1))):=by
      rw[us,← qRc lv hk (upK W.bs wy vals b (vals.getD k 0) j) (c.2.worth (envOf (kvsOf W.bs vals)) % b.2)]
      unfold intsV
      rw[List.map_set]
     rw[e5]
     have T5:Tups H4 (upd H4 tl (.lst (intsV (rowK W.bs wy vals k (upK W.bs wy vals b (vals.getD k 0) (j+1)))))):=fun b xs e=>by rw[qA (xT e (S4 _ _ et3) (by intro z;cases z))];exact e
     exact hN3 _ _ ⟨_,_,rfl,qJz (S3.trans S4) ntl,by rw[qA ntf];exact S4 _ _ ef3,xJ T5 (xJ (qC S4) pf3),qW⟩
    ·rw[if_neg h] at us
     refine wA (decide_eq_false fun z=>h (V.str.inj z)) ?_
     wtm_at "zw"
     exact hN3 _ _ ⟨_,_,rfl,S3,ef3,pf3,by rw[us];exact et3⟩
   ·rintro σ' H3 ⟨z8,z9,rfl,S3,ef3,pf3,et3⟩
    rw[← lc,qEx (xQo eb ev)] at et3
    exact hN2 _ _ ⟨_,_,_,rfl,S3,ef3,pf3,et3⟩
  ·rintro σ' HB ⟨z7,z8,z9,rfl,SB,efB,pfB,etB⟩
   rw[Int.toNat_natCast,qGk lv] at etB
   wtm_at "zw"
   refine xQf (SqL.of efB) ?_
   wtm_at "zw"
   refine⟨tl,_,rfl,SqL.of etB,fun tt htt=>?_⟩
   have Stt:=qV htt (.tup (intsV (xO W.bs wy vals)))
   have ett:upd HB tt (.tup (intsV (xO W.bs wy vals))) tt=some (.tup (intsV (xO W.bs wy vals))):=qW
   generalize upd HB tt (.tup (intsV (xO W.bs wy vals)))=HC at Stt ett
   wtm_at "zw"
   refine qYa (Stt _ _ efB) (small (by omega)) ?_
   have T5:Tups HC (upd HC fl (.lst (fu++[.ref tt]))):=fun b xs e=>by rw[qA (xT e (Stt _ _ efB) (by intro z;cases z))];exact e
   refine hN _ _ ⟨_,_,_,_,_,_,rfl,qJz (SB.trans Stt) nfl,qW,?_⟩
   rw[yYM,ewy,yYV]
   exact Paired.snoc (xJ T5 (xJ (qC Stt) pfB)) ⟨tt,rfl,T5 _ _ ett⟩
 ·rintro σ' H' ⟨fu,z5,z6,z7,z8,z9,rfl,S',ef',pf'⟩
  rw[← lw,yYJ] at pf'
  wtm_at "zw"
  exact q fl fu H' nfl S' ef' pf'

theorem kB {W:Wd}{ns:List Nd}{chs:List Int}{s s':PSt}(f:Nat)(h:goS W ns chs s=(none,s')):runS W ns chs (f+1) s=runS W ns chs f s':=by
 show(match goS W ns chs s with | (some e,s')=>some (e,s') | (none,s')=>runS W ns chs f s')=_
 rw[h]
theorem yB {W:Wd}{ns:List Nd}{chs:List Int}{s s':PSt}{e:Str}(f:Nat)(h:goS W ns chs s=(some e,s')):runS W ns chs (f+1) s=some (e,s'):=by
 show(match goS W ns chs s with | (some e,s')=>some (e,s') | (none,s')=>runS W ns chs f s')=_
 rw[h]
def kvN (ks:List Int):List (Key×V):=ks.map fun n=>(Sum.inl n,V.bl true)
theorem xZd (ks:List Int)(n:Int):(valV (kvN ks) (Sum.inl n)).isSome=decide (n∈ks):=by
 induction ks with
 | nil=>rfl
 | cons k ks ih=>
  by_cases h:k=n
  ·rw[show kvN (k::ks)=(Sum.inl k,V.bl true)::kvN ks from rfl,jX (by rw[h]),decide_eq_true (by rw[h];exact yYG)];rfl
  ·rw[show kvN (k::ks)=(Sum.inl k,V.bl true)::kvN ks from rfl,jZ (fun z=>h (Sum.inl.inj z)),ih]
   refine decide_eq_decide.mpr ⟨fun m=>yYH _ m,fun m=>?_⟩
   rcases yYK.mp m with m | m
   ·exact absurd m.symm h
   ·exact m
theorem xZe {ks:List Int}{n:Int}(h:n∉ks):putK (kvN ks) (Sum.inl n) (.bl true)=kvN (ks++[n]):=by
 unfold putK
 rw[if_neg]
 ·unfold kvN;rw[yYV];rfl
 ·intro z
  obtain⟨x,hx,e⟩:=List.any_eq_true.mp z
  obtain⟨k,hk,rfl⟩:=yYP.mp hx
  exact h (by rw[← Sum.inl.inj (of_decide_eq_true e)];exact hk)
theorem qTz {W:Wd}{ns:List Nd}{chs:List Int}{s s':PSt}{ks:List Int}(kv:s.kv=kvN ks)(h:goS W ns chs s=(none,s')):
  (s'.done=s.done+1∧s.done<chs.length∧s'.kv=kvN [])∨(s'.done=s.done∧(s.num:Int)∉ks∧s'.kv=kvN (ks++[(s.num:Int)])):=by
 unfold goS at h
 cases e:ns[s.num]? with
 | none=>rw[e] at h;cases h
 | some n=>
  rw[e] at h
  cases n with
  | fin=>cases h
  | act x to=>
   cases e2:W.ds.find? (fun d=>decide (d.name=x)) with
   | none=>simp only[e2] at h;cases h
   | some d=>
    simp only[e2,deedS] at h
    cases e3:d.need.truth (envOf (kvsOf W.bs s.vals)) with
    | false=>simp only[e3] at h;cases h
    | true=>
     simp only[e3] at h
     cases e4:chs[s.done]? with
     | none=>simp only[e4] at h;cases h
     | some c=>
      simp only[e4] at h
      have lt:=(yYB.mp e4).1
      cases h
      exact .inl ⟨rfl,lt,rfl⟩
  | see x fs=>
   cases e2:W.ls.find? (fun d=>decide (d.name=x)) with
   | none=>simp only[e2] at h;cases h
   | some l=>
    simp only[e2,lookS] at h
    cases e3:valV s.kv (Sum.inl (s.num:Int)) with
    | some v=>simp only[e3] at h;cases h
    | none=>
     simp only[e3] at h
     have nk:(s.num:Int)∉ks:=fun z=>by
      have v:=xZd ks (s.num:Int)
      rw[← kv,e3,decide_eq_true z] at v
      cases v
     cases e4:forkTo fs (l.part.worth (envOf (kvsOf W.bs s.vals))) with
     | none=>simp only[e4] at h;cases h
     | some k=>
      simp only[e4] at h
      cases h
      exact .inr ⟨rfl,nk,by show putK s.kv _ _=_;rw[kv,xZe nk]⟩
def unseen (n:Nat)(ks:List Int):List Nat:=(List.range n).filter fun i=>decide ((i:Int)∉ks)
theorem qVz (n:Nat)(ks:List Int):(unseen n ks).length≤n:=yZI (List.length_filter_le _ _) (by rw[List.length_range];exact yZC _)
theorem qFm {n k:Nat}{ks:List Int}(hk:k<n)(h:(k:Int)∉ks):(unseen n (ks++[(k:Int)])).length<(unseen n ks).length:=by
 have e:unseen n (ks++[(k:Int)])=(unseen n ks).filter fun i=>decide (i≠k):=by
  unfold unseen
  rw[List.filter_filter]
  refine List.filter_congr fun i _=>?_
  by_cases z:i=k
  ·subst z;simp
  ·have z':¬((i:Int)=(k:Int)):=fun q=>z (by omega)
   by_cases y:(i:Int)∈ks
   ·simp[y,z,z']
   ·simp[y,z,z']
 rw[e,List.length_filter_lt_length_iff_exists]
 exact⟨k,yYQ.mpr ⟨List.mem_range.mpr hk,decide_eq_true h⟩,by simp⟩
theorem qRa {W:Wd}{ns:List Nd}{chs:List Int}(ok:NsOk W ns):∀(f:Nat) (s:PSt) (ks:List Int),s.kv=kvN ks→s.num<ns.length→s.done≤chs.length→(chs.length - s.done) * (ns.length+1)+(unseen ns.length ks).length<f→∃e S,runS W ns chs f s=some (e,S):=by
 intro f
 induction f with
 | zero=>intro s ks _ _ _ h;omega
 | succ f ih=>
  intro s ks kv hn hd h
  cases hg:goS W ns chs s with
  | mk o s'=>
   cases o with
   | some e=>exact⟨e,s',yB f hg⟩
   | none=>
    have g:=xQv ok hd hg
    rw[kB f hg]
    rcases qTz kv hg with⟨d1,d2,d3⟩ | ⟨d1,d2,d3⟩
    ·refine ih s' [] d3 g.1 g.2 ?_
     have ul:=qVz ns.length []
     obtain⟨m,em⟩:∃m,chs.length - s.done=m+1:=⟨chs.length - s.done - 1,by omega⟩
     rw[em,Nat.succ_mul] at h
     rw[show chs.length - s'.done=m by omega]
     omega
    ·refine ih s' _ d3 g.1 g.2 ?_
     have ul:=qFm hn d2
     rw[d1]
     omega
theorem xKx {W:Wd}{ns:List Nd}{chs vals:List Int}(ok:NsOk W ns)(n0:0<ns.length)(n10:ns.length≤10)(c8:chs.length≤12):∃e S,runS W ns chs 200 (st0 vals)=some (e,S):=by
 refine qRa ok 200 (st0 vals) [] rfl n0 (yZF _) ?_
 have ul:=qVz ns.length []
 have m:=Nat.mul_le_mul c8 (show ns.length+1≤11 by omega)
 show(chs.length - 0) * (ns.length+1)+_<200
 rw[Nat.sub_zero]
 omega

theorem qOz {H:Hp}{A:List (Str×Int)}{a b:Addr}{us vs:List V}(ea:H a=some (.lst us))(eb:H b=some (.lst vs))(pu:Paired (StepIn H) A us)(pv:Paired (StepIn H) A vs):DEq K H 2 (.ref a) (.ref b):=by
 refine .lst (SqL.of ea) (SqL.of eb) (by rw[← pu.length,pv.length]) fun j x y e1 e2=>?_
 have hj:j<A.length:=by rw[pu.length];exact(yYB.mp e1).1
 obtain⟨z,ez⟩:∃z,A[j]? = some z:=⟨_,yYA hj⟩
 obtain⟨a,rfl,ea⟩:=xK pu ez e1
 obtain⟨b,rfl,eb⟩:=xK pv ez e2
 refine .tup (SqT.of ea) (SqT.of eb) rfl fun i u v h1 h2=>?_
 match i with
 | 0=>cases h1;cases h2;exact .str _
 | 1=>cases h1;cases h2;exact .int _
 | i+2=>cases h1
theorem qUb {H:Hp}{vals:List Int}{a b:Addr}(ea:H a=some (.tup (intsV vals)))(eb:H b=some (.tup (intsV vals))):DEq K H 2 (.ref a) (.ref b):=by
 refine .tup (SqT.of ea) (SqT.of eb) rfl fun j u v h1 h2=>?_
 rw[h1] at h2
 cases h2
 rw[yYO] at h1
 cases e:vals[j]? with
 | none=>rw[e] at h1;cases h1
 | some z=>rw[e] at h1;cases h1;exact .int _
structure ToldAt (H:Hp)(e:Str)(S:PSt)(r sp:Addr):Prop where
 ex:∃st su,H r=some (.tup [.str e,.ref sp,.ref st])∧H sp=some (.lst su)∧Paired (StepIn H) S.steps su∧H st=some (.tup (intsV S.vals))
theorem ToldAt.same {H H':Hp}{e:Str}{S:PSt}{r sp:Addr}(h:ToldAt H e S r sp)(s:Same H H'):ToldAt H' e S r sp:=by
 obtain⟨st,su,h1,h2,h3,h4⟩:=h.ex
 exact⟨st,su,s _ _ h1,s _ _ h2,Paired.mapP h3 fun _ _ ⟨a,e,q⟩=>⟨a,e,s _ _ q⟩,s _ _ h4⟩
theorem qBn {H:Hp}{e:Str}{S:PSt}{r sp r' sp':Addr}(h:ToldAt H e S r sp)(g:ToldAt H e S r' sp'):∃xs ys,SqT K H r xs∧SqT K H r' ys∧xs.length=ys.length∧∀(j:Nat) x y,xs[j]? = some x→ys[j]? = some y→DEq K H 2 x y:=by
 obtain⟨st,su,h1,h2,h3,h4⟩:=h.ex
 obtain⟨st',su',g1,g2,g3,g4⟩:=g.ex
 refine⟨_,_,SqT.of h1,SqT.of g1,rfl,fun j x y e1 e2=>?_⟩
 match j with
 | 0=>cases e1;cases e2;exact .str _
 | 1=>cases e1;cases e2;exact qOz h2 g2 h3 g3
 | 2=>cases e1;cases e2;exact qUb h4 g4
 | j+3=>cases e1
theorem qUe (cs:List Int)(lo hi:Option Int):∃ds:List Int,cutV (cs.map V.int) lo hi=ds.map V.int∧ds.length≤cs.length:=by
 unfold cutV
 rw[← List.map_drop,← List.map_take]
 exact⟨_,rfl,by rw[yYF,List.length_drop];omega⟩
theorem qWq {H:Hp}{cs:List Int}:∀(j:Nat) x y,(intsV cs)[j]? = some x→(intsV cs)[j]? = some y→DEq K H 0 x y:=fun j x y e1 e2=>by
 rw[e1] at e2
 cases e2
 rw[yYO] at e1
 cases e:cs[j]? with
 | none=>rw[e] at e1;cases e1
 | some z=>rw[e] at e1;cases e1;exact .int _
theorem qEz {W:Wd}{ns:List Nd}{chs:List Int}:∀(f:Nat) (s:PSt) {e:Str} {S:PSt},runS W ns chs f s=some (e,S)→S.steps.length≤s.steps.length+f:=by
 have one:∀(s:PSt) (o:Option Str) (s':PSt),goS W ns chs s=(o,s')→s'.steps.length≤s.steps.length+1:=fun s o s' h=>by
  unfold goS at h
  cases e:ns[s.num]? with
  | none=>rw[e] at h;cases h;exact Nat.le_succ _
  | some n=>
   rw[e] at h
   cases n with
   | fin=>cases h;exact Nat.le_succ _
   | act x to=>
    cases e2:W.ds.find? (fun d=>decide (d.name=x)) with
    | none=>simp only[e2] at h;cases h;exact Nat.le_succ _
    | some d=>
     simp only[e2,deedS] at h
     cases e3:d.need.truth (envOf (kvsOf W.bs s.vals)) with
     | false=>simp only[e3] at h;cases h;exact Nat.le_succ _
     | true=>
      simp only[e3] at h
      cases e4:chs[s.done]? with
      | none=>simp only[e4] at h;cases h;exact Nat.le_succ _
      | some c=>simp only[e4] at h;cases h;show(_++[_]).length≤_;rw[yYI];exact yZC _
   | see x fs=>
    cases e2:W.ls.find? (fun d=>decide (d.name=x)) with
    | none=>simp only[e2] at h;cases h;exact Nat.le_succ _
    | some l=>
     simp only[e2,lookS] at h
     cases e3:valV s.kv (Sum.inl (s.num:Int)) with
     | some v=>simp only[e3] at h;cases h;exact Nat.le_succ _
     | none=>
      simp only[e3] at h
      cases e4:forkTo fs (l.part.worth (envOf (kvsOf W.bs s.vals))) with
      | none=>simp only[e4] at h;cases h;show(_++[_]).length≤_;rw[yYI];exact yZC _
      | some k=>simp only[e4] at h;cases h;show(_++[_]).length≤_;rw[yYI];exact yZC _
 intro f
 induction f with
 | zero=>intro s e S h;cases h
 | succ f ih=>
  intro s e S h
  cases hg:goS W ns chs s with
  | mk o s'=>
   have l1:=one s o s' hg
   cases o with
   | some e2=>
    rw[yB f hg] at h
    cases h
    omega
   | none=>
    rw[kB f hg] at h
    have:=ih s' h
    omega
theorem qHw {W:Wd}{ns:List Nd}{chs vals:List Int}{e:Str}{S:PSt}(h:runS W ns chs 200 (st0 vals)=some (e,S)):S.steps.length≤10000:=by
 have l:=qEz 200 (st0 vals) h
 have:(st0 vals).steps.length=0:=rfl
 omega

theorem wR {H:Hp}:∀{t:Th} {n:Nat} {u v:V},t.dep≤n→t.At H u→t.At H v→DEq K H n u v
 | .num m,n,u,v,hn,hu,hv=>by
  obtain⟨a,rfl,ea⟩:=hu
  obtain⟨b,rfl,eb⟩:=hv
  obtain⟨n,rfl⟩:∃k,n=k+1:=⟨n - 1,by have:1≤n:=hn;omega⟩
  refine .tup (SqT.of ea) (SqT.of eb) rfl fun j x y e1 e2=>?_
  match j with
  | 0=>cases e1;cases e2;exact .str _
  | 1=>cases e1;cases e2;exact .int _
  | j+2=>cases e1
 | .box m,n,u,v,hn,hu,hv=>by
  obtain⟨a,rfl,ea⟩:=hu
  obtain⟨b,rfl,eb⟩:=hv
  obtain⟨n,rfl⟩:∃k,n=k+1:=⟨n - 1,by have:1≤n:=hn;omega⟩
  refine .tup (SqT.of ea) (SqT.of eb) rfl fun j x y e1 e2=>?_
  match j with
  | 0=>cases e1;cases e2;exact .str _
  | 1=>cases e1;cases e2;exact .str _
  | j+2=>cases e1
 | .nul k,n,u,v,hn,hu,hv=>by
  obtain⟨a,rfl,ea⟩:=hu
  obtain⟨b,rfl,eb⟩:=hv
  obtain⟨n,rfl⟩:∃k,n=k+1:=⟨n - 1,by have:1≤n:=hn;omega⟩
  refine .tup (SqT.of ea) (SqT.of eb) rfl fun j x y e1 e2=>?_
  match j with
  | 0=>cases e1;cases e2;exact .str _
  | j+1=>cases e1
 | .un k t,n,u,v,hn,hu,hv=>by
  obtain⟨a,u1,rfl,ea,h1⟩:=hu
  obtain⟨b,v1,rfl,eb,g1⟩:=hv
  have hn:t.dep+1≤n:=hn
  obtain⟨n,rfl⟩:∃k,n=k+1:=⟨n - 1,by omega⟩
  refine .tup (SqT.of ea) (SqT.of eb) rfl fun j x y e1 e2=>?_
  match j with
  | 0=>cases e1;cases e2;exact .str _
  | 1=>cases e1;cases e2;exact wR (by omega) h1 g1
  | j+2=>cases e1
 | .bin k t t',n,u,v,hn,hu,hv=>by
  obtain⟨a,u1,u2,rfl,ea,h1,h2⟩:=hu
  obtain⟨b,v1,v2,rfl,eb,g1,g2⟩:=hv
  have hn:max t.dep t'.dep+1≤n:=hn
  obtain⟨n,rfl⟩:∃k,n=k+1:=⟨n - 1,by omega⟩
  refine .tup (SqT.of ea) (SqT.of eb) rfl fun j x y e1 e2=>?_
  match j with
  | 0=>cases e1;cases e2;exact .str _
  | 1=>cases e1;cases e2;exact wR (by omega) h1 g1
  | 2=>cases e1;cases e2;exact wR (by omega) h2 g2
  | j+3=>cases e1
theorem wX {α:Type}{F:Hp→α→V→Prop}{H:Hp}{n:Nat}{xs:List α}{us vs:List V}(p1:Paired (F H) xs us)(p2:Paired (F H) xs vs)(d:∀x∈xs,∀u v,F H x u→F H x v→DEq K H n u v):∀(j:Nat) x y,us[j]? = some x→vs[j]? = some y→DEq K H n x y:=fun j x y e1 e2=>by
 obtain⟨r,er⟩:∃b,xs[j]? = some b:=⟨_,yYA (by rw[p1.length];exact(yYB.mp e1).1)⟩
 exact d r (yYE er) x y (xK p1 er e1) (xK p2 er e2)
theorem xJo {H:Hp}{n:Nat}{b:Str×Int}{u v:V}(h:BoxIn H b u)(g:BoxIn H b v):DEq K H (n+1) u v:=by
 obtain⟨a,rfl,ea⟩:=h
 obtain⟨b,rfl,eb⟩:=g
 refine .tup (SqT.of ea) (SqT.of eb) rfl fun j x y e1 e2=>?_
 match j with
 | 0=>cases e1;cases e2;exact .str _
 | 1=>cases e1;cases e2;exact .int _
 | j+2=>cases e1
theorem qFv {H:Hp}{n:Nat}{c:Str×Th}{u v:V}(hd:c.2.dep≤n)(h:jY H c u)(g:jY H c v):DEq K H (n+1) u v:=by
 obtain⟨a,u1,rfl,ea,h1⟩:=h
 obtain⟨b,v1,rfl,eb,g1⟩:=g
 refine .tup (SqT.of ea) (SqT.of eb) rfl fun j x y e1 e2=>?_
 match j with
 | 0=>cases e1;cases e2;exact .str _
 | 1=>cases e1;cases e2;exact wR hd h1 g1
 | j+2=>cases e1
theorem qSg {H:Hp}{n:Nat}{c:Look}{u v:V}(hd:c.part.dep≤n)(h:LookIn H c u)(g:LookIn H c v):DEq K H (n+1) u v:=by
 obtain⟨a,u1,rfl,ea,h1⟩:=h
 obtain⟨b,v1,rfl,eb,g1⟩:=g
 refine .tup (SqT.of ea) (SqT.of eb) rfl fun j x y e1 e2=>?_
 match j with
 | 0=>cases e1;cases e2;exact .str _
 | 1=>cases e1;cases e2;exact .int _
 | 2=>cases e1;cases e2;exact wR hd h1 g1
 | j+3=>cases e1
theorem xQd {H:Hp}{n:Nat}{c:List (Str×Th)}{u v:V}(hd:∀x∈c,x.2.dep≤n)(h:WayIn H c u)(g:WayIn H c v):DEq K H (n+2) u v:=by
 obtain⟨a,us,rfl,ea,h1⟩:=h
 obtain⟨b,vs,rfl,eb,g1⟩:=g
 exact .lst (SqL.of ea) (SqL.of eb) (h1.length.symm.trans g1.length) (wX h1 g1 fun x hx u v p q=>qFv (hd x hx) p q)
structure Deep (d:Deed):Prop where
 need:d.need.dep≤4
 ways:∀wy∈d.ways,∀c∈wy,c.2.dep≤2
theorem qUc {H:Hp}{d:Deed}{u v:V}(hd:Deep d)(h:DeedIn H d u)(g:DeedIn H d v):DEq K H 6 u v:=by
 obtain⟨a,nv,wa,us,rfl,ea,h1,h2,h3⟩:=h
 obtain⟨b,nv',wb,vs,rfl,eb,g1,g2,g3⟩:=g
 refine .tup (SqT.of ea) (SqT.of eb) rfl fun j x y e1 e2=>?_
 match j with
 | 0=>cases e1;cases e2;exact .str _
 | 1=>cases e1;cases e2;exact .int _
 | 2=>cases e1;cases e2;exact wR (by have:=hd.need;omega) h1 g1
 | 3=>cases e1;cases e2;exact .lst (SqL.of h2) (SqL.of g2) (h3.length.symm.trans g3.length) (wX h3 g3 fun x hx u v p q=>xQd (hd.ways x hx) p q)
 | j+4=>cases e1
theorem xJm {bs:List (Str×Int)}(hb:bs≠[])(a:Int)(s:S3)(j:Nat):∀c∈(chM bs a j s).1,c.2.dep≤2:=by
 induction j with
 | zero=>exact fun c h=>nomatch h
 | succ j ih=>
  intro c hc
  have hc:c∈(chM bs a j s).1++[(nameAt bs ((a+(0+(j:Int))) % bs.length),(exprM bs 1 (chM bs a j s).2).1)]:=hc
  rcases yYR.mp hc with h | h
  ·exact ih c h
  ·rw[yYL.mp h];exact(kG hb 1 _).2
theorem qFg {bs:List (Str×Int)}(hb:bs≠[])(s:S3)(i:Nat):∀wy∈(waysM bs i s).1,∀c∈wy,c.2.dep≤2:=by
 induction i with
 | zero=>exact fun c h=>nomatch h
 | succ i ih=>
  intro wy hw
  have hw:wy∈(waysM bs i s).1++[(wayM bs (waysM bs i s).2).1]:=hw
  rcases yYR.mp hw with h | h
  ·exact ih wy h
  ·rw[yYL.mp h];exact xJm hb _ _ _
theorem qOj {bs:List (Str×Int)}(hb:bs≠[])(c:Int)(x:Str):Deep (deedM bs c x):=by
 refine⟨?_,?_⟩
 ·show(needM bs (zR c)).1.dep≤4
  unfold needM
  split
  ·exact(jN hb 1 _).2
  ·show 1≤4;decide
 ·exact qFg hb _ _
theorem qFd {H:Hp}{ns:List Int}{bx dx lx bx' dx' lx':Addr}{bv gv bv' gv':V}(h:WAt H (worldM ns) bx dx lx bv gv)(g:WAt H (worldM ns) bx' dx' lx' bv' gv'):
  ∀(j:Nat) x y,[V.ref bx,V.ref dx,V.ref lx,bv,gv][j]? = some x→[V.ref bx',V.ref dx',V.ref lx',bv',gv'][j]? = some y→DEq K H 7 x y:=fun j x y e1 e2=>by
 have ok:=qYw ns
 have hb:wBs ns≠[]:=ok.b1
 obtain⟨u1,a1,p1⟩:=h.boxes
 obtain⟨u2,a2,p2⟩:=h.deeds
 obtain⟨u3,a3,p3⟩:=h.looks
 obtain⟨v1,b1,q1⟩:=g.boxes
 obtain⟨v2,b2,q2⟩:=g.deeds
 obtain⟨v3,b3,q3⟩:=g.looks
 match j with
 | 0=>cases e1;cases e2;exact .lst (SqL.of a1) (SqL.of b1) (p1.length.symm.trans q1.length) (wX p1 q1 fun x _ u v p q=>xJo p q)
 | 1=>cases e1;cases e2;exact .lst (SqL.of a2) (SqL.of b2) (p2.length.symm.trans q2.length) (wX p2 q2 fun x hx u v p q=>by
   have hx:x∈wDs ns (wDn ns):=hx
   obtain⟨i,_,rfl⟩:=yYP.mp hx
   exact qUc (qOj hb _ _) p q)
 | 2=>cases e1;cases e2;exact .lst (SqL.of a3) (SqL.of b3) (p3.length.symm.trans q3.length) (wX p3 q3 fun x hx u v p q=>qSg (n:=5) (by have:=(ok.lp x hx).2;omega) p q)
 | 3=>
  cases e1;cases e2
  refine wR ?_ h.beg g.beg
  show(wBt ns).dep≤7
  unfold wBt
  split
  ·show 1≤7;decide
  ·have:=(jN hb 1 (wS6 ns)).2
   show(condM (wBs ns) 1 (wS6 ns)).1.dep≤7
   omega
 | 4=>
  cases e1;cases e2
  refine wR ?_ h.goal g.goal
  show(wG ns).dep≤7
  unfold wG
  split
  ·have:=(jN hb 1 (takeS (wB0 ns).2 3)).2
   omega
  ·show 1≤7;decide
 | j+5=>cases e1

inductive Tr (W:Wd)(chs:List Int):Nat→List Int→List (Str×Int)→Nat→List Int→Prop
 | nil (n:Nat) (v:List Int):Tr W chs n v [] n v
 | act {d:Deed} {c:Int} {n n':Nat} {v v':List Int} {l:List (Str×Int)} (hd:d∈W.ds) (hn:d.need.truth (envOf (kvsOf W.bs v))=true) (hc:chs[n]? = some c) (t:Tr W chs (n+1) (xO W.bs (d.ways.getD (c % (d.ways.length:Int)).toNat []) v) l n' v'):Tr W chs n v ((d.name,c % (d.ways.length:Int))::l) n' v'
 | see {x:Look} {n n':Nat} {v v':List Int} {l:List (Str×Int)} (hx:x∈W.ls) (t:Tr W chs n v l n' v'):Tr W chs n v ((x.name,x.part.worth (envOf (kvsOf W.bs v)))::l) n' v'
section
variable {W:Wd}{ns:List Nd}{chs chs2:List Int}
theorem kT {s s':PSt}{o:Option Str}(h:goS W ns chs s=(o,s')):
  ((∀chs',goS W ns chs' s=(o,s'))∧o≠some (Str.ofString "open")∧s'.done=s.done∧s'.vals=s.vals∧(s'.steps=s.steps∨∃x∈W.ls,s'.steps=s.steps++[(x.name,x.part.worth (envOf (kvsOf W.bs s.vals)))]))∨
  (o=some (Str.ofString "open")∧s'=s∧chs[s.done]? = none∧∀chs':List Int,chs'[s.done]? = none→goS W ns chs' s=(o,s'))∨
  (∃d∈W.ds,∃c,o=none∧chs[s.done]? = some c∧d.need.truth (envOf (kvsOf W.bs s.vals))=true∧s'.done=s.done+1∧s'.vals=xO W.bs (d.ways.getD (c % (d.ways.length:Int)).toNat []) s.vals∧s'.steps=s.steps++[(d.name,c % (d.ways.length:Int))]∧
   ∀(chs':List Int) (c':Int),chs'[s.done]? = some c'→c' % (d.ways.length:Int)=c % (d.ways.length:Int)→goS W ns chs' s=(o,s')):=by
 cases e:ns[s.num]? with
 | none=>
  have g:∀chs',goS W ns chs' s=(some (Str.ofString "lost"),s):=fun chs'=>by unfold goS;rw[e]
  rw[g chs] at h;cases h
  exact .inl ⟨g,fun z=>absurd (Option.some.inj z) (by decide +kernel),rfl,rfl,.inl rfl⟩
 | some n=>
  cases n with
  | fin=>
   have g:∀chs',goS W ns chs' s=(some (match W.gt.truth (envOf (kvsOf W.bs s.vals)) with | true=>Str.ofString "goal" | false=>Str.ofString "short"),s):=fun chs'=>by unfold goS;rw[e];try rfl
   rw[g chs] at h;cases h
   refine .inl ⟨g,?_,rfl,rfl,.inl rfl⟩
   cases W.gt.truth (envOf (kvsOf W.bs s.vals)) with
   | true=>exact fun z=>absurd (Option.some.inj z) (by decide +kernel)
   | false=>exact fun z=>absurd (Option.some.inj z) (by decide +kernel)
  | act x to=>
   cases e2:W.ds.find? (fun d=>decide (d.name=x)) with
   | none=>
    have g:∀chs',goS W ns chs' s=(some (Str.ofString "lost"),s):=fun chs'=>by unfold goS;rw[e];simp only[e2]
    rw[g chs] at h;cases h
    exact .inl ⟨g,fun z=>absurd (Option.some.inj z) (by decide +kernel),rfl,rfl,.inl rfl⟩
   | some d=>
    have hd:=List.mem_of_find?_eq_some e2
    cases e3:d.need.truth (envOf (kvsOf W.bs s.vals)) with
    | false=>
     have g:∀chs',goS W ns chs' s=(some (Str.ofString "need"),s):=fun chs'=>by unfold goS;rw[e];simp only[e2,deedS,e3]
     rw[g chs] at h;cases h
     exact .inl ⟨g,fun z=>absurd (Option.some.inj z) (by decide +kernel),rfl,rfl,.inl rfl⟩
    | true=>
     cases e4:chs[s.done]? with
     | none=>
      have g:∀chs':List Int,chs'[s.done]? = none→goS W ns chs' s=(some (Str.ofString "open"),s):=fun chs' z=>by unfold goS;rw[e];simp only[e2,deedS,e3,z]
      rw[g chs e4] at h;cases h
      exact .inr (.inl ⟨rfl,rfl,rfl,g⟩)
     | some c=>
      have g:∀(chs':List Int) (c':Int),chs'[s.done]? = some c'→c' % (d.ways.length:Int)=c % (d.ways.length:Int)→goS W ns chs' s=(none,{ num:=to.toNat,vals:=xO W.bs (d.ways.getD (c % (d.ways.length:Int)).toNat []) s.vals,done:=s.done+1,steps:=s.steps++[(d.name,c % (d.ways.length:Int))],kv:=[] }):=fun chs' c' z y=>by unfold goS;rw[e];simp only[e2,deedS,e3,z,y]
      rw[g chs c e4 rfl] at h;cases h
      exact .inr (.inr ⟨d,hd,c,rfl,rfl,e3,rfl,rfl,rfl,g⟩)
  | see x fs=>
   cases e2:W.ls.find? (fun d=>decide (d.name=x)) with
   | none=>
    have g:∀chs',goS W ns chs' s=(some (Str.ofString "lost"),s):=fun chs'=>by unfold goS;rw[e];simp only[e2]
    rw[g chs] at h;cases h
    exact .inl ⟨g,fun z=>absurd (Option.some.inj z) (by decide +kernel),rfl,rfl,.inl rfl⟩
   | some l=>
    have g:∀chs',goS W ns chs' s=lookS W s l fs:=fun chs'=>by unfold goS;rw[e];simp only[e2]
    have hl:=List.mem_of_find?_eq_some e2
    rw[g chs] at h
    rw[h] at g
    refine .inl ⟨g,?_⟩
    unfold lookS at h
    cases e3:valV s.kv (Sum.inl (s.num:Int)) with
    | some v=>simp only[e3] at h;cases h;exact⟨fun z=>absurd (Option.some.inj z) (by decide +kernel),rfl,rfl,.inl rfl⟩
    | none=>
     simp only[e3] at h
     cases e4:forkTo fs (l.part.worth (envOf (kvsOf W.bs s.vals))) with
     | none=>simp only[e4] at h;cases h;exact⟨fun z=>absurd (Option.some.inj z) (by decide +kernel),rfl,rfl,.inr ⟨l,hl,rfl⟩⟩
     | some k=>simp only[e4] at h;cases h;exact⟨(fun z=>nomatch z),rfl,rfl,.inr ⟨l,hl,rfl⟩⟩
theorem xVb {s s':PSt}{o:Option Str}(h:goS W ns chs s=(o,s')):∃t1,s'.steps=s.steps++t1∧(∀{t n' v'},Tr W chs s'.done s'.vals t n' v'→Tr W chs s.done s.vals (t1++t) n' v')∧(o=some (Str.ofString "open")→chs[s'.done]? = none):=by
 rcases kT h with⟨_,a2,a3,a4,a5⟩ | ⟨a1,rfl,a3,_⟩ | ⟨d,hd,c,a1,a2,a3,a4,a5,a6,_⟩
 ·rcases a5 with a5 | ⟨x,hx,a5⟩
  ·exact⟨[],by rw[a5,List.append_nil],fun t=>by rw[a3,a4] at t;exact t,fun z=>absurd z a2⟩
  ·exact⟨_,a5,fun t=>by rw[a3,a4] at t;exact .see hx t,fun z=>absurd z a2⟩
 ·exact⟨[],by rw[List.append_nil],fun t=>t,fun _=>a3⟩
 ·exact⟨_,a6,fun t=>by rw[a4,a5] at t;exact .act hd a3 a2 t,fun z=>by rw[a1] at z;cases z⟩
theorem qHb:∀(f:Nat) (s:PSt) {e:Str} {S:PSt},runS W ns chs f s=some (e,S)→∃t,S.steps=s.steps++t∧Tr W chs s.done s.vals t S.done S.vals∧(e=Str.ofString "open" → chs[S.done]? = none):=by
 intro f
 induction f with
 | zero=>intro s e S h;cases h
 | succ f ih=>
  intro s e S h
  cases hg:goS W ns chs s with
  | mk o s'=>
   obtain⟨t1,h1,h2,h3⟩:=xVb hg
   cases o with
   | some e2=>
    rw[yB f hg] at h
    cases h
    exact⟨t1,h1,by have:=h2 (.nil _ _);rw[List.append_nil] at this;exact this,fun z=>h3 (by rw[z])⟩
   | none=>
    rw[kB f hg] at h
    obtain⟨t,g1,g2,g3⟩:=ih s' h
    exact⟨t1++t,by rw[g1,h1,List.append_assoc],h2 g2,g3⟩
theorem qHe (hc:∀(i:Nat) c,chs[i]? = some c→chs2[i]? = some c):∀(f:Nat) (s:PSt) {e:Str} {S:PSt},runS W ns chs f s=some (e,S)→e≠Str.ofString "open" → runS W ns chs2 f s=some (e,S):=by
 intro f
 induction f with
 | zero=>intro s e S h;cases h
 | succ f ih=>
  intro s e S h ne
  cases hg:goS W ns chs s with
  | mk o s'=>
   have g2:o≠some (Str.ofString "open")→goS W ns chs2 s=(o,s'):=fun no=>by
    rcases kT hg with⟨a1,_⟩ | ⟨a1,_⟩ | ⟨d,hd,c,a1,a2,_,_,_,_,a7⟩
    ·exact a1 _
    ·exact absurd a1 no
    ·exact a7 _ _ (hc _ _ a2) rfl
   cases o with
   | some e2=>
    rw[yB f hg] at h
    cases h
    exact yB f (g2 fun z=>ne (Option.some.inj z))
   | none=>
    rw[kB f hg] at h
    rw[kB f (g2 fun z=>nomatch z)]
    exact ih s' h ne
theorem qHc (hc:∀(i:Nat) c,chs[i]? = some c→chs2[i]? = some c):∀(f:Nat) (s:PSt) {e:Str} {S:PSt},runS W ns chs f s=some (e,S)→e=Str.ofString "open" → ∀{f2:Nat} {e2:Str} {S2:PSt},runS W ns chs2 f2 s=some (e2,S2)→∃t,S2.steps=S.steps++t:=by
 intro f
 induction f with
 | zero=>intro s e S h;cases h
 | succ f ih=>
  intro s e S h eo f2 e2 S2 h2
  cases hg:goS W ns chs s with
  | mk o s'=>
   cases o with
   | some e3=>
    rw[yB f hg] at h
    cases h
    rcases kT hg with⟨_,a2,_⟩ | ⟨_,rfl,_⟩ | ⟨d,hd,c,a1,_⟩
    ·exact absurd (by rw[eo]) a2
    ·obtain⟨t,h3,_⟩:=qHb f2 _ h2
     exact⟨t,h3⟩
    ·cases a1
   | none=>
    rw[kB f hg] at h
    have g2:goS W ns chs2 s=(none,s'):=by
     rcases kT hg with⟨a1,_⟩ | ⟨a1,_⟩ | ⟨d,hd,c,a1,a2,_,_,_,_,a7⟩
     ·exact a1 _
     ·cases a1
     ·exact a7 _ _ (hc _ _ a2) rfl
    cases f2 with
    | zero=>cases h2
    | succ f2=>
     rw[kB f2 g2] at h2
     exact ih s' h eo h2
theorem qHd (hn:∀i:Nat,chs[i]? = none→chs2[i]? = none)(hs:∀(i:Nat) c,chs[i]? = some c→∃c2,chs2[i]? = some c2∧∀d∈W.ds,c2 % (d.ways.length:Int)=c % (d.ways.length:Int)):∀(f:Nat) (s:PSt),runS W ns chs2 f s=runS W ns chs f s:=by
 intro f
 induction f with
 | zero=>intro s;rfl
 | succ f ih=>
  intro s
  cases hg:goS W ns chs s with
  | mk o s'=>
   have g2:goS W ns chs2 s=(o,s'):=by
    rcases kT hg with⟨a1,_⟩ | ⟨_,_,a3,a4⟩ | ⟨d,hd,c,a1,a2,_,_,_,_,a7⟩
    ·exact a1 _
    ·exact a4 _ (hn _ a3)
    ·obtain⟨c2,b1,b2⟩:=hs _ _ a2
     exact a7 _ _ b1 (b2 d hd)
   cases o with
   | some e2=>rw[yB f hg,yB f g2]
   | none=>rw[kB f hg,kB f g2];exact ih s'
def isDd (W:Wd)(x:Str×Int):Bool:=decide (x.1∈W.ds.map Deed.name)
theorem qPi (nl:∀x∈W.ls,x.name∉W.ds.map Deed.name){n n':Nat}{v v':List Int}{l:List (Str×Int)}(t:Tr W chs n v l n' v'):
  n+(l.filter (isDd W)).length=n'∧∀(j:Nat) x,(l.filter (isDd W))[j]? = some x→∃d∈W.ds,∃c,chs[n+j]? = some c∧x=(d.name,c % (d.ways.length:Int)):=by
 induction t with
 | nil n v=>exact⟨rfl,fun j x h=>nomatch h⟩
 | @act d c n n' v v' l hd hn hc t ih=>
  have p:isDd W (d.name,c % (d.ways.length:Int))=true:=decide_eq_true (List.mem_map_of_mem hd)
  rw[List.filter_cons_of_pos p]
  refine⟨by rw[yYS,← ih.1];omega,fun j x h=>?_⟩
  cases j with
  | zero=>cases h;exact⟨d,hd,c,hc,rfl⟩
  | succ j=>
   obtain⟨d',h1,c',h2,h3⟩:=ih.2 j x h
   exact⟨d',h1,c',by rw[show n+(j+1)=n+1+j by omega];exact h2,h3⟩
 | @see x n n' v v' l hx t ih=>
  have p:¬isDd W (x.name,x.part.worth (envOf (kvsOf W.bs v)))=true:=fun z=>nl x hx (of_decide_eq_true z)
  rw[List.filter_cons_of_neg p]
  exact ih
theorem xWb {n n':Nat}{v v':List Int}{l:List (Str×Int)}(t:Tr W chs n v l n' v'):n≤chs.length→n'≤chs.length:=by
 induction t with
 | nil n v=>exact fun h=>h
 | act hd hn hc t ih=>exact fun _=>ih (yYB.mp hc).1
 | see hx t ih=>exact ih
end
def yD (cs:List Int):List Int:=(List.range cs.length).map fun i=>cs.getD i 0+12 * ((i:Int)+1)
theorem qJc {cs:List Int}{i:Nat}(h:i<cs.length):(yD cs)[i]? = some (cs.getD i 0+12 * ((i:Int)+1)):=by
 unfold yD
 rw[yYO,List.getElem?_range h];rfl
theorem wI (cs:List Int):(yD cs).length=cs.length:=by
 unfold yD
 rw[yYC,List.length_range]
theorem qAg {W:Wd}{cs:List Int}(h3:∀d∈W.ds,1≤d.ways.length∧d.ways.length≤3)(ns:List Nd)(f:Nat)(s:PSt):runS W ns (yD cs) f s=runS W ns cs f s:=by
 refine qHd (fun i h=>?_) (fun i c h=>?_) f s
 ·rw[List.getElem?_eq_none_iff] at h ⊢
  rw[wI];exact h
 ·have hi:=(yYB.mp h).1
  refine⟨_,qJc hi,fun d hd=>?_⟩
  have e:cs.getD i 0=c:=by rw[List.getD_eq_getElem?_getD,h];rfl
  rw[e]
  have w:=h3 d hd
  have z:(d.ways.length:Int)=1∨(d.ways.length:Int)=2∨(d.ways.length:Int)=3:=by omega
  rcases z with z | z | z <;> (rw[z];omega)

theorem qZx {σ:St}{H:Hp}{Q:VK}{la:Addr}{us:List V}{xs:List Str}(e1:H la=some (.lst us))(p1:Paired (fun x u=>∃a ys,u=.ref a∧H a=some (.tup (.str x::ys))) xs us)(hl:xs.length≤1000)
  (q:∀(D:Addr) (H':Hp),H D=none→Same H H'→H' D=some (.lst (strsV xs))→Q (.ref D) H'):
  rdC 1 [] (gName 0) tYes (tOp (rIxT K) (tVar 0) (tC (.int 0))) (Itl K la) σ H Q:=by
 have lb:us.length=xs.length:=p1.length.symm
 refine jA (xs:=us) (fun D i ys H'=>ys=strsV (xs.take i)∧∀b o,H b=some o→H' b=some o) (fun D hD=>⟨rfl,qV hD _⟩)
  (fun D i ys H' _ hP=>(show Same H H' from hP.2).seq (SqL.of e1)) (fun D i x ys H' N hD hDy ex hP hN=>?_) (fun wd ys H2 hD hDy hP=>?_)
 ·obtain⟨rfl,hk⟩:=hP
  obtain⟨b,eb⟩:∃b,xs[i]? = some b:=⟨_,yYA (by rw[← lb];exact(yYB.mp ex).1)⟩
  obtain⟨ba,zs,rfl,hba⟩:=xK p1 eb ex
  refine⟨⟨[some (.ref ba)],rfl,rfl⟩,?_⟩
  refine⟨_,rfl,ba,_,0,.str b,rfl,rfl,SqT.of (hk _ _ hba),qPk _ _,hDy,?_,hN _ _ qW ⟨?_,fun b o e=>?_⟩⟩
  ·rw[xW,yYF];exact small (by omega)
  ·rw[yYM,eb,vS];rfl
  ·rw[qA (qB e hD)];exact hk _ _ e
 obtain⟨rfl,hk⟩:=hP
 rw[lb,yYJ] at hDy
 exact q wd H2 hD hk hDy
theorem jW:xH ["world","standing","steps","name","number","comes"] ["world","standing","steps"] (xA (top 46)):=⟨rfl,rfl,rfl,by decide +kernel,rfl,by decide +kernel,by decide +kernel⟩
theorem vC:CompOk (xA (top 46)) ["world","standing","steps","name","number","comes"] (scAt (xB (top 46)) [0,0] [1]) ["deed"] 1 []:=
 ⟨by decide +kernel,by decide +kernel,by decide +kernel,by decide +kernel,by decide +kernel,by decide +kernel,by decide +kernel,by decide +kernel⟩
theorem xZo {α:Type}{l:List α}{i:Nat}{x:α}(e:l[i]? = some x):l.drop i=x::l.drop (i+1):=by
 rw[List.drop_eq_getElem_cons (yYB.mp e).1,(yYB.mp e).2]
def qCz:Sp:=fun vs H Q _=>∃(W:Wd) (wv:V) (st sp:Addr) (vals v' chs:List Int) (n n':Nat) (l:List (Str×Int)) (su:List V),vs=[wv,.ref st,.ref sp]∧WAtV H W wv∧WGd W∧H st=some (.tup (intsV vals))∧vals.length=W.bs.length∧H sp=some (.lst su)∧Paired (StepIn H) l su∧Tr W chs n vals l n' v'∧
 ∀(st':Addr) (H':Hp),Same H H'→H' st'=some (.tup (intsV v'))→Q (.ref st') H'
theorem qNd (F:Fd K mg "_law_played" (top 46) ["world","standing","steps"])(B:Bl mg)(D_law_comes:Dn P w K mg base "_law_comes" 10 ["world","name","standing"] qCw)(D_law_let:Dn P w K mg base "_law_let" 18 ["world","name","standing"] spLet)(D_law_shown:Dn P w K mg base "_law_shown" 10 ["world","name","standing"] spSeen):Dn P w K mg base "_law_played" 19 ["world","standing","steps"] qCz:=by
 refine F.ok jW (fun vs H Q E h=>?_) (fun f cdv A outer s H vs Q E hr h=>?_)
 ·obtain⟨_,_,_,_,_,_,_,_,_,_,_,rfl,_⟩:=h
  rfl
 obtain⟨W,wv,st,sp,vals,v',chs,n,n',l,su,rfl,wat,gd,est,lv,esp,psu,tr,q⟩:=h
 obtain⟨wp,bx,dx,lx,bv,gv,rfl,ewp,L⟩:=id wat
 obtain⟨du,edx,pd⟩:=L.deeds
 have d4:=gd.g.d4
 have nl:=(yYU.mp gd.ok.nd).2.2
 refine⟨_,(qZ (jK PassesOwn.never rfl (qU (K:=K) (pv 2)) (yF (K:=K) (n:=2) rfl (qH (qG (i:=3) jW.nd rfl (by wtm_at "zo")) (qH (qG (i:=4) jW.nd rfl (by wtm_at "zo")) qI))) (qJ (xU (qR (xQq (K:=K)) (pv 3) (zF rfl vC (qU (K:=K) (xE (qS (K:=K)) (pv 0) qE (fun _ _=>rfl))) (fun cl fp s H=>(qG (i:=0) vC.nd rfl (Or.inl rfl) (.inr rfl))) (fun cl fp s H=>zO) (fun cl fp s H=>(xE (qS (K:=K)) (pv 0) qE (fun _ _=>rfl)))) (by with_unfolding_all rfl)) (qZ (qM (i:=5) jW.nd rfl (by wtm_at "zo") (qD D_law_comes hr (qQ (pv 0) (qQ (pv 3) (qQ (pv 1) qX)))))
  (qZ (xU (PW.pt (qYh (qVa (qCo xZx qKz qE (pv 4) (xZ (xP (K:=K)) rfl B.len' zS (qQ (pv 5) qX)))) (qXv (qVa (qJk (qD D_law_let hr (qQ (pv 0) (qQ (pv 3) (qQ (pv 1) qX))))))))) (qJ (qN wO)) qY)
  (qJ (qM (i:=1) jW.nd rfl (by wtm_at "zo") (xE (qT (K:=K)) (pv 5) (pv 4) (fun _ _=>rfl)))))) (qJ (xU (qR qSj (qD D_law_shown hr (qQ (pv 0) (qQ (pv 3) (qQ (pv 1) qX)))) (pv 4) (xD _)) (qJ (qN wO)) qY)))))
  (qJ (qN (pv 1)))),?_⟩
 wtm_at "zf"
 refine⟨sp,rfl,⟨su,SqL.of esp⟩,?_⟩
 refine yT (xs:=su) (fun i σ' H'=>∃(st1:Addr) (v1:List Int) (n1:Nat) (z3 z4 z5:Option V),σ'=[some (.ref wp),some (.ref st1),some (.ref sp),z3,z4,z5]∧Same H H'∧H' st1=some (.tup (intsV v1))∧v1.length=W.bs.length∧Tr W chs n1 v1 (l.drop i) n' v') ⟨st,vals,n,none,none,none,rfl,.refl _,est,lv,tr⟩ (fun i σ' H' _ hP=>?_) ?_ ?_
 ·obtain⟨_,_,_,_,_,_,rfl,S',_⟩:=hP
  exact SqL.of (S' _ _ esp)
 ·rintro N rt bk i u σ' H' eu ⟨st1,v1,n1,z3,z4,z5,rfl,S',e1,l1,t1⟩ hN
  obtain⟨x,ex⟩:∃x,l[i]? = some x:=⟨_,yYA (by rw[psu.length];exact(yYB.mp eu).1)⟩
  obtain⟨ta,rfl,eta⟩:=xK psu ex eu
  rw[xZo ex] at t1
  have eta':=S' _ _ eta
  have ewp':=S' _ _ ewp
  wtm_at "zf"
  refine⟨dx,rfl,⟨du,SqL.of (S' _ _ edx)⟩,qZx (xs:=W.ds.map Deed.name) (S' _ _ edx) (Paired.mapP (yV pd) fun _ _ ⟨a,ys,e,h⟩=>⟨a,ys,e,S' _ _ h⟩) (by rw[yYC];omega) fun D H2 nD S2 eD=>?_⟩
  have S02:=S'.trans S2
  have e12:=S2 _ _ e1
  have ewp2:=S2 _ _ ewp'
  wtm_at "zw"
  refine⟨D,_,rfl,.inl (SqL.of eD),rfl,qWj _,?_⟩
  wtm_at "zw"
  rw[qDv]
  clear eta eta' ex eu
  cases t1 with
  | @act d c _ _ _ _ _ hd hn hc t=>
   rw[decide_eq_true (show(d.name,c % (d.ways.length:Int)).1∈W.ds.map Deed.name from List.mem_map_of_mem hd)]
   refine iteT ?_
   have dne:=(gd.ok.deeds d hd).ne
   have lpos:0<d.ways.length:=List.length_pos_iff.mpr dne
   have m0:=Int.emod_nonneg c (show((d.ways.length:Nat):Int)≠0 by omega)
   have m1:=Int.emod_lt_of_pos c (show(0:Int)<(d.ways.length:Int) by omega)
   wtm_at "zw"
   refine⟨W,.ref wp,d,st1,v1,rfl,wat.same S02,gd,hd,e12,l1,fun cl cus HC ncl SC ecl pcl=>?_⟩
   have lcu:cus.length=d.ways.length:=by rw[← pcl.length,yYC]
   have S0C:=S02.trans SC
   wtm_at "zw"
   refine⟨_,rfl,0,_,rfl,rfl,true,(by show V.bl (decide ((0:Int)≤c % (d.ways.length:Int)))=V.bl true;rw[decide_eq_true m0]),iteT ?_⟩
   wtm_at "zw"
   rw[lcu,decide_eq_true (show(d.name,c % (d.ways.length:Int)).2<(d.ways.length:Int) from m1)]
   refine iteF ?_
   wtm_at "zw"
   refine⟨W,.ref wp,d,st1,v1,rfl,wat.same S0C,gd,hd,SC _ _ e12,l1,fun HE SE=>?_⟩
   rw[hn]
   wtm_at "zw"
   obtain⟨cu1,ecu⟩:∃u,cus[(c % (d.ways.length:Int)).toNat]? = some u:=⟨_,yYA (by omega)⟩
   obtain⟨tb,rfl,etb⟩:=xK pcl (show(d.ways.map fun wy=>xO W.bs wy v1)[(c % (d.ways.length:Int)).toNat]? = some (xO W.bs (d.ways.getD (c % (d.ways.length:Int)).toNat []) v1) from by rw[yYO,List.getD_eq_getElem?_getD,yYA (by omega)];rfl) ecu
   have au:atI cus (c % (d.ways.length:Int))=some (.ref tb):=by
    have:=zQ ecu
    rw[Int.toNat_of_nonneg m0] at this
    exact this
   refine⟨cl,cus,_,.ref tb,rfl,rfl,SqL.of (SE _ _ ecl),au,?_⟩
   exact hN _ _ ⟨tb,_,_,_,_,_,rfl,S0C.trans SE,SE _ _ etb,by rw[yQ l1],t⟩
  | @see x _ _ _ _ _ hx t=>
   rw[decide_eq_false (show¬(x.name,x.part.worth (envOf (kvsOf W.bs v1))).1∈W.ds.map Deed.name from fun z=>by
    obtain⟨d,hd,e⟩:=yYP.mp z
    exact nl _ (List.mem_map_of_mem hd) _ (List.mem_map_of_mem hx) e)]
   refine iteF ?_
   wtm_at "zw"
   refine⟨W,.ref wp,x,st1,v1,rfl,wat.same S02,gd,hx,e12,l1,fun HC SC=>?_⟩
   wtm_at "zw"
   refine wA (by rw[decide_eq_true rfl];rfl) ?_
   wtm_at "zw"
   exact hN _ _ ⟨st1,v1,_,_,_,_,rfl,S02.trans SC,SC _ _ e12,l1,t⟩
 ·rintro σ' H' ⟨st1,v1,n1,z3,z4,z5,rfl,S',e1,l1,t1⟩
  rw[← psu.length,List.drop_length] at t1
  cases t1
  wtm_at "zw"
  exact q st1 H' S' e1
theorem qAx:xH ["world","name"] ["world","name"] (xA (top 47)):=⟨rfl,rfl,rfl,by decide +kernel,rfl,by decide +kernel,by decide +kernel⟩
theorem qQx:CompOk (xA (top 47)) ["world","name"] (scAt (xB (top 47)) [0] [1,0,0]) ["deed","name"] 1 [1]:=
 ⟨by decide +kernel,by decide +kernel,by decide +kernel,by decide +kernel,by decide +kernel,by decide +kernel,by decide +kernel,by decide +kernel⟩
def spMany:Sp:=fun vs H Q _=>∃(W:Wd) (wv:V) (d:Deed),vs=[wv,.str d.name]∧WAtV H W wv∧WGd W∧d∈W.ds∧∀H',Same H H'→Q (.int (d.ways.length:Int)) H'
theorem xJb (F:Fd K mg "_law_many" (top 47) ["world","name"])(B:Bl mg):Dn P w K mg base "_law_many" 1 ["world","name"] spMany:=by
 refine F.ok qAx (fun vs H Q E h=>?_) (fun f cdv A outer s H vs Q E hr h=>?_)
 ·obtain⟨_,_,_,rfl,_⟩:=h
  rfl
 obtain⟨W,wv,d,rfl,⟨wp,bx,dx,lx,bv,gv,rfl,ewp,L⟩,gd,hd,q⟩:=h
 obtain⟨du,edx,pd⟩:=L.deeds
 have d4:=gd.g.d4
 refine⟨_,(qJ (qN (xZ (xP (K:=K)) rfl B.len' zS (qQ (xE (qS (K:=K)) (xE (qT (K:=K)) (zF rfl qQx (qU (K:=K) (xE (qS (K:=K)) (pv 0) qE (fun _ _=>rfl))) (fun cl fp s H=>(qG (i:=0) qQx.nd rfl (Or.inl rfl) (.inr rfl))) (fun cl fp s H=>(vI (qR zA (xE (qS (K:=K)) (pv 0) qE (fun _ _=>rfl)) (pv 1) (xD _)))) (fun cl fp s H=>(pv 0))) qE (fun _ _=>rfl)) qE (fun _ _=>rfl)) qX)))),?_⟩
 wtm_at "zf"
 refine⟨dx,rfl,⟨du,SqL.of edx⟩,?_⟩
 refine jF (F:=DeedN H) (fun t x u y=>y.tups t) (p:=fun l=>decide (l.name=d.name)) edx (qBx pd) (by omega) (fun u l H' R hm hu S' hR=>?_) fun D ys H1 nD S1 eD py=>?_
 ·obtain⟨⟨la,ys,rfl,ela⟩,_⟩:=hu
  wtm_at "zw"
  have e:decide (V.str l.name=V.str d.name)=decide (l.name=d.name):=decide_eq_decide.mpr ⟨fun z=>V.str.inj z,fun z=>by rw[z]⟩
  rw[e]
  exact hR _ (.refl _)
 have hm:d∈W.ds.filter fun l=>decide (l.name=d.name):=yYQ.mpr ⟨hd,decide_eq_true rfl⟩
 obtain⟨d1,y1,e1,e2⟩:∃l1 y1,(W.ds.filter fun l=>decide (l.name=d.name))[0]? = some l1∧ys[0]? = some y1:=by
  have h0:0<(W.ds.filter fun l=>decide (l.name=d.name)).length:=List.length_pos_of_mem hm
  exact⟨_,_,yYA h0,yYA (by rw[← py.length];exact h0)⟩
 have m1:=yYQ.mp (yYE e1)
 have el:d1=d:=jP (f:=Deed.name) (yYU.mp gd.ok.nd).1 m1.1 hd (of_decide_eq_true m1.2)
 subst el
 obtain⟨_,din⟩:=xK py e1 e2
 obtain⟨da,nv,wa,wu,rfl,eda,nat,ewa,pw⟩:=din
 have hat:atI ys 0=some (.ref da):=zQ (j:=0) e2
 have lw:=pw.length
 have eda1:=S1 _ _ eda
 have ewa1:=S1 _ _ ewa
 clear py e2 e1 m1 hm nD
 wtm_at "zw"
 have:=q H1 S1
 rw[lw] at this
 exact this

def rNotN:R2:=fun x y H Q=>y=.non∧Q (.bl (!decide (x=.non))) H
theorem qSz {X:Cx}:OpR X (compareOp .IsNot) rNotN:=xZq
theorem qOf {a:Addr}{xs:List V}{k:Nat}{js:List Nat}{g:TG}{tt:TT}{te:TE}{σ:St}{H1:Hp}{Q:VK}(Pv:Addr→Nat→List V→Hp→Prop)(h0:∀D,H1 D=none→Pv D 0 [] (upd H1 D (.lst [])))
  (hl:∀D i ys H,i≤xs.length→Pv D i ys H→SqL K H a xs)
  (hs:∀D i x T ys H (N:List V→Hp→Prop),H1 D=none→H D=some (.lst ys)→xs[i]? = some x→H T=none→Pv D i ys H→(∀zs H',H' D=some (.lst zs)→Pv D (i+1) zs H'→N zs H')→turnC k js g tt te σ D (.ref T) ys (upd H T (.tup [.int (i:Int),x])) N)
  (hd:∀D ys H,H1 D=none→H D=some (.lst ys)→Pv D xs.length ys H→Q (.ref D) H):rdC k js g tt te (Ite K a) σ H1 Q:=by
 intro D hD
 refine⟨fun i m ys H=>m=xs.length - i∧i≤xs.length∧H D=some (.lst ys)∧Pv D i ys H,⟨xs.length,by simp,yZF _,qW,h0 D hD⟩,?_⟩
 rintro i m ys H ⟨rfl,hi,hDy,p⟩
 refine⟨hDy,?_⟩
 have q:=hl D i ys H hi p
 by_cases hlt:i<xs.length
 ·refine .inr ⟨⟨xs,xs[i],q,by simp[hlt]⟩,fun x H' y=>?_⟩
  obtain⟨T,vx,rfl,nT,rfl,e1⟩:=y
  exact hs D i vx T ys H (fun zs H'=>∃m',m'<xs.length - i∧m'=xs.length - (i+1)∧i+1≤xs.length∧H' D=some (.lst zs)∧Pv D (i+1) zs H') hD hDy (e1 xs q) nT p fun zs H' e p'=>⟨xs.length - (i+1),by omega,rfl,hlt,e,p'⟩
 ·have e:i=xs.length:=by omega
  subst e
  exact .inl ⟨⟨xs,q,yZC _⟩,hd D ys H hD hDy p⟩
theorem qDc (xs:List V)(k:Nat):cutV xs none (some (k:Int))=xs.take k:=by
 unfold cutV
 rw[HT.sIx_none,HT.sIx_nat,List.drop_zero,Nat.sub_zero]
 by_cases h:k≤xs.length
 ·rw[Nat.min_eq_left h]
 ·rw[Nat.min_eq_right (by omega),List.take_of_length_le (yZC _),List.take_of_length_le (by omega)]
theorem qGv (cs:List Int)(k:Nat):(intsV cs).take k=intsV (cs.take k):=(List.map_take ..).symm
theorem qEk {σ:St}{H:Hp}{Q:VK}{js:List Nat}{te:TE}{zs:List Int}{m:Nat}(em:m=zs.length)(hl:zs.length≤1000)
  (hte:∀(i:Nat) (z:Int) (H':Hp) (R:VK),zs[i]? = some z→Same H H'→(∀H'',Same H' H''→R (.int z) H'')→te ([some (.int (i:Int))]++frees js σ) H' R)
  (q:∀(D:Addr) (H':Hp),H D=none→Same H H'→H' D=some (.lst (intsV zs))→Q (.ref D) H'):
  rdC 1 js (gName 0) tYes te (Itr 0 m) σ H Q:=by
 subst em
 refine kQ (fun D i ys H'=>ys=intsV (zs.take i)∧Same H H') (fun D hD=>⟨rfl,qV hD _⟩) (fun D i ys H' N hD hDy hi hP hN=>?_) (fun D ys H2 hD hDy hP=>?_)
 ·obtain⟨rfl,hk⟩:=hP
  rw[Int.zero_add]
  obtain⟨z,ez⟩:∃z,zs[i]? = some z:=⟨_,yYA hi⟩
  refine⟨⟨[some (.int (i:Int))],rfl,rfl⟩,?_⟩
  refine hte i z H' _ ez hk fun H'' S2=>?_
  refine⟨S2 _ _ hDy,by rw[zM,yYF];exact small (by omega),hN _ _ qW ⟨?_,fun b o e=>?_⟩⟩
  ·rw[yYM,ez];unfold intsV;rw[yYV];rfl
  ·rw[qA (qB e hD)];exact S2 _ _ (hk _ _ e)
 ·obtain⟨rfl,hk⟩:=hP
  rw[yYJ] at hDy
  exact q D H2 hD hk hDy
theorem qHq {σ:St}{H:Hp}{Q:VK}{la:Addr}{us:List V}{ds:List (Str×Int)}(e1:H la=some (.lst us))(p1:Paired (StepIn H) ds us)(hl:ds.length≤1000)
  (q:∀(D:Addr) (H':Hp),H D=none→Same H H'→H' D=some (.lst (intsV (ds.map (·.2))))→Q (.ref D) H'):
  rdC 2 [] (gTup K 2 (gCons (gName 0) (gCons (gName 1) gNil))) tYes (tVar 1) (Itl K la) σ H Q:=by
 have lb:us.length=ds.length:=p1.length.symm
 refine jA (xs:=us) (fun D i ys H'=>ys=intsV ((ds.take i).map (·.2))∧∀b o,H b=some o→H' b=some o) (fun D hD=>⟨rfl,qV hD _⟩)
  (fun D i ys H' _ hP=>(show Same H H' from hP.2).seq (SqL.of e1)) (fun D i x ys H' N hD hDy ex hP hN=>?_) (fun wd ys H2 hD hDy hP=>?_)
 ·obtain⟨rfl,hk⟩:=hP
  obtain⟨b,eb⟩:∃b,ds[i]? = some b:=⟨_,yYA (by rw[← lb];exact(yYB.mp ex).1)⟩
  obtain⟨ba,rfl,hba⟩:=xK p1 eb ex
  refine⟨ba,_,rfl,SqT.of (hk _ _ hba),rfl,_,_,rfl,_,_,rfl,rfl,⟨[some (.str b.1),some (.int b.2)],rfl,rfl⟩,?_⟩
  refine⟨_,rfl,hDy,?_,hN _ _ qW ⟨?_,fun b o e=>?_⟩⟩
  ·rw[zM,yYC,yYF];exact small (by omega)
  ·rw[yYM,eb,yYV];unfold intsV;rw[yYV];rfl
  ·rw[qA (qB e hD)];exact hk _ _ e
 obtain⟨rfl,hk2⟩:=hP
 rw[lb,yYJ] at hDy
 exact q wd H2 hD hk2 hDy
theorem qAf {σ:St}{H:Hp}{Q:VK}{ch:Addr}{cs:List Int}(ech:H ch=some (.lst (intsV cs)))(hl:cs.length≤12)
  (q:∀(D:Addr) (H':Hp),Same H H'→H' D=some (.lst (intsV (yD cs)))→Q (.ref D) H'):
  rdC 2 [] (gTup K 2 (gCons (gName 0) (gCons (gName 1) gNil))) tYes (tOp (rI0 fun i j=>V.int (i+j)) (tVar 1) (tOp (rI (fun i j=>i.natAbs<2 ^ 1000∧j.natAbs<2 ^ 1000) fun i j=>V.int (i * j)) (tC (V.int 12)) (tOp (rI0 fun i j=>V.int (i+j)) (tVar 0) (tC (V.int 1))))) (Ite K ch) σ H Q:=by
 have ll:(intsV cs).length=cs.length:=zM cs
 refine qOf (xs:=intsV cs) (fun D i ys H'=>ys=intsV ((yD cs).take i)∧Same H H') (fun D hD=>⟨rfl,qV hD _⟩) (fun D i ys H' _ hP=>SqL.of (hP.2 _ _ ech)) (fun D i x T ys H' N hD hDy ex nT hP hN=>?_) (fun D ys H2 hD hDy hP=>?_)
 ·obtain⟨rfl,hk⟩:=hP
  have hi:i<cs.length:=by rw[← ll];exact(yYB.mp ex).1
  obtain⟨c,rfl,ec⟩:∃c:Int,x=.int c∧cs.getD i 0=c:=by
   rw[yYO,yYA hi] at ex
   exact⟨cs[i],(Option.some.inj ex).symm,by rw[List.getD_eq_getElem?_getD,yYA hi];rfl⟩
  have ST:=qV nT (.tup [.int (i:Int),.int c])
  refine⟨T,_,rfl,SqT.of qW,rfl,_,_,rfl,_,_,rfl,rfl,⟨[some (.int (i:Int)),some (.int c)],rfl,rfl⟩,?_⟩
  refine w_yes (iteT ?_)
  wtm_at "zw"
  refine w_I ⟨by decide +kernel,big _ (by omega) (Int.lt_of_le_of_lt (b:=100) (by omega) (by decide +kernel))⟩ ?_
  wtm_at "zw"
  refine⟨ST _ _ hDy,by rw[zM,yYF,wI];exact small (by omega),hN _ _ qW ⟨?_,fun b o e=>?_⟩⟩
  ·rw[yYM,qJc hi,ec];unfold intsV;rw[yYV];rfl
  ·rw[qA (qB e hD)];exact ST _ _ (hk _ _ e)
 ·obtain⟨rfl,hk⟩:=hP
  rw[ll,← wI cs,yYJ] at hDy
  exact q D H2 hk hDy
theorem xQh {t:TT}{a b:TS}{D:Ends}{σ:St}{H:Hp}(c:Bool)(ht:∀R:Bool→Hp→Prop,(∀H',Same H H'→R c H')→t σ H R)(h:∀H',Same H H'→if c=true then a D σ H' else b D σ H'):tIfS t a b D σ H:=ht _ h
theorem qRq {H:Hp}{x:Str×Int}{u v:V}(h:StepIn H x u)(g:StepIn H x v):DEq K H 1 u v:=by
 obtain⟨a,rfl,ea⟩:=h
 obtain⟨b,rfl,eb⟩:=g
 refine .tup (SqT.of ea) (SqT.of eb) rfl fun j x y e1 e2=>?_
 match j with
 | 0=>cases e1;cases e2;exact .str _
 | 1=>cases e1;cases e2;exact .int _
 | j+2=>cases e1
theorem qBo {cs:List Int}{j k:Nat}(h:j≤k):∀(i:Nat) c,(cs.take j)[i]? = some c→(cs.take k)[i]? = some c:=fun i c e=>by
 rw[List.getElem?_take] at e ⊢
 by_cases z:i<j
 ·rw[if_pos z] at e;rw[if_pos (by omega)];exact e
 ·rw[if_neg z] at e;cases e
theorem qRv {W:Wd}{nds:List Nd}{cs vals:List Int}{j k:Nat}{e e1:Str}{S S1:PSt}(h:j≤k)(h1:runS W nds (cs.take j) 200 (st0 vals)=some (e1,S1))(h2:runS W nds (cs.take k) 200 (st0 vals)=some (e,S)):
  (∃t,S.steps=S1.steps++t)∧(e1≠Str.ofString "open" → e=e1∧S=S1):=by
 have g:e1≠Str.ofString "open" → e=e1∧S=S1:=fun ne=>by
  have:=qHe (qBo h) 200 (st0 vals) h1 ne
  rw[h2] at this
  cases this
  exact⟨rfl,rfl⟩
 refine⟨?_,g⟩
 by_cases ho:e1=Str.ofString "open"
 ·exact qHc (qBo h) 200 (st0 vals) h1 ho h2
 ·rw[(g ho).2];exact⟨[],(List.append_nil _).symm⟩
theorem zX:xH ["world","plan","standing","choices","last","k","end","steps","there","deeds","other"] ["world","plan","standing","choices"] (xA (top 48)):=⟨rfl,rfl,rfl,by decide +kernel,rfl,by decide +kernel,by decide +kernel⟩
theorem vF:CompOk (xA (top 48)) ["world","plan","standing","choices","last","k","end","steps","there","deeds","other"] (scAt (xB (top 48)) [1,1] []) ["step","world"] 1 [0]:=
 ⟨by decide +kernel,by decide +kernel,by decide +kernel,by decide +kernel,by decide +kernel,by decide +kernel,by decide +kernel,by decide +kernel⟩
theorem vE:CompOk (relS (scAt (xB (top 48)) [1,1] []) (xA (top 48))) ["step","world"] (scAt (xB (top 48)) [1,1] [2,1]) ["deed"] 1 []:=
 ⟨by decide +kernel,by decide +kernel,by decide +kernel,by decide +kernel,by decide +kernel,by decide +kernel,by decide +kernel,by decide +kernel⟩
theorem vD:CompOk (xA (top 48)) ["world","plan","standing","choices","last","k","end","steps","there","deeds","other"] (scAt (xB (top 48)) [1,3] [0]) ["j","choices","world","deeds"] 1 [3,0,9]:=
 ⟨by decide +kernel,by decide +kernel,by decide +kernel,by decide +kernel,by decide +kernel,by decide +kernel,by decide +kernel,by decide +kernel⟩
theorem yI:CompOk (xA (top 48)) ["world","plan","standing","choices","last","k","end","steps","there","deeds","other"] (scAt (xB (top 48)) [1,3] [1]) ["name","way"] 2 []:=
 ⟨by decide +kernel,by decide +kernel,by decide +kernel,by decide +kernel,by decide +kernel,by decide +kernel,by decide +kernel,by decide +kernel⟩
theorem yH:CompOk (xA (top 48)) ["world","plan","standing","choices","last","k","end","steps","there","deeds","other"] (scAt (xB (top 48)) [2] []) ["k","choice"] 2 []:=
 ⟨by decide +kernel,by decide +kernel,by decide +kernel,by decide +kernel,by decide +kernel,by decide +kernel,by decide +kernel,by decide +kernel⟩
def LastIs (W:Wd)(nds:List Nd)(vals cs:List Int)(k:Nat)(H:Hp)(lv:V):Prop:=(k=0∧lv=.non)∨∃k' e S r sp,k=k'+1∧lv=.ref r∧ToldAt H e S r sp∧runS W nds (cs.take k') 200 (st0 vals)=some (e,S)
theorem LastIs.same {W:Wd}{nds:List Nd}{vals cs:List Int}{k:Nat}{H H':Hp}{lv:V}(h:LastIs W nds vals cs k H lv)(s:Same H H'):LastIs W nds vals cs k H' lv:=by
 rcases h with h | ⟨k',e,S,r,sp,h1,h2,h3,h4⟩
 ·exact .inl h
 ·exact .inr ⟨k',e,S,r,sp,h1,h2,h3.same s,h4⟩
def qCj:Sp:=fun vs H Q _=>∃(W:Wd) (wp pl st ch:Addr) (us:List V) (nds:List Nd) (vals cs:List Int),vs=[.ref wp,.ref pl,.ref st,.ref ch]∧WAtV H W (.ref wp)∧WGd W∧(∀d∈W.ds,1≤d.ways.length∧d.ways.length≤3)∧H pl=some (.lst us)∧Paired (NdAt H) nds us∧NsOk W nds∧(∀n∈nds,n.Few)∧0<nds.length∧nds.length≤10∧Std H W st vals∧H ch=some (.lst (intsV cs))∧cs.length≤12∧
 ∀H',Same H H'→Q (.bl true) H'
theorem qNe (F:Fd K mg "_law_pieces" (top 48) ["world","plan","standing","choices"])(B:Bl mg)(B_enumerate:mg "enumerate" = none)(D_law_played:Dn P w K mg base "_law_played" 19 ["world","standing","steps"] qCz)(D_law_many:Dn P w K mg base "_law_many" 1 ["world","name"] spMany)(D_run:Dn P w K mg base "run" 31 ["world","plan","standing","choices"] spRun):Dn P w K mg base "_law_pieces" 32 ["world","plan","standing","choices"] qCj:=by
 refine F.ok zX (fun vs H Q E h=>?_) (fun f cdv A outer s H vs Q E hr h=>?_)
 ·obtain⟨_,_,_,_,_,_,_,_,_,rfl,_⟩:=h
  rfl
 obtain⟨W,wp,pl,st,ch,us,nds,vals,cs,rfl,wat,gd,w3,epl,pn,nok,few,n0,n10,std,ech,c12,q⟩:=h
 obtain⟨wp',bx,dx,lx,bv,gv,z,ewp,L⟩:=id wat
 cases z
 obtain⟨du,edx,pd⟩:=L.deeds
 have d4:=gd.g.d4
 have nl:∀x∈W.ls,x.name∉W.ds.map Deed.name:=fun x hx z=>(yYU.mp gd.ok.nd).2.2 _ z _ (List.mem_map_of_mem hx) rfl
 have lcs:(intsV cs).length=cs.length:=zM cs
 refine⟨_,(qZ (qM (i:=4) zX.nd rfl (by wtm_at "zo") wO)
  (qZ (jK PassesOwn.never rfl (zK rfl B.range' (qQ (xQ zC (xZ (xP (K:=K)) rfl B.len' zS (qQ (pv 3) qX)) qE) qX)) (qG (i:=5) zX.nd rfl (by wtm_at "zo")) (qZ (qO (qD D_run hr (qQ (pv 0) (qQ (pv 1) (qQ (pv 2) (qQ (qYn (qYf (K:=K)) (pv 3) qYm (qYl (pv 5))) qX))))) (yF (K:=K) (n:=3) rfl (qH (qG (i:=6) zX.nd rfl (by wtm_at "zo")) (qH (qG (i:=7) zX.nd rfl (by wtm_at "zo")) (qH (qG (i:=8) zX.nd rfl (by wtm_at "zo")) qI)))))
  (qZ (qM (i:=9) zX.nd rfl (by wtm_at "zo") (zF rfl vF (qU (K:=K) (pv 7)) (fun cl fp s H=>(qG (i:=0) vF.nd rfl (Or.inl rfl) (.inr rfl))) (fun cl fp s H=>(vI (qR (xQq (K:=K)) (xE (qS (K:=K)) (pv 0) qE (fun _ _=>rfl)) (zF rfl vE (qU (K:=K) (xE (qS (K:=K)) (pv 1) qE (fun _ _=>rfl))) (fun cl fp s H=>(qG (i:=0) vE.nd rfl (Or.inl rfl) (.inr rfl))) (fun cl fp s H=>zO) (fun cl fp s H=>(xE (qS (K:=K)) (pv 0) qE (fun _ _=>rfl)))) (by with_unfolding_all rfl)))) (fun cl fp s H=>(pv 0))))
  (qZ (xU (PW.pt (qYh (qR (qIg (K:=K) hr.units) (qD D_law_played hr (qQ (pv 0) (qQ (pv 2) (qQ (pv 7) qX)))) (pv 8) (xD _)) (qYh (qR xZj (xZ (xP (K:=K)) rfl B.len' zS (qQ (pv 9) qX)) (pv 5) (xD _)) (qXv (PW.pt (qHi (qR zA (pv 6) qF (xD _)) (qAv (qR qSj (xZ (xP (K:=K)) rfl B.len' zS (qQ (pv 9) qX)) (pv 5) (xD _))))))))) (qJ (qN qAd)) qY)
  (qZ (xU (qR (qIh (K:=K) hr.units) (zF rfl vD (zK rfl B.range' (qQ (xZ (xP (K:=K)) rfl B.len' zS (qQ (pv 9) qX)) qX)) (fun cl fp s H=>(qG (i:=0) vD.nd rfl (Or.inl rfl) (.inr rfl))) (fun cl fp s H=>zO) (fun cl fp s H=>(xQ yE (xE (qT (K:=K)) (pv 1) (pv 0) (fun _ _=>rfl)) (qD D_law_many hr (qQ (pv 2) (qQ (xE (qS (K:=K)) (xE (qT (K:=K)) (pv 3) (pv 0) (fun _ _=>rfl)) qE (fun _ _=>rfl)) qX)))))) (zF rfl yI (qU (K:=K) (pv 9)) (fun cl fp s H=>(yF (K:=K) (n:=2) rfl (qH (qG (i:=0) yI.nd rfl (Or.inl rfl) (.inr rfl)) (qH (qG (i:=1) yI.nd rfl (Or.inl rfl) (.inr rfl)) qI)))) (fun cl fp s H=>zO) (fun cl fp s H=>(pv 1))) (xD _)) (qJ (qN qAd)) qY)
  (qK (xU (qR qSz (pv 4) wO (xD _)) (qJ (xU (PW.pt (qYh (qR (qIh (K:=K) hr.units) (qYn (qYf (K:=K)) (pv 7) qYm (qYl (xZ (xP (K:=K)) rfl B.len' zS (qQ (xE (qS (K:=K)) (pv 4) qE (fun _ _=>rfl)) qX)))) (xE (qS (K:=K)) (pv 4) qE (fun _ _=>rfl)) (xD _)) (qXv (PW.pt (qHi (qR qSj (xE (qS (K:=K)) (pv 4) qE (fun _ _=>rfl)) qF (xD _)) (qAv (qR (qIg (K:=K) hr.units) (zV (qQ (pv 6) (qQ (pv 7) (qQ (pv 8) qX)))) (pv 4) (xD _)))))))) (qJ (qN qAd)) qY)) qY)
  (qJ (qM (i:=4) zX.nd rfl (by wtm_at "zo") (zV (qQ (pv 6) (qQ (pv 7) (qQ (pv 8) qX))))))))))))
  (qZ (vQ (i:=10) zX.nd rfl (by wtm_at "zo") rfl yH (qRl (K:=K) rfl B_enumerate (qQ (pv 3) qX)) (fun cl fp s H=>(yF (K:=K) (n:=2) rfl (qH (qG (i:=0) yH.nd rfl (Or.inl rfl) (.inr rfl)) (qH (qG (i:=1) yH.nd rfl (Or.inl rfl) (.inr rfl)) qI)))) (fun cl fp s H=>zO) (fun cl fp s H=>(xQ zC (pv 1) (xQ vM qE (xQ zC (pv 0) qE)))))
  (qJ (qN (yG (qIm (K:=K) hr.units) (qD D_run hr (qQ (pv 0) (qQ (pv 1) (qQ (pv 2) (qQ (pv 10) qX))))) (pv 4) (xD _))))))),?_⟩
 wtm_at "zf"
 refine⟨((intsV cs).length:Int)+1,rfl,by omega,by omega,?_⟩
 refine zU (fun k σ' H'=>∃(lv:V) (z5 z6 z7 z8 z9 z10:Option V),σ'=[some (.ref wp),some (.ref pl),some (.ref st),some (.ref ch),some lv,z5,z6,z7,z8,z9,z10]∧Same H H'∧LastIs W nds vals cs k H' lv) ⟨.non,none,none,none,none,none,none,rfl,.refl _,.inl ⟨rfl,rfl⟩⟩ ?_ ?_
 ·rintro N rt bk k σ' H' hk ⟨lv,z5,z6,z7,z8,z9,z10,rfl,S',la⟩ hN
  rw[Int.zero_add]
  have hk:k≤cs.length:=by omega
  wtm_at "zw"
  refine⟨ch,_,rfl,SqL.of (S' _ _ ech),fun sc hsc=>?_⟩
  rw[qDc,qGv]
  have Ssc:=qV hsc (.lst (intsV (cs.take k)))
  have esc:upd H' sc (.lst (intsV (cs.take k))) sc=some (.lst (intsV (cs.take k))):=qW
  generalize upd H' sc (.lst (intsV (cs.take k)))=HA at Ssc esc
  have S0A:=S'.trans Ssc
  have lk:(cs.take k).length=k:=by rw[yYF];omega
  obtain⟨e,S,hrun⟩:=xKx (W:=W) (ns:=nds) (chs:=cs.take k) (vals:=vals) nok n0 n10 (by omega)
  obtain⟨tl,tl1,tr,topen⟩:=qHb 200 (st0 vals) hrun
  obtain⟨dl,dj⟩:=qPi nl tr
  have dle:=xWb tr (yZF _)
  wtm_at "zw"
  refine⟨W,wp,pl,bx,dx,lx,bv,gv,us,nds,st,sc,vals,cs.take k,200,e,S,rfl,S0A _ _ ewp,L.same S0A,gd.ok,S0A _ _ epl,Paired.mapP pn fun _ _ y=>NdAt.same y S0A,nok,few,n0,by omega,⟨S0A _ _ std.at',std.fits⟩,esc,by decide,hrun,fun r sp st2 su HB SB er nr nsp esp psu est2=>?_⟩
  have S0B:=S0A.trans SB
  have es:S.steps=tl:=by rw[tl1];rfl
  rw[es] at psu
  have lsp:=qHw hrun
  rw[es] at lsp
  wtm_at "zf"
  refine⟨sp,rfl,⟨su,SqL.of esp⟩,?_⟩
  refine jF (F:=StepIn) (fun t x u y=>let ⟨a,e,h⟩:=y;⟨a,e,t _ _ h⟩) (p:=isDd W) esp psu (by omega) (fun u x HC R hm hu SC hR=>?_) fun D ys HD nD SD eD py=>?_
  ·obtain⟨ua,rfl,eua⟩:=hu
   have S0C:=S0B.trans SC
   have ewpC:=S0C _ _ ewp
   wtm_at "zf"
   refine⟨dx,rfl,⟨du,SqL.of (S0C _ _ edx)⟩,qZx (xs:=W.ds.map Deed.name) (S0C _ _ edx) (Paired.mapP (yV pd) fun _ _ ⟨a,ys,e,h⟩=>⟨a,ys,e,S0C _ _ h⟩) (by rw[yYC];omega) fun D2 HC2 nD2 SC2 eD2=>?_⟩
   wtm_at "zw"
   refine⟨D2,_,rfl,.inl (SqL.of eD2),rfl,qWj _,?_⟩
   wtm_at "zw"
   rw[qDv]
   exact hR _ SC2
  have S0D:=S0B.trans SD
  have lys:ys.length=S.done:=by rw[← py.length];have:0+_=S.done:=dl;omega
  have eop:e=Str.ofString "open" → S.done=k:=fun z=>by
   have:=List.getElem?_eq_none_iff.mp (topen z)
   omega
  have espD:=SD _ _ esp
  have psuD:Paired (StepIn HD) tl su:=Paired.mapP psu fun _ _ ⟨a,e,h⟩=>⟨a,e,SD _ _ h⟩
  have est2D:=SD _ _ est2
  repeat (with_reducible first | apply L2.qBl | apply L2.qPd)
  refine xQh false (fun R hR=>?_) fun HF SF=>?_
  ·wtm_at "zw"
   refine⟨W,.ref wp,st,sp,vals,S.vals,cs.take k,_,_,tl,su,rfl,wat.same S0D,gd,S0D _ _ std.at',std.fits.1,espD,psuD,tr,fun st3 HE SE est3=>?_⟩
   have est2E:=SE _ _ est2D
   have eDE:=SE _ _ eD
   wtm_at "zw"
   refine⟨0,st3,st2,_,_,by decide,rfl,rfl,SqT.of est3,SqT.of est2E,rfl,qWq,?_⟩
   clear est3
   wtm_at "zw"
   rw[decide_eq_false (show¬(k:Int)<(ys.length:Int) by omega)]
   refine iteF ?_
   wtm_at "zw"
   by_cases ho:e=Str.ofString "open"
   ·rw[decide_eq_true (show V.str e=V.str (Str.ofString "open") by rw[ho])]
    refine iteT ?_
    wtm_at "zw"
    rw[decide_eq_true (show V.int (ys.length:Int)=V.int (k:Int) by rw[lys,eop ho])]
    exact hR _ SE
   ·rw[decide_eq_false (show¬V.str e=V.str (Str.ofString "open") from fun z=>ho (V.str.inj z))]
    exact hR _ SE
  refine iteF ?_
  repeat (with_reducible first | apply L2.qFl | apply L2.qBl | apply L2.qPd)
  have S0F:=S0D.trans SF
  have eDF:=SF _ _ eD
  have pyF:Paired (StepIn HF) (tl.filter (isDd W)) ys:=Paired.mapP py fun _ _ ⟨a,e,h⟩=>⟨a,e,SF _ _ h⟩
  have lfy:=py.length
  refine xQh false (fun R hR=>?_) fun HG SG=>?_
  ·wtm_at "zf"
   refine⟨(ys.length:Int),rfl,by omega,by omega,?_⟩
   refine qEk (zs:=(tl.filter (isDd W)).map (·.2)) (by rw[yYC];omega) (by rw[yYC];omega) (fun i z HX RX ez SX hRX=>?_) fun D1 HX nD1 SX eD1=>?_
   ·rw[yYO] at ez
    obtain⟨x,ex,exz⟩:=Option.map_eq_some_iff.mp ez
    obtain⟨d,hd,c,ec,rfl⟩:=dj i x ex
    subst exz
    have hi:=(yYB.mp ex).1
    obtain⟨u,eu⟩:∃u,ys[i]? = some u:=⟨_,yYA (by omega)⟩
    obtain⟨ua,rfl,eua⟩:=xK pyF ex eu
    have euaX:=SX _ _ eua
    have eDX:=SX _ _ eDF
    have echX:=SX _ _ (S0F _ _ ech)
    have au:=zQ eu
    have ac:atI (intsV cs) (i:Int)=some (.int c):=by
     refine zQ ?_
     rw[yYO]
     have ec:(cs.take k)[0+i]? = some c:=ec
     rw[List.getElem?_take] at ec
     have z:0+i<k:=by
      by_cases z:0+i<k
      ·exact z
      ·rw[if_neg z] at ec;cases ec
     rw[if_pos z,Nat.zero_add] at ec
     rw[ec];rfl
    have w1:=w3 d hd
    wtm_at "zw"
    refine⟨W,.ref wp,d,rfl,wat.same (S0F.trans SX),gd,hd,fun HY SY=>?_⟩
    refine w_I (show(0:Int)<(d.ways.length:Int) by omega) ?_
    exact hRX _ SY
   have eDX:=SX _ _ eDF
   wtm_at "zf"
   refine⟨D,rfl,⟨ys,SqL.of eDX⟩,qHq eDX (Paired.mapP pyF fun _ _ ⟨a,e,h⟩=>⟨a,e,SX _ _ h⟩) (by omega) fun D3 HY nD3 SY eD3=>?_⟩
   refine⟨0,D1,D3,_,_,by decide,rfl,rfl,SqL.of (SY _ _ eD1),SqL.of eD3,rfl,qWq,?_⟩
   wtm_at "zw"
   exact hR _ (SX.trans SY)
  refine iteF ?_
  repeat (with_reducible first | apply L2.qFl | apply L2.qBl | apply L2.qPd)
  have S0G:=S0F.trans SG
  have SDG:=SF.trans SG
  have espG:=SDG _ _ espD
  have est2G:=SDG _ _ est2D
  have psuG:Paired (StepIn HG) S.steps su:=by rw[es];exact Paired.mapP psuD fun _ _ ⟨a,e,h⟩=>⟨a,e,SDG _ _ h⟩
  have laG:=la.same (Ssc.trans (SB.trans (SD.trans SDG)))
  refine⟨fun σ' H'=>σ'=[some (.ref wp),some (.ref pl),some (.ref st),some (.ref ch),some lv,some (.int (k:Int)),some (.str e),some (.ref sp),some (.ref st2),some (.ref D),z10]∧Same HG H',?_,fun σ' HL hP=>?_⟩
  ·rcases laG with⟨rfl,rfl⟩ | ⟨k',e1,S1,r1,sp1,rfl,rfl,⟨st1,su1,er1,esp1,psu1,est1⟩,hrun1⟩
   ·wtm_at "zw"
    refine⟨rfl,?_⟩
    wtm_at "zw"
    exact⟨rfl,.refl _⟩
   ·wtm_at "zw"
    refine⟨rfl,true,(by rw[decide_eq_false (show¬V.ref r1=V.non from fun z=>nomatch z)];rfl),iteT ?_⟩
    obtain⟨⟨t,mt⟩,mo⟩:=qRv (Nat.le_succ k') hrun1 hrun
    have lsu1:=psu1.length
    refine xQh false (fun R hR=>?_) fun HK SK=>?_
    ·wtm_at "zw"
     refine⟨sp,_,rfl,SqL.of espG,fun sc2 hsc2=>?_⟩
     rw[qDc]
     have Ssc2:=qV hsc2 (.lst (su.take su1.length))
     have esc2:upd HG sc2 (.lst (su.take su1.length)) sc2=some (.lst (su.take su1.length)):=qW
     generalize upd HG sc2 (.lst (su.take su1.length))=HI at Ssc2 esc2
     have er1I:=Ssc2 _ _ er1
     have esp1I:=Ssc2 _ _ esp1
     wtm_at "zw"
     refine⟨1,sc2,sp1,_,_,by decide,rfl,rfl,SqL.of esc2,SqL.of esp1I,?_,?_,?_⟩
     ·have:=psuG.length
      rw[mt,yYI] at this
      rw[yYF];omega
     ·intro j x y e3 e4
      have hj:=(yYB.mp e4).1
      rw[List.getElem?_take,if_pos hj] at e3
      obtain⟨z,ez⟩:∃z,S1.steps[j]? = some z:=⟨_,yYA (by omega)⟩
      have ez2:S.steps[j]? = some z:=by rw[mt,List.getElem?_append_left (by omega)];exact ez
      obtain⟨a,h1,h2⟩:=xK psuG ez2 e3
      obtain⟨b,h3,h4⟩:=xK psu1 ez e4
      exact qRq ⟨a,h1,Ssc2 _ _ h2⟩ ⟨b,h3,Ssc2 _ _ h4⟩
     wtm_at "zw"
     by_cases ho:e1=Str.ofString "open"
     ·rw[decide_eq_true (show V.str e1=V.str (Str.ofString "open") by rw[ho])]
      exact hR _ Ssc2
     ·rw[decide_eq_false (show¬V.str e1=V.str (Str.ofString "open") from fun z=>ho (V.str.inj z))]
      obtain⟨rfl,rfl⟩:=mo ho
      refine iteT ?_
      wtm_at "zw"
      refine⟨xF (show 3≤1000000 by decide),fun r2 hr2=>?_⟩
      have Sr2:=qV hr2 (.tup [V.str e,V.ref sp,V.ref st2])
      have er2:upd HI r2 (.tup [V.str e,V.ref sp,V.ref st2]) r2=some (.tup [V.str e,V.ref sp,V.ref st2]):=qW
      generalize upd HI r2 (.tup [V.str e,V.ref sp,V.ref st2])=HJ at Sr2 er2
      have SGJ:=Ssc2.trans Sr2
      have T1:ToldAt HJ e S r2 sp:=⟨st2,su,er2,SGJ _ _ espG,Paired.mapP psuG fun _ _ ⟨a,e,h⟩=>⟨a,e,SGJ _ _ h⟩,SGJ _ _ est2G⟩
      have T2:ToldAt HJ e S r1 sp1:=⟨st1,su1,SGJ _ _ er1,SGJ _ _ esp1,Paired.mapP psu1 fun _ _ ⟨a,e,h⟩=>⟨a,e,SGJ _ _ h⟩,SGJ _ _ est1⟩
      obtain⟨xs,zs,x1,x2,x3,x4⟩:=qBn (K:=K) T1 T2
      wtm_at "zw"
      refine⟨2,r2,r1,xs,zs,by decide,rfl,rfl,x1,x2,x3,x4,?_⟩
      clear x1 x2 x3 x4
      wtm_at "zw"
      exact hR _ SGJ
    ·refine iteF ?_
     wtm_at "zw"
     exact⟨rfl,SK⟩
  ·obtain⟨rfl,SL⟩:=hP
   wtm_at "zw"
   refine⟨xF (show 3≤1000000 by decide),fun rr hrr=>?_⟩
   have Srr:=qV hrr (.tup [V.str e,V.ref sp,V.ref st2])
   have err:upd HL rr (.tup [V.str e,V.ref sp,V.ref st2]) rr=some (.tup [V.str e,V.ref sp,V.ref st2]):=qW
   generalize upd HL rr (.tup [V.str e,V.ref sp,V.ref st2])=HM at Srr err
   have SGM:=SL.trans Srr
   wtm_at "zw"
   exact hN _ _ ⟨_,_,_,_,_,_,_,rfl,S0G.trans SGM,.inr ⟨k,e,S,rr,sp,rfl,rfl,⟨st2,su,err,SGM _ _ espG,Paired.mapP psuG fun _ _ ⟨a,e,h⟩=>⟨a,e,SGM _ _ h⟩,SGM _ _ est2G⟩,hrun⟩⟩
 ·rintro σ' H' ⟨lv,z5,z6,z7,z8,z9,z10,rfl,S',la⟩
  rw[show(((intsV cs).length:Int)+1).toNat=cs.length+1 by omega] at la
  rcases la with⟨z,_⟩ | ⟨k',e,S,r,sp,h1,rfl,T1,hrun⟩
  ·exact absurd z (Nat.succ_ne_zero _)
  have ek:k'=cs.length:=by omega
  rw[ek,yYJ] at hrun
  wtm_at "zf"
  refine⟨_,rfl,ch,_,rfl,SqL.of (S' _ _ ech),?_⟩
  refine qAf (S' _ _ ech) c12 fun D HA SA eD=>?_
  have S0A:=S'.trans SA
  wtm_at "zw"
  refine⟨W,wp,pl,bx,dx,lx,bv,gv,us,nds,st,D,vals,yD cs,200,e,S,rfl,S0A _ _ ewp,L.same S0A,gd.ok,S0A _ _ epl,Paired.mapP pn fun _ _ y=>NdAt.same y S0A,nok,few,n0,by omega,⟨S0A _ _ std.at',std.fits⟩,eD,by decide,(qAg w3 nds 200 (st0 vals)).trans hrun,fun r2 sp2 st2 su2 HB SB er2 nr2 nsp2 esp2 psu2 est2=>?_⟩
  have T2:ToldAt HB e S r2 sp2:=⟨st2,su2,er2,esp2,psu2,est2⟩
  wtm_at "zw"
  obtain⟨xs,ys,x1,x2,x3,x4⟩:=qBn (K:=K) T2 ((T1.same SA).same SB)
  exact⟨2,r2,r,xs,ys,by decide,rfl,rfl,x1,x2,x3,x4,q _ (S0A.trans SB)⟩

theorem qFq {σ:St}{H H0:Hp}{Q:VK}{js:List Nat}{te:TE}{n c:Nat}{p:Addr}(hn:n≤100)(hs:Same H0 H)(h0:H0 p=none)(st:∃s:S3,St3 H p s∧s.n≤c)
  (hte:∀(i:Nat) (H':Hp) (s:S3) (R:VK),i<n→Same H0 H'→St3 H' p s→s.n≤c+2 * i→(∀(z:Int) (H'':Hp) (s':S3),But1 p H' H''→St3 H'' p s'→s'.n≤s.n+2→R (.int z) H'')→te ([some (.int (i:Int))]++frees js σ) H' R)
  (q:∀(D:Addr) (zs:List Int) (H':Hp),H D=none→But1 p H H'→H' D=some (.lst (intsV zs))→zs.length=n→Q (.ref D) H'):
  rdC 1 js (gName 0) tYes te (Itr 0 n) σ H Q:=by
 obtain⟨s0,es0,hs0⟩:=st
 refine kQ (fun D i ys H'=>∃zs:List Int,ys=intsV zs∧zs.length=i∧(∃s:S3,St3 H' p s∧s.n≤c+2 * i)∧But1 p H H'∧D≠p) (fun D hD=>⟨[],rfl,rfl,⟨s0,qV hD _ _ _ es0,hs0⟩,.of (qV hD _),Ne.symm (qB (show H p=some _ from es0) hD)⟩)
  (fun D i ys H' N hD hDy hi hP hN=>?_) (fun D ys H2 hD hDy hP=>?_)
 ·obtain⟨zs,rfl,lz,⟨s,es,hsn⟩,bt,nD⟩:=hP
  rw[Int.zero_add]
  refine⟨⟨[some (.int (i:Int))],rfl,rfl⟩,?_⟩
  refine hte i H' s _ hi (zD hs h0 bt) es hsn fun z H'' s' b2 es' hs'=>?_
  have eD:=b2 _ _ nD hDy
  refine⟨eD,?_,hN _ _ qW ⟨zs++[z],?_,?_,⟨s',?_,by omega⟩,fun b o nb e=>?_,nD⟩⟩
  ·rw[yYC,lz];exact small (by omega)
  ·unfold intsV;rw[yYV];rfl
  ·rw[yYI,lz];rfl
  ·show upd _ _ _ _=_
   rw[qA (Ne.symm nD)];exact es'
  ·rw[qA (qB e hD)];exact b2 _ _ nb (bt _ _ nb e)
 ·obtain⟨zs,rfl,lz,st2,bt,nD⟩:=hP
  exact q D zs H2 hD bt hDy lz
theorem qDi (ns:List Int):∀d∈(worldM ns).ds,1≤d.ways.length∧d.ways.length≤3:=fun d hd=>by
 obtain⟨i,_,rfl⟩:=yYP.mp hd
 have t:=xG (needM (wBs ns) (zR (cellM ns (1+i)))).2 (m:=3) (by decide)
 show 1≤(waysM _ _ _).1.length∧(waysM _ _ _).1.length≤3
 rw[qQf]
 omega
def pick23 (k:Int):Int:=if k=0 then 3 else 10 ^ (9:Int).toNat
theorem qIv {k:Int}(h0:0≤k)(h1:k<2):atI [V.int 3,V.int (10 ^ (9:Int).toNat)] k=some (.int (pick23 k)):=by
 have c:k=0∨k=1:=by omega
 rcases c with c | c <;> (subst c;rfl)
theorem qIk (k:Int):0<pick23 k∧(pick23 k).natAbs<2 ^ 1000:=by
 unfold pick23
 by_cases h:k=0
 ·rw[if_pos h];exact⟨by decide,by decide +kernel⟩
 ·rw[if_neg h];exact⟨by decide +kernel,by decide +kernel⟩
theorem wN:xH ["script","world","plan","every","cell","state","standing","choices"] ["script"] (xA (top 49)):=⟨rfl,rfl,rfl,by decide +kernel,rfl,by decide +kernel,by decide +kernel⟩
theorem qOh:CompOk (xA (top 49)) ["script","world","plan","every","cell","state","standing","choices"] (scAt (xB (top 49)) [3,2] []) ["k","state"] 1 [5]:=
 ⟨by decide +kernel,by decide +kernel,by decide +kernel,by decide +kernel,by decide +kernel,by decide +kernel,by decide +kernel,by decide +kernel⟩
def spLaw (K:yZO):Sp:=fun vs H Q _=>∃(a:Addr) (ns:List Int),vs=[.ref a]∧SqL K H a (ns.map V.int)∧ns.length≤63∧∀H',Q (.bl true) H'
theorem xKi {f:Addr}{fd:FuncData}(F:Fun K "law" "law" (top 49) f fd)(B:Bl mg)(D_law_world:Dn P w K mg base "_law_world" 18 ["script"] (qGe K))(D_law_plan:Dn P w K mg base "_law_plan" 12 ["script","world","first"] (qGm K))(D_law_standings:Dn P w K mg base "_law_standings" 1 ["boxes"] qQa)(D_law_state:Dn P w K mg base "_law_state" 1 ["cell"] qQl)(D_law_take:Dn P w K mg base "_law_take" 2 ["state","many"] spTake)
  (D_plan_of:Dn P w K mg base "plan_of" 4 ["world","nodes"] spPlan) (D_law_pieces:Dn P w K mg base "_law_pieces" 32 ["world","plan","standing","choices"] qCj):FnOk P w K mg base CX0 60 f fd ["script"] (spLaw K):=by
 refine F.ok (k:=59) wN (fun vs H Q E h=>?_) (fun cdv A outer s H vs Q E hr h=>?_)
 ·obtain⟨_,_,rfl,_⟩:=h
  rfl
 obtain⟨a,ns,rfl,hS,h63,q⟩:=h
 have gd:=qPw ns
 have b3:=gd.g.b3
 refine⟨_,(qZ (qM (i:=1) wN.nd rfl (by wtm_at "zo") (qD D_law_world hr (qQ (pv 0) qX)))
  (qZ (qM (i:=2) wN.nd rfl (by wtm_at "zo") (qD D_plan_of hr (qQ (pv 1) (qQ (qD D_law_plan hr (qQ (pv 0) (qQ (pv 1) (qQ qE qX)))) qX))))
  (qZ (qM (i:=3) wN.nd rfl (by wtm_at "zo") (qD D_law_standings hr (qQ (xE (qS (K:=K)) (pv 1) qE (fun _ _=>rfl)) qX)))
  (qZ (jK PassesOwn.never rfl (qU (K:=K) (xQ qIo (zE (qQ qE qX)) (qYn (qYf (K:=K)) (pv 0) (qYl qE) (qYl qE)))) (qG (i:=4) wN.nd rfl (by wtm_at "zo")) (qZ (qM (i:=5) wN.nd rfl (by wtm_at "zo") (qD D_law_state hr (qQ (pv 4) qX)))
  (qZ (qM (i:=6) wN.nd rfl (by wtm_at "zo") (xE (qT (K:=K)) (pv 3) (qD D_law_take hr (qQ (pv 5) (qQ (xZ (xP (K:=K)) rfl B.len' zS (qQ (pv 3) qX)) qX))) (fun _ _=>rfl)))
  (qZ (vQ (i:=7) wN.nd rfl (by wtm_at "zo") rfl qOh (zK rfl B.range' (qQ (qD D_law_take hr (qQ (pv 5) (qQ qE qX))) qX)) (fun cl fp s H=>(qG (i:=0) qOh.nd rfl (Or.inl rfl) (.inr rfl))) (fun cl fp s H=>zO) (fun cl fp s H=>(qD D_law_take hr (qQ (pv 1) (qQ (xE (qT (K:=K)) (zE (qQ qE (qQ (xQ qDj qE qE) qX))) (qD D_law_take hr (qQ (pv 1) (qQ qE qX))) (fun _ _=>rfl)) qX)))))
  (qJ (xU (qVa (qJk (qD D_law_pieces hr (qQ (pv 1) (qQ (pv 2) (qQ (pv 6) (qQ (pv 7) qX))))))) (qJ (qN qAd)) qY))))))
  (qJ (qN (yG (qIm (K:=K) hr.units) (pv 1) (qD D_law_world hr (qQ (pv 0) qX)) (xD _)))))))),?_⟩
 wtm_at "zw"
 refine⟨a,ns,rfl,hS,fun wv H1 S1 wat1=>?_⟩
 wtm_at "zw"
 refine⟨a,ns,wv,worldM ns,8,rfl,S1.seq hS,wat1,qYw ns,fun r us nds H2 nr S2 er pn nok n1 n10=>?_⟩
 obtain⟨wp,bx,dx,lx,bv,gv,rfl,ewp1,L1⟩:=id wat1
 have pok:PlanOk (worldM ns) nds:=⟨by omega,by omega,fun n h=>(nok n h).few,fun n h=>(nok n h).leads,fun n h=>(nok n h).once,fun n h=>(nok n h).known⟩
 wtm_at "zw"
 refine⟨.ref wp,worldM ns,r,us,nds,rfl,⟨wp,bx,dx,lx,bv,gv,rfl,S2 _ _ ewp1,L1.same S2,gd.ok⟩,er,pn,pok,fun pl H3 hpl S3 epl=>?_⟩
 have S13:=S2.trans S3
 have ewp3:=S13 _ _ ewp1
 obtain⟨bu,ebx1,pb1⟩:=L1.boxes
 wtm_at "zw"
 refine⟨bx,(worldM ns).bs,bu,rfl,S13 _ _ ebx1,xY (qC S13) pb1,by omega,gd.ok.b25,fun ev es H4 nev S4 eev pev=>?_⟩
 have S14:=S13.trans S4
 have S04:=S1.trans S14
 have al:=gd.g.b40
 have ane:allV (worldM ns).bs≠[]:=qBg gd.ok.b25
 have apos:0<(allV (worldM ns).bs).length:=List.length_pos_iff.mpr ane
 have les:=pev.length
 wtm_at "zf"
 refine⟨xF (show 1≤1000000 by decide),fun l2 hl2=>?_⟩
 have Sl2:=qV hl2 (.lst [V.int 20])
 have el2:upd H4 l2 (.lst [V.int 20]) l2=some (.lst [V.int 20]):=qW
 generalize upd H4 l2 (.lst [V.int 20])=H5 at Sl2 el2
 wtm_at "zw"
 refine⟨a,_,rfl,(S04.trans Sl2).seq hS,fun sc hsc=>?_⟩
 obtain⟨ds,eds,lds⟩:=qUe ns (some 20) (some 30)
 rw[eds]
 have Ssc:=qV hsc (.lst (ds.map V.int))
 have esc:upd H5 sc (.lst (ds.map V.int)) sc=some (.lst (ds.map V.int)):=qW
 generalize upd H5 sc (.lst (ds.map V.int))=H6 at Ssc esc
 refine⟨l2,sc,_,_,rfl,rfl,Ssc _ _ el2,esc,xF (by rw[yYC];show 1+_≤_;omega),fun cl hcl=>?_⟩
 have Scl:=qV hcl (.lst ([V.int 20]++ds.map V.int))
 have ecl:upd H6 cl (.lst ([V.int 20]++ds.map V.int)) cl=some (.lst ([V.int 20]++ds.map V.int)):=qW
 generalize upd H6 cl (.lst ([V.int 20]++ds.map V.int))=H7 at Scl ecl
 have S47:=Sl2.trans (Ssc.trans Scl)
 have S17:=S14.trans S47
 have S07:=S1.trans S17
 have watT:=wat1.same S17
 have eplT:=S47 _ _ (S4 _ _ epl)
 have pnT:Paired (NdAt H7) nds us:=Paired.mapP pn fun _ _ y=>NdAt.same y (S3.trans (S4.trans S47))
 have eevT:=S47 _ _ eev
 have pevT:=xJ (qC S47) pev
 refine⟨cl,rfl,⟨_,SqL.of ecl⟩,?_⟩
 refine vY (xs:=[V.int 20]++ds.map V.int) (fun i σ' H'=>∃z4 z5 z6 z7:Option V,σ'=[some (.ref a),some (.ref wp),some (.ref pl),some (.ref ev),z4,z5,z6,z7]∧Same H7 H') ⟨none,none,none,none,rfl,.refl _⟩ (fun i σ' H' _ hP=>?_) (fun i v σ' H' ex hP=>?_) (fun σ' H' hP=>?_)
 ·obtain⟨_,_,_,_,rfl,S'⟩:=hP
  exact SqL.of (S' _ _ ecl)
 ·obtain⟨z4,z5,z6,z7,rfl,S'⟩:=hP
  obtain⟨c,rfl⟩:∃c:Int,v=.int c:=by
   rcases yYR.mp (yYE ex) with m | m
   ·exact⟨20,yYL.mp m⟩
   ·obtain⟨c,_,e⟩:=yYP.mp m;exact⟨c,e.symm⟩
  have wat':=watT.same S'
  have epl':=S' _ _ eplT
  have pn':Paired (NdAt H') nds us:=Paired.mapP pnT fun _ _ y=>NdAt.same y S'
  have eev':=S' _ _ eevT
  have pev':=xJ (qC S') pevT
  wtm_at "zw"
  refine⟨c,rfl,fun p H8 np S8 e8=>?_⟩
  have eev8:=S8 _ _ eev'
  wtm_at "zw"
  refine⟨p,stateM c,es.length,rfl,e8,by omega,big _ (by omega) (Int.lt_of_le_of_lt (b:=1000) (by omega) (by decide +kernel)),yZF _,fun HC BC eC=>?_⟩
  have t3:=xG (stateM c) (m:=es.length) (by omega)
  have nC:(takeS (stateM c) es.length).n≤1:=yZC 1
  generalize takeS (stateM c) es.length=sC at eC nC
  generalize takeV (stateM c) es.length=v3 at t3
  have nep:ev≠p:=qB eev' np
  have S0C:=zD S8 np BC
  have eevC:=BC _ _ nep eev8
  obtain⟨u3,eu3⟩:∃u,es[v3.toNat]? = some u:=⟨_,yYA (by omega)⟩
  obtain⟨row,erow⟩:∃b,(allV (worldM ns).bs)[v3.toNat]? = some b:=⟨_,yYA (by omega)⟩
  obtain⟨sta,rfl,esta⟩:=xK pev' erow eu3
  have a3:atI es v3=some (.ref sta):=by
   have:=zQ eu3
   rw[Int.toNat_of_nonneg t3.1] at this
   exact this
  have fit:=qKh (yYE erow)
  wtm_at "zf"
  refine⟨p,sC,13,rfl,eC,by decide,by decide +kernel,by omega,fun HD BD eD=>?_⟩
  have t4:=xG sC (m:=13) (by decide)
  have nD:(takeS sC 13).n≤2:=by show sC.n+1≤2;omega
  generalize takeS sC 13=sD at eD nD
  generalize takeV sC 13=v4 at t4
  have S0D:=zD S0C np BD
  wtm_at "zw"
  refine⟨v4,rfl,by omega,by omega,?_⟩
  refine qFq (n:=v4.toNat) (c:=2) (p:=p) (by omega) S0D np ⟨sD,eD,nD⟩ (fun i HX sX RX hi SX eX nX hRX=>?_) fun ch cs HE nch BE ech lcs=>?_
  ·wtm_at "zw"
   refine w_I (show CPow 10 9 from⟨by decide,by decide,by decide⟩) ?_
   wtm_at "zw"
   refine⟨xF (show 2≤1000000 by decide),fun tl htl=>?_⟩
   have Stl:=qV htl (.lst [V.int 3,V.int (10 ^ (9:Int).toNat)])
   have etl:upd HX tl (.lst [V.int 3,V.int (10 ^ (9:Int).toNat)]) tl=some (.lst [V.int 3,V.int (10 ^ (9:Int).toNat)]):=qW
   generalize upd HX tl (.lst [V.int 3,V.int (10 ^ (9:Int).toNat)])=HY at Stl etl
   have eY:St3 HY p sX:=Stl _ _ eX
   have ntp:tl≠p:=(qB (show HX p=some _ from eX) htl).symm
   wtm_at "zw"
   refine⟨p,sX,2,rfl,eY,by decide,by decide +kernel,by omega,fun HZ BZ eZ=>?_⟩
   have t5:=xG sX (m:=2) (by decide)
   have nZ:(takeS sX 2).n=sX.n+1:=rfl
   generalize takeS sX 2=sZ at eZ nZ
   generalize takeV sX 2=v5 at t5
   have etZ:=BZ _ _ ntp etl
   have ap:=qIv t5.1 t5.2
   have pb:=qIk v5
   wtm_at "zw"
   refine⟨p,sZ,pick23 v5,rfl,eZ,pb.1,pb.2,by omega,fun HW BW eW=>?_⟩
   exact hRX _ HW (takeS sZ (pick23 v5)) (fun b o nb e=>BW _ _ nb (BZ _ _ nb (Stl _ _ e))) eW (by show sZ.n+1≤_;omega)
  have S0E:=zD S0D np BE
  wtm_at "zw"
  refine⟨worldM ns,wp,pl,sta,ch,us,nds,row,cs,rfl,wat'.same S0E,gd,qDi ns,S0E _ _ epl',Paired.mapP pn' fun _ _ y=>NdAt.same y S0E,pok.nsOk,pok.few,by omega,n10,⟨S0E _ _ esta,fit⟩,ech,by omega,fun HF SF=>?_⟩
  wtm_at "zw"
  exact⟨_,_,_,_,rfl,S'.trans (S0E.trans SF)⟩
 ·obtain⟨z4,z5,z6,z7,rfl,S'⟩:=hP
  have S0':=S07.trans S'
  wtm_at "zw"
  refine⟨a,ns,rfl,S0'.seq hS,fun wv2 H8 S8 wat2=>?_⟩
  obtain⟨wp2,bx2,dx2,lx2,bv2,gv2,rfl,ewp2,L2⟩:=wat2
  have S18:=S17.trans (S'.trans S8)
  exact⟨7,wp,wp2,_,_,by decide,rfl,rfl,SqT.of (S18 _ _ ewp1),SqT.of ewp2,rfl,qFd (L1.same S18) L2,q _⟩

end
theorem len1 {C:List Value→Prop}(h:∀a0:Value,C [a0])(us:List Value)(e:us.length=1):C us:=by
 cases us with
 | nil=>cases e
 | cons a r=>
  cases r with
  | nil=>exact h a
  | cons _ _=>exact absurd (Nat.succ.inj e) (Nat.succ_ne_zero _)

theorem len2 {C:List Value→Prop}(h:∀a0 a1:Value,C [a0,a1])(us:List Value)(e:us.length=2):C us:=by
 cases us with
 | nil=>cases e
 | cons a r=>exact len1 (C:=fun r=>C (a::r)) (h a) r (Nat.succ.inj e)

theorem len3 {C:List Value→Prop}(h:∀a0 a1 a2:Value,C [a0,a1,a2])(us:List Value)(e:us.length=3):C us:=by
 cases us with
 | nil=>cases e
 | cons a r=>exact len2 (C:=fun r=>C (a::r)) (h a) r (Nat.succ.inj e)

theorem len4 {C:List Value→Prop}(h:∀a0 a1 a2 a3:Value,C [a0,a1,a2,a3])(us:List Value)(e:us.length=4):C us:=by
 cases us with
 | nil=>cases e
 | cons a r=>exact len3 (C:=fun r=>C (a::r)) (h a) r (Nat.succ.inj e)

def DefIn (K:yZO)(x:Str)(st:Stmt):Prop:=∃f fd,PySem.W.nsIn K mainGlobals x=some (some (.ref f))∧Fun K x x st f fd
theorem DefIn.mk {K:yZO}{x:Str}{st:Stmt}{f:Addr}{od an:Option Addr}{sl:Array (Option Value)}{oc kV dc pm cd ct:Value}(a:PySem.W.nsIn K mainGlobals x=some (some (.ref f)))(l:K.lookup f=some ⟨oc,od,.func (PySem.W.fnOf x x (xC st) (xB st) (xA st) .none kV dc pm an cd ct),sl⟩)(c:PySem.W.codeIn K cd x=true)(k:PySem.W.keepIn K (.ref f)=true):DefIn K x st:=⟨f,_,a,qNq l c k⟩
theorem DefIn.fd {K:yZO}{x:Str}{st:Stmt}{h:Heap}{mg:Str→Option Value}{ps:List Str}(d:DefIn K x st)(X:K.In h)(G:h.Ns mainGlobals mg)
  (b:∀(kV doc pm:Value) (an:Option Addr) (cdv ct:Value) (us:List Value),us.length=ps.length→bindArgs (PySem.W.fnOf x x (xC st) (xB st) (xA st) .none kV doc pm an cdv ct) ⟨us,[]⟩=pure (ps.zip us)):Fd K mg x st ps:=let ⟨f,fd,a,F⟩:=d;⟨f,fd,F,PySem.W.mg_of X G a,F.kp,F.binds b⟩
def MthIn (K:yZO)(C:Addr)(m q:Str)(st:Stmt):Prop:=∃f fd,PySem.W.findIn K (.ref C) m=some (some (.ref f))∧Fun K m q st f fd∧PySem.W.isFn K (.ref f)=true
theorem MthIn.mk {K:yZO}{C:Addr}{m q:Str}{st:Stmt}{f:Addr}{od an:Option Addr}{sl:Array (Option Value)}{oc kV dc pm cd ct:Value}(a:PySem.W.findIn K (.ref C) m=some (some (.ref f)))(l:K.lookup f=some ⟨oc,od,.func (PySem.W.fnOf m q (xC st) (xB st) (xA st) .none kV dc pm an cd ct),sl⟩)(c:PySem.W.codeIn K cd q=true)(k:PySem.W.keepIn K (.ref f)=true)(i:PySem.W.isFn K (.ref f)=true):MthIn K C m q st:=⟨f,_,a,qNq l c k,i⟩
section
variable {K:yZO}{C:Addr}{m q:Str}{st:Stmt}{h:Heap}{mg:Str→Option Value}{ps:List Str}
theorem MthIn.md (d:MthIn K C m q st)
  (b:∀(kV doc pm:Value) (an:Option Addr) (cdv ct:Value) (us:List Value),us.length=ps.length→bindArgs (PySem.W.fnOf m q (xC st) (xB st) (xA st) .none kV doc pm an cdv ct) ⟨us,[]⟩=pure (ps.zip us)):Md K C m q st ps:=let ⟨f,fd,a,F,i⟩:=d;⟨f,fd,F,⟨a,i,F.kp⟩,F.binds b⟩
theorem MthIn.mi {x:Str}(d:MthIn K C "__init__" q st)(X:K.In h)(G:h.Ns mainGlobals mg)(cf:PySem.W.makesIn K C=true)(cg:PySem.W.keepIn K (.ref C)=true)(ca:PySem.W.nsIn K mainGlobals x=some (some (.ref C)))
  (b:∀(kV doc pm:Value) (an:Option Addr) (cdv ct:Value) (us:List Value),us.length=ps.length→bindArgs (PySem.W.fnOf "__init__" q (xC st) (xB st) (xA st) .none kV doc pm an cdv ct) ⟨us,[]⟩=pure (ps.zip us)):Mi K mg x C q st ps:=let ⟨f,fd,a,F,i⟩:=d;⟨f,fd,F,⟨cf,a,i,cg⟩,PySem.W.mg_of X G ca,F.binds b⟩
end

theorem xVl {l:PySem.W.OpenLaw}{w:World}{K:yZO}{h:Heap}{mg:Str→Option Value}{fa f38:Addr}(X:K.In h)(G:h.Ns mainGlobals mg)(hfa:mg "law" = some (.ref fa))
  {od38 an38:Option Addr} {sl38:Array (Option Value)} {oc38 kV38 dc38 pm38 cd38 ct38:Value}
  (d0:DefIn K "_law_cell" (top 28))
  (d1:DefIn K "_law_stir" (top 29))
  (d2:DefIn K "_law_state" (top 30))
  (d3:DefIn K "_law_take" (top 31))
  (d4:DefIn K "plan_of" (top 17))
  (d5:DefIn K "run" (top 18))
  (d6:DefIn K "followers_of" (top 19))
  (d7:DefIn K "is_whole" (top 15))
  (d8:DefIn K "is_node_number" (top 20))
  (d9:DefIn K "refuse_followers" (top 21))
  (d10:DefIn K "refuse_forks" (top 22))
  (d11:DefIn K "thing_named_at" (top 24))
  (d12:DefIn K "refuse_name" (top 23))
  (d13:DefIn K "worth" (top 5))
  (d14:DefIn K "holds" (top 6))
  (d15:DefIn K "values_by_name" (top 7))
  (d16:DefIn K "worth_by" (top 8))
  (d17:DefIn K "holds_by" (top 9))
  (d18:DefIn K "named" (top 13))
  (d19:DefIn K "behind_way" (top 14))
  (d20:DefIn K "comes_of" (top 11))
  (d21:DefIn K "shown" (top 12))
  (d22:DefIn K "_law_expression" (top 32))
  (d23:DefIn K "_law_condition" (top 33))
  (d24:DefIn K "_law_deed" (top 34))
  (d25:DefIn K "_law_words" (top 35))
  (d26:DefIn K "_law_world" (top 36))
  (d27:DefIn K "_law_standings" (top 37))
  (d28:DefIn K "_law_worth" (top 38))
  (d29:DefIn K "_law_holds" (top 39))
  (d30:DefIn K "_law_comes" (top 40))
  (d31:DefIn K "_law_shown" (top 41))
  (d32:DefIn K "_law_let" (top 42))
  (d33:DefIn K "_law_node" (top 44))
  (d34:DefIn K "_law_plan" (top 45))
  (d35:DefIn K "_law_played" (top 46))
  (d36:DefIn K "_law_many" (top 47))
  (d37:DefIn K "_law_pieces" (top 48))
  (a38:PySem.W.nsIn K mainGlobals "law" = some (some (.ref f38))) (l38:K.lookup f38=some ⟨oc38,od38,.func (PySem.W.fnOf "law" "law" (xC (top 49)) (xB (top 49)) (xA (top 49)) .none kV38 dc38 pm38 an38 cd38 ct38),sl38⟩) (c38:PySem.W.codeIn K cd38 "law" = true) (k38:PySem.W.keepIn K (.ref f38)=true)
  {C_Course:Addr} (ca_Course:PySem.W.nsIn K mainGlobals "Course" = some (some (.ref C_Course))) (cb_Course:PySem.W.plainGet K C_Course Str.empty=true) (cc_Course:PySem.W.hasDictIn K C_Course=true) (cd_Course:PySem.W.plainOver K C_Course=true) (ce_Course:PySem.W.findIn K (.ref C_Course) "__setattr__" = some (some (.builtin "object.__setattr__"))) (cf_Course:PySem.W.makesIn K C_Course=true) (cg_Course:PySem.W.keepIn K (.ref C_Course)=true)
  (n_Course_world:PySem.W.findIn K (.ref C_Course) "world" = some none)
  (n_Course_nodes:PySem.W.findIn K (.ref C_Course) "nodes" = some none)
  (n_Course_forks:PySem.W.findIn K (.ref C_Course) "forks" = some none)
  (n_Course_goals:PySem.W.findIn K (.ref C_Course) "goals" = some none)
  (n_Course_needs:PySem.W.findIn K (.ref C_Course) "needs" = some none)
  (n_Course_comings:PySem.W.findIn K (.ref C_Course) "comings" = some none)
  (n_Course_showings:PySem.W.findIn K (.ref C_Course) "showings" = some none)
  {C_Player:Addr} (ca_Player:PySem.W.nsIn K mainGlobals "Player" = some (some (.ref C_Player))) (cb_Player:PySem.W.plainGet K C_Player Str.empty=true) (cc_Player:PySem.W.hasDictIn K C_Player=true) (cd_Player:PySem.W.plainOver K C_Player=true) (ce_Player:PySem.W.findIn K (.ref C_Player) "__setattr__" = some (some (.builtin "object.__setattr__"))) (cf_Player:PySem.W.makesIn K C_Player=true) (cg_Player:PySem.W.keepIn K (.ref C_Player)=true)
  (n_Player_course:PySem.W.findIn K (.ref C_Player) "course" = some none)
  (n_Player_standing:PySem.W.findIn K (.ref C_Player) "standing" = some none)
  (n_Player_choices:PySem.W.findIn K (.ref C_Player) "choices" = some none)
  (n_Player_steps:PySem.W.findIn K (.ref C_Player) "steps" = some none)
  (n_Player_number:PySem.W.findIn K (.ref C_Player) "number" = some none)
  (n_Player_deeds_done:PySem.W.findIn K (.ref C_Player) "deeds_done" = some none)
  (n_Player_looked:PySem.W.findIn K (.ref C_Player) "looked" = some none)
  (d_Course_init:MthIn K C_Course "__init__" "Course.__init__" (mth 25 0))
  (d_Course_goal_holds:MthIn K C_Course "goal_holds" "Course.goal_holds" (mth 25 1))
  (d_Course_need_holds:MthIn K C_Course "need_holds" "Course.need_holds" (mth 25 2))
  (d_Course_comes:MthIn K C_Course "comes" "Course.comes" (mth 25 3))
  (d_Course_shows:MthIn K C_Course "shows" "Course.shows" (mth 25 4))
  (d_Player_init:MthIn K C_Player "__init__" "Player.__init__" (mth 26 0))
  (d_Player_go_on:MthIn K C_Player "go_on" "Player.go_on" (mth 26 1))
  (d_Player_do_deed:MthIn K C_Player "do_deed" "Player.do_deed" (mth 26 2))
  (d_Player_do_look:MthIn K C_Player "do_look" "Player.do_look" (mth 26 3))
  (z_len:PySem.W.nsIn K mainGlobals "len" = some none)
  (z_range:PySem.W.nsIn K mainGlobals "range" = some none)
  (z_min:PySem.W.nsIn K mainGlobals "min" = some none)
  (z_isinstance:PySem.W.nsIn K mainGlobals "isinstance" = some none)
  (z_list:PySem.W.nsIn K mainGlobals "list" = some none)
  (z_reversed:PySem.W.nsIn K mainGlobals "reversed" = some none)
  (z_tuple:PySem.W.nsIn K mainGlobals "tuple" = some none)
  (z_int:PySem.W.nsIn K mainGlobals "int" = some none)
  (z_bool:PySem.W.nsIn K mainGlobals "bool" = some none)
  (z_dict:PySem.W.nsIn K mainGlobals "dict" = some none)
  (z_zip:PySem.W.nsIn K mainGlobals "zip" = some none)
  (z_set:PySem.W.nsIn K mainGlobals "set" = some none)
  (z_sorted:PySem.W.nsIn K mainGlobals "sorted" = some none)
  (z_enumerate:PySem.W.nsIn K mainGlobals "enumerate" = some none):
  ∃fd:FuncData,(∀(s:Shared) (v:Value),BindsTo s fd ⟨[v],[]⟩ [("script",v)])∧∀base:Heap,K.In base→base.Ns mainGlobals mg→FnOk l.prog w K mg base CX0 60 fa fd ["script"] (spLaw K):=by
 have e:=hfa.symm.trans (PySem.W.mg_of X G a38)
 cases e
 have FD_law_cell:=d0.fd (ps:=["script","k"]) X G fun _ _ _ _ _ _=>len2 (fun _ _=>rfl)
 have FD_law_stir:=d1.fd (ps:=["cell","k"]) X G fun _ _ _ _ _ _=>len2 (fun _ _=>rfl)
 have FD_law_state:=d2.fd (ps:=["cell"]) X G fun _ _ _ _ _ _=>len1 (fun _=>rfl)
 have FD_law_take:=d3.fd (ps:=["state","many"]) X G fun _ _ _ _ _ _=>len2 (fun _ _=>rfl)
 have FD_plan_of:=d4.fd (ps:=["world","nodes"]) X G fun _ _ _ _ _ _=>len2 (fun _ _=>rfl)
 have FD_run:=d5.fd (ps:=["world","plan","standing","choices"]) X G fun _ _ _ _ _ _=>len4 (fun _ _ _ _=>rfl)
 have FD_followers_of:=d6.fd (ps:=["node"]) X G fun _ _ _ _ _ _=>len1 (fun _=>rfl)
 have FD_is_whole:=d7.fd (ps:=["thing"]) X G fun _ _ _ _ _ _=>len1 (fun _=>rfl)
 have FD_is_node_number:=d8.fd (ps:=["number","size"]) X G fun _ _ _ _ _ _=>len2 (fun _ _=>rfl)
 have FD_refuse_followers:=d9.fd (ps:=["node","size"]) X G fun _ _ _ _ _ _=>len2 (fun _ _=>rfl)
 have FD_refuse_forks:=d10.fd (ps:=["node"]) X G fun _ _ _ _ _ _=>len1 (fun _=>rfl)
 have FD_thing_named_at:=d11.fd (ps:=["world","node"]) X G fun _ _ _ _ _ _=>len2 (fun _ _=>rfl)
 have FD_refuse_name:=d12.fd (ps:=["world","node"]) X G fun _ _ _ _ _ _=>len2 (fun _ _=>rfl)
 have FD_worth:=d13.fd (ps:=["expression","boxes","standing"]) X G fun _ _ _ _ _ _=>len3 (fun _ _ _=>rfl)
 obtain⟨f13,fd13,a13,F13⟩:=d13
 have E13:FunE K mg "worth" f13 _ ["expression","boxes","standing"]:=⟨PySem.W.mg_of X G a13,F13.kp,F13.binds (ps:=["expression","boxes","standing"]) fun _ _ _ _ _ _=>len3 (fun _ _ _=>rfl)⟩
 have FD_holds:=d14.fd (ps:=["condition","boxes","standing"]) X G fun _ _ _ _ _ _=>len3 (fun _ _ _=>rfl)
 have FD_values_by_name:=d15.fd (ps:=["boxes","standing"]) X G fun _ _ _ _ _ _=>len2 (fun _ _=>rfl)
 obtain⟨f15,fd15,a15,F15⟩:=d15
 have E15:FunE K mg "values_by_name" f15 _ ["boxes","standing"]:=⟨PySem.W.mg_of X G a15,F15.kp,F15.binds (ps:=["boxes","standing"]) fun _ _ _ _ _ _=>len2 (fun _ _=>rfl)⟩
 have FD_worth_by:=d16.fd (ps:=["expression","values"]) X G fun _ _ _ _ _ _=>len2 (fun _ _=>rfl)
 obtain⟨f16,fd16,a16,F16⟩:=d16
 have E16:FunE K mg "worth_by" f16 _ ["expression","values"]:=⟨PySem.W.mg_of X G a16,F16.kp,F16.binds (ps:=["expression","values"]) fun _ _ _ _ _ _=>len2 (fun _ _=>rfl)⟩
 have FD_holds_by:=d17.fd (ps:=["condition","values"]) X G fun _ _ _ _ _ _=>len2 (fun _ _=>rfl)
 have FD_named:=d18.fd (ps:=["things","name","kind"]) X G fun _ _ _ _ _ _=>len3 (fun _ _ _=>rfl)
 have FD_behind_way:=d19.fd (ps:=["boxes","way","standing"]) X G fun _ _ _ _ _ _=>len3 (fun _ _ _=>rfl)
 have FD_comes_of:=d20.fd (ps:=["world","name","standing"]) X G fun _ _ _ _ _ _=>len3 (fun _ _ _=>rfl)
 have FD_shown:=d21.fd (ps:=["world","name","standing"]) X G fun _ _ _ _ _ _=>len3 (fun _ _ _=>rfl)
 have FD_law_expression:=d22.fd (ps:=["state","boxes","deep"]) X G fun _ _ _ _ _ _=>len3 (fun _ _ _=>rfl)
 have FD_law_condition:=d23.fd (ps:=["state","boxes","deep"]) X G fun _ _ _ _ _ _=>len3 (fun _ _ _=>rfl)
 have FD_law_deed:=d24.fd (ps:=["cell","name","boxes"]) X G fun _ _ _ _ _ _=>len3 (fun _ _ _=>rfl)
 have FD_law_words:=d25.fd (ps:=["state","many"]) X G fun _ _ _ _ _ _=>len2 (fun _ _=>rfl)
 have FD_law_world:=d26.fd (ps:=["script"]) X G fun _ _ _ _ _ _=>len1 (fun _=>rfl)
 have FD_law_standings:=d27.fd (ps:=["boxes"]) X G fun _ _ _ _ _ _=>len1 (fun _=>rfl)
 have FD_law_worth:=d28.fd (ps:=["e","boxes","standing"]) X G fun _ _ _ _ _ _=>len3 (fun _ _ _=>rfl)
 have FD_law_holds:=d29.fd (ps:=["c","boxes","standing"]) X G fun _ _ _ _ _ _=>len3 (fun _ _ _=>rfl)
 have FD_law_comes:=d30.fd (ps:=["world","name","standing"]) X G fun _ _ _ _ _ _=>len3 (fun _ _ _=>rfl)
 have FD_law_shown:=d31.fd (ps:=["world","name","standing"]) X G fun _ _ _ _ _ _=>len3 (fun _ _ _=>rfl)
 have FD_law_let:=d32.fd (ps:=["world","name","standing"]) X G fun _ _ _ _ _ _=>len3 (fun _ _ _=>rfl)
 have FD_law_node:=d33.fd (ps:=["state","world","many","k"]) X G fun _ _ _ _ _ _=>len4 (fun _ _ _ _=>rfl)
 have FD_law_plan:=d34.fd (ps:=["script","world","first"]) X G fun _ _ _ _ _ _=>len3 (fun _ _ _=>rfl)
 have FD_law_played:=d35.fd (ps:=["world","standing","steps"]) X G fun _ _ _ _ _ _=>len3 (fun _ _ _=>rfl)
 have FD_law_many:=d36.fd (ps:=["world","name"]) X G fun _ _ _ _ _ _=>len2 (fun _ _=>rfl)
 have FD_law_pieces:=d37.fd (ps:=["world","plan","standing","choices"]) X G fun _ _ _ _ _ _=>len4 (fun _ _ _ _=>rfl)
 have F38:=qNq (st:=top 49) l38 c38 k38
 have CL_Course:Cls K C_Course:=⟨cb_Course,cc_Course,cd_Course,ce_Course⟩
 have KD_Course:Kind K C_Course jG:=⟨CL_Course,fun f hf=>by
  simp only[jG,yYK,List.not_mem_nil,or_false] at hf
  rcases hf with rfl | rfl | rfl | rfl | rfl | rfl | rfl
  ·exact n_Course_world
  ·exact n_Course_nodes
  ·exact n_Course_forks
  ·exact n_Course_goals
  ·exact n_Course_needs
  ·exact n_Course_comings
  ·exact n_Course_showings⟩
 have CL_Player:Cls K C_Player:=⟨cb_Player,cc_Player,cd_Player,ce_Player⟩
 have KD_Player:Kind K C_Player jR:=⟨CL_Player,fun f hf=>by
  simp only[jR,yYK,List.not_mem_nil,or_false] at hf
  rcases hf with rfl | rfl | rfl | rfl | rfl | rfl | rfl
  ·exact n_Player_course
  ·exact n_Player_standing
  ·exact n_Player_choices
  ·exact n_Player_steps
  ·exact n_Player_number
  ·exact n_Player_deeds_done
  ·exact n_Player_looked⟩
 have MI_Course:=d_Course_init.mi (ps:=["self","world","plan"]) X G cf_Course cg_Course ca_Course fun _ _ _ _ _ _=>len3 (fun _ _ _=>rfl)
 have MD_Course_goal_holds:=d_Course_goal_holds.md (ps:=["self","standing"]) fun _ _ _ _ _ _=>len2 (fun _ _=>rfl)
 have MD_Course_need_holds:=d_Course_need_holds.md (ps:=["self","name","standing"]) fun _ _ _ _ _ _=>len3 (fun _ _ _=>rfl)
 have MD_Course_comes:=d_Course_comes.md (ps:=["self","name","standing"]) fun _ _ _ _ _ _=>len3 (fun _ _ _=>rfl)
 have MD_Course_shows:=d_Course_shows.md (ps:=["self","name","standing"]) fun _ _ _ _ _ _=>len3 (fun _ _ _=>rfl)
 have MI_Player:=d_Player_init.mi (ps:=["self","course","standing","choices"]) X G cf_Player cg_Player ca_Player fun _ _ _ _ _ _=>len4 (fun _ _ _ _=>rfl)
 have MD_Player_go_on:=d_Player_go_on.md (ps:=["self"]) fun _ _ _ _ _ _=>len1 (fun _=>rfl)
 have MD_Player_do_deed:=d_Player_do_deed.md (ps:=["self","name","follower"]) fun _ _ _ _ _ _=>len3 (fun _ _ _=>rfl)
 have MD_Player_do_look:=d_Player_do_look.md (ps:=["self","name"]) fun _ _ _ _ _ _=>len2 (fun _ _=>rfl)
 have B:Bl mg:=⟨PySem.W.mg_none_of X G z_len,PySem.W.mg_none_of X G z_range,PySem.W.mg_none_of X G z_min,PySem.W.mg_none_of X G z_isinstance,PySem.W.mg_none_of X G z_list,PySem.W.mg_none_of X G z_reversed,PySem.W.mg_none_of X G z_tuple,PySem.W.mg_none_of X G z_int,PySem.W.mg_none_of X G z_bool,PySem.W.mg_none_of X G z_dict,PySem.W.mg_none_of X G z_zip⟩
 have B_set:mg "set" = none:=PySem.W.mg_none_of X G z_set
 have B_sorted:mg "sorted" = none:=PySem.W.mg_none_of X G z_sorted
 have B_enumerate:mg "enumerate" = none:=PySem.W.mg_none_of X G z_enumerate
 refine⟨PySem.W.fnOf "law" "law" (xC (top 49)) (xB (top 49)) (xA (top 49)) .none kV38 dc38 pm38 an38 cd38 ct38,fun s v=>.of_eq rfl,fun base YK _=>?_⟩
 have D_values:=Dn.mk (x := "values_by_name") ⟨_,_,qVh (P:=l.prog) (w:=w) (base:=base) F15 B,E15.mg,E15.kp,E15.bd⟩
 have GW:=qXd (P:=l.prog) (w:=w) (base:=base) F16 E16 12
 have D_wb:=Dn.mk (x := "worth_by") ⟨_,_,GW,E16.mg,E16.kp,E16.bd⟩
 have D_holds:=qTn FD_holds (qZk FD_holds_by D_wb 12) D_values
 have D_worth:=Dn.mk (x := "worth") ⟨_,_,qSv F13 GW E16 ((qVh F15 B).mono (by decide)) E15,E13.mg,E13.kp,E13.bd⟩
 have D_named:=qTl (P:=l.prog) (w:=w) (K:=K) (mg:=mg) (base:=base) FD_named
 have D_comes:=qUj FD_comes_of D_named (qNo FD_behind_way B D_values D_wb)
 have M_goal:=xJh MD_Course_goal_holds D_holds
 have M_need:=xJg MD_Course_need_holds D_holds D_named
 have M_shows:=qUk MD_Course_shows (qTi FD_shown D_named D_worth)
 have M_comes:=qUw MD_Course_comes D_comes
 have M_look:=qFj CL_Course MD_Player_do_look M_shows
 have M_deed:=qFk CL_Course B MD_Player_do_deed M_need M_comes
 have M_go:=qUv CL_Course CL_Player MD_Player_go_on M_goal M_deed M_look
 have D_run:=xVd FD_run KD_Course KD_Player CL_Player (qOx MI_Course B) (qOq MI_Player) M_go
 have D_stir:=xJx (P:=l.prog) (w:=w) (K:=K) (mg:=mg) (base:=base) FD_law_stir
 have D_take:=xJq FD_law_take D_stir
 have D_refF:=xJv FD_refuse_followers (qNn (P:=l.prog) (w:=w) (K:=K) (mg:=mg) (base:=base) FD_followers_of) (qNf FD_is_node_number (qTf (P:=l.prog) (w:=w) (K:=K) (mg:=mg) (base:=base) FD_is_whole B))
 have D_plan:=xJw FD_plan_of B D_refF (xJk (P:=l.prog) (w:=w) (K:=K) (mg:=mg) (base:=base) FD_refuse_forks B) (xJj FD_refuse_name (qTg FD_thing_named_at D_named))
 have D_cell:=xJf (P:=l.prog) (w:=w) (K:=K) (mg:=mg) (base:=base) FD_law_cell B
 have D_state:=qTh (P:=l.prog) (w:=w) (K:=K) (mg:=mg) (base:=base) FD_law_state
 have D_expr:=xJc FD_law_expression B D_take 3
 have D_cond:=xJe FD_law_condition B D_take D_expr 3
 have D_words:=qTe FD_law_words B D_take
 have D_deed:=xJd FD_law_deed B D_state D_take D_expr D_cond
 have D_stand:=qNg (P:=l.prog) (w:=w) (K:=K) (mg:=mg) (base:=base) FD_law_standings B
 have D_lw:=qTc (P:=l.prog) (w:=w) (K:=K) (mg:=mg) (base:=base) FD_law_worth B 8
 have D_lh:=qFz FD_law_holds B D_lw 8
 have D_world:=qTd FD_law_world B D_cell D_state D_take D_words D_deed D_expr D_cond D_stand D_lh
 have D_node:=xJa FD_law_node B B_set B_sorted D_take D_stand (qNh FD_law_shown D_lw)
 have D_lplan:=qTm FD_law_plan B D_cell D_state D_take D_node
 have D_pl:=qNd FD_law_played B (qNi FD_law_comes B D_lw) (xVe FD_law_let D_lh) (xJz FD_law_shown D_lw)
 have D_many:=xJb (P:=l.prog) (w:=w) (K:=K) (mg:=mg) (base:=base) FD_law_many B
 have D_pc:=qNe FD_law_pieces B B_enumerate D_pl D_many D_run
 exact xKi F38 B D_world D_lplan D_stand D_state D_take D_plan D_pc
theorem walk {l:PySem.W.OpenLaw}{q:Program}{loose:List Str}{XP:(Str→Option Value)→Heap→Prop}{YP:World→Heap→Prop}{d:DefRec}{K:Params→yZO}(hn:l.most=some 63)(hdf:d.params.defaults=[])
  (hY:∀(w:World) (h:Heap),YP w h→(K w.params).In h)
  (F:∀(w:World) (mg:Str→Option Value) (fa:Addr) (h:Heap),(K w.params).In h→h.Ns mainGlobals mg→mg d.name=some (.ref fa)→
   ∃fd:FuncData,(∀(s:Shared) (u:Value),BindsTo s fd ⟨[u],[]⟩ [("script",u)])∧∀base:Heap,(K w.params).In base→base.Ns mainGlobals mg→FnOk l.prog w (K w.params) mg base CX0 60 fa fd ["script"] (spLaw (K w.params))):
  PySem.W.WalkO q loose XP YP l.row.toRowW d [] (fun f vs=>PySem.call f vs):=
 L2.xQe (n:=63) (k:=60) (x := "script") (CX:=fun _=>CX0) (sp:=fun w=>spLaw (K w.params)) hn (by decide) hdf ⟨rfl,by decide,by decide⟩ hY F (fun _ _ a ns hl _ hS=>⟨a,ns,rfl,hS,hl,fun _=>rfl⟩) fun _ _ _ _ _ z=>z
end FP
open PySem PySem.W PyProof.Rows
set_option maxRecDepth 100000 in
set_option maxHeartbeats 0 in
theorem PySem.Challenge.cw_forkplan_k23_whole_runs_go_on_holds : PySem.Challenge.rw_forkplan_k23_whole_runs_go_on.Holds := by
 w_on
 refine PySem.W.holds_law FP.saidW fun said=>?_
 refine PySem.W.holds_open (q:=FP.qQg) (loose:=[]) (N:=5768) (YP:=InK FP.qWn) (XP:=XL FP.qQg [])
  (Xt:=fun s=>xlAt FP.qQg [] s && recOk (RowW.records (OpenRow.toRowW (PySem.W.OpenLaw.row PySem.Challenge.rw_forkplan_k23_whole_runs_go_on))) s)
  (Yf:=Hook.obs FP.wC) (Ya:=Hook.val FP.wC) FP.xXx
  (Hook.of FP.wC) (Hook.keeps FP.wC) (fun s e=>xl_of s (Bool.and_eq_true_iff.mp e).1)
  XL.keeps (by rfl) (by rfl) (by rfl) (fun s e=>recFacts_of (Bool.and_eq_true_iff.mp e).2)
  (by rfl) (by first | assumption | decide +kernel) (by decide +kernel)
  ⟨rfl,rfl,rfl,rfl,rfl,by decide +kernel⟩ ?hw ?hc
 case hw=>w_witness2
 k_fill
 refine FP.walk (l:=PySem.Challenge.rw_forkplan_k23_whole_runs_go_on) (K:=FP.qWn) rfl rfl (fun w h Y=>Y) ?F
 case F=>
  intro w mg fa h KX G hmg
  refine' FP.xVl KX G hmg ?d0 ?d1 ?d2 ?d3 ?d4 ?d5 ?d6 ?d7 ?d8 ?d9 ?d10 ?d11 ?d12 ?d13 ?d14 ?d15 ?d16 ?d17 ?d18 ?d19 ?d20 ?d21 ?d22 ?d23 ?d24 ?d25 ?d26 ?d27 ?d28 ?d29 ?d30 ?d31 ?d32 ?d33 ?d34 ?d35 ?d36 ?d37 ?a38 ?l38 ?c38 ?k38 ?ca_Course ?cb_Course ?cc_Course ?cd_Course ?ce_Course ?cf_Course ?cg_Course ?n_Course_world ?n_Course_nodes ?n_Course_forks ?n_Course_goals ?n_Course_needs ?n_Course_comings ?n_Course_showings ?ca_Player ?cb_Player ?cc_Player ?cd_Player ?ce_Player ?cf_Player ?cg_Player ?n_Player_course ?n_Player_standing ?n_Player_choices ?n_Player_steps ?n_Player_number ?n_Player_deeds_done ?n_Player_looked ?d_Course_init ?d_Course_goal_holds ?d_Course_need_holds ?d_Course_comes ?d_Course_shows ?d_Player_init ?d_Player_go_on ?d_Player_do_deed ?d_Player_do_look ?z_len ?z_range ?z_min ?z_isinstance ?z_list ?z_reversed ?z_tuple ?z_int ?z_bool ?z_dict ?z_zip ?z_set ?z_sorted ?z_enumerate
  (case d0=>apply FP.DefIn.mk <;> k_is)
  (case d1=>apply FP.DefIn.mk <;> k_is)
  (case d2=>apply FP.DefIn.mk <;> k_is)
  (case d3=>apply FP.DefIn.mk <;> k_is)
  (case d4=>apply FP.DefIn.mk <;> k_is)
  (case d5=>apply FP.DefIn.mk <;> k_is)
  (case d6=>apply FP.DefIn.mk <;> k_is)
  (case d7=>apply FP.DefIn.mk <;> k_is)
  (case d8=>apply FP.DefIn.mk <;> k_is)
  (case d9=>apply FP.DefIn.mk <;> k_is)
  (case d10=>apply FP.DefIn.mk <;> k_is)
  (case d11=>apply FP.DefIn.mk <;> k_is)
  (case d12=>apply FP.DefIn.mk <;> k_is)
  (case d13=>apply FP.DefIn.mk <;> k_is)
  (case d14=>apply FP.DefIn.mk <;> k_is)
  (case d15=>apply FP.DefIn.mk <;> k_is)
  (case d16=>apply FP.DefIn.mk <;> k_is)
  (case d17=>apply FP.DefIn.mk <;> k_is)
  (case d18=>apply FP.DefIn.mk <;> k_is)
  (case d19=>apply FP.DefIn.mk <;> k_is)
  (case d20=>apply FP.DefIn.mk <;> k_is)
  (case d21=>apply FP.DefIn.mk <;> k_is)
  (case d22=>apply FP.DefIn.mk <;> k_is)
  (case d23=>apply FP.DefIn.mk <;> k_is)
  (case d24=>apply FP.DefIn.mk <;> k_is)
  (case d25=>apply FP.DefIn.mk <;> k_is)
  (case d26=>apply FP.DefIn.mk <;> k_is)
  (case d27=>apply FP.DefIn.mk <;> k_is)
  (case d28=>apply FP.DefIn.mk <;> k_is)
  (case d29=>apply FP.DefIn.mk <;> k_is)
  (case d30=>apply FP.DefIn.mk <;> k_is)
  (case d31=>apply FP.DefIn.mk <;> k_is)
  (case d32=>apply FP.DefIn.mk <;> k_is)
  (case d33=>apply FP.DefIn.mk <;> k_is)
  (case d34=>apply FP.DefIn.mk <;> k_is)
  (case d35=>apply FP.DefIn.mk <;> k_is)
  (case d36=>apply FP.DefIn.mk <;> k_is)
  (case d37=>apply FP.DefIn.mk <;> k_is)
  (case a38=>k_is);(case l38=>k_is);(case c38=>k_is);(case k38=>k_is)
  (case ca_Course=>first | k_is | rfl | decide)
  (case cb_Course=>first | k_is | rfl | decide)
  (case cc_Course=>first | k_is | rfl | decide)
  (case cd_Course=>first | k_is | rfl | decide)
  (case ce_Course=>first | k_is | rfl | decide)
  (case cf_Course=>first | k_is | rfl | decide)
  (case cg_Course=>first | k_is | rfl | decide)
  (case n_Course_world=>first | k_is | rfl | decide)
  (case n_Course_nodes=>first | k_is | rfl | decide)
  (case n_Course_forks=>first | k_is | rfl | decide)
  (case n_Course_goals=>first | k_is | rfl | decide)
  (case n_Course_needs=>first | k_is | rfl | decide)
  (case n_Course_comings=>first | k_is | rfl | decide)
  (case n_Course_showings=>first | k_is | rfl | decide)
  (case ca_Player=>first | k_is | rfl | decide)
  (case cb_Player=>first | k_is | rfl | decide)
  (case cc_Player=>first | k_is | rfl | decide)
  (case cd_Player=>first | k_is | rfl | decide)
  (case ce_Player=>first | k_is | rfl | decide)
  (case cf_Player=>first | k_is | rfl | decide)
  (case cg_Player=>first | k_is | rfl | decide)
  (case n_Player_course=>first | k_is | rfl | decide)
  (case n_Player_standing=>first | k_is | rfl | decide)
  (case n_Player_choices=>first | k_is | rfl | decide)
  (case n_Player_steps=>first | k_is | rfl | decide)
  (case n_Player_number=>first | k_is | rfl | decide)
  (case n_Player_deeds_done=>first | k_is | rfl | decide)
  (case n_Player_looked=>first | k_is | rfl | decide)
  (case d_Course_init=>apply FP.MthIn.mk <;> first | k_is | rfl | decide)
  (case d_Course_goal_holds=>apply FP.MthIn.mk <;> first | k_is | rfl | decide)
  (case d_Course_need_holds=>apply FP.MthIn.mk <;> first | k_is | rfl | decide)
  (case d_Course_comes=>apply FP.MthIn.mk <;> first | k_is | rfl | decide)
  (case d_Course_shows=>apply FP.MthIn.mk <;> first | k_is | rfl | decide)
  (case d_Player_init=>apply FP.MthIn.mk <;> first | k_is | rfl | decide)
  (case d_Player_go_on=>apply FP.MthIn.mk <;> first | k_is | rfl | decide)
  (case d_Player_do_deed=>apply FP.MthIn.mk <;> first | k_is | rfl | decide)
  (case d_Player_do_look=>apply FP.MthIn.mk <;> first | k_is | rfl | decide)
  (case z_len=>k_is);(case z_range=>k_is);(case z_min=>k_is);(case z_isinstance=>k_is);(case z_list=>k_is);(case z_reversed=>k_is);(case z_tuple=>k_is);(case z_int=>k_is);(case z_bool=>k_is);(case z_dict=>k_is);(case z_zip=>k_is);(case z_set=>k_is);(case z_sorted=>k_is);(case z_enumerate=>k_is)
