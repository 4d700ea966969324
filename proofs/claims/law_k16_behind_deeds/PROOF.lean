import PyProof.Rows.All
import Wide.All
import OpenK.AllK
import Wide.FinOn
import Lean
import PyProof.EqAt
import PyProof.EqKinds
import PyProof.TupleCall
import PyProof.NeKinds
import KE.KRevIter
import PyProof.AttrMissHeap
import PyProof.ZipIter
import PyProof.DictList
import KE.KItemsList
import KE.KDictOf
import PyProof.Rows.SetFrom
import PyProof.ConsumeWalk
import PyProof.EnumFor
import PyProof.EnumMake
import PyProof.EnumStmt
import KE.KSortTup
import KE.KDictLaws
import PySem.Challenge.RW_forkplan_k16_behind_deeds
set_option maxHeartbeats 4000000
set_option Elab.async false
set_option linter.all false
set_option maxRecDepth 100000
open List renaming getElem?_eq_getElem → yYA, getElem?_eq_some_iff → yYB, length_map → yYC, size_toArray → yYD, mem_of_getElem? → yYE, length_take → yYF, mem_cons_self → yYG, mem_cons_of_mem → yYH, length_append → yYI, take_length → yYJ, mem_cons → yYK, mem_singleton → yYL, take_add_one → yYM, mem_append_right → yYN, getElem?_map → yYO, mem_map → yYP, append_assoc → yYQ, mem_filter → yYR, mem_append → yYS, length_cons → yYT, length_nil → yYU, map_append → yYV
open PySem renaming wpAny_bind → yYW, wpAny_pure → yYX
open PySem.Heap renaming get?_push_of_some → yYY, lt_size → yYZ, get?_push_size → yZA, size_push → yZB
open Nat renaming le_refl → yZC, lt_of_lt_of_le → yZD, ne_of_lt → yZE, zero_le → yZF, ne_of_gt → yZG, lt_of_le_of_lt → yZH, le_trans → yZI
open Bool renaming false_eq_true → yZJ, false_ne_true → yZK
open Array renaming length_toList → yZL, getElem?_toList → yZM
open Option renaming map_some → yZN
open PySem.W renaming Frag → yZO
noncomputable section
namespace L2
open PySem
def xC (s:Stmt):Arguments:=match s with
 | .FunctionDef _ a _ _ _ _ _ _ _ _=>a
 | _=>{ posonlyargs:=[],args:=[],vararg:=none,kwonlyargs:=[],kw_defaults:=[],kwarg:=none,defaults:=[] }
def xB (s:Stmt):List Stmt:=match s with
 | .FunctionDef _ _ b _ _ _ _ _ _ _=>b
 | _=>[]
def xA (s:Stmt):Scope:=match s with
 | .FunctionDef _ _ _ _ _ _ sc _ _ _=>sc
 | _=>{ kind:=.function,names:=[],isGenerator:=false,isCoroutine:=false }
end L2
namespace FP
open PySem
def top (i:Nat):Stmt:=PySem.Challenge.pw_forkplan_k16_behind_deeds.main.body.getD i (.Pass ⟨0,0,0,0⟩)
abbrev oF (x:String)(i:Nat)(m:String)(n c:Nat):Obj:=Obj.mk (.type "function") none (Data.func (PySem.W.fnOf (Str.ofString x) (Str.ofString x) (L2.xC (top i)) (L2.xB (top i)) (L2.xA (top i)) .none .none .none (.str (Str.ofString m) n) none (.ref c) .none)) #[]
abbrev oG (x:String)(i:Nat):Obj:=Obj.mk .none none (Data.func { PySem.W.fnOf (Str.ofString x) (Str.ofString x) (L2.xC (top i)) (L2.xB (top i)) (L2.xA (top i)) .none .none .none .none none .none .none with globals:=0 }) #[]
abbrev oE (P:Params)(k:String)(n:Nat)(v:Value):DictEntry:=DictEntry.mk (PyData.keyHash P (Str.ofString k)) (.str (Str.ofString k) n) v
abbrev oS (x:String)(n:Nat):Value:=.str (Str.ofString x) n
abbrev oR (n:Nat):Value:=.ref n
abbrev oI (n:Int):Value:=.int n 0
abbrev oN:Obj:=Obj.mk .none none (Data.fields #[]) #[]
abbrev oT (x:Array Value):Obj:=Obj.mk (.type "tuple") none (Data.seq x 0) #[]
abbrev oC (x:Array Value):Obj:=Obj.mk (.type "code") none (Data.fields x) #[]
open PySem.W
def qFj (P:Params):List Obj:=[boot_o_0 P,
  boot_o_1 P,
  boot_o_2 P,
  (Obj.mk (.type "dict") none (Data.dict #[(oE P "__name__" 165 (oS "law_forkplan_k16_behind_deeds" 421)),(oE P "__doc__" 166 .none),(oE P "__package__" 167 .none),(oE P "__loader__" 168 (.builtin "__main__.__loader__#opaque")),(oE P "__spec__" 169 .none),(oE P "__annotations__" 170 (oR 6)),(oE P "__builtins__" 171 (oR 4)),(oE P "__file__" 173 (oS "/claim/cut.py" 172)),(oE P "__cached__" 174 .none),(oE P "holds" 197 (oR 21)),(oE P "names_in" 206 (oR 28)),(oE P "values_by_name" 212 (oR 33)),(oE P "worth_by" 223 (oR 40)),(oE P "holds_by" 234 (oR 47)),(oE P "ForkError" 254 (oR 57)),(oE P "NoWorld" 270 (oR 70)),(oE P "NoName" 286 (oR 82)),(oE P "LEAST_SIZE" 290 (.int 2 289)),(oE P "GREATEST_SIZE" 292 (.int 5 291)),(oE P "LEAST_PRICE" 294 (.int 1 293)),(oE P "WORDS_OF_CONDITIONS" 298 (oR 85)),(oE P "world_of" 304 (oR 90)),(oE P "named" 314 (oR 97)),(oE P "standings_of_boxes" 320 (oR 102)),(oE P "behind_way" 326 (oR 107)),(oE P "copied_deed" 332 (oR 112)),(oE P "is_whole" 339 (oR 119)),(oE P "refuse_boxes" 345 (oR 124)),(oE P "refuse_twice" 353 (oR 131)),(oE P "refuse_price" 361 (oR 138)),(oE P "refuse_ways" 367 (oR 143)),(oE P "refuse_strange_name" 375 (oR 150)),(oE P "refuse_strange_names" 384 (oR 157)),(oE P "refuse_begin" 393 (oR 164)),(oE P "may_do" 404 (oR 171)),(oE P "behind" 410 (oR 176)),(oE P "holds_at_each" 420 (oR 183)),(oE P "_law_deck" 435 (oR 190)),(oE P "_law_take" 444 (oR 197)),(oE P "_law_expression" 455 (oR 204)),(oE P "_law_condition" 466 (oR 211)),(oE P "_law_way" 478 (oR 218)),(oE P "_law_deeds" 484 (oR 223)),(oE P "_law_worth" 494 (oR 230)),(oE P "_law_holds" 504 (oR 237)),(oE P "_law_all" 518 (oR 244)),(oE P "_law_comes" 524 (oR 249)),(oE P "_law_right" 530 (oR 254)),(oE P "law" 536 (oR 259))] 49) #[]),
  boot_o_4 P,
  boot_o_5 P,
  boot_o_6 P,
  boot_o_7 P,
  boot_o_8 P,
  boot_o_9 P,
  boot_o_10 P,
  oT #[],
  (Obj.mk .none none (Data.fields #[(oI 2),(oI 0),(oR 20),(oI 4),(oI 0),(oR 27),(oI 12),(oI 0),(oR 32),(oI 14),(oI 0),(oR 39),(oI 23),(oI 0),(oR 46),(oI 35),(oI 0),(oR 53),(oI 37),(oI 0),(oR 66),(oI 39),(oI 0),(oR 78),(oI 46),(oI 0),(oR 89),(oI 61),(oI 0),(oR 96),(oI 66),(oI 0),(oR 101),(oI 74),(oI 0),(oR 106),(oI 81),(oI 0),(oR 111),(oI 83),(oI 0),(oR 118),(oI 85),(oI 0),(oR 123),(oI 94),(oI 0),(oR 130),(oI 97),(oI 0),(oR 137),(oI 100),(oI 0),(oR 142),(oI 108),(oI 0),(oR 149),(oI 111),(oI 0),(oR 156),(oI 114),(oI 0),(oR 163),(oI 120),(oI 0),(oR 170),(oI 122),(oI 0),(oR 175),(oI 128),(oI 0),(oR 182),(oI 134),(oI 0),(oR 189),(oI 146),(oI 0),(oR 196),(oI 152),(oI 0),(oR 203),(oI 160),(oI 0),(oR 210),(oI 171),(oI 0),(oR 217),(oI 178),(oI 0),(oR 222),(oI 184),(oI 0),(oR 229),(oI 192),(oI 0),(oR 236),(oI 202),(oI 0),(oR 243),(oI 213),(oI 0),(oR 248),(oI 221),(oI 0),(oR 253),(oI 244),(oI 0),(oR 258)]) #[]),
  oC #[(oS "<module>" 182),(oS "<module>" 183),(oS "/claim/cut.py" 184),(oI 1),(oI 0),(oI 0),(oI 0),(oI 0),(oR 11),(.bool Bool.false),(oI 181),(oR 12),.none,.none,.none,.none,(oI 185),(oI 1),(oS "/claim/cut.py" 186)],
  (Obj.mk (.type "frame") none Data.plain #[(some (oR 13)),(some (oR 3)),(some (oR 3)),none,(some (oS "__main__" 164)),none,(some (oR 0))]),
  oT #[],
  oN,
  oT #[(oS "condition" 192),(oS "boxes" 193),(oS "standing" 194)],
  oT #[],
  oG "holds" 1,
  oC #[(oS "holds" 189),(oS "holds" 190),(oS "/claim/cut.py" 191),(oI 2),(oI 3),(oI 0),(oI 0),(oI 3),(oR 15),(.bool Bool.true),(oI 181),(oR 16),.none,(oR 17),(oR 18),(oR 19),(oI 195),(oI 2),(oS "/claim/cut.py" 196)],
  oF "holds" 1 "forkplan.exprs" 187 20,
  oT #[],
  oN,
  oT #[(oS "thing" 201),(oS "names" 202),(oS "part" 203)],
  oT #[],
  oG "names_in" 2,
  oC #[(oS "names_in" 198),(oS "names_in" 199),(oS "/claim/cut.py" 200),(oI 4),(oI 1),(oI 0),(oI 0),(oI 3),(oR 22),(.bool Bool.true),(oI 181),(oR 23),.none,(oR 24),(oR 25),(oR 26),(oI 204),(oI 4),(oS "/claim/cut.py" 205)],
  oF "names_in" 2 "forkplan.exprs" 187 27,
  oT #[],
  oN,
  oG "values_by_name" 3,
  oC #[(oS "values_by_name" 207),(oS "values_by_name" 208),(oS "/claim/cut.py" 209),(oI 12),(oI 2),(oI 0),(oI 0),(oI 3),(oR 29),(.bool Bool.true),(oI 181),(oR 30),.none,.none,.none,(oR 31),(oI 210),(oI 12),(oS "/claim/cut.py" 211)],
  oF "values_by_name" 3 "forkplan.exprs" 187 32,
  oT #[],
  oN,
  oT #[(oS "expression" 216),(oS "values" 217),(oS "kind" 218),(oS "one" 219),(oS "other" 220)],
  oT #[],
  oG "worth_by" 4,
  oC #[(oS "worth_by" 213),(oS "worth_by" 214),(oS "/claim/cut.py" 215),(oI 14),(oI 2),(oI 0),(oI 0),(oI 3),(oR 34),(.bool Bool.true),(oI 181),(oR 35),.none,(oR 36),(oR 37),(oR 38),(oI 221),(oI 14),(oS "/claim/cut.py" 222)],
  oF "worth_by" 4 "forkplan.exprs" 187 39,
  oT #[],
  oN,
  oT #[(oS "condition" 227),(oS "values" 228),(oS "kind" 229),(oS "one" 230),(oS "other" 231)],
  oT #[],
  oG "holds_by" 5,
  oC #[(oS "holds_by" 224),(oS "holds_by" 225),(oS "/claim/cut.py" 226),(oI 23),(oI 2),(oI 0),(oI 0),(oI 3),(oR 41),(.bool Bool.true),(oI 181),(oR 42),.none,(oR 43),(oR 44),(oR 45),(oI 232),(oI 23),(oS "/claim/cut.py" 233)],
  oF "holds_by" 5 "forkplan.exprs" 187 46,
  oT #[(.type "ValueError")],
  (Obj.mk (.type "builtin_function_or_method") none (Data.fields #[(.builtin "type.__prepare__"),(.type "type")]) #[]),
  (Obj.mk (.type "dict") none (Data.dict #[(oE P "__module__" 244 (oS "forkplan.errors" 235)),(oE P "__qualname__" 246 (oS "ForkError" 245)),(oE P "__firstlineno__" 248 (.int 35 247)),(oE P "__static_attributes__" 249 (oR 55))] 4) #[]),
  oT #[],
  oN,
  oC #[(oS "ForkError" 239),(oS "ForkError" 240),(oS "/claim/cut.py" 241),(oI 35),(oI 0),(oI 0),(oI 0),(oI 0),(oR 51),(.bool Bool.false),(oI 181),(oR 52),.none,.none,.none,.none,(oI 242),(oI 35),(oS "/claim/cut.py" 243)],
  (Obj.mk (.type "frame") none Data.plain #[(some (oR 53)),(some (oR 3)),(some (oR 50)),none,(some (oS "forkplan.errors" 235)),none,(some (oR 0))]),
  oT #[],
  (Obj.mk (.type "dict") none (Data.dict #[(oE P "__module__" 244 (oS "forkplan.errors" 235)),(oE P "__firstlineno__" 248 (.int 35 247)),(oE P "__static_attributes__" 249 (oR 55)),(oE P "__weakref__" 251 (oR 58)),(oE P "__doc__" 252 .none)] 3) #[]),
  (Obj.mk (.type "type") none (Data.cls (ClassData.mk (Str.ofString "ForkError") [(.type "ValueError")] [(oR 57),(.type "ValueError"),(.type "Exception"),(.type "BaseException"),(.type "object")] 56 (Str.ofString "ForkError") Bool.true [] [(oR 70),(oR 82)] Bool.false none Bool.false)) #[(some (oR 48)),none,(some (oS "ForkError" 237)),(some (oS "ForkError" 245)),(some (.builtin "ValueError.__new__")),(some (.bool Bool.true))]),
  (Obj.mk (.type "getset_descriptor") none (Data.fields #[(oS "__weakref__" 250),(oR 57),(.builtin "ExceptionGroup.__weakref__"),.none]) #[]),
  (Obj.mk (.type "super") none (Data.fields #[(oR 57),(oR 57),(oR 57)]) #[]),
  (Obj.mk (.type "builtin_function_or_method") none (Data.fields #[(.builtin "object.__init_subclass__"),(oR 57)]) #[]),
  oT #[(oR 57)],
  (Obj.mk (.type "builtin_function_or_method") none (Data.fields #[(.builtin "type.__prepare__"),(.type "type")]) #[]),
  (Obj.mk (.type "dict") none (Data.dict #[(oE P "__module__" 262 (oS "forkplan.errors" 235)),(oE P "__qualname__" 264 (oS "NoWorld" 263)),(oE P "__firstlineno__" 266 (.int 37 265)),(oE P "__static_attributes__" 267 (oR 68))] 4) #[]),
  oT #[],
  oN,
  oC #[(oS "NoWorld" 257),(oS "NoWorld" 258),(oS "/claim/cut.py" 259),(oI 37),(oI 0),(oI 0),(oI 0),(oI 0),(oR 64),(.bool Bool.false),(oI 181),(oR 65),.none,.none,.none,.none,(oI 260),(oI 37),(oS "/claim/cut.py" 261)],
  (Obj.mk (.type "frame") none Data.plain #[(some (oR 66)),(some (oR 3)),(some (oR 63)),none,(some (oS "forkplan.errors" 235)),none,(some (oR 0))]),
  oT #[],
  (Obj.mk (.type "dict") none (Data.dict #[(oE P "__module__" 262 (oS "forkplan.errors" 235)),(oE P "__firstlineno__" 266 (.int 37 265)),(oE P "__static_attributes__" 267 (oR 68)),(oE P "__doc__" 268 .none)] 2) #[]),
  (Obj.mk (.type "type") none (Data.cls (ClassData.mk (Str.ofString "NoWorld") [(oR 57)] [(oR 70),(oR 57),(.type "ValueError"),(.type "Exception"),(.type "BaseException"),(.type "object")] 69 (Str.ofString "NoWorld") Bool.true [] [] Bool.false none Bool.false)) #[(some (oR 61)),none,(some (oS "NoWorld" 255)),(some (oS "NoWorld" 263)),(some (.builtin "ValueError.__new__")),(some (.bool Bool.true))]),
  (Obj.mk (.type "super") none (Data.fields #[(oR 70),(oR 70),(oR 70)]) #[]),
  (Obj.mk (.type "builtin_function_or_method") none (Data.fields #[(.builtin "object.__init_subclass__"),(oR 70)]) #[]),
  oT #[(oR 57)],
  (Obj.mk (.type "builtin_function_or_method") none (Data.fields #[(.builtin "type.__prepare__"),(.type "type")]) #[]),
  (Obj.mk (.type "dict") none (Data.dict #[(oE P "__module__" 278 (oS "forkplan.errors" 235)),(oE P "__qualname__" 280 (oS "NoName" 279)),(oE P "__firstlineno__" 282 (.int 39 281)),(oE P "__static_attributes__" 283 (oR 80))] 4) #[]),
  oT #[],
  oN,
  oC #[(oS "NoName" 273),(oS "NoName" 274),(oS "/claim/cut.py" 275),(oI 39),(oI 0),(oI 0),(oI 0),(oI 0),(oR 76),(.bool Bool.false),(oI 181),(oR 77),.none,.none,.none,.none,(oI 276),(oI 39),(oS "/claim/cut.py" 277)],
  (Obj.mk (.type "frame") none Data.plain #[(some (oR 78)),(some (oR 3)),(some (oR 75)),none,(some (oS "forkplan.errors" 235)),none,(some (oR 0))]),
  oT #[],
  (Obj.mk (.type "dict") none (Data.dict #[(oE P "__module__" 278 (oS "forkplan.errors" 235)),(oE P "__firstlineno__" 282 (.int 39 281)),(oE P "__static_attributes__" 283 (oR 80)),(oE P "__doc__" 284 .none)] 2) #[]),
  (Obj.mk (.type "type") none (Data.cls (ClassData.mk (Str.ofString "NoName") [(oR 57)] [(oR 82),(oR 57),(.type "ValueError"),(.type "Exception"),(.type "BaseException"),(.type "object")] 81 (Str.ofString "NoName") Bool.true [] [] Bool.false none Bool.false)) #[(some (oR 73)),none,(some (oS "NoName" 271)),(some (oS "NoName" 279)),(some (.builtin "ValueError.__new__")),(some (.bool Bool.true))]),
  (Obj.mk (.type "super") none (Data.fields #[(oR 82),(oR 82),(oR 82)]) #[]),
  (Obj.mk (.type "builtin_function_or_method") none (Data.fields #[(.builtin "object.__init_subclass__"),(oR 82)]) #[]),
  oT #[(oS "not" 295),(oS "and" 296),(oS "yes" 297)],
  oT #[],
  oN,
  oG "world_of" 15,
  oC #[(oS "world_of" 299),(oS "world_of" 300),(oS "/claim/cut.py" 301),(oI 46),(oI 5),(oI 0),(oI 0),(oI 3),(oR 86),(.bool Bool.true),(oI 181),(oR 87),.none,.none,.none,(oR 88),(oI 302),(oI 46),(oS "/claim/cut.py" 303)],
  oF "world_of" 15 "forkplan.worlds" 287 89,
  oT #[],
  oN,
  oT #[(oS "things" 308),(oS "name" 309),(oS "kind" 310),(oS "thing" 311)],
  oT #[],
  oG "named" 16,
  oC #[(oS "named" 305),(oS "named" 306),(oS "/claim/cut.py" 307),(oI 61),(oI 3),(oI 0),(oI 0),(oI 3),(oR 91),(.bool Bool.true),(oI 181),(oR 92),.none,(oR 93),(oR 94),(oR 95),(oI 312),(oI 61),(oS "/claim/cut.py" 313)],
  oF "named" 16 "forkplan.worlds" 287 96,
  oT #[],
  oN,
  oG "standings_of_boxes" 17,
  oC #[(oS "standings_of_boxes" 315),(oS "standings_of_boxes" 316),(oS "/claim/cut.py" 317),(oI 66),(oI 1),(oI 0),(oI 0),(oI 3),(oR 98),(.bool Bool.true),(oI 181),(oR 99),.none,.none,.none,(oR 100),(oI 318),(oI 66),(oS "/claim/cut.py" 319)],
  oF "standings_of_boxes" 17 "forkplan.worlds" 287 101,
  oT #[],
  oN,
  oG "behind_way" 18,
  oC #[(oS "behind_way" 321),(oS "behind_way" 322),(oS "/claim/cut.py" 323),(oI 74),(oI 3),(oI 0),(oI 0),(oI 3),(oR 103),(.bool Bool.true),(oI 181),(oR 104),.none,.none,.none,(oR 105),(oI 324),(oI 74),(oS "/claim/cut.py" 325)],
  oF "behind_way" 18 "forkplan.worlds" 287 106,
  oT #[],
  oN,
  oG "copied_deed" 19,
  oC #[(oS "copied_deed" 327),(oS "copied_deed" 328),(oS "/claim/cut.py" 329),(oI 81),(oI 1),(oI 0),(oI 0),(oI 3),(oR 108),(.bool Bool.true),(oI 181),(oR 109),.none,.none,.none,(oR 110),(oI 330),(oI 81),(oS "/claim/cut.py" 331)],
  oF "copied_deed" 19 "forkplan.worlds" 287 111,
  oT #[],
  oN,
  oT #[(oS "thing" 336)],
  oT #[],
  oG "is_whole" 20,
  oC #[(oS "is_whole" 333),(oS "is_whole" 334),(oS "/claim/cut.py" 335),(oI 83),(oI 1),(oI 0),(oI 0),(oI 3),(oR 113),(.bool Bool.true),(oI 181),(oR 114),.none,(oR 115),(oR 116),(oR 117),(oI 337),(oI 83),(oS "/claim/cut.py" 338)],
  oF "is_whole" 20 "forkplan.worlds" 287 118,
  oT #[],
  oN,
  oG "refuse_boxes" 21,
  oC #[(oS "refuse_boxes" 340),(oS "refuse_boxes" 341),(oS "/claim/cut.py" 342),(oI 85),(oI 1),(oI 0),(oI 0),(oI 3),(oR 120),(.bool Bool.true),(oI 181),(oR 121),.none,.none,.none,(oR 122),(oI 343),(oI 85),(oS "/claim/cut.py" 344)],
  oF "refuse_boxes" 21 "forkplan.worlds" 287 123,
  oT #[],
  oN,
  oT #[(oS "names" 349),(oS "kind" 350)],
  oT #[],
  oG "refuse_twice" 22,
  oC #[(oS "refuse_twice" 346),(oS "refuse_twice" 347),(oS "/claim/cut.py" 348),(oI 94),(oI 2),(oI 0),(oI 0),(oI 3),(oR 125),(.bool Bool.true),(oI 181),(oR 126),.none,(oR 127),(oR 128),(oR 129),(oI 351),(oI 94),(oS "/claim/cut.py" 352)],
  oF "refuse_twice" 22 "forkplan.worlds" 287 130,
  oT #[],
  oN,
  oT #[(oS "name" 357),(oS "price" 358)],
  oT #[],
  oG "refuse_price" 23,
  oC #[(oS "refuse_price" 354),(oS "refuse_price" 355),(oS "/claim/cut.py" 356),(oI 97),(oI 2),(oI 0),(oI 0),(oI 3),(oR 132),(.bool Bool.true),(oI 181),(oR 133),.none,(oR 134),(oR 135),(oR 136),(oI 359),(oI 97),(oS "/claim/cut.py" 360)],
  oF "refuse_price" 23 "forkplan.worlds" 287 137,
  oT #[],
  oN,
  oG "refuse_ways" 24,
  oC #[(oS "refuse_ways" 362),(oS "refuse_ways" 363),(oS "/claim/cut.py" 364),(oI 100),(oI 3),(oI 0),(oI 0),(oI 3),(oR 139),(.bool Bool.true),(oI 181),(oR 140),.none,.none,.none,(oR 141),(oI 365),(oI 100),(oS "/claim/cut.py" 366)],
  oF "refuse_ways" 24 "forkplan.worlds" 287 142,
  oT #[],
  oN,
  oT #[(oS "name" 371),(oS "names" 372)],
  oT #[],
  oG "refuse_strange_name" 25,
  oC #[(oS "refuse_strange_name" 368),(oS "refuse_strange_name" 369),(oS "/claim/cut.py" 370),(oI 108),(oI 2),(oI 0),(oI 0),(oI 3),(oR 144),(.bool Bool.true),(oI 181),(oR 145),.none,(oR 146),(oR 147),(oR 148),(oI 373),(oI 108),(oS "/claim/cut.py" 374)],
  oF "refuse_strange_name" 25 "forkplan.worlds" 287 149,
  oT #[],
  oN,
  oT #[(oS "thing" 379),(oS "names" 380),(oS "name" 381)],
  oT #[],
  oG "refuse_strange_names" 26,
  oC #[(oS "refuse_strange_names" 376),(oS "refuse_strange_names" 377),(oS "/claim/cut.py" 378),(oI 111),(oI 2),(oI 0),(oI 0),(oI 3),(oR 151),(.bool Bool.true),(oI 181),(oR 152),.none,(oR 153),(oR 154),(oR 155),(oI 382),(oI 111),(oS "/claim/cut.py" 383)],
  oF "refuse_strange_names" 26 "forkplan.worlds" 287 156,
  oT #[],
  oN,
  oT #[(oS "begin" 388),(oS "boxes" 389),(oS "standing" 390)],
  oT #[],
  oG "refuse_begin" 27,
  oC #[(oS "refuse_begin" 385),(oS "refuse_begin" 386),(oS "/claim/cut.py" 387),(oI 114),(oI 2),(oI 0),(oI 0),(oI 3),(oR 158),(.bool Bool.true),(oI 181),(oR 159),.none,(oR 160),(oR 161),(oR 162),(oI 391),(oI 114),(oS "/claim/cut.py" 392)],
  oF "refuse_begin" 27 "forkplan.worlds" 287 163,
  oT #[],
  oN,
  oT #[(oS "world" 399),(oS "known" 400),(oS "name" 401)],
  oT #[],
  oG "may_do" 29,
  oC #[(oS "may_do" 396),(oS "may_do" 397),(oS "/claim/cut.py" 398),(oI 120),(oI 3),(oI 0),(oI 0),(oI 3),(oR 165),(.bool Bool.true),(oI 181),(oR 166),.none,(oR 167),(oR 168),(oR 169),(oI 402),(oI 120),(oS "/claim/cut.py" 403)],
  oF "may_do" 29 "forkplan.known" 394 170,
  oT #[],
  oN,
  oG "behind" 30,
  oC #[(oS "behind" 405),(oS "behind" 406),(oS "/claim/cut.py" 407),(oI 122),(oI 3),(oI 0),(oI 0),(oI 3),(oR 172),(.bool Bool.true),(oI 181),(oR 173),.none,.none,.none,(oR 174),(oI 408),(oI 122),(oS "/claim/cut.py" 409)],
  oF "behind" 30 "forkplan.known" 394 175,
  oT #[],
  oN,
  oT #[(oS "condition" 414),(oS "boxes" 415),(oS "known" 416),(oS "standing" 417)],
  oT #[],
  oG "holds_at_each" 31,
  oC #[(oS "holds_at_each" 411),(oS "holds_at_each" 412),(oS "/claim/cut.py" 413),(oI 128),(oI 3),(oI 0),(oI 0),(oI 3),(oR 177),(.bool Bool.true),(oI 181),(oR 178),.none,(oR 179),(oR 180),(oR 181),(oI 418),(oI 128),(oS "/claim/cut.py" 419)],
  oF "holds_at_each" 31 "forkplan.known" 394 182,
  oT #[],
  oN,
  oT #[(oS "script" 426),(oS "numbers" 427),(oS "k" 428),(oS "cell" 429),(oS "number" 430),(oS "turn" 431),(oS "one" 432)],
  oT #[],
  oG "_law_deck" 33,
  oC #[(oS "_law_deck" 423),(oS "_law_deck" 424),(oS "/claim/cut.py" 425),(oI 134),(oI 1),(oI 0),(oI 0),(oI 3),(oR 184),(.bool Bool.true),(oI 181),(oR 185),.none,(oR 186),(oR 187),(oR 188),(oI 433),(oI 134),(oS "/claim/cut.py" 434)],
  oF "_law_deck" 33 "law_forkplan_k16_behind_deeds" 421 189,
  oT #[],
  oN,
  oT #[(oS "deck" 439),(oS "many" 440),(oS "taken" 441)],
  oT #[],
  oG "_law_take" 34,
  oC #[(oS "_law_take" 436),(oS "_law_take" 437),(oS "/claim/cut.py" 438),(oI 146),(oI 2),(oI 0),(oI 0),(oI 3),(oR 191),(.bool Bool.true),(oI 181),(oR 192),.none,(oR 193),(oR 194),(oR 195),(oI 442),(oI 146),(oS "/claim/cut.py" 443)],
  oF "_law_take" 34 "law_forkplan_k16_behind_deeds" 421 196,
  oT #[],
  oN,
  oT #[(oS "deck" 448),(oS "boxes" 449),(oS "deep" 450),(oS "kind" 451),(oS "one" 452)],
  oT #[],
  oG "_law_expression" 35,
  oC #[(oS "_law_expression" 445),(oS "_law_expression" 446),(oS "/claim/cut.py" 447),(oI 152),(oI 3),(oI 0),(oI 0),(oI 3),(oR 198),(.bool Bool.true),(oI 181),(oR 199),.none,(oR 200),(oR 201),(oR 202),(oI 453),(oI 152),(oS "/claim/cut.py" 454)],
  oF "_law_expression" 35 "law_forkplan_k16_behind_deeds" 421 203,
  oT #[],
  oN,
  oT #[(oS "deck" 459),(oS "boxes" 460),(oS "deep" 461),(oS "kind" 462),(oS "one" 463)],
  oT #[],
  oG "_law_condition" 36,
  oC #[(oS "_law_condition" 456),(oS "_law_condition" 457),(oS "/claim/cut.py" 458),(oI 160),(oI 3),(oI 0),(oI 0),(oI 3),(oR 205),(.bool Bool.true),(oI 181),(oR 206),.none,(oR 207),(oR 208),(oR 209),(oI 464),(oI 160),(oS "/claim/cut.py" 465)],
  oF "_law_condition" 36 "law_forkplan_k16_behind_deeds" 421 210,
  oT #[],
  oN,
  oT #[(oS "deck" 470),(oS "boxes" 471),(oS "changes" 472),(oS "name" 473),(oS "size" 474),(oS "place" 475)],
  oT #[],
  oG "_law_way" 37,
  oC #[(oS "_law_way" 467),(oS "_law_way" 468),(oS "/claim/cut.py" 469),(oI 171),(oI 2),(oI 0),(oI 0),(oI 3),(oR 212),(.bool Bool.true),(oI 181),(oR 213),.none,(oR 214),(oR 215),(oR 216),(oI 476),(oI 171),(oS "/claim/cut.py" 477)],
  oF "_law_way" 37 "law_forkplan_k16_behind_deeds" 421 217,
  oT #[],
  oN,
  oG "_law_deeds" 38,
  oC #[(oS "_law_deeds" 479),(oS "_law_deeds" 480),(oS "/claim/cut.py" 481),(oI 178),(oI 2),(oI 0),(oI 0),(oI 3),(oR 219),(.bool Bool.true),(oI 181),(oR 220),.none,.none,.none,(oR 221),(oI 482),(oI 178),(oS "/claim/cut.py" 483)],
  oF "_law_deeds" 38 "law_forkplan_k16_behind_deeds" 421 222,
  oT #[],
  oN,
  oT #[(oS "thing" 488),(oS "values" 489),(oS "one" 490),(oS "other" 491)],
  oT #[],
  oG "_law_worth" 39,
  oC #[(oS "_law_worth" 485),(oS "_law_worth" 486),(oS "/claim/cut.py" 487),(oI 184),(oI 2),(oI 0),(oI 0),(oI 3),(oR 224),(.bool Bool.true),(oI 181),(oR 225),.none,(oR 226),(oR 227),(oR 228),(oI 492),(oI 184),(oS "/claim/cut.py" 493)],
  oF "_law_worth" 39 "law_forkplan_k16_behind_deeds" 421 229,
  oT #[],
  oN,
  oT #[(oS "thing" 498),(oS "values" 499),(oS "one" 500),(oS "other" 501)],
  oT #[],
  oG "_law_holds" 40,
  oC #[(oS "_law_holds" 495),(oS "_law_holds" 496),(oS "/claim/cut.py" 497),(oI 192),(oI 2),(oI 0),(oI 0),(oI 3),(oR 231),(.bool Bool.true),(oI 181),(oR 232),.none,(oR 233),(oR 234),(oR 235),(oI 502),(oI 192),(oS "/claim/cut.py" 503)],
  oF "_law_holds" 40 "law_forkplan_k16_behind_deeds" 421 236,
  oT #[],
  oN,
  oT #[(oS "boxes" 508),(oS "found" 509),(oS "name" 510),(oS "size" 511),(oS "longer" 512),(oS "values" 513),(oS "value" 514),(oS "more" 515)],
  oT #[],
  oG "_law_all" 41,
  oC #[(oS "_law_all" 505),(oS "_law_all" 506),(oS "/claim/cut.py" 507),(oI 202),(oI 1),(oI 0),(oI 0),(oI 3),(oR 238),(.bool Bool.true),(oI 181),(oR 239),.none,(oR 240),(oR 241),(oR 242),(oI 516),(oI 202),(oS "/claim/cut.py" 517)],
  oF "_law_all" 41 "law_forkplan_k16_behind_deeds" 421 243,
  oT #[],
  oN,
  oG "_law_comes" 42,
  oC #[(oS "_law_comes" 519),(oS "_law_comes" 520),(oS "/claim/cut.py" 521),(oI 213),(oI 3),(oI 0),(oI 0),(oI 3),(oR 245),(.bool Bool.true),(oI 181),(oR 246),.none,.none,.none,(oR 247),(oI 522),(oI 213),(oS "/claim/cut.py" 523)],
  oF "_law_comes" 42 "law_forkplan_k16_behind_deeds" 421 248,
  oT #[],
  oN,
  oG "_law_right" 43,
  oC #[(oS "_law_right" 525),(oS "_law_right" 526),(oS "/claim/cut.py" 527),(oI 221),(oI 4),(oI 0),(oI 0),(oI 3),(oR 250),(.bool Bool.true),(oI 181),(oR 251),.none,.none,.none,(oR 252),(oI 528),(oI 221),(oS "/claim/cut.py" 529)],
  oF "_law_right" 43 "law_forkplan_k16_behind_deeds" 421 253,
  oT #[],
  oN,
  oG "law" 44,
  oC #[(oS "law" 531),(oS "law" 532),(oS "/claim/cut.py" 533),(oI 244),(oI 1),(oI 0),(oI 0),(oI 3),(oR 255),(.bool Bool.true),(oI 181),(oR 256),.none,.none,.none,(oR 257),(oI 534),(oI 244),(oS "/claim/cut.py" 535)],
  oF "law" 44 "law_forkplan_k16_behind_deeds" 421 258]
def qFz (P:Params):List Obj:=[boot_o_0 P,boot_o_1 P,boot_o_2 P,boot_o_3 P,boot_o_4 P,boot_o_5 P,boot_o_6 P,boot_o_7 P,boot_o_8 P,boot_o_9 P,boot_o_10 P,oT #[],oN,oC #[(oS "<module>" 182),(oS "<module>" 183),(oS "/claim/cut.py" 184),(oI 1),(oI 0),(oI 0),(oI 0),(oI 0),(oR 11),(.bool Bool.false),(oI 181),(oR 12),.none,.none,.none,.none,(oI 185),(oI 1),(oS "/claim/cut.py" 186)],(Obj.mk (.type "frame") none Data.plain #[(some (oR 13)),(some (oR 3)),(some (oR 3)),none,(some (oS "__main__" 164)),none,(some (oR 0))])]
def wS (os:List Obj):Nat→Nat→Nat→BT
 | 0,_,_=>.nil
 | f+1,a,b=>match os[b]? with
  | some o=>.node o (wS os f (2 * a) (a+b)) (wS os f (2 * a) (2 * a+b))
  | none=>.nil
def qZg:Life:=(Life.mk [] [] [] 0 [] [] Bool.false #[] [] 0 Bool.false Bool.false Bool.false 0 [2000,10,10] Bool.false 0 Bool.true [] [] 0 Bool.false)
def topEnv:Env:={ scope:=PySem.Challenge.pw_forkplan_k16_behind_deeds.main.scope,locals:=mainNs,globals:=mainNs,cells:=[],code:=(Value.ref 13),frame:=some 14 }
def wT:List Stmt:=behindTheImports PySem.Challenge.pw_forkplan_k16_behind_deeds
def kG:Code:=.body wT topEnv
def topA (w:World)(os:OsState):Shared:=⟨⟨⟨qFz w.params⟩,qZg⟩,⟨[]⟩,(Drawn.mk 0 0 0 0),187,os⟩
def topB (w:World)(os:OsState):SharedT:=⟨wS (qFz w.params) 12 1 0,15,qZg,⟨[]⟩,(Drawn.mk 0 0 0 0),187,os⟩
def topZ (w:World)(os:OsState):SharedT:=⟨wS (qFj w.params) 12 1 0,260,qZg,⟨[]⟩,(Drawn.mk 0 0 0 0),537,os⟩
theorem topPre (w:World)(os:OsState):topGo treeTable PySem.Challenge.pw_forkplan_k16_behind_deeds w 11 (some (Value.ref 6)) 12 ⟨boot_heap w.params,⟨[]⟩,boot_drawn,boot_toks,os⟩ (topStub PySem.Challenge.pw_forkplan_k16_behind_deeds)=some (topA w os,⟨denote treeTable kG,kG,(Pos.mk 0 0 0 0),[topFrame (Pos.mk 0 0 0 0)]⟩):=by kernel_rfl
theorem qMl (w:World)(os:OsState):segRun treeTable PySem.Challenge.pw_forkplan_k16_behind_deeds w 11 (some (Value.ref 6)) 1 1 (topA w os) (blockOf wT topEnv kG (Pos.mk 0 0 0 0) [topFrame (Pos.mk 0 0 0 0)])=some (.next,(topB w os).abs,kG,(Pos.mk 0 0 0 0)):=by kernel_rfl
theorem topSeg (w:World)(os:OsState):segRunT treeTable PySem.Challenge.pw_forkplan_k16_behind_deeds w 11 (some (Value.ref 6)) 1 1680 (topB w os) (piecesOf wT topEnv kG (Pos.mk 0 0 0 0) [topFrame (Pos.mk 0 0 0 0)])=some (.next,topZ w os,kG,(Pos.mk 244 0 258 50)):=by kernel_rfl
theorem topFin (w:World)(os:OsState):topRun treeTable PySem.Challenge.pw_forkplan_k16_behind_deeds w 11 (some (Value.ref 6)) 2 (topZ w os).abs ⟨doneF .next,kG,(Pos.mk 244 0 258 50),[topFrame (Pos.mk 0 0 0 0)]⟩=some (topZ w os).abs:=by kernel_rfl
def qVi (P:Params):yZO:=
 (nat_lit 2,(Obj.mk .none none (Data.dict #[] 0) #[]))::
 (nat_lit 3,(Obj.mk (.type "dict") none (Data.dict #[(oE P "__name__" 165 (.str (Str.ofString "law_forkplan_k16_behind_deeds") 421)),(oE P "__doc__" 166 .none),(oE P "__package__" 167 .none),(oE P "__loader__" 168 (.builtin "__main__.__loader__#opaque")),(oE P "__spec__" 169 .none),(oE P "__annotations__" 170 (.ref 6)),(oE P "__builtins__" 171 (.ref 4)),(oE P "__file__" 173 (.str (Str.ofString "/claim/cut.py") 172)),(oE P "__cached__" 174 .none),(oE P "holds" 197 (.ref 21)),(oE P "names_in" 206 (.ref 28)),(oE P "values_by_name" 212 (.ref 33)),(oE P "worth_by" 223 (.ref 40)),(oE P "holds_by" 234 (.ref 47)),(oE P "ForkError" 254 (.ref 57)),(oE P "NoWorld" 270 (.ref 70)),(oE P "NoName" 286 (.ref 82)),(oE P "LEAST_SIZE" 290 (.int 2 289)),(oE P "GREATEST_SIZE" 292 (.int 5 291)),(oE P "LEAST_PRICE" 294 (.int 1 293)),(oE P "WORDS_OF_CONDITIONS" 298 (.ref 85)),(oE P "world_of" 304 (.ref 90)),(oE P "named" 314 (.ref 97)),(oE P "standings_of_boxes" 320 (.ref 102)),(oE P "behind_way" 326 (.ref 107)),(oE P "copied_deed" 332 (.ref 112)),(oE P "is_whole" 339 (.ref 119)),(oE P "refuse_boxes" 345 (.ref 124)),(oE P "refuse_twice" 353 (.ref 131)),(oE P "refuse_price" 361 (.ref 138)),(oE P "refuse_ways" 367 (.ref 143)),(oE P "refuse_strange_name" 375 (.ref 150)),(oE P "refuse_strange_names" 384 (.ref 157)),(oE P "refuse_begin" 393 (.ref 164)),(oE P "may_do" 404 (.ref 171)),(oE P "behind" 410 (.ref 176)),(oE P "holds_at_each" 420 (.ref 183)),(oE P "_law_deck" 435 (.ref 190)),(oE P "_law_take" 444 (.ref 197)),(oE P "_law_expression" 455 (.ref 204)),(oE P "_law_condition" 466 (.ref 211)),(oE P "_law_way" 478 (.ref 218)),(oE P "_law_deeds" 484 (.ref 223)),(oE P "_law_worth" 494 (.ref 230)),(oE P "_law_holds" 504 (.ref 237)),(oE P "_law_all" 518 (.ref 244)),(oE P "_law_comes" 524 (.ref 249)),(oE P "_law_right" 530 (.ref 254)),(oE P "law" 536 (.ref 259))] 49) #[]))::
 (nat_lit 20,oC #[(oS "holds" 189),(oS "holds" 190),(oS "/claim/cut.py" 191),(oI 2),(oI 3),(oI 0),(oI 0),(oI 3),(oR 15),(.bool Bool.true),(oI 181),(oR 16),.none,(oR 17),(oR 18),(oR 19),(oI 195),(oI 2),(oS "/claim/cut.py" 196)])::
 (nat_lit 21,oF "holds" 1 "forkplan.exprs" 187 20)::
 (nat_lit 27,oC #[(oS "names_in" 198),(oS "names_in" 199),(oS "/claim/cut.py" 200),(oI 4),(oI 1),(oI 0),(oI 0),(oI 3),(oR 22),(.bool Bool.true),(oI 181),(oR 23),.none,(oR 24),(oR 25),(oR 26),(oI 204),(oI 4),(oS "/claim/cut.py" 205)])::
 (nat_lit 28,oF "names_in" 2 "forkplan.exprs" 187 27)::
 (nat_lit 32,oC #[(oS "values_by_name" 207),(oS "values_by_name" 208),(oS "/claim/cut.py" 209),(oI 12),(oI 2),(oI 0),(oI 0),(oI 3),(oR 29),(.bool Bool.true),(oI 181),(oR 30),.none,.none,.none,(oR 31),(oI 210),(oI 12),(oS "/claim/cut.py" 211)])::
 (nat_lit 33,oF "values_by_name" 3 "forkplan.exprs" 187 32)::
 (nat_lit 39,oC #[(oS "worth_by" 213),(oS "worth_by" 214),(oS "/claim/cut.py" 215),(oI 14),(oI 2),(oI 0),(oI 0),(oI 3),(oR 34),(.bool Bool.true),(oI 181),(oR 35),.none,(oR 36),(oR 37),(oR 38),(oI 221),(oI 14),(oS "/claim/cut.py" 222)])::
 (nat_lit 40,oF "worth_by" 4 "forkplan.exprs" 187 39)::
 (nat_lit 46,oC #[(oS "holds_by" 224),(oS "holds_by" 225),(oS "/claim/cut.py" 226),(oI 23),(oI 2),(oI 0),(oI 0),(oI 3),(oR 41),(.bool Bool.true),(oI 181),(oR 42),.none,(oR 43),(oR 44),(oR 45),(oI 232),(oI 23),(oS "/claim/cut.py" 233)])::
 (nat_lit 47,oF "holds_by" 5 "forkplan.exprs" 187 46)::
 (nat_lit 48,(Obj.mk (.type "tuple") none (Data.seq #[(.type "ValueError")] 0) #[]))::
 (nat_lit 55,(Obj.mk (.type "tuple") none (Data.seq #[] 0) #[]))::
 (nat_lit 56,(Obj.mk (.type "dict") none (Data.dict #[(oE P "__module__" 244 (.str (Str.ofString "forkplan.errors") 235)),(oE P "__firstlineno__" 248 (.int 35 247)),(oE P "__static_attributes__" 249 (.ref 55)),(oE P "__weakref__" 251 (.ref 58)),(oE P "__doc__" 252 .none)] 3) #[]))::
 (nat_lit 57,(Obj.mk (.type "type") none (Data.cls (ClassData.mk (Str.ofString "ForkError") [(.type "ValueError")] [(.ref 57),(.type "ValueError"),(.type "Exception"),(.type "BaseException"),(.type "object")] 56 (Str.ofString "ForkError") Bool.true [] [(.ref 70),(.ref 82)] Bool.false none Bool.false)) #[(some (.ref 48)),none,(some (.str (Str.ofString "ForkError") 237)),(some (.str (Str.ofString "ForkError") 245)),(some (.builtin "ValueError.__new__")),(some (.bool Bool.true))]))::
 (nat_lit 58,(Obj.mk (.type "getset_descriptor") none (Data.fields #[(.str (Str.ofString "__weakref__") 250),(.ref 57),(.builtin "ExceptionGroup.__weakref__"),.none]) #[]))::
 (nat_lit 61,(Obj.mk (.type "tuple") none (Data.seq #[(.ref 57)] 0) #[]))::
 (nat_lit 68,(Obj.mk (.type "tuple") none (Data.seq #[] 0) #[]))::
 (nat_lit 69,(Obj.mk (.type "dict") none (Data.dict #[(oE P "__module__" 262 (.str (Str.ofString "forkplan.errors") 235)),(oE P "__firstlineno__" 266 (.int 37 265)),(oE P "__static_attributes__" 267 (.ref 68)),(oE P "__doc__" 268 .none)] 2) #[]))::
 (nat_lit 70,(Obj.mk (.type "type") none (Data.cls (ClassData.mk (Str.ofString "NoWorld") [(.ref 57)] [(.ref 70),(.ref 57),(.type "ValueError"),(.type "Exception"),(.type "BaseException"),(.type "object")] 69 (Str.ofString "NoWorld") Bool.true [] [] Bool.false none Bool.false)) #[(some (.ref 61)),none,(some (.str (Str.ofString "NoWorld") 255)),(some (.str (Str.ofString "NoWorld") 263)),(some (.builtin "ValueError.__new__")),(some (.bool Bool.true))]))::
 (nat_lit 73,(Obj.mk (.type "tuple") none (Data.seq #[(.ref 57)] 0) #[]))::
 (nat_lit 80,(Obj.mk (.type "tuple") none (Data.seq #[] 0) #[]))::
 (nat_lit 81,(Obj.mk (.type "dict") none (Data.dict #[(oE P "__module__" 278 (.str (Str.ofString "forkplan.errors") 235)),(oE P "__firstlineno__" 282 (.int 39 281)),(oE P "__static_attributes__" 283 (.ref 80)),(oE P "__doc__" 284 .none)] 2) #[]))::
 (nat_lit 82,(Obj.mk (.type "type") none (Data.cls (ClassData.mk (Str.ofString "NoName") [(.ref 57)] [(.ref 82),(.ref 57),(.type "ValueError"),(.type "Exception"),(.type "BaseException"),(.type "object")] 81 (Str.ofString "NoName") Bool.true [] [] Bool.false none Bool.false)) #[(some (.ref 73)),none,(some (.str (Str.ofString "NoName") 271)),(some (.str (Str.ofString "NoName") 279)),(some (.builtin "ValueError.__new__")),(some (.bool Bool.true))]))::
 (nat_lit 85,(Obj.mk (.type "tuple") none (Data.seq #[(.str (Str.ofString "not") 295),(.str (Str.ofString "and") 296),(.str (Str.ofString "yes") 297)] 0) #[]))::
 (nat_lit 89,oC #[(oS "world_of" 299),(oS "world_of" 300),(oS "/claim/cut.py" 301),(oI 46),(oI 5),(oI 0),(oI 0),(oI 3),(oR 86),(.bool Bool.true),(oI 181),(oR 87),.none,.none,.none,(oR 88),(oI 302),(oI 46),(oS "/claim/cut.py" 303)])::
 (nat_lit 90,oF "world_of" 15 "forkplan.worlds" 287 89)::
 (nat_lit 96,oC #[(oS "named" 305),(oS "named" 306),(oS "/claim/cut.py" 307),(oI 61),(oI 3),(oI 0),(oI 0),(oI 3),(oR 91),(.bool Bool.true),(oI 181),(oR 92),.none,(oR 93),(oR 94),(oR 95),(oI 312),(oI 61),(oS "/claim/cut.py" 313)])::
 (nat_lit 97,oF "named" 16 "forkplan.worlds" 287 96)::
 (nat_lit 101,oC #[(oS "standings_of_boxes" 315),(oS "standings_of_boxes" 316),(oS "/claim/cut.py" 317),(oI 66),(oI 1),(oI 0),(oI 0),(oI 3),(oR 98),(.bool Bool.true),(oI 181),(oR 99),.none,.none,.none,(oR 100),(oI 318),(oI 66),(oS "/claim/cut.py" 319)])::
 (nat_lit 102,oF "standings_of_boxes" 17 "forkplan.worlds" 287 101)::
 (nat_lit 106,oC #[(oS "behind_way" 321),(oS "behind_way" 322),(oS "/claim/cut.py" 323),(oI 74),(oI 3),(oI 0),(oI 0),(oI 3),(oR 103),(.bool Bool.true),(oI 181),(oR 104),.none,.none,.none,(oR 105),(oI 324),(oI 74),(oS "/claim/cut.py" 325)])::
 (nat_lit 107,oF "behind_way" 18 "forkplan.worlds" 287 106)::
 (nat_lit 111,oC #[(oS "copied_deed" 327),(oS "copied_deed" 328),(oS "/claim/cut.py" 329),(oI 81),(oI 1),(oI 0),(oI 0),(oI 3),(oR 108),(.bool Bool.true),(oI 181),(oR 109),.none,.none,.none,(oR 110),(oI 330),(oI 81),(oS "/claim/cut.py" 331)])::
 (nat_lit 112,oF "copied_deed" 19 "forkplan.worlds" 287 111)::
 (nat_lit 118,oC #[(oS "is_whole" 333),(oS "is_whole" 334),(oS "/claim/cut.py" 335),(oI 83),(oI 1),(oI 0),(oI 0),(oI 3),(oR 113),(.bool Bool.true),(oI 181),(oR 114),.none,(oR 115),(oR 116),(oR 117),(oI 337),(oI 83),(oS "/claim/cut.py" 338)])::
 (nat_lit 119,oF "is_whole" 20 "forkplan.worlds" 287 118)::
 (nat_lit 123,oC #[(oS "refuse_boxes" 340),(oS "refuse_boxes" 341),(oS "/claim/cut.py" 342),(oI 85),(oI 1),(oI 0),(oI 0),(oI 3),(oR 120),(.bool Bool.true),(oI 181),(oR 121),.none,.none,.none,(oR 122),(oI 343),(oI 85),(oS "/claim/cut.py" 344)])::
 (nat_lit 124,oF "refuse_boxes" 21 "forkplan.worlds" 287 123)::
 (nat_lit 130,oC #[(oS "refuse_twice" 346),(oS "refuse_twice" 347),(oS "/claim/cut.py" 348),(oI 94),(oI 2),(oI 0),(oI 0),(oI 3),(oR 125),(.bool Bool.true),(oI 181),(oR 126),.none,(oR 127),(oR 128),(oR 129),(oI 351),(oI 94),(oS "/claim/cut.py" 352)])::
 (nat_lit 131,oF "refuse_twice" 22 "forkplan.worlds" 287 130)::
 (nat_lit 137,oC #[(oS "refuse_price" 354),(oS "refuse_price" 355),(oS "/claim/cut.py" 356),(oI 97),(oI 2),(oI 0),(oI 0),(oI 3),(oR 132),(.bool Bool.true),(oI 181),(oR 133),.none,(oR 134),(oR 135),(oR 136),(oI 359),(oI 97),(oS "/claim/cut.py" 360)])::
 (nat_lit 138,oF "refuse_price" 23 "forkplan.worlds" 287 137)::
 (nat_lit 142,oC #[(oS "refuse_ways" 362),(oS "refuse_ways" 363),(oS "/claim/cut.py" 364),(oI 100),(oI 3),(oI 0),(oI 0),(oI 3),(oR 139),(.bool Bool.true),(oI 181),(oR 140),.none,.none,.none,(oR 141),(oI 365),(oI 100),(oS "/claim/cut.py" 366)])::
 (nat_lit 143,oF "refuse_ways" 24 "forkplan.worlds" 287 142)::
 (nat_lit 149,oC #[(oS "refuse_strange_name" 368),(oS "refuse_strange_name" 369),(oS "/claim/cut.py" 370),(oI 108),(oI 2),(oI 0),(oI 0),(oI 3),(oR 144),(.bool Bool.true),(oI 181),(oR 145),.none,(oR 146),(oR 147),(oR 148),(oI 373),(oI 108),(oS "/claim/cut.py" 374)])::
 (nat_lit 150,oF "refuse_strange_name" 25 "forkplan.worlds" 287 149)::
 (nat_lit 156,oC #[(oS "refuse_strange_names" 376),(oS "refuse_strange_names" 377),(oS "/claim/cut.py" 378),(oI 111),(oI 2),(oI 0),(oI 0),(oI 3),(oR 151),(.bool Bool.true),(oI 181),(oR 152),.none,(oR 153),(oR 154),(oR 155),(oI 382),(oI 111),(oS "/claim/cut.py" 383)])::
 (nat_lit 157,oF "refuse_strange_names" 26 "forkplan.worlds" 287 156)::
 (nat_lit 163,oC #[(oS "refuse_begin" 385),(oS "refuse_begin" 386),(oS "/claim/cut.py" 387),(oI 114),(oI 2),(oI 0),(oI 0),(oI 3),(oR 158),(.bool Bool.true),(oI 181),(oR 159),.none,(oR 160),(oR 161),(oR 162),(oI 391),(oI 114),(oS "/claim/cut.py" 392)])::
 (nat_lit 164,oF "refuse_begin" 27 "forkplan.worlds" 287 163)::
 (nat_lit 170,oC #[(oS "may_do" 396),(oS "may_do" 397),(oS "/claim/cut.py" 398),(oI 120),(oI 3),(oI 0),(oI 0),(oI 3),(oR 165),(.bool Bool.true),(oI 181),(oR 166),.none,(oR 167),(oR 168),(oR 169),(oI 402),(oI 120),(oS "/claim/cut.py" 403)])::
 (nat_lit 171,oF "may_do" 29 "forkplan.known" 394 170)::
 (nat_lit 175,oC #[(oS "behind" 405),(oS "behind" 406),(oS "/claim/cut.py" 407),(oI 122),(oI 3),(oI 0),(oI 0),(oI 3),(oR 172),(.bool Bool.true),(oI 181),(oR 173),.none,.none,.none,(oR 174),(oI 408),(oI 122),(oS "/claim/cut.py" 409)])::
 (nat_lit 176,oF "behind" 30 "forkplan.known" 394 175)::
 (nat_lit 182,oC #[(oS "holds_at_each" 411),(oS "holds_at_each" 412),(oS "/claim/cut.py" 413),(oI 128),(oI 3),(oI 0),(oI 0),(oI 3),(oR 177),(.bool Bool.true),(oI 181),(oR 178),.none,(oR 179),(oR 180),(oR 181),(oI 418),(oI 128),(oS "/claim/cut.py" 419)])::
 (nat_lit 183,oF "holds_at_each" 31 "forkplan.known" 394 182)::
 (nat_lit 189,oC #[(oS "_law_deck" 423),(oS "_law_deck" 424),(oS "/claim/cut.py" 425),(oI 134),(oI 1),(oI 0),(oI 0),(oI 3),(oR 184),(.bool Bool.true),(oI 181),(oR 185),.none,(oR 186),(oR 187),(oR 188),(oI 433),(oI 134),(oS "/claim/cut.py" 434)])::
 (nat_lit 190,oF "_law_deck" 33 "law_forkplan_k16_behind_deeds" 421 189)::
 (nat_lit 196,oC #[(oS "_law_take" 436),(oS "_law_take" 437),(oS "/claim/cut.py" 438),(oI 146),(oI 2),(oI 0),(oI 0),(oI 3),(oR 191),(.bool Bool.true),(oI 181),(oR 192),.none,(oR 193),(oR 194),(oR 195),(oI 442),(oI 146),(oS "/claim/cut.py" 443)])::
 (nat_lit 197,oF "_law_take" 34 "law_forkplan_k16_behind_deeds" 421 196)::
 (nat_lit 203,oC #[(oS "_law_expression" 445),(oS "_law_expression" 446),(oS "/claim/cut.py" 447),(oI 152),(oI 3),(oI 0),(oI 0),(oI 3),(oR 198),(.bool Bool.true),(oI 181),(oR 199),.none,(oR 200),(oR 201),(oR 202),(oI 453),(oI 152),(oS "/claim/cut.py" 454)])::
 (nat_lit 204,oF "_law_expression" 35 "law_forkplan_k16_behind_deeds" 421 203)::
 (nat_lit 210,oC #[(oS "_law_condition" 456),(oS "_law_condition" 457),(oS "/claim/cut.py" 458),(oI 160),(oI 3),(oI 0),(oI 0),(oI 3),(oR 205),(.bool Bool.true),(oI 181),(oR 206),.none,(oR 207),(oR 208),(oR 209),(oI 464),(oI 160),(oS "/claim/cut.py" 465)])::
 (nat_lit 211,oF "_law_condition" 36 "law_forkplan_k16_behind_deeds" 421 210)::
 (nat_lit 217,oC #[(oS "_law_way" 467),(oS "_law_way" 468),(oS "/claim/cut.py" 469),(oI 171),(oI 2),(oI 0),(oI 0),(oI 3),(oR 212),(.bool Bool.true),(oI 181),(oR 213),.none,(oR 214),(oR 215),(oR 216),(oI 476),(oI 171),(oS "/claim/cut.py" 477)])::
 (nat_lit 218,oF "_law_way" 37 "law_forkplan_k16_behind_deeds" 421 217)::
 (nat_lit 222,oC #[(oS "_law_deeds" 479),(oS "_law_deeds" 480),(oS "/claim/cut.py" 481),(oI 178),(oI 2),(oI 0),(oI 0),(oI 3),(oR 219),(.bool Bool.true),(oI 181),(oR 220),.none,.none,.none,(oR 221),(oI 482),(oI 178),(oS "/claim/cut.py" 483)])::
 (nat_lit 223,oF "_law_deeds" 38 "law_forkplan_k16_behind_deeds" 421 222)::
 (nat_lit 229,oC #[(oS "_law_worth" 485),(oS "_law_worth" 486),(oS "/claim/cut.py" 487),(oI 184),(oI 2),(oI 0),(oI 0),(oI 3),(oR 224),(.bool Bool.true),(oI 181),(oR 225),.none,(oR 226),(oR 227),(oR 228),(oI 492),(oI 184),(oS "/claim/cut.py" 493)])::
 (nat_lit 230,oF "_law_worth" 39 "law_forkplan_k16_behind_deeds" 421 229)::
 (nat_lit 236,oC #[(oS "_law_holds" 495),(oS "_law_holds" 496),(oS "/claim/cut.py" 497),(oI 192),(oI 2),(oI 0),(oI 0),(oI 3),(oR 231),(.bool Bool.true),(oI 181),(oR 232),.none,(oR 233),(oR 234),(oR 235),(oI 502),(oI 192),(oS "/claim/cut.py" 503)])::
 (nat_lit 237,oF "_law_holds" 40 "law_forkplan_k16_behind_deeds" 421 236)::
 (nat_lit 243,oC #[(oS "_law_all" 505),(oS "_law_all" 506),(oS "/claim/cut.py" 507),(oI 202),(oI 1),(oI 0),(oI 0),(oI 3),(oR 238),(.bool Bool.true),(oI 181),(oR 239),.none,(oR 240),(oR 241),(oR 242),(oI 516),(oI 202),(oS "/claim/cut.py" 517)])::
 (nat_lit 244,oF "_law_all" 41 "law_forkplan_k16_behind_deeds" 421 243)::
 (nat_lit 248,oC #[(oS "_law_comes" 519),(oS "_law_comes" 520),(oS "/claim/cut.py" 521),(oI 213),(oI 3),(oI 0),(oI 0),(oI 3),(oR 245),(.bool Bool.true),(oI 181),(oR 246),.none,.none,.none,(oR 247),(oI 522),(oI 213),(oS "/claim/cut.py" 523)])::
 (nat_lit 249,oF "_law_comes" 42 "law_forkplan_k16_behind_deeds" 421 248)::
 (nat_lit 253,oC #[(oS "_law_right" 525),(oS "_law_right" 526),(oS "/claim/cut.py" 527),(oI 221),(oI 4),(oI 0),(oI 0),(oI 3),(oR 250),(.bool Bool.true),(oI 181),(oR 251),.none,.none,.none,(oR 252),(oI 528),(oI 221),(oS "/claim/cut.py" 529)])::
 (nat_lit 254,oF "_law_right" 43 "law_forkplan_k16_behind_deeds" 421 253)::
 (nat_lit 258,oC #[(oS "law" 531),(oS "law" 532),(oS "/claim/cut.py" 533),(oI 244),(oI 1),(oI 0),(oI 0),(oI 3),(oR 255),(.bool Bool.true),(oI 181),(oR 256),.none,.none,.none,(oR 257),(oI 534),(oI 244),(oS "/claim/cut.py" 535)])::
 (nat_lit 259,oF "law" 44 "law_forkplan_k16_behind_deeds" 421 258)::[]
def wR:Program:={ PySem.Challenge.pw_forkplan_k16_behind_deeds with main:={ PySem.Challenge.pw_forkplan_k16_behind_deeds.main with body:=([1,2,3,4,5,7,8,9,11,12,13,14,15,16,17,18,19,20,21,22,23,24,25,26,27,29,30,31,33,34,35,36,37,38,39,40,41,42,43,44]:List Nat).filterMap fun i=>PySem.Challenge.pw_forkplan_k16_behind_deeds.main.body[i]? } }
def vP:PySem.W.Hook:=PySem.W.kHook qVi [2,3,20,21,27,28,32,33,39,40,46,47,48,55,56,57,58,61,68,69,70,73,80,81,82,85,89,90,96,97,101,102,106,107,111,112,118,119,123,124,130,131,137,138,142,143,149,150,156,157,163,164,170,171,175,176,182,183,189,190,196,197,203,204,210,211,217,218,222,223,229,230,236,237,243,244,248,249,253,254,258,259] (fun _=>by kernel_rfl)
theorem qSd:LeftO (PySem.W.OpenLaw.row PySem.Challenge.rw_forkplan_k16_behind_deeds).prog wR [] (fun s=>xlAt wR [] s && recOk (RowW.records (OpenRow.toRowW (PySem.W.OpenLaw.row PySem.Challenge.rw_forkplan_k16_behind_deeds))) s) (Hook.obs vP) (Hook.val vP) 4084:=
 LeftO.of_pieces (H₀:=boot_heap) (H₁:=fun P=>absHeap (wS (qFj P) 12 1 0) 260 qZg) (gs₀:=⟨[]⟩) (gs₁:=⟨[]⟩) (d₀:=boot_drawn) (d₁:=(Drawn.mk 0 0 0 0)) (k₀:=boot_toks) (k₁:=537) (m₀:=11) (ann:=(some (Value.ref 6))) (M:=12+(1+(1680+2)))
  (boot_open (p:=PySem.Challenge.pw_forkplan_k16_behind_deeds) (by kernel_rfl) (by decide +kernel) (fun s=>by rfl)) (fun w=>by kernel_rfl)
  (fun w os=>go_top (topPre w os) (piece_block (qMl w os) (List.append_nil wT▸piece_app (l:=wT) (rest:=[]) (segRun_of (topSeg w os)) (topFin w os)))) (by decide +kernel) (fun w=>by kernel_rfl)
end FP
namespace L2
open PySem PySem.Spec PyProof.Rows

abbrev Key:=Sum Int Str
def keyIs:Key→Value→Bool
 | .inl k,v=>Value.isInt k v
 | .inr x,v=>Value.isStrOf x v
def keyH (w:World):Key→Int
 | .inl k=>hashInt k
 | .inr x=>hashStr w x
theorem zZ:∀{k:Key} {v:Value},keyIs k v=true→(∃i t,k=Sum.inl i∧v=Value.int i t)∨(∃x t,k=Sum.inr x∧v=Value.str x t)
 | .inl i,v,h=>by
  obtain⟨t,e⟩:=Value.isInt_shape (k:=i) (v:=v) h
  exact .inl ⟨i,t,rfl,e⟩
 | .inr x,v,h=>by
  obtain⟨t,e⟩:=Value.isStrOf_shape (x:=x) (v:=v) h
  exact .inr ⟨x,t,rfl,e⟩
theorem qHg (i:Int)(t:Tok):keyIs (.inl i) (.int i t)=true:=by simp[keyIs,Value.isInt]
theorem qHf (x:Str)(t:Tok):keyIs (.inr x) (.str x t)=true:=by simp[keyIs,Value.isStrOf]
theorem xZd (a b:Int):decide ((Sum.inl a:Key)=Sum.inl b)=(a == b):=by
 by_cases e:a=b
 ·subst e;simp
 ·have h:¬(Sum.inl a:Key)=Sum.inl b:=fun q=>e (Sum.inl.inj q)
  rw[decide_eq_false h]
  exact(beq_eq_false_iff_ne.mpr e).symm
theorem xZa (a b:Str):decide ((Sum.inr a:Key)=Sum.inr b)=decide (a=b):=by
 by_cases e:a=b
 ·subst e;simp
 ·have h:¬(Sum.inr a:Key)=Sum.inr b:=fun q=>e (Sum.inr.inj q)
  rw[decide_eq_false h,decide_eq_false e]
theorem xZc (a:Int)(b:Str):decide ((Sum.inl a:Key)=Sum.inr b)=false:=decide_eq_false (fun q=>nomatch q)
theorem xZb (a:Str)(b:Int):decide ((Sum.inr a:Key)=Sum.inl b)=false:=decide_eq_false (fun q=>nomatch q)

def xS (prog:Program)(w:World):PySem.KeyKind prog w Key where
 is:=keyIs
 hash:=keyH w
 inj:=fun v a b ha hb=>by
  rcases zZ ha with⟨i,t,rfl,rfl⟩ | ⟨x,t,rfl,rfl⟩
  ·rcases zZ hb with⟨j,u,rfl,e⟩ | ⟨y,u,rfl,e⟩
   ·injection e with e1 _;rw[e1]
   ·exact nomatch e
  ·rcases zZ hb with⟨j,u,rfl,e⟩ | ⟨y,u,rfl,e⟩
   ·exact nomatch e
   ·injection e with e1 _;rw[e1]
 byValue:=fun k v h=>by
  rcases zZ h with⟨i,t,rfl,rfl⟩ | ⟨x,t,rfl,rfl⟩ <;> rfl
 pyHash:=fun hv h=>by
  rcases zZ hv with⟨i,t,rfl,rfl⟩ | ⟨x,t,rfl,rfl⟩
  ·exact wpAny_pyHash_int h
  ·exact wpAny_pyHash_str h
 eqBool:=fun hu hv h=>by
  rcases zZ hu with⟨i,t,rfl,rfl⟩ | ⟨x,t,rfl,rfl⟩
  ·rcases zZ hv with⟨j,u,rfl,rfl⟩ | ⟨y,u,rfl,rfl⟩
   ·rw[xZd] at h;exact wpAny_eqBool_int h
   ·rw[xZc] at h;exact SeqAt.EqAt.int_str i t y u _ _ _ _ h
  ·rcases zZ hv with⟨j,u,rfl,rfl⟩ | ⟨y,u,rfl,rfl⟩
   ·rw[xZb] at h;exact SeqAt.EqAt.str_int x t j u _ _ _ _ h
   ·rw[xZa] at h;exact wpAny_eqBool_str h
 «strs»:=fun k x t v h=>by
  rcases zZ h with⟨i,u,rfl,e⟩ | ⟨y,u,rfl,e⟩
  ·exact nomatch e
  ·injection e with e1 _
   subst e1
   cases v <;> rfl

theorem qWd (prog:Program)(w:World)(i:Int)(t:Tok):(xS prog w).is (.inl i) (.int i t)=true:=qHg i t
theorem yD (prog:Program)(w:World)(x:Str)(t:Tok):(xS prog w).is (.inr x) (.str x t)=true:=qHf x t
end L2

namespace L2
open PySem PySem.Spec PyProof.Rows

inductive V where
 | non | bl (b:Bool) | int (i:Int) | str (x:Str) | byt (b:Array UInt8) | flt (b:UInt64) | ref (a:Addr) | ty (n:String)
 deriving DecidableEq

def RelV:V→Value→Prop
 | .non,u=>u=Value.none
 | .bl b,u=>u=Value.bool b
 | .int i,u=>∃t,u=Value.int i t
 | .str x,u=>∃t,u=Value.str x t
 | .byt b,u=>∃t,u=Value.bytes b t
 | .flt b,u=>∃t,u=Value.float b t
 | .ref a,u=>u=Value.ref a
 | .ty n,u=>u=Value.type n

abbrev Vals:List V→List Value→Prop:=Paired RelV
theorem Vals.length {xs:List V}{us:List Value}(r:Vals xs us):xs.length=us.length:=Paired.length r
theorem Vals.get:∀{xs:List V} {us:List Value} {i:Nat} {x:V},Vals xs us→xs[i]? = some x→∃u,us[i]? = some u∧RelV x u
 | _,_,_,_,.nil,e=>by simp at e
 | _,_,0,_,.cons r _,e=>by simp at e;subst e;exact⟨_,rfl,r⟩
 | _,_,i+1,x,.cons _ t,e=>by
  obtain⟨u,h1,h2⟩:=Vals.get (i:=i) (x:=x) t (by simpa using e)
  exact⟨u,by simpa using h1,h2⟩
theorem Vals.set {x:V}{u:Value}(r:RelV x u):∀{xs:List V} {us:List Value} (i:Nat),Vals xs us→Vals (xs.set i x) (us.set i u)
 | _,_,_,.nil=>.nil
 | _,_,0,.cons _ t=>.cons r t
 | _,_,i+1,.cons q t=>.cons q (Vals.set r i t)
theorem Vals.append:∀{xs ys:List V} {us ws:List Value},Vals xs us→Vals ys ws→Vals (xs++ys) (us++ws)
 | _,_,_,_,.nil,s=>s
 | _,_,_,_,.cons r t,s=>.cons r (Vals.append t s)
theorem Vals.take:∀{xs:List V} {us:List Value} (n:Nat),Vals xs us→Vals (xs.take n) (us.take n)
 | _,_,0,_=>.nil
 | _,_,_+1,.nil=>.nil
 | _,_,n+1,.cons r t=>.cons r (Vals.take n t)
theorem Vals.drop:∀{xs:List V} {us:List Value} (n:Nat),Vals xs us→Vals (xs.drop n) (us.drop n)
 | _,_,0,r=>r
 | _,_,_+1,.nil=>.nil
 | _,_,n+1,.cons _ t=>Vals.drop n t
def RelO:Option V→Option Value→Prop
 | some v,some u=>RelV v u
 | none,none=>True
 | _,_=>False
def KV {κ:Type}:List (κ×V)→List (κ×Value)→Prop:=Paired fun(p:κ×V) (q:κ×Value)=>p.1=q.1∧RelV p.2 q.2

def kV:Key→V
 | .inl i=>.int i
 | .inr x=>.str x

inductive HO where
 /-- a list -/
 | lst (xs:List V)
 /-- a tuple (never changes) -/
 | tup (xs:List V)
 /-- a dict whose keys are ints and texts; one whose keys are tuples of ints and texts (the empty one is both) -/
 | dK (kvs:List (Key×V)) | dT (kvs:List (List Key×V))
 /-- a set of ints: its members, its size -/
 | set (S:Int→Bool) (n:Nat)
 /-- an instance of the class at C, its dict at dx, its attributes -/
 | ins (C dx:Addr) (fs:List (Str×V))
 /-- the dict of the instance at x -/
 | own (x:Addr)
 /-- the dict of an exception -/
 | xd (fs:List (Str×V))
 /-- a bound method, f of x -/
 | met (f x:Addr)
 /-- a range object lo, lo + 1, .. below hi -/
 | rng (lo hi:Int)
 /-- a thing that is known to the object (the script; a dict while a loop walks it): read, never written while it is so -/
 | frz (o:Obj) (u:HO)
 /-- a code object's table -/
 | tbl (ps:Array Value)
 /-- any other thing, by what is true of its one object (a def of one's own: SetO a S n := HO.ext fun h => ..) -/
 | ext (φ:Heap→Prop)

abbrev Hp:=Addr→Option HO
def upd (H:Hp)(a:Addr)(o:HO):Hp:=fun b=>if b=a then some o else H b
theorem qW {H:Hp}{a:Addr}{o:HO}:upd H a o a=some o:=by unfold upd;rw[if_pos rfl]
theorem qA {H:Hp}{a b:Addr}{o:HO}(h:b≠a):upd H a o b=H b:=by unfold upd;rw[if_neg h]
theorem jZ {H:Hp}{a b:Addr}{o u:HO}(h:H a=some o)(h':H b=some u)(d:o≠u):a≠b:=by
 intro e;subst e;rw[h] at h';exact d (Option.some.inj h')
theorem qB {H:Hp}{a b:Addr}{o:HO}(h:H a=some o)(h':H b=none):a≠b:=by
 intro e;subst e;rw[h] at h';cases h'

def TupX (h:Heap)(a:Addr)(its:Array Value):Prop:=∃o,h.get? a=some o∧o.cls=.type "tuple" ∧ ∃n,o.data=.seq its n∧o.dict=none
theorem TupX.tup {h:Heap}{a:Addr}{its:Array Value}(x:TupX h a its):IsTup h a its:=let ⟨o,e,c,n,d,_⟩:=x;⟨o,e,c,n,d⟩
theorem TupX.lt {h:Heap}{a:Addr}{its:Array Value}(x:TupX h a its):a<h.objs.size:=x.tup.lt
theorem TupX.new (h:Heap)(its:Array Value):TupX (h.push { cls:=.type "tuple",data:=.seq its }) h.objs.size its:=⟨_,yZA _ rfl,rfl,_,rfl,rfl⟩
section
variable (P:Program)(w:World)
def ObjOk (H:Hp)(h:Heap)(a:Addr):HO→Prop
 | .lst xs=>xs.length≤sizeLine∧∃(its:List Value) (n:Nat),Vals xs its∧h.get? a=some { cls:=.type "list",data:=.seq its.toArray n }
 | .tup xs=>xs.length≤sizeLine∧∃its:List Value,Vals xs its∧TupX h a its.toArray
 | .dK kvs=>kvs.length≤sizeLine∧(a == sysModules)=false∧∃vs,KV kvs vs∧h.DictOf (xS P w) a vs
 | .dT kvs=>kvs.length≤sizeLine∧(a == sysModules)=false∧∃xs:List (List Key×Addr×Value),
   Paired (fun(p:List Key×V) (q:List Key×Addr×Value)=>p.1=q.1∧H q.2.1=some (.tup (p.1.map kV))∧RelV p.2 q.2.2) kvs xs∧
   ∃o es ep,h.get? a=some o∧o.ExactDict∧o.data=.dict es ep∧es.toList=xs.map (entryOfKey (tupleKind (xS P w)))∧(xs.map (·.1)).Nodup
 | .set S n=>h.SetOf (intKind P w) a S n
 | .ins C dx fs=>H dx=some (.own a)∧fs.length≤1000∧dx≠a∧h.get? a=some (PySem.W.instObj C dx)∧
   ∃mA,h.Ns1 dx mA∧(∀f,RelO (fs.lookup f) (mA f))∧PySem.Within mA (fs.map (·.1))
 | .own _=>∃o,h.get? a=some o
 | .xd fs=>∃mA,h.Ns1 a mA∧∀f,RelO (fs.lookup f) (mA f)
 | .rng lo hi=>∃t u v,h.get? a=some { cls:=.type "range",data:=.fields #[.int lo t,.int hi u,.int 1 v] }
 | .frz o u=>h.get? a=some o∧ObjOk H h a u
 | .tbl ps=>h.get? a=some { cls:=.none,data:=.fields ps }
 | .met f x=>h.get? a=some (PySem.W.methodObj (.ref f) (.ref x))
 | .ext φ=>φ h∧(∃o,h.get? a=some o)∧∀h1 h2:Heap,φ h1→(∀o,h1.get? a=some o→h2.get? a=some o)→φ h2
def HOk (H:Hp)(h:Heap):Prop:=∀a o,H a=some o→ObjOk P w H h a o
end

section
variable {P:Program}{w:World}{H H':Hp}{h h':Heap}{a:Addr}{o:HO}
theorem ObjOk.lt (x:ObjOk P w H h a o):a<h.objs.size:=by
 cases o with
 | lst xs=>obtain⟨_,_,_,_,e⟩:=x;exact yYZ e
 | tup xs=>obtain⟨_,_,_,p⟩:=x;exact p.lt
 | dK kvs=>obtain⟨_,_,_,_,o,_,_,e,_⟩:=x;exact yYZ e
 | dT kvs=>obtain⟨_,_,_,_,o,_,_,e,_⟩:=x;exact yYZ e
 | set S n=>obtain⟨o,_,_,_,e,_⟩:=x;exact yYZ e
 | ins C dx fs=>obtain⟨_,_,_,e,_⟩:=x;exact yYZ e
 | own y=>obtain⟨_,e⟩:=x;exact yYZ e
 | xd fs=>obtain⟨_,⟨_,_,_,e,_⟩,_⟩:=x;exact yYZ e
 | rng lo hi=>obtain⟨_,_,_,e⟩:=x;exact yYZ e
 | frz ob u=>obtain⟨e,_⟩:=x;exact yYZ e
 | tbl ps=>exact yYZ (show h.get? a=some _ from x)
 | met f y=>exact yYZ (show h.get? a=some _ from x)
 | ext φ=>obtain⟨_,⟨_,e⟩,_⟩:=x;exact yYZ e
theorem Paired.mapP {α β:Type}{F G:α→β→Prop}:∀{l₁:List α} {l₂:List β},Paired F l₁ l₂→(∀a b,F a b→G a b)→Paired G l₁ l₂
 | _,_,.nil,_=>.nil
 | _,_,.cons r t,f=>.cons (f _ _ r) (Paired.mapP t f)
theorem ObjOk.stay (x:ObjOk P w H h a o)(k:∀b u,(b=a∨H b=some (.own a))→h.get? b=some u→h'.get? b=some u)
  (ho:∀b,H b=some (.own a)→H' b=some (.own a)) (ht:∀b xs,H b=some (.tup xs)→H' b=some (.tup xs)):ObjOk P w H' h' a o:=by
 induction o with
 | lst xs=>obtain⟨z,its,n,r,e⟩:=x;exact⟨z,its,n,r,k _ _ (.inl rfl) e⟩
 | tup xs=>obtain⟨z,its,r,ob,e,c⟩:=x;exact⟨z,its,r,ob,k _ _ (.inl rfl) e,c⟩
 | dK kvs=>obtain⟨z,y,vs,r,ob,es,ep,e,c⟩:=x;exact⟨z,y,vs,r,ob,es,ep,k _ _ (.inl rfl) e,c⟩
 | dT kvs=>
  obtain⟨z,y,xs,r,ob,es,ep,e,c⟩:=x
  exact⟨z,y,xs,Paired.mapP r fun p q z=>⟨z.1,ht _ _ z.2.1,z.2.2⟩,ob,es,ep,k _ _ (.inl rfl) e,c⟩
 | set S n=>obtain⟨ob,es,ep,t,e,c⟩:=x;exact⟨ob,es,ep,t,k _ _ (.inl rfl) e,c⟩
 | ins C dx fs=>
  obtain⟨d,z,ne,e,mA,⟨od,es,ep,e2,c⟩,r⟩:=x
  exact⟨ho _ d,z,ne,k _ _ (.inl rfl) e,mA,⟨od,es,ep,k _ _ (.inr d) e2,c⟩,r⟩
 | own y=>obtain⟨ob,e⟩:=x;exact⟨ob,k _ _ (.inl rfl) e⟩
 | xd fs=>obtain⟨mA,⟨od,es,ep,e,c⟩,r⟩:=x;exact⟨mA,⟨od,es,ep,k _ _ (.inl rfl) e,c⟩,r⟩
 | rng lo hi=>obtain⟨t,u,v,e⟩:=x;exact⟨t,u,v,k _ _ (.inl rfl) e⟩
 | frz ob u ih=>obtain⟨e,q⟩:=x;exact⟨k _ _ (.inl rfl) e,ih q⟩
 | tbl ps=>
  have e:h.get? a=some { cls:=.none,data:=.fields ps }:=x
  show h'.get? a=some { cls:=.none,data:=.fields ps }
  exact k a _ (.inl rfl) e
 | met f y=>
  have e:h.get? a=some (PySem.W.methodObj (.ref f) (.ref y)):=x
  show h'.get? a=some (PySem.W.methodObj (.ref f) (.ref y))
  exact k a _ (.inl rfl) e
 | ext φ=>obtain⟨p,⟨o,e⟩,st⟩:=x;exact⟨st _ _ p fun o q=>k _ _ (.inl rfl) q,⟨o,k _ _ (.inl rfl) e⟩,st⟩
theorem HOk.lt (x:HOk P w H h)(e:H a=some o):a<h.objs.size:=(x a o e).lt
theorem HOk.fresh (x:HOk P w H h)(e:h.objs.size≤a):H a=none:=by
 cases q:H a with
 | none=>rfl
 | some u=>exact absurd (yZD (x.lt q) e) (Nat.lt_irrefl _)
theorem HOk.kept (x:HOk P w H h)(k:∀b u,h.get? b=some u→h'.get? b=some u):HOk P w H h':=fun a o e=>
 (x a o e).stay (fun b u _ q=>k b u q) (fun _ q=>q) fun _ _ q=>q
theorem HOk.laid (x:HOk P w H h)(k:∀b u,h.get? b=some u→h'.get? b=some u)(hp:h.objs.size≤a)(new:ObjOk P w (upd H a o) h' a o):HOk P w (upd H a o) h':=fun b u e=>by
 have hn:=x.fresh hp
 by_cases hb:b=a
 ·subst hb;rw[qW] at e;cases e;exact new
 ·rw[qA hb] at e
  exact(x b u e).stay (fun c v _ q=>k c v q) (fun c q=>by rw[qA (qB q hn)];exact q) fun c xs q=>by rw[qA (qB q hn)];exact q
end

def Rd (H:Hp)(a:Addr)(u:HO):Prop:=H a=some u∨∃o,H a=some (.frz o u)
theorem Rd.ok {P:Program}{w:World}{H:Hp}{h:Heap}{a:Addr}{u:HO}(r:Rd H a u)(x:HOk P w H h):ObjOk P w H h a u:=by
 rcases r with r | ⟨o,r⟩
 ·exact x a u r
 ·obtain⟨_,q⟩:=x a _ r
  exact q
def Mut:Option HO→Prop
 | some (.lst _)=>True
 | some (.dK _)=>True
 | some (.dT _)=>True
 | some (.set _ _)=>True
 | some (.ins _ _ _)=>True
 | some (.ext _)=>True
 | _=>False
section
variable {P:Program}{w:World}{H:Hp}{h h':Heap}{x e:Addr}{o':HO}
theorem HOk.write (ok:HOk P w H h)(mu:Mut (H x))(he:e=x∨H e=some (.own x))(k:∀b u,b≠e→h.get? b=some u→h'.get? b=some u)(heo:∃u,h'.get? e=some u)
  (new:ObjOk P w (upd H x o') h' x o'):HOk P w (upd H x o') h':=fun b u q=>by
 have nown:∀c y,H c=some (.own y)→c≠x:=fun c y r z=>by subst z;rw[r] at mu;exact mu
 have ntup:∀c xs,H c=some (.tup xs)→c≠x:=fun c xs r z=>by subst z;rw[r] at mu;exact mu
 by_cases hb:b=x
 ·subst hb;rw[qW] at q;cases q;exact new
 ·rw[qA hb] at q
  by_cases hbe:b=e
  ·have q':H b=some (.own x):=by
    rcases he with z | z
    ·exact absurd (hbe.trans z) hb
    ·rw[hbe];exact z
   rw[q] at q';cases q'
   obtain⟨v,hv⟩:=heo
   exact⟨v,by rw[hbe];exact hv⟩
  ·refine(ok b u q).stay (fun c v hc r=>k c v ?_ r) (fun c r=>by rw[qA (nown c b r)];exact r) fun c xs r=>by rw[qA (ntup c xs r)];exact r
   rcases hc with rfl | hc
   ·exact hbe
   ·rintro rfl
    rcases he with z | z
    ·exact nown c b hc z
    ·rw[hc] at z;cases z;exact hb rfl
end

structure Un (fs ex:List Addr)(H H':Hp)(h h':Heap):Prop where
 keep:∀b o,h.get? b=some o→H b=none→b∉fs→b∉ex→h'.get? b=some o
 slot:∀b o,h.get? b=some o→H b=none→b∈fs→b∉ex→∃sl,h'.get? b=some { o with slots:=sl }
 free:∀b o,h.get? b=some o→H b=none→b∉ex→H' b=none
 there:∀b o,h.get? b=some o→b∉ex→∃o',h'.get? b=some o'
 tups:∀b xs,H b=some (.tup xs)→H' b=some (.tup xs)
 frzs:∀b o u,H b=some (.frz o u)→H' b=some (.frz o u)
 tbls:∀b ps,H b=some (.tbl ps)→∃more,H' b=some (.tbl (ps++more))
section
variable {fs fs' ex ex':List Addr}{H H1 H2:Hp}{h h1 h2 h':Heap}{a x e:Addr}{o:HO}
theorem Un.any (u:Un fs ex H H1 h h1){b:Addr}{ob:Obj}(q:h.get? b=some ob)(n:H b=none)(hx:b∉ex):∃sl,h1.get? b=some { ob with slots:=sl }:=by
 by_cases hb:b∈fs
 ·exact u.slot b ob q n hb hx
 ·exact⟨ob.slots,u.keep b ob q n hb hx⟩
theorem Un.trans (a:Un fs ex H H1 h h1)(b:Un fs ex H1 H2 h1 h2):Un fs ex H H2 h h2 where
 keep:=fun c ob q n hc hx=>b.keep c ob (a.keep c ob q n hc hx) (a.free c ob q n hx) hc hx
 slot:=fun c ob q n hc hx=>by
  obtain⟨sl,e1⟩:=a.slot c ob q n hc hx
  obtain⟨sl',e2⟩:=b.slot c _ e1 (a.free c ob q n hx) hc hx
  exact⟨sl',e2⟩
 free:=fun c ob q n hx=>by
  obtain⟨o',e1⟩:=a.there c ob q hx
  exact b.free c o' e1 (a.free c ob q n hx) hx
 there:=fun c ob q hx=>by
  obtain⟨o',e1⟩:=a.there c ob q hx
  exact b.there c o' e1 hx
 tups:=fun c xs q=>b.tups c xs (a.tups c xs q)
 frzs:=fun c ob xs q=>b.frzs c ob xs (a.frzs c ob xs q)
 tbls:=fun c ps q=>by
  obtain⟨m1,e1⟩:=a.tbls c ps q
  obtain⟨m2,e2⟩:=b.tbls c _ e1
  exact⟨m1++m2,by rw[e2,Array.append_assoc]⟩
theorem Un.kept (k:∀b u,h.get? b=some u→h'.get? b=some u):Un fs ex H H h h':=
 ⟨fun b ob q _ _ _=>k b ob q,fun b ob q _ _ _=>⟨ob.slots,k b ob q⟩,fun _ _ _ n _=>n,fun b ob q _=>⟨ob,k b ob q⟩,fun _ _ q=>q,fun _ _ _ q=>q,fun _ ps q=>⟨#[],by rw[q];simp⟩⟩
theorem Un.refl:Un fs ex H H h h:=Un.kept fun _ _ q=>q
theorem Un.laid (k:∀b u,h.get? b=some u→h'.get? b=some u)(hp:h.objs.size≤a)(hn:H a=none):Un fs ex H (upd H a o) h h' where
 keep:=fun b u q _ _ _=>k b u q
 slot:=fun b u q _ _ _=>⟨u.slots,k b u q⟩
 free:=fun b u q n _=>by rw[qA (yZE (yZD (yYZ q) hp))];exact n
 there:=fun b u q _=>⟨u,k b u q⟩
 tups:=fun b xs q=>by rw[qA (qB q hn)];exact q
 frzs:=fun b u xs q=>by rw[qA (qB q hn)];exact q
 tbls:=fun b ps q=>⟨#[],by rw[qA (qB q hn),q];simp⟩
theorem Un.write (mu:Mut (H x))(he:e=x∨H e=some (.own x))(k:∀b u,b≠e→h.get? b=some u→h'.get? b=some u)(heo:∃u,h'.get? e=some u):Un fs ex H (upd H x o) h h':=by
 have hx:∀b,H b=none→b≠x:=fun b n z=>by subst z;rw[n] at mu;exact mu
 have hb:∀b,H b=none→b≠e:=fun b n z=>by
  subst z
  rcases he with r | r
  ·exact hx b n r
  ·rw[n] at r;cases r
 have hm:∀b u,H b=some u→¬Mut (some u)→b≠x:=fun b u q nm z=>by subst z;rw[q] at mu;exact nm mu
 refine⟨fun b u q n _ _=>k b u (hb b n) q,fun b u q n _ _=>⟨u.slots,k b u (hb b n) q⟩,fun b u q n _=>by rw[qA (hx b n)];exact n,fun b u q _=>?_,
  fun b xs q=>by rw[qA (hm b _ q fun z=>z)];exact q,fun b u xs q=>by rw[qA (hm b _ q fun z=>z)];exact q,fun b ps q=>⟨#[],by rw[qA (hm b _ q fun z=>z),q];simp⟩⟩
 by_cases hbe:b=e
 ·subst hbe;exact heo
 ·exact⟨u,k b u hbe q⟩
end

def trk (h:Heap)(H:Hp):List Addr:=(List.range h.objs.size).filter fun a=>(H a).isSome
def hidT (h:Heap)(H:Hp):Heap:=PySem.W.hideAll h (trk h H)
theorem qHn (h:Heap)(H:Hp):(hidT h H).objs.size=h.objs.size:=PySem.W.hideAll_size _ _
theorem qOi {h:Heap}{H:Hp}{b:Addr}{o:Obj}(e:h.get? b=some o)(n:H b=none):(hidT h H).get? b=some o:=
 PySem.W.hideAll_get _ e fun hm=>by
  have q:(H b).isSome=true:=(yYR.mp hm).2
  rw[n] at q;simp at q
theorem qTf {h:Heap}{H:Hp}{b:Addr}{o:Obj}(e:(hidT h H).get? b=some o):h.get? b=some o∧H b=none:=by
 have e':h.get? b=some o:=PySem.W.of_hideAll (trk h H) e
 refine⟨e',?_⟩
 cases q:H b with
 | none=>rfl
 | some x=>
  have hm:b∈trk h H:=yYR.mpr ⟨List.mem_range.mpr (yYZ e'),by simp[q]⟩
  have z:(hidT h H).get? b=none:=PySem.W.hideAll_none (trk h H) hm
  rw[z] at e;cases e

end L2

namespace L2
open PySem PySem.Spec PyProof.Rows

structure Mod (K:yZO)(mg:Str→Option Value)(base:Heap):Prop where
 kin:K.In base
 glob:base.Ns mainGlobals mg
 blt:∃mb,base.Ns builtinsNs mb∧∀x:Str,x ≠ "__name__" → mb x=bootBuiltins x
 nolimit:base.NoLimit

/-- the context: a def's body (or a comprehension's block) running. base: fixed through the whole law; s₀, H₀: the entry; outer: the frames whose slots others may change (a def's callers); stack: all frames that run;
   ex: iterators that were made ahead of the entry and are walked here (a comprehension's); fn: the names whose cells were made at the entry (a def: all; a comprehension's block: its own); calm: not within an except suite; pn: pins that every state bears; xe: what is wanted of an exception that leaves the code -/
structure Cx where
 prog:Program
 w:World
 K:yZO
 mg:Str→Option Value
 base:Heap
 A:Around
 N:List Str
 s₀:Shared
 H₀:Hp
 env:Env
 outer:List Env
 stack:List Env
 ex:List Addr
 fn:Str→Bool
 calm:Bool
 pn:List (Addr×Obj)
 xe:Value→Shared→Prop
def frs (l:List Env):List Addr:=l.filterMap (·.frame)
abbrev Cx.fs (X:Cx):List Addr:=frs X.outer

def Vis (sc:Scope)(x:Str):Prop:=sc.names.lookup x=some .local∨sc.names.lookup x=some .cell∨sc.names.lookup x=some .free
def Loc (sc:Scope)(x:Str):Prop:=sc.names.lookup x=some .local∨sc.names.lookup x=some .cell
def Look (env:Env)(h:Heap)(m:Str→Option Value)(x:Str)(u:Value):Prop:=
 (env.kindOf x=some .local∧m x=some u)∨((env.kindOf x=some .cell∨env.kindOf x=some .free)∧∃c,env.cells.lookup x=some c∧h.IsCell c (some u))

structure Cx.Ok (X:Cx):Prop where
 mod:Mod X.K X.mg X.base
 kind:X.env.scope.kind=.function
 glob:X.env.globals=mainGlobals
 blt:X.env.builtins=builtinsNs
 above:X.s₀.heap.objs.size≤X.env.locals
 inj:∀x y c,X.env.cells.lookup x=some c→X.env.cells.lookup y=some c→x=y
 has:∀x,(X.env.kindOf x=some .cell∨X.env.kindOf x=some .free)→∃c,X.env.cells.lookup x=some c
 cab:∀x c,X.fn x=true→X.env.cells.lookup x=some c→X.s₀.heap.objs.size≤c
 hd:X.calm=true→X.A.handled=none
 frames:X.A.frames=some X.stack
 stk:X.stack=X.outer∨(X.stack=X.env::X.outer∧X.env.frame=some X.env.locals)
 exf:∀b∈X.ex,b≠X.env.locals∧∀x c,X.env.cells.lookup x=some c→c≠b
 bs:∀b o,X.base.get? b=some o→X.s₀.heap.get? b=some o∧X.H₀ b=none
 bsz:X.base.objs.size≤X.s₀.heap.objs.size
 noex:∀b o,X.base.get? b=some o→b∉X.ex
 exfs:∀b∈X.ex,b∉X.fs
 funs:X.s₀.heap.FunFrames X.base X.outer
 frf:∀b∈X.fs,X.H₀ b=none

structure Inv (X:Cx)(pins:List (Addr×Obj))(σ:List (Option V))(H:Hp)(s:Shared):Prop where
 ok:X.Ok
 os:s.os=X.s₀.os
 bare:AllBare s.gens
 base:Un X.fs X.ex X.H₀ H X.s₀.heap s.heap
 loc:∃m,s.heap.Ns X.env.locals m∧∀(i:Nat) (x:Str) (v:V),X.N[i]? = some x→σ[i]? = some (some v)→Vis X.env.scope x→∃u,RelV v u∧Look X.env s.heap m x u
 cell:∀x c,X.env.cells.lookup x=some c→∃v,s.heap.IsCell c v
 free:H X.env.locals=none
 freeC:∀x c,X.env.cells.lookup x=some c→H c=none
 pin:∀p∈X.pn++pins,s.heap.get? p.1=some p.2∧H p.1=none∧p.1≠X.env.locals∧p.1∉X.fs∧∀v,p.2.data≠.cell v
 hok:HOk X.prog X.w H s.heap
 len:σ.length=X.N.length

section
variable {X:Cx}{pins:List (Addr×Obj)}{σ:List (Option V)}{H H':Hp}{s:Shared}{h':Heap}

theorem Cx.Ok.nofr (ok:X.Ok){b:Addr}{o:Obj}(e:X.base.get? b=some o):b∉X.fs:=fun hb=>by
 have:=(ok.funs.mem hb).1
 rw[e] at this;cases this
theorem Inv.bs (I:Inv X pins σ H s):∀b o,X.base.get? b=some o→s.heap.get? b=some o∧H b=none:=fun b o e=>
 ⟨I.base.keep b o (I.ok.bs b o e).1 (I.ok.bs b o e).2 (I.ok.nofr e) (I.ok.noex b o e),I.base.free b o (I.ok.bs b o e).1 (I.ok.bs b o e).2 (I.ok.noex b o e)⟩
theorem Inv.bk (I:Inv X pins σ H s):∀b o,X.base.get? b=some o→s.heap.get? b=some o:=fun b o e=>(I.bs b o e).1
theorem Inv.mod (I:Inv X pins σ H s):Mod X.K X.mg X.base:=I.ok.mod
theorem Inv.kIn (I:Inv X pins σ H s):X.K.In s.heap:=I.ok.mod.kin.keeps I.bk
theorem Inv.lt (I:Inv X pins σ H s):X.env.locals<s.heap.objs.size:=let ⟨_,hn,_⟩:=I.loc;hn.lt
theorem Inv.sz (I:Inv X pins σ H s):X.s₀.heap.objs.size≤s.heap.objs.size:=yZI I.ok.above (Nat.le_of_lt I.lt)
theorem Inv.nofs (I:Inv X pins σ H s){a:Addr}(h:s.heap.objs.size≤a):a∉X.fs:=fun hb=>by
 obtain⟨_,o,ho,_⟩:=I.ok.funs.mem hb
 exact absurd (yZD (yYZ ho) (yZI I.sz h)) (Nat.lt_irrefl _)
theorem Inv.cne (I:Inv X pins σ H s):∀x c,X.env.cells.lookup x=some c→c≠X.env.locals:=fun x c e z=>by
 obtain⟨v,o,ho,hd⟩:=I.cell x c e
 obtain⟨m,⟨o',es,ep,ho',hd',_⟩,_⟩:=I.loc
 rw[z,ho'] at ho;cases ho;rw[hd'] at hd;cases hd
theorem Inv.funs (I:Inv X pins σ H s):s.heap.FunFrames X.base X.outer:=by
 have all:∀(l:List Env),(∀b∈frs l,b∈X.fs)→X.s₀.heap.FunFrames X.base l→s.heap.FunFrames X.base l:=by
  intro l
  induction l with
  | nil=>intro _ _;trivial
  | cons env r ih=>
   intro hs hl
   obtain⟨hk,⟨L,o,hf,hn,ho,hd⟩,hr⟩:=hl
   have hL:L∈X.fs:=hs L (by unfold frs;rw[List.filterMap_cons,hf];exact yYG)
   obtain⟨sl,e⟩:=I.base.slot L o ho (I.ok.frf L hL) hL fun z=>I.ok.exfs L z hL
   exact⟨hk,⟨L,_,hf,hn,e,hd⟩,ih (fun b hb=>hs b (by unfold frs;rw[List.filterMap_cons,hf];exact yYH _ hb)) hr⟩
 exact all X.outer (fun _ hb=>hb) I.ok.funs

theorem Inv.stack (I:Inv X pins σ H s):s.heap.FunFrames X.base X.stack:=by
 rcases I.ok.stk with e | ⟨e,hf⟩
 ·rw[e];exact I.funs
 ·rw[e]
  obtain⟨m,hn,_⟩:=I.loc
  refine .cons (by rw[I.ok.kind];decide) hf hn ?_ I.funs
  exact Heap.get?_none_of_le (yZI I.ok.bsz I.ok.above)
theorem Inv.stkSub (I:Inv X pins σ H s):∀b∈frs X.stack,b∈X.env.locals::X.fs:=fun b hb=>by
 rcases I.ok.stk with e | ⟨e,hf⟩
 ·rw[e] at hb;exact yYH _ hb
 ·rw[e] at hb
  unfold frs at hb
  rw[List.filterMap_cons,hf] at hb
  exact hb
theorem Inv.stkFree (I:Inv X pins σ H s):∀b∈frs X.stack,H b=none:=fun b hb=>by
 rcases yYK.mp (I.stkSub b hb) with e | hb
 ·rw[e];exact I.free
 ·obtain⟨_,o,ho,_⟩:=I.ok.funs.mem hb
  exact I.base.free b o ho (I.ok.frf b hb) fun z=>I.ok.exfs b z hb

theorem Inv.step {g':Array GenState}{t':Nat}{d':Drawn}{ch:List Addr}(I:Inv X pins σ H s)
  (hch:∀b∈ch,(b∈X.ex∨X.s₀.heap.objs.size≤b)∧b≠X.env.locals∧(∀x c,X.env.cells.lookup x=some c→c≠b)∧∀p∈X.pn++pins,p.1≠b)
  (keep:∀b o,b≠X.env.locals→b∉X.fs→b∉ch→s.heap.get? b=some o→H b=none→h'.get? b=some o)
  (slot:∀b o,b≠X.env.locals→b∈X.fs→b∉ch→s.heap.get? b=some o→H b=none→∃sl,h'.get? b=some { o with slots:=sl }) (free:∀b o,b∉ch→s.heap.get? b=some o→H b=none→H' b=none)
  (there:∀b o,b∉ch→s.heap.get? b=some o→∃o',h'.get? b=some o')
  (tups:∀b xs,H b=some (.tup xs)→H' b=some (.tup xs)) (frzs:∀b o u,H b=some (.frz o u)→H' b=some (.frz o u)) (tbls:∀b ps,H b=some (.tbl ps)→∃more,H' b=some (.tbl (ps++more)))
  (ns:∀m,s.heap.Ns X.env.locals m→h'.Ns X.env.locals m) (hok:HOk X.prog X.w H' h') (hg:AllBare g'):
  Inv X pins σ H' { s with heap:=h',gens:=g',drawn:=d',toks:=t' }:=by
 have neL:∀b o,X.s₀.heap.get? b=some o→b≠X.env.locals:=fun b o e=>yZE (yZD (yYZ e) I.ok.above)
 have neC:∀b o,X.s₀.heap.get? b=some o→b∉X.ex→b∉ch:=fun b o e hx hb=>by
  rcases(hch b hb).1 with z | z
  ·exact hx z
  ·exact absurd (yZD (yYZ e) z) (Nat.lt_irrefl _)
 have cellK:∀x c,X.env.cells.lookup x=some c→∀v,s.heap.IsCell c v→h'.IsCell c v:=fun x c e v ⟨o,ho,hd⟩=>by
  have nch:c∉ch:=fun z=>(hch c z).2.2.1 x c e rfl
  by_cases hc:c∈X.fs
  ·obtain⟨sl,q⟩:=slot c o (I.cne x c e) hc nch ho (I.freeC x c e)
   exact⟨_,q,hd⟩
  ·exact⟨o,keep c o (I.cne x c e) hc nch ho (I.freeC x c e),hd⟩
 refine⟨I.ok,I.os,hg,⟨fun b o e n hb hx=>?_,fun b o e n hb hx=>?_,fun b o e n hx=>?_,fun b o e hx=>?_,fun b xs e=>tups b xs (I.base.tups b xs e),fun b o xs e=>frzs b o xs (I.base.frzs b o xs e),fun b ps e=>?_⟩,?_,fun x c e=>?_,?_,fun x c e=>?_,fun p hp=>?_,hok,I.len⟩
 ·exact keep b o (neL b o e) hb (neC b o e hx) (I.base.keep b o e n hb hx) (I.base.free b o e n hx)
 ·obtain⟨sl,e1⟩:=I.base.slot b o e n hb hx
  obtain⟨sl',e2⟩:=slot b _ (neL b o e) hb (neC b o e hx) e1 (I.base.free b o e n hx)
  exact⟨sl',e2⟩
 ·obtain⟨o',e1⟩:=I.base.there b o e hx
  exact free b o' (neC b o e hx) e1 (I.base.free b o e n hx)
 ·obtain⟨o',e1⟩:=I.base.there b o e hx
  exact there b o' (neC b o e hx) e1
 ·obtain⟨m1,e1⟩:=I.base.tbls b ps e
  obtain⟨m2,e2⟩:=tbls b _ e1
  exact⟨m1++m2,by rw[e2,Array.append_assoc]⟩
 ·obtain⟨m,hn,hl⟩:=I.loc
  refine⟨m,ns m hn,fun i x v e1 e2 e3=>?_⟩
  obtain⟨u,r,l⟩:=hl i x v e1 e2 e3
  refine⟨u,r,?_⟩
  rcases l with l | ⟨k,c,e,z⟩
  ·exact .inl l
  ·exact .inr ⟨k,c,e,cellK x c e _ z⟩
 ·obtain⟨v,z⟩:=I.cell x c e
  exact⟨v,cellK x c e v z⟩
 ·obtain⟨m,⟨o,_,_,ho,_⟩,_⟩:=I.loc
  exact free _ o (fun z=>(hch _ z).2.1 rfl) ho I.free
 ·obtain⟨v,o,ho,hd⟩:=I.cell x c e
  exact free c o (fun z=>(hch c z).2.2.1 x c e rfl) ho (I.freeC x c e)
 ·obtain⟨e,n,ne,nf,d⟩:=I.pin p hp
  have nch:p.1∉ch:=fun z=>(hch p.1 z).2.2.2 p hp rfl
  exact⟨keep p.1 p.2 ne nf nch e n,free p.1 p.2 nch e n,ne,nf,d⟩
theorem Inv.un {t':Nat}(I:Inv X pins σ H s)(u:Un X.fs [] H H' s.heap h')(hok:HOk X.prog X.w H' h'):Inv X pins σ H' { s with heap:=h',toks:=t' }:=by
 obtain⟨m,⟨o,es,ep,ho,r⟩,_⟩:=id I.loc
 obtain⟨sl,hL⟩:=u.any ho I.free (by simp)
 exact I.step (g':=s.gens) (d':=s.drawn) (ch:=[]) (fun _ z=>nomatch z) (fun b o _ hb _ e n=>u.keep b o e n hb (by simp)) (fun b o _ hb _ e n=>u.slot b o e n hb (by simp)) (fun b o _ e n=>u.free b o e n (by simp)) (fun b o _ e=>u.there b o e (by simp)) u.tups u.frzs u.tbls (fun m' hm=>by
  obtain⟨o',es',ep',ho',r'⟩:=hm
  rw[ho] at ho';cases ho'
  exact⟨_,es',ep',hL,r'⟩) hok I.bare
theorem Inv.call {g':Array GenState}{t':Nat}{d':Drawn}{ch:List Addr}(I:Inv X pins σ H s)(u:Un (frs X.stack) ch H H' s.heap h')(hok:HOk X.prog X.w H' h')(hg:AllBare g')
  (hch:∀b∈ch,(b∈X.ex∨X.s₀.heap.objs.size≤b)∧b≠X.env.locals∧(∀x c,X.env.cells.lookup x=some c→c≠b)∧∀p∈X.pn++pins,p.1≠b):
  Inv X pins σ H' { s with heap:=h',gens:=g',drawn:=d',toks:=t' }:=by
 obtain⟨m,⟨o,es,ep,ho,r⟩,_⟩:=id I.loc
 obtain⟨sl,hL⟩:=u.any ho I.free fun z=>(hch _ z).2.1 rfl
 exact I.step (ch:=ch) hch (fun b o hL hb hc e n=>u.keep b o e n (fun z=>(yYK.mp (I.stkSub b z)).elim hL hb) hc) (fun b o _ _ hc e n=>u.any e n hc) (fun b o hc e n=>u.free b o e n hc) (fun b o hc e=>u.there b o e hc) u.tups u.frzs u.tbls (fun m' hm=>by
  obtain⟨o',es',ep',ho',r'⟩:=hm
  rw[ho] at ho';cases ho'
  exact⟨_,es',ep',hL,r'⟩) hok hg
theorem Inv.turned {t':Nat}{it:Addr}(I:Inv X pins σ H s)(k:∀b o,b≠it→s.heap.get? b=some o→h'.get? b=some o)(hn:H it=none)(hL:it≠X.env.locals)
  (h1:it∈X.ex∨X.s₀.heap.objs.size≤it) (h2:∀x c,X.env.cells.lookup x=some c→c≠it) (h3:∀p∈X.pn++pins,p.1≠it):Inv X pins σ H { s with heap:=h',toks:=t' }:=by
 have nit:∀b u,H b=some u→b≠it:=fun b u e z=>by rw[z,hn] at e;cases e
 refine I.step (g':=s.gens) (d':=s.drawn) (ch:=[it]) (fun b hb=>?_) (fun b o _ _ hc e _=>k b o (fun z=>hc (by simp[z])) e) (fun b o _ _ hc e _=>⟨o.slots,k b o (fun z=>hc (by simp[z])) e⟩) (fun _ _ _ _ n=>n)
  (fun b o hc e=>⟨o,k b o (fun z=>hc (by simp[z])) e⟩) (fun _ _ e=>e) (fun _ _ _ e=>e) (fun b ps e=>⟨#[],by rw[e];simp⟩) (fun m hm=>?_) (fun b u e=>?_) I.bare
 ·have e:b=it:=by simpa using hb
  subst e
  exact⟨h1,hL,h2,h3⟩
 ·obtain⟨o,es,ep,ho,r⟩:=hm
  exact⟨o,es,ep,k _ o (Ne.symm hL) ho,r⟩
 ·refine(I.hok b u e).stay (fun c v hc q=>k c v ?_ q) (fun _ q=>q) fun _ _ q=>q
  rcases hc with z | z
  ·rw[z];exact nit b u e
  ·exact nit c _ z
theorem Inv.tok (I:Inv X pins σ H s)(t:Nat):Inv X pins σ H { s with toks:=t }:=I.un (h':=s.heap) (t':=t) Un.refl I.hok
theorem Inv.kept {t':Nat}(I:Inv X pins σ H s)(k:∀b u,s.heap.get? b=some u→h'.get? b=some u):Inv X pins σ H { s with heap:=h',toks:=t' }:=I.un (Un.kept k) (I.hok.kept k)
theorem Inv.laid {a:Addr}{o:HO}{t':Nat}(I:Inv X pins σ H s)(k:∀b u,s.heap.get? b=some u→h'.get? b=some u)(hp:s.heap.objs.size≤a)(new:ObjOk X.prog X.w (upd H a o) h' a o):
  Inv X pins σ (upd H a o) { s with heap:=h',toks:=t' }:=I.un (Un.laid k hp (I.hok.fresh hp)) (I.hok.laid k hp new)
theorem Inv.write {x e:Addr}{o:HO}{t':Nat}(I:Inv X pins σ H s)(mu:Mut (H x))(he:e=x∨H e=some (.own x))(k:∀b u,b≠e→s.heap.get? b=some u→h'.get? b=some u)(heo:∃u,h'.get? e=some u)
  (new:ObjOk X.prog X.w (upd H x o) h' x o):Inv X pins σ (upd H x o) { s with heap:=h',toks:=t' }:=I.un (Un.write mu he k heo) (I.hok.write mu he k heo new)
theorem Inv.weak {σ':List (Option V)}(I:Inv X pins σ H s)(hl:σ'.length=σ.length)(w:∀(i:Nat) v,σ'[i]? = some (some v)→σ[i]? = some (some v)):Inv X pins σ' H s:=
 ⟨I.ok,I.os,I.bare,I.base,let ⟨m,hn,hl'⟩:=I.loc;⟨m,hn,fun i x v e1 e2 e3=>hl' i x v e1 (w i v e2) e3⟩,I.cell,I.free,I.freeC,I.pin,I.hok,hl.trans I.len⟩
theorem Inv.pins_of {pins':List (Addr×Obj)}(I:Inv X pins σ H s)(h:∀p∈pins',s.heap.get? p.1=some p.2∧H p.1=none∧p.1≠X.env.locals∧p.1∉X.fs∧∀v,p.2.data≠.cell v):Inv X pins' σ H s:=
 ⟨I.ok,I.os,I.bare,I.base,I.loc,I.cell,I.free,I.freeC,fun p hp=>(yYS.mp hp).elim (fun z=>I.pin p (List.mem_append_left _ z)) (h p),I.hok,I.len⟩

theorem qCj {N:List Str}(hN:N.Nodup){i j:Nat}{x:Str}(a:N[i]? = some x)(b:N[j]? = some x):i=j:=by
 obtain⟨h1,e1⟩:=yYB.mp a
 obtain⟨h2,e2⟩:=yYB.mp b
 exact(List.getElem_inj hN).mp (e1.trans e2.symm)

theorem qYf {M:Model}{A:Around}{E:Value→Shared→Prop}{i:Nat}{x:Str}{v:V}{u:Value}{Q:Unit→Shared→Prop}(I:Inv X pins σ H s)(hN:X.N.Nodup)(hi:X.N[i]? = some x)(hx:Loc X.env.scope x)(r:RelV v u)
  (h:∀s',Inv X pins (σ.set i (some v)) H s'→(∃a,Heap.SameBut a s.heap s'.heap∧(a=X.env.locals∨X.env.cells.lookup x=some a))→Q () s') (hf:X.fn x=true∨X.env.scope.names.lookup x=some .local:=by first | exact .inl rfl | exact .inr rfl | assumption):wpAny M A (storeName X.env x u) Q E s:=by
 obtain⟨m,hn,hl⟩:=id I.loc
 have hcls:(X.env.scope.kind == .class || (X.env.scope.kind == .module && X.env.locals != X.env.globals))=false:=by rw[I.ok.kind];rfl
 have hiσ:i<σ.length:=by rw[I.len];exact(yYB.mp hi).1
 have cne:=I.cne
 have tracked:∀{a:Addr} {h':Heap},(∃o,s.heap.get? a=some o∧H a=none)→Heap.SameBut a s.heap h'→HOk X.prog X.w H h':=fun{a h'} ha hs b ob e=>by
  obtain⟨_,_,hfree⟩:=ha
  refine(I.hok b ob e).stay (fun c w' hc q=>(hs.2 c ?_).trans q) (fun _ q=>q) fun _ _ q=>q
  rintro rfl
  rcases hc with rfl | hc
  ·rw[hfree] at e;cases e
  ·rw[hfree] at hc;cases hc
 rcases hx with hk | hk
 ·refine wpAny_storeName_local hk hn (fun h' hn' hs=>?_) hcls
  obtain⟨oL,_,_,hoL,_⟩:=id hn
  refine h _ ⟨I.ok,I.os,I.bare,⟨fun b o e n hb hx=>?_,fun b o e n hb hx=>?_,I.base.free,fun b o e hx=>?_,I.base.tups,I.base.frzs,I.base.tbls⟩,⟨_,hn',fun j y v' e1 e2 e3=>?_⟩,fun y c e=>?_,I.free,I.freeC,fun p hp=>?_,tracked ⟨oL,hoL,I.free⟩ hs,by simpa using I.len⟩ ⟨_,hs,.inl rfl⟩
  ·exact(hs.2 b (yZE (yZD (yYZ e) I.ok.above))).trans (I.base.keep b o e n hb hx)
  ·obtain⟨sl,e1⟩:=I.base.slot b o e n hb hx
   exact⟨sl,(hs.2 b (yZE (yZD (yYZ e) I.ok.above))).trans e1⟩
  ·obtain⟨o',e1⟩:=I.base.there b o e hx
   exact⟨o',(hs.2 b (yZE (yZD (yYZ e) I.ok.above))).trans e1⟩
  ·by_cases hj:j=i
   ·subst hj
    rw[hi] at e1;cases e1
    rw[List.getElem?_set_self hiσ] at e2
    cases e2
    exact⟨u,r,.inl ⟨hk,by simp⟩⟩
   ·rw[List.getElem?_set_ne (Ne.symm hj)] at e2
    obtain⟨u',r',q⟩:=hl j y v' e1 e2 e3
    refine⟨u',r',?_⟩
    rcases q with⟨k,e⟩ | ⟨k,c,e,z⟩
    ·refine .inl ⟨k,?_⟩
     have:y≠x:=fun e=>hj (qCj hN e1 (e▸hi))
     simp[this,e]
    ·exact .inr ⟨k,c,e,z.sameBut hs (cne y c e)⟩
  ·obtain⟨w',z⟩:=I.cell y c e
   exact⟨w',z.sameBut hs (cne y c e)⟩
  ·obtain⟨e,n,ne,nf,d⟩:=I.pin p hp
   exact⟨(hs.2 p.1 ne).trans e,n,ne,nf,d⟩
 ·have hfn:X.fn x=true:=by
   rcases hf with z | z
   ·exact z
   ·rw[z] at hk;cases hk
  obtain⟨c,hc⟩:=I.ok.has x (.inl hk)
  obtain⟨w',z⟩:=I.cell x c hc
  refine wpAny_storeName_cell I.ok.kind hk hc z (fun h' hc' hs=>?_)
  obtain⟨oc,hoc,hocd⟩:=id z
  refine h { s with heap:=h' } ⟨I.ok,I.os,I.bare,⟨fun b o e n hb hx=>?_,fun b o e n hb hx=>?_,I.base.free,fun b o e hx=>?_,I.base.tups,I.base.frzs,I.base.tbls⟩,⟨m,hn.sameBut hs (Ne.symm (cne x c hc)),fun j y v' e1 e2 e3=>?_⟩,fun y c' e=>?_,I.free,I.freeC,fun p hp=>?_,tracked ⟨oc,hoc,I.freeC x c hc⟩ hs,by simpa using I.len⟩ ⟨c,hs,.inr hc⟩
  ·exact(hs.2 b (yZE (yZD (yYZ e) (I.ok.cab x c hfn hc)))).trans (I.base.keep b o e n hb hx)
  ·obtain⟨sl,e1⟩:=I.base.slot b o e n hb hx
   exact⟨sl,(hs.2 b (yZE (yZD (yYZ e) (I.ok.cab x c hfn hc)))).trans e1⟩
  ·obtain⟨o',e1⟩:=I.base.there b o e hx
   exact⟨o',(hs.2 b (yZE (yZD (yYZ e) (I.ok.cab x c hfn hc)))).trans e1⟩
  ·by_cases hj:j=i
   ·subst hj
    rw[hi] at e1;cases e1
    rw[List.getElem?_set_self hiσ] at e2
    cases e2
    exact⟨u,r,.inr ⟨.inl hk,c,hc,hc'⟩⟩
   ·rw[List.getElem?_set_ne (Ne.symm hj)] at e2
    obtain⟨u',r',q⟩:=hl j y v' e1 e2 e3
    refine⟨u',r',?_⟩
    rcases q with q | ⟨k,c',e,z'⟩
    ·exact .inl q
    ·refine .inr ⟨k,c',e,z'.sameBut hs ?_⟩
     rintro rfl
     exact hj (qCj hN e1 (I.ok.inj _ _ _ e hc▸hi))
  ·by_cases hcc:c'=c
   ·subst hcc;exact⟨_,hc'⟩
   ·obtain⟨w2,z2⟩:=I.cell y c' e
    exact⟨w2,z2.sameBut hs hcc⟩
  ·obtain⟨e,n,ne,nf,d⟩:=I.pin p hp
   refine⟨(hs.2 p.1 ?_).trans e,n,ne,nf,d⟩
   intro q
   rw[q,hoc] at e
   have q':oc=p.2:=Option.some.inj e
   exact d w' (by rw[← q'];exact hocd)
theorem qAm {M:Model}{A:Around}{E:Value→Shared→Prop}{i:Nat}{x:Str}{v:V}{u:Value}{Q:Unit→Shared→Prop}(I:Inv X pins σ H s)(hN:X.N.Nodup)(hi:X.N[i]? = some x)(hx:Loc X.env.scope x)(r:RelV v u)
  (h:∀s',Inv X pins (σ.set i (some v)) H s'→Q () s') (hf:X.fn x=true∨X.env.scope.names.lookup x=some .local:=by first | exact .inl rfl | exact .inr rfl | assumption):wpAny M A (storeName X.env x u) Q E s:=
 qYf I hN hi hx r (fun s' I' _=>h s' I') hf
theorem Inv.call' {s':Shared}{ch:List Addr}(I:Inv X pins σ H s)(ho:s'.os=s.os)(u:Un (frs X.stack) ch H H' s.heap s'.heap)(hok:HOk X.prog X.w H' s'.heap)(hg:AllBare s'.gens)
  (hch:∀b∈ch,(b∈X.ex∨X.s₀.heap.objs.size≤b)∧b≠X.env.locals∧(∀x c,X.env.cells.lookup x=some c→c≠b)∧∀p∈X.pn++pins,p.1≠b):Inv X pins σ H' s':=by
 obtain⟨h',g',d',t',o'⟩:=s'
 have e:o'=s.os:=ho
 subst e
 exact I.call (g':=g') (t':=t') (d':=d') u hok hg hch
end

abbrev XK:=Value→Option Addr→Hp→Prop
abbrev St:=List (Option V)
abbrev VK:=V→Hp→Prop
abbrev TE:=St→Hp→VK→Prop
abbrev TT:=St→Hp→(Bool→Hp→Prop)→Prop
abbrev TA:=St→Hp→(List V→Hp→Prop)→Prop
structure Ends where
 nx:St→Hp→Prop
 rt:VK
 bk:St→Hp→Prop:=fun _ _=>False
 ct:St→Hp→Prop:=fun _ _=>False
abbrev TS:=Ends→St→Hp→Prop

def EP (X:Cx)(pins:List (Addr×Obj))(σ:St)(Q:VK)(u:Value)(s':Shared):Prop:=∃v H',Inv X pins σ H' s'∧RelV v u∧Q v H'
def TP (X:Cx)(pins:List (Addr×Obj))(σ:St)(Q:Bool→Hp→Prop)(b:Bool)(s':Shared):Prop:=∃H',Inv X pins σ H' s'∧Q b H'
def AP (X:Cx)(pins:List (Addr×Obj))(σ:St)(Q:List V→Hp→Prop)(us:List Value)(s':Shared):Prop:=∃vs H',Inv X pins σ H' s'∧Vals vs us∧Q vs H'
def SP (X:Cx)(pins:List (Addr×Obj))(D:Ends)(f:Flow)(s':Shared):Prop:=
 match f with
 | .next=>∃σ' H',Inv X pins σ' H' s'∧D.nx σ' H'
 | .brk=>∃σ' H',Inv X pins σ' H' s'∧D.bk σ' H'
 | .cont=>∃σ' H',Inv X pins σ' H' s'∧D.ct σ' H'
 | .ret u=>∃v σ' H',Inv X pins σ' H' s'∧RelV v u∧D.rt v H'

def PE (X:Cx)(e:Expr)(t:TE):Prop:=
 ∀(pins:List (Addr×Obj)) (s:Shared) (σ:St) (H:Hp) (Q:VK),Inv X pins σ H s→t σ H Q→wpAny (model X.prog X.w) X.A (eval e X.env) (EP X pins σ Q) X.xe s
def PT (X:Cx)(e:Expr)(t:TT):Prop:=
 ∀(pins:List (Addr×Obj)) (s:Shared) (σ:St) (H:Hp) (Q:Bool→Hp→Prop),Inv X pins σ H s→t σ H Q→wpAny (model X.prog X.w) X.A (isTrue e X.env (eval e X.env)) (TP X pins σ Q) X.xe s
def PW (X:Cx)(e:Expr)(t:TT):Prop:=
 ∀(whole:Sem Value) (pins:List (Addr×Obj)) (s:Shared) (σ:St) (H:Hp) (Q:Bool→Hp→Prop),Inv X pins σ H s→t σ H Q→wpAny (model X.prog X.w) X.A (isTrue e X.env whole) (TP X pins σ Q) X.xe s
theorem PW.pt {X:Cx}{e:Expr}{t:TT}(h:PW X e t):PT X e t:=h _
def PA (X:Cx)(es:List Expr)(t:TA):Prop:=
 ∀(pos:Pos) (pins:List (Addr×Obj)) (s:Shared) (σ:St) (H:Hp) (Q:List V→Hp→Prop),Inv X pins σ H s→t σ H Q→wpAny (model X.prog X.w) X.A (spliced (backTo pos (starEach es X.env))) (AP X pins σ Q) X.xe s
def PS (X:Cx)(st:Stmt)(t:TS):Prop:=
 ∀(pins:List (Addr×Obj)) (s:Shared) (σ:St) (H:Hp) (D:Ends),Inv X pins σ H s→t D σ H→wpAny (model X.prog X.w) X.A (exec st X.env) (SP X pins D) X.xe s
def PSs (X:Cx)(st:List Stmt)(t:TS):Prop:=
 ∀(pins:List (Addr×Obj)) (s:Shared) (σ:St) (H:Hp) (D:Ends),Inv X pins σ H s→t D σ H→wpAny (model X.prog X.w) X.A (execs st X.env) (SP X pins D) X.xe s
theorem thn {α:Type}{t:Sem α}{Q Q':α→Shared→Prop}{M:Model}{A:Around}{E:Value→Shared→Prop}{s:Shared}(h:wpAny M A t Q E s)(hQ:∀a s,Q a s→Q' a s):wpAny M A t Q' E s:=wpAny_mono h hQ fun _ _ x=>x
end L2

namespace L2
open PySem PySem.Spec PyProof.Rows
section
variable {X:Cx}

def tVar (i:Nat):TE:=fun σ H Q=>∃v,σ[i]? = some (some v)∧Q v H
def tC (v:V):TE:=fun _ H Q=>Q v H
theorem xXa {i:Nat}{x:Str}{pos:Pos}(hN:X.N[i]? = some x)(hv:Vis X.env.scope x)(hd:(x == ("__debug__" : Str))=false:=by decide)(hcd:(x == ("__classdict__" : Str))=false:=by decide):PE X (.Name x pos) (tVar i):=by
 intro pins s σ H Q I h
 obtain⟨v,e,h⟩:=h
 obtain⟨m,hn,hl⟩:=I.loc
 obtain⟨u,r,l⟩:=hl i x v hN e hv
 have fin:EP X pins σ Q u s:=⟨v,H,I,r,h⟩
 rcases l with⟨hk,hm⟩ | ⟨hk,c,hc,hcell⟩
 ·exact wpAny_Name (wpAny_loadName_local I.ok.kind hk hn hm fin) hd
 ·rcases hk with hk | hk
  ·exact wpAny_Name (wpAny_loadName_cell I.ok.kind hk hc hcell fin) hd
  ·exact wpAny_Name (wpAny_loadName_free I.ok.kind hk hc hcell fin hcd) hd
theorem qE {i j pos}:PE X (.Constant (.int i) j pos) (tC (.int i)):=fun _ _ _ H _ I h=>wpAny_Constant_int ⟨.int i,H,I.tok _,⟨_,rfl⟩,h⟩
theorem qQa {b j pos}:PE X (.Constant (.bool b) j pos) (tC (.bl b)):=fun _ _ _ H _ I h=>Constant_bool ⟨.bl b,H,I,rfl,h⟩
theorem qF {x j pos}:PE X (.Constant (.str x) j pos) (tC (.str x)):=fun _ _ _ H _ I h=>Calls.Constant_str ⟨.str x,H,I.tok _,⟨_,rfl⟩,h⟩

def Gl (X:Cx)(x:Str):Prop:=X.env.kindOf x=some .globalImplicit
theorem qHb {E:Value→Shared→Prop}{pins:List (Addr×Obj)}{s:Shared}{σ:St}{H:Hp}{x:Str}{u:Value}{pos:Pos}{Q:Value→Shared→Prop}(I:Inv X pins σ H s)(hg:Gl X x)(hm:X.mg x=some u)(h:Q u s)
  (hd:(x == ("__debug__" : Str))=false:=by decide):wpAny (model X.prog X.w) X.A (eval (.Name x pos) X.env) Q E s:=
 Calls.Name_function_global I.ok.kind hg (Calls.loadGlobal_global (by rw[I.ok.glob];exact I.mod.glob.keeps I.bk) hm h) hd
theorem qQo {E:Value→Shared→Prop}{pins:List (Addr×Obj)}{s:Shared}{σ:St}{H:Hp}{x:Str}{u:Value}{pos:Pos}{Q:Value→Shared→Prop}(I:Inv X pins σ H s)(hg:Gl X x)(hm:X.mg x=none)(hv:bootBuiltins x=some u)(h:Q u s)
  (hn:x ≠ "__name__" := by decide) (hd:(x == ("__debug__" : Str))=false:=by decide):wpAny (model X.prog X.w) X.A (eval (.Name x pos) X.env) Q E s:=by
 obtain⟨mb,h1,h2⟩:=I.mod.blt
 exact Calls.Name_function_global I.ok.kind hg (Calls.loadGlobal_builtin (by rw[I.ok.glob];exact I.mod.glob.keeps I.bk) hm (by rw[I.ok.blt];exact h1.keeps I.bk) ((h2 x hn).trans hv) h) hd
theorem qGi {x:Str}{v:V}{u:Value}{pos:Pos}(hg:Gl X x)(hm:X.mg x=some u)(r:RelV v u)(hd:(x == ("__debug__" : Str))=false:=by decide):PE X (.Name x pos) (tC v):=
 fun _ _ _ H _ I h=>qHb I hg hm ⟨v,H,I,r,h⟩ hd
theorem qTv {x:Str}{v:V}{u:Value}{pos:Pos}(hg:Gl X x)(hm:X.mg x=none)(hv:bootBuiltins x=some u)(r:RelV v u)(hn:x ≠ "__name__" := by decide)(hd:(x == ("__debug__" : Str))=false:=by decide):PE X (.Name x pos) (tC v):=
 fun _ _ _ H _ I h=>qQo I hg hm hv ⟨v,H,I,r,h⟩ hn hd

variable {a b:Expr}{ta tb:TE}{pos:Pos}
def tB (t:TE):TT:=fun σ H Q=>t σ H fun x H1=>∃c,x=.bl c∧Q c H1
theorem yN {e:Expr}{t:TE}(h:PE X e t)(he:∀whole,isTrue e X.env whole=(do let v ← whole;standAt e.pos;holding [v] (truthy v)):=by intro _;rfl):PT X e (tB t):=by
 intro pins s σ H Q I hw
 refine isTrue_plain (thn (h pins s σ H _ I hw) fun v s1 ⟨x,H1,I1,r1,q1⟩=>?_) (he _)
 obtain⟨d,rfl,q⟩:=q1
 cases r1
 exact wpAny_truthy_bool ⟨H1,I1,q⟩

variable {tA tB':TT}{rest:List Expr}
def tAnd (t u:TT):TT:=fun σ H Q=>t σ H fun c H1=>if c=true then u σ H1 Q else Q false H1
def tOr (t u:TT):TT:=fun σ H Q=>t σ H fun c H1=>if c=true then Q true H1 else u σ H1 Q
def tNot (t:TT):TT:=fun σ H Q=>t σ H fun c H1=>Q (!c) H1
theorem qJz (ha:PT X a tA):PW X (.BoolOp .And [a] pos) tA:=by
 intro wh pins s σ H Q I h
 refine isTrue_and (thn (ha pins s σ H Q I h) fun c s1 e=>?_)
 cases c with
 | true=>exact isTrue_and_nil e
 | false=>exact e
theorem qKq (ha:PT X a tA):PW X (.BoolOp .Or [a] pos) tA:=by
 intro wh pins s σ H Q I h
 refine isTrue_or (thn (ha pins s σ H Q I h) fun c s1 e=>?_)
 cases c with
 | false=>exact isTrue_or_nil e
 | true=>exact e
theorem qBe (ha:PT X a tA)(hb:PW X (.BoolOp .And (b::rest) pos) tB'):PW X (.BoolOp .And (a::b::rest) pos) (tAnd tA tB'):=by
 intro wh pins s σ H Q I h
 refine isTrue_and (thn (ha pins s σ H _ I h) fun c s1 ⟨H1,I1,q1⟩=>?_)
 cases c with
 | true=>exact hb wh pins s1 σ H1 Q I1 q1
 | false=>exact⟨H1,I1,q1⟩
theorem qKx (ha:PT X a tA)(hb:PW X (.BoolOp .Or (b::rest) pos) tB'):PW X (.BoolOp .Or (a::b::rest) pos) (tOr tA tB'):=by
 intro wh pins s σ H Q I h
 refine isTrue_or (thn (ha pins s σ H _ I h) fun c s1 ⟨H1,I1,q1⟩=>?_)
 cases c with
 | true=>exact⟨H1,I1,q1⟩
 | false=>exact hb wh pins s1 σ H1 Q I1 q1
theorem vZ (ha:PT X a tA):PT X (.UnaryOp .Not a pos) (tNot tA):=by
 intro pins s σ H Q I h
 exact isTrue_not (ha pins s σ H (fun c H1=>Q (!c) H1) I h)
def tAndV (ta tb:TE):TE:=fun σ H Q=>ta σ H fun x H1=>∃c,x=.bl c∧if c=true then tb σ H1 Q else Q (.bl false) H1
def tNotV (ta:TE):TE:=fun σ H Q=>ta σ H fun x H1=>∃c,x=.bl c∧Q (.bl (!c)) H1
theorem qBm {op}{t:TE}(h:PE X a t):PE X (.BoolOp op [a] pos) t:=fun pins s σ H Q I hw=>BoolOp_one (h pins s σ H Q I hw)
theorem qBo (ha:PE X a ta)(hb:PE X (.BoolOp .And (b::rest) pos) tb):PE X (.BoolOp .And (a::b::rest) pos) (tAndV ta tb):=by
 intro pins s σ H Q I h
 refine BoolOp_and (thn (ha pins s σ H _ I h) fun v s1 ⟨x,H1,I1,r1,q1⟩=>?_)
 obtain⟨c,rfl,q1⟩:=q1
 cases r1
 refine wpAny_truthy_bool ?_
 cases c with
 | true=>exact hb pins s1 σ H1 Q I1 q1
 | false=>exact⟨.bl false,H1,I1,rfl,q1⟩
theorem qGh (ha:PE X a ta):PE X (.UnaryOp .Not a pos) (tNotV ta):=by
 intro pins s σ H Q I h
 refine UnaryOp_ (thn (ha pins s σ H _ I h) fun v s1 ⟨x,H1,I1,r1,q1⟩=>?_)
 obtain⟨c,rfl,q1⟩:=q1
 cases r1
 exact not_of (wpAny_truthy_bool ⟨.bl (!c),H1,I1,rfl,q1⟩)
def tIf (t:TT)(ta tb:TE):TE:=fun σ H Q=>t σ H fun c H1=>if c=true then ta σ H1 Q else tb σ H1 Q
theorem qBn {c:Expr}(hc:PT X c tA)(ha:PE X a ta)(hb:PE X b tb):PE X (.IfExp c a b pos) (tIf tA ta tb):=by
 intro pins s σ H Q I h
 refine wpAny_IfExp (thn (hc pins s σ H _ I h) fun d s1 ⟨H1,I1,q1⟩=>?_)
 cases d with
 | true=>exact ha pins s1 σ H1 Q I1 q1
 | false=>exact hb pins s1 σ H1 Q I1 q1
end
end L2

namespace L2
open PySem PySem.Spec PyProof.Rows

def SqL (K:yZO)(H:Hp)(a:Addr)(xs:List V):Prop:=
 Rd H a (.lst xs)∨
  ∃(o:Obj) (its:Array Value) (n:Nat),K.lookup a=some o∧o.cls=.type "list" ∧ o.dict=none∧o.data=.seq its n∧its.size≤sizeLine∧Vals xs its.toList
def SqT (K:yZO)(H:Hp)(a:Addr)(xs:List V):Prop:=
 Rd H a (.tup xs)∨
  ∃(o:Obj) (its:Array Value) (n:Nat),K.lookup a=some o∧o.cls=.type "tuple" ∧ o.data=.seq its n∧its.size≤sizeLine∧Vals xs its.toList
def absV:Value→Option V
 | .none=>some .non
 | .bool b=>some (.bl b)
 | .int i _=>some (.int i)
 | .str x _=>some (.str x)
 | .bytes b _=>some (.byt b)
 | .float b _=>some (.flt b)
 | .ref a=>some (.ref a)
 | .type n=>some (.ty n)
 | _=>none
theorem RelV.abs {x:V}{u:Value}(r:RelV x u):absV u=some x:=by
 cases x with
 | non=>cases r;rfl
 | bl _=>cases r;rfl
 | int _=>obtain⟨t,rfl⟩:=r;rfl
 | str _=>obtain⟨t,rfl⟩:=r;rfl
 | byt _=>obtain⟨t,rfl⟩:=r;rfl
 | flt _=>obtain⟨t,rfl⟩:=r;rfl
 | ref _=>cases r;rfl
 | ty _=>cases r;rfl
theorem RelV.inj {x y:V}{u:Value}(r:RelV x u)(q:RelV y u):x=y:=Option.some.inj (r.abs.symm.trans q.abs)
theorem Vals.inj {xs ys:List V}{us:List Value}(h:Vals xs us)(h':Vals ys us):xs=ys:=by
 induction h generalizing ys with
 | nil=>cases h';rfl
 | cons r _ ih=>
  cases h' with
  | cons r' t'=>rw[r.inj r',ih t']
section
variable {X:Cx}{pins:List (Addr×Obj)}{σ:St}{H:Hp}{s:Shared}{a:Addr}{xs ys:List V}
theorem SqL.of {K:yZO}(h:H a=some (.lst xs)):SqL K H a xs:=.inl (.inl h)
theorem SqT.of {K:yZO}(h:H a=some (.tup xs)):SqT K H a xs:=.inl (.inl h)
theorem Inv.list (I:Inv X pins σ H s)(h:SqL X.K H a xs):∃its:List Value,Vals xs its∧PlainL s.heap a its.toArray∧xs.length≤sizeLine:=by
 rcases h with h | ⟨o,its,n,hk,hc,hd,hs,hz,r⟩
 ·obtain⟨z,its,n,r,e⟩:=h.ok I.hok
  exact⟨its,r,⟨_,n,e,rfl,rfl,rfl⟩,z⟩
 ·refine⟨its.toList,r,⟨o,n,I.kIn a o hk,hc,hd,by simpa using hs⟩,?_⟩
  have e:=r.length
  simp only[yZL] at e
  omega
theorem Inv.tuple (I:Inv X pins σ H s)(h:SqT X.K H a xs):∃its:List Value,Vals xs its∧IsTup s.heap a its.toArray∧xs.length≤sizeLine:=by
 rcases h with h | ⟨o,its,n,hk,hc,hs,hz,r⟩
 ·obtain⟨z,its,r,p⟩:=h.ok I.hok
  exact⟨its,r,p.tup,z⟩
 ·refine⟨its.toList,r,⟨o,I.kIn a o hk,hc,n,by simpa using hs⟩,?_⟩
  have e:=r.length
  simp only[yZL] at e
  omega
theorem Inv.list_inj (I:Inv X pins σ H s)(h:SqL X.K H a xs)(h':SqL X.K H a ys):xs=ys:=by
 obtain⟨its,r,⟨o,n,e,_,_,d⟩,_⟩:=I.list h
 obtain⟨its',r',⟨o',n',e',_,_,d'⟩,_⟩:=I.list h'
 rw[e] at e';cases e'
 rw[d] at d'
 injection d' with d1 _
 have:its=its':=by simpa using congrArg Array.toList d1
 subst this
 exact r.inj r'
theorem Inv.tuple_inj (I:Inv X pins σ H s)(h:SqT X.K H a xs)(h':SqT X.K H a ys):xs=ys:=by
 obtain⟨its,r,⟨o,e,_,n,d⟩,_⟩:=I.tuple h
 obtain⟨its',r',⟨o',e',_,n',d'⟩,_⟩:=I.tuple h'
 rw[e] at e';cases e'
 rw[d] at d'
 injection d' with d1 _
 have:its=its':=by simpa using congrArg Array.toList d1
 subst this
 exact r.inj r'
end

abbrev Cx.wish (X:Cx)(E:Value→Shared→Prop):Cx:={ X with xe:=E }
abbrev Cx.nox (X:Cx):Cx:=X.wish fun _ _=>False
theorem Cx.Ok.wish {X:Cx}(ok:X.Ok)(E:Value→Shared→Prop):(X.wish E).Ok:=
 ⟨ok.mod,ok.kind,ok.glob,ok.blt,ok.above,ok.inj,ok.has,ok.cab,ok.hd,ok.frames,ok.stk,ok.exf,ok.bs,ok.bsz,ok.noex,ok.exfs,ok.funs,ok.frf⟩
theorem Cx.Ok.unwish {X:Cx}{E:Value→Shared→Prop}(ok:(X.wish E).Ok):X.Ok:=
 ⟨ok.mod,ok.kind,ok.glob,ok.blt,ok.above,ok.inj,ok.has,ok.cab,ok.hd,ok.frames,ok.stk,ok.exf,ok.bs,ok.bsz,ok.noex,ok.exfs,ok.funs,ok.frf⟩
section
variable {X:Cx}{pins:List (Addr×Obj)}{σ:St}{H:Hp}{s:Shared}{E:Value→Shared→Prop}
theorem Inv.wish (I:Inv X pins σ H s)(E:Value→Shared→Prop):Inv (X.wish E) pins σ H s:=⟨I.ok.wish E,I.os,I.bare,I.base,I.loc,I.cell,I.free,I.freeC,I.pin,I.hok,I.len⟩
theorem Inv.unwish (I:Inv (X.wish E) pins σ H s):Inv X pins σ H s:=⟨I.ok.unwish,I.os,I.bare,I.base,I.loc,I.cell,I.free,I.freeC,I.pin,I.hok,I.len⟩
theorem SP.unwish {D:Ends}{f:Flow}{s':Shared}(h:SP (X.wish E) pins D f s'):SP X pins D f s':=by
 cases f with
 | next=>obtain⟨σ',H',I,q⟩:=h;exact⟨σ',H',I.unwish,q⟩
 | brk=>obtain⟨σ',H',I,q⟩:=h;exact⟨σ',H',I.unwish,q⟩
 | cont=>obtain⟨σ',H',I,q⟩:=h;exact⟨σ',H',I.unwish,q⟩
 | ret u=>obtain⟨v,σ',H',I,r,q⟩:=h;exact⟨v,σ',H',I.unwish,r,q⟩
theorem PSs.nox {st:List Stmt}{t:TS}(h:PSs X.nox st t):PSs X st t:=fun pins s σ H D I hw=>
 wpAny_mono (h pins s σ H D (I.wish _) hw) (fun _ _ q=>q.unwish) fun _ _ z=>False.elim z
end

section
variable {X:Cx}{st:Stmt}{rest:List Stmt}{t u:TS}{e:Expr}{te:TE}{pos:Pos}
def tNext:TS:=fun D σ H=>D.nx σ H
def tSeq (t u:TS):TS:=fun D σ H=>t { D with nx:=u D } σ H
theorem qY:PSs X [] tNext:=fun _ _ σ H _ I h=>wpAny_execs_nil ⟨σ,H,I,h⟩
theorem qZ (h1:PS X st t)(h2:PSs X rest u):PSs X (st::rest) (tSeq t u):=by
 intro pins s σ H D I h
 refine wpAny_execs_cons (thn (h1 pins s σ H { D with nx:=u D } I h) fun f s1 q=>?_)
 cases f with
 | next=>
  obtain⟨σ',H',I',q⟩:=q
  exact h2 pins s1 σ' H' D I' q
 | ret v=>exact q
 | brk=>exact q
 | cont=>exact q
theorem qJ (h1:PS X st t):PSs X [st] t:=by
 intro pins s σ H D I h
 refine wpAny_execs_cons (thn (h1 pins s σ H D I h) fun f s1 q=>?_)
 cases f with
 | next=>exact wpAny_execs_nil q
 | ret v=>exact q
 | brk=>exact q
 | cont=>exact q
theorem Inv.quiet {pins:List (Addr×Obj)}{σ:St}{H:Hp}{s:Shared}(I:Inv X pins σ H s):interactive X.env=false:=by simp[interactive,I.ok.kind]
def tDrop (te:TE):TS:=fun D σ H=>te σ H fun _ H1=>D.nx σ H1
theorem qP (he:PE X e te)(hs:swapsWith e none pos.line X.env=pure false:=by rfl):PS X (.Expr e pos) (tDrop te):=by
 intro pins s σ H D I h
 exact wpAny_Expr_any (thn (he pins s σ H _ I h) fun v s1 ⟨x,H1,I1,r1,q1⟩=>⟨σ,H1,I1,q1⟩) I.quiet hs
def tRet (te:TE):TS:=fun D σ H=>te σ H D.rt
theorem qN (he:PE X e te):PS X (.Return (some e) pos) (tRet te):=by
 intro pins s σ H D I h
 exact wpAny_Return_some (thn (he pins s σ H _ I h) fun v s1 ⟨x,H1,I1,r1,q1⟩=>⟨x,σ,H1,I1,r1,q1⟩)
def tRetN:TS:=fun D _ H=>D.rt .non H
theorem qTz:PS X (.Return none pos) tRetN:=fun _ _ σ H _ I h=>wpAny_Return_none ⟨.non,σ,H,I,rfl,h⟩
def tIfS (c:TT)(t u:TS):TS:=fun D σ H=>c σ H fun b H1=>if b=true then t D σ H1 else u D σ H1
theorem zV {c:Expr}{a b:List Stmt}{tc:TT}(hc:PT X c tc)(ha:PSs X a t)(hb:PSs X b u):PS X (.If c a b pos) (tIfS tc t u):=by
 intro pins s σ H D I h
 refine wpAny_If (thn (hc pins s σ H _ I h) fun d s1 ⟨H1,I1,q1⟩=>?_)
 cases d with
 | true=>exact ha pins s1 σ H1 D I1 q1
 | false=>exact hb pins s1 σ H1 D I1 q1
def tNever:TS:=fun _ _ _=>False
theorem jH:PS X st tNever:=fun _ _ _ _ _ _ h=>h.elim
end

abbrev TG:=V→St→Hp→(St→Hp→Prop)→Prop
abbrev TGs:=List V→St→Hp→(St→Hp→Prop)→Prop
def PG (X:Cx)(target:Expr)(t:TG):Prop:=
 ∀(pins:List (Addr×Obj)) (s:Shared) (σ:St) (H:Hp) (v:V) (u:Value) (Q:St→Hp→Prop),Inv X pins σ H s→RelV v u→t v σ H Q→
  wpAny (model X.prog X.w) X.A (assign target X.env u) (fun _ s'=>∃σ' H',Inv X pins σ' H' s'∧Q σ' H') X.xe s
def PGs (X:Cx)(ts:List Expr)(t:TGs):Prop:=
 ∀(pins:List (Addr×Obj)) (s:Shared) (σ:St) (H:Hp) (vs:List V) (us:List Value) (Q:St→Hp→Prop),Inv X pins σ H s→Vals vs us→t vs σ H Q→
  wpAny (model X.prog X.w) X.A (assignInOrder ((assignEach ts X.env).map (·.2)) us) (fun _ s'=>∃σ' H',Inv X pins σ' H' s'∧Q σ' H') X.xe s
abbrev TSet:=V→V→V→Hp→(Hp→Prop)→Prop
def PSet (X:Cx)(t:TSet):Prop:=
 ∀(pins:List (Addr×Obj)) (s:Shared) (σ:St) (H:Hp) (o i v:V) (ov iv u:Value) (Q:Hp→Prop),Inv X pins σ H s→RelV o ov→RelV i iv→RelV v u→t o i v H Q→
  wpAny (model X.prog X.w) X.A (setItem ov iv u) (fun _ s'=>∃H',Inv X pins σ H' s'∧Q H') X.xe s
section
variable {X:Cx}{pos:Pos}
def gName (i:Nat):TG:=fun v σ H Q=>Q (σ.set i (some v)) H
theorem qG {i:Nat}{x:Str}(hN:X.N.Nodup)(hi:X.N[i]? = some x)(hx:Loc X.env.scope x)(hf:X.fn x=true∨X.env.scope.names.lookup x=some .local:=by first | exact .inl rfl | exact .inr rfl | assumption):PG X (.Name x pos) (gName i):=by
 intro pins s σ H v u Q I r h
 exact wpAny_assign_Name (qAm I hN hi hx r (fun s' I'=>⟨_,H,I',h⟩) hf)
def gNil:TGs:=fun vs σ H Q=>vs=[]∧Q σ H
def gCons (t:TG)(u:TGs):TGs:=fun vs σ H Q=>∃v r,vs=v::r∧t v σ H fun σ' H'=>u r σ' H' Q
theorem qI:PGs X [] gNil:=by
 intro pins s σ H vs us Q I r h
 obtain⟨e,h⟩:=h
 subst e
 cases r
 exact assignInOrder_nil ⟨σ,H,I,h⟩
theorem qH {e:Expr}{es:List Expr}{t:TG}{u:TGs}(h1:PG X e t)(h2:PGs X es u)
  (hs:(assignEach (e::es) X.env).map (·.2)=assign e X.env::(assignEach es X.env).map (·.2):=by rfl):PGs X (e::es) (gCons t u):=by
 intro pins s σ H vs us Q I r h
 obtain⟨v,vr,e1,h⟩:=h
 subst e1
 cases r with
 | cons r rr=>
  rw[hs]
  refine assignInOrder_cons (thn (h1 pins s σ H _ _ _ I r h) fun _ s1 ⟨σ1,H1,I1,q1⟩=>?_)
  exact h2 pins s1 σ1 H1 _ _ Q I1 rr q1
def gTup (K:yZO)(n:Nat)(t:TGs):TG:=fun v σ H Q=>∃a xs,v=.ref a∧SqT K H a xs∧xs.length=n∧t xs σ H Q
theorem qRd {es:List Expr}{k:Nat}{t:TGs}{n:Nat}(hc:X.calm=true)(h:PGs X es t)
  (hn:(assignEach es X.env).length=n:=by rfl) (hst:(assignEach es X.env).findIdx? (·.1)=none:=by rfl):PG X (.Tuple es k pos) (gTup X.K n t):=by
 intro pins s σ H v u Q I r hw
 obtain⟨a,xs,e1,hq,hl,hw⟩:=hw
 subst e1
 cases r
 obtain⟨its,rv,ht,hz⟩:=I.tuple hq
 refine assign_Tuple_tuple (I.ok.hd hc) ht (by simp[hn,← hl,rv.length]) hst fun h' hx=>?_
 have I1:Inv X pins σ H { s with heap:=h' }:=I.kept (t':=s.toks) fun b o e=>hx b o (yZE (yYZ e)) e
 exact h pins _ σ H xs _ Q I1 (by simpa using rv) hw
def gSub (to ti:TE)(t:TSet):TG:=fun v σ H Q=>to σ H fun o H1=>ti σ H1 fun i H2=>t o i v H2 fun H3=>Q σ H3
theorem qRe {o i:Expr}{to ti:TE}{t:TSet}(ho:PE X o to)(hi:PE X i ti)(hs:PSet X t)
  (ha:∀v,assign (.Subscript o i pos) X.env v=(do
   let ov ← holding [v] (eval o X.env)
   let iv ← holding [v,ov] (eval i X.env)
   standAt pos
   holding [v,ov,iv] (setItem ov iv v)
   release [v,ov,iv] []):=by intro _;rfl):PG X (.Subscript o i pos) (gSub to ti t):=by
 intro pins s σ H v u Q I r h
 rw[ha]
 refine yYW (wpAny_holding (thn (ho pins s σ H _ I h) fun ov s1 ⟨x,H1,I1,r1,q1⟩=>?_))
 refine yYW (wpAny_holding (thn (hi pins s1 σ H1 _ I1 q1) fun iv s2 ⟨y,H2,I2,r2,q2⟩=>?_))
 refine yYW (wpAny_standAt (yYW (wpAny_holding (thn (hs pins s2 σ H2 x y v ov iv u _ I2 r1 r2 r q2) fun _ s3 ⟨H3,I3,q3⟩=>?_))))
 exact wpAny_release ⟨σ,H3,I3,q3⟩
def tAsg (te:TE)(g:TG):TS:=fun D σ H=>te σ H fun x H1=>g x σ H1 D.nx
theorem qO {tg e:Expr}{te:TE}{g:TG}(he:PE X e te)(hg:PG X tg g)(hs:swapsWithSole [tg] e pos.line X.env=pure false:=by rfl)(hw:swappedStores [tg] e X.env=pure none:=by rfl)
  (h1:(assignEach [tg] X.env).map (·.2)=[assign tg X.env]:=by rfl):PS X (.Assign [tg] e pos) (tAsg te g):=by
 intro pins s σ H D I h
 refine wpAny_Assign_stores (thn (he pins s σ H _ I h) fun v s1 ⟨x,H1,I1,r1,q1⟩=>?_) hs hw
 rw[h1]
 exact thn (hg pins s1 σ H1 x v _ I1 r1 q1) fun _ s2 q=>q
theorem qM {i:Nat}{x:Str}{e:Expr}{te:TE}{pos':Pos}(hN:X.N.Nodup)(hi:X.N[i]? = some x)(hx:Loc X.env.scope x)(he:PE X e te)(hs:swapsWith e (some (.Name x pos')) pos.line X.env=pure false:=by rfl)(hf:X.fn x=true∨X.env.scope.names.lookup x=some .local:=by first | exact .inl rfl | exact .inr rfl | assumption):
  PS X (.Assign [.Name x pos'] e pos) (tAsg te (gName i)):=by
 intro pins s σ H D I h
 refine wpAny_Assign_Name (thn (he pins s σ H _ I h) fun v s1 ⟨y,H1,I1,r1,q1⟩=>?_) hs
 exact qAm I1 hN hi hx r1 (fun s2 I2=>⟨_,H1,I2,q1⟩) hf
end

section
variable {X:Cx}{pos:Pos}
end

structure It where
 go:Nat→Hp→Prop
 yld:Nat→Hp→V→Hp→Prop
 stop:Nat→Hp→Prop
def FpOk (X:Cx)(pins:List (Addr×Obj))(H:Hp)(b:Addr):Prop:=
 H b=none∧b≠X.env.locals∧b∉X.fs∧(b∈X.ex∨X.s₀.heap.objs.size≤b)∧(∀x c,X.env.cells.lookup x=some c→c≠b)∧∀p∈X.pn++pins,p.1≠b
theorem Inv.fpOk {X:Cx}{pins:List (Addr×Obj)}{σ:St}{H H':Hp}{s:Shared}{b:Addr}(I:Inv X pins σ H s)(hb:s.heap.objs.size≤b)(hn:H' b=none):FpOk X pins H' b:=by
 refine⟨hn,yZG (yZD I.lt hb),I.nofs hb,.inr (yZI I.sz hb),fun x c e z=>?_,fun p hp z=>?_⟩
 ·obtain⟨v,q⟩:=I.cell x c e
  exact absurd (yZD q.lt (by rw[z];exact hb)) (Nat.lt_irrefl _)
 ·exact absurd (yZD (yYZ (I.pin p hp).1) (by rw[z];exact hb)) (Nat.lt_irrefl _)
structure Turn (P:Program)(w:World)(K:yZO)(tg:Expr)(J:It)(fp:List Addr)(it:Addr)(tn:Nat→Heap→Prop):Prop where
 mem:it∈fp
 obj:∀i h,tn i h→∀b∈fp,∃o,h.get? b=some o∧∀v,o.data≠.cell v
 keep:∀i h h',tn i h→(∀b∈fp,∀o,h.get? b=some o→h'.get? b=some o)→tn i h'
 item:∀(X:Cx),X.prog=P→X.w=w→X.K=K→X.calm=true→∀(i:Nat) (pins:List (Addr×Obj)) (s:Shared) (σ:St) (H:Hp) (E:Value→Shared→Prop),Inv X pins σ H s→(∀b∈fp,FpOk X pins H b)→tn i s.heap→J.go i H→
  wpAny (model P w) X.A (pyNext (.ref it)) (fun r s1=>∃u,r=some u∧
   wpAny (model P w) X.A (letOwnedTupleGo tg (.ref it) u) (fun _ s2=>∃x H',Inv X pins σ H' s2∧RelV x u∧J.yld i H x H'∧tn (i+1) s2.heap∧∀b∈fp,H' b=none) E s1) E s
 done:∀(X:Cx),X.prog=P→X.w=w→X.K=K→X.calm=true→∀(i:Nat) (pins:List (Addr×Obj)) (s:Shared) (σ:St) (H:Hp) (E:Value→Shared→Prop),Inv X pins σ H s→(∀b∈fp,FpOk X pins H b)→tn i s.heap→J.stop i H→
  wpAny (model P w) X.A (pyNext (.ref it)) (fun r s1=>r=none∧Inv X pins σ H s1) E s
 self:∀(A:Around) (i:Nat) (s:Shared) (Q:Value→Shared→Prop) (E:Value→Shared→Prop),tn i s.heap→Q (.ref it) s→wpAny (model P w) A (pyIter (.ref it)) Q E s
abbrev TI:=St→Hp→(It→Hp→Prop)→Prop
def PIE (X:Cx)(pins:List (Addr×Obj))(σ:St)(tg:Expr)(R:It→Hp→Prop)(itv:Value)(s2:Shared):Prop:=
 ∃(it:Addr) (fp:List Addr) (tn:Nat→Heap→Prop) (J:It) (H':Hp),itv=.ref it∧Inv X pins σ H' s2∧Turn X.prog X.w X.K tg J fp it tn∧tn 0 s2.heap∧(∀b∈fp,FpOk X pins H' b)∧R J H'
def PI (X:Cx)(tg iter:Expr)(wi:TI):Prop:=
 ∀(pins:List (Addr×Obj)) (s:Shared) (σ:St) (H:Hp) (R:It→Hp→Prop),Inv X pins σ H s→wi σ H R→
  wpAny (model X.prog X.w) X.A (eval iter X.env) (fun v s1=>wpAny (model X.prog X.w) X.A (pyIter v) (PIE X pins σ tg R) X.xe s1) X.xe s

theorem qUx {M:Model}{A:Around}{E:Value→Shared→Prop}{s:Shared}{tg:Expr}{it:Addr}{u:Value}{o:Obj}{n:String}{vs:Array Value}{Q:Unit→Shared→Prop}(ho:s.heap.get? it=some o)(hc:o.cls=.type n)(hd:o.data=.fields vs)
  (hn:["enumerate","zip","dict_itemiterator","dict_reverseitemiterator","odict_iterator","itertools.zip_longest","itertools.pairwise"].contains n=false) (hQ:Q () s):wpAny M A (letOwnedTupleGo tg (.ref it) u) Q E s:=by
 unfold letOwnedTupleGo
 cases tg <;> first
  | exact yYX hQ
  | (cases u <;> first
    | exact yYX hQ
    | (refine yYW (wpAny_load ho ?_)
       rw[hc,hd]
       show wpAny M A (if (["enumerate","zip","dict_itemiterator","dict_reverseitemiterator","odict_iterator","itertools.zip_longest","itertools.pairwise"].contains n && vs[0]? == some (rawInt _))=true then _ else _) Q E s
       rw[if_neg (by intro h;rw[hn,Bool.false_and] at h;cases h)]
       exact yYX hQ))

def Itl (K:yZO)(a:Addr):It:=
 ⟨fun i H=>∃xs x,SqL K H a xs∧xs[i]? = some x,fun i H x H'=>H'=H∧∀xs,SqL K H a xs→xs[i]? = some x,fun i H=>∃xs,SqL K H a xs∧xs.length≤i⟩
def Itt (K:yZO)(a:Addr):It:=
 ⟨fun i H=>∃xs x,SqT K H a xs∧xs[i]? = some x,fun i H x H'=>H'=H∧∀xs,SqT K H a xs→xs[i]? = some x,fun i H=>∃xs,SqT K H a xs∧xs.length≤i⟩
def Itr (lo:Int)(n:Nat):It:=⟨fun i _=>i<n,fun i H x H'=>H'=H∧x=.int (lo+i),fun i _=>n≤i⟩
theorem qEo {P:Program}{w:World}{K:yZO}{tg:Expr}(a it:Addr):Turn P w K tg (Itl K a) [it] it (fun i h=>h.IsListIter it a i) where
 mem:=by simp
 obj:=fun i h st b hb=>by
  have e:b=it:=by simpa using hb
  subst e
  obtain⟨o,e,c,d⟩:=st
  exact⟨o,e,fun v z=>by rw[d] at z;cases z⟩
 keep:=fun i h h' st k=>st.at fun o e=>k it (by simp) o e
 item:=by
  intro X hP hw hK hc i pins s σ H E I hf st hg
  subst hP hw hK
  obtain⟨xs,x,hq,hx⟩:=hg
  obtain⟨its,rv,p,hz⟩:=I.list hq
  obtain⟨u,hu,ru⟩:=rv.get hx
  obtain⟨f0,f1,f2,f3,f4,f5⟩:=hf it (by simp)
  refine wpAny_pyNext_list_item st p.isList (x:=u) (by simpa using hu) fun h' st' sb=>?_
  have I1:Inv X pins σ H { s with heap:=h' }:=I.turned (t':=s.toks) (fun b o hb e=>(sb.2 b hb).trans e) f0 f1 f3 f4 f5
  obtain⟨o,e,c,d⟩:=id st'
  exact⟨u,rfl,qUx (s:={ s with heap:=h' }) e c d (by decide) ⟨x,H,I1,ru,⟨rfl,fun ys hy=>by rw[I.list_inj hy hq];exact hx⟩,st',fun b hb=>(hf b hb).1⟩⟩
 done:=by
  intro X hP hw hK hc i pins s σ H E I hf st hg
  subst hP hw hK
  obtain⟨xs,hq,hx⟩:=hg
  obtain⟨its,rv,p,hz⟩:=I.list hq
  obtain⟨f0,f1,f2,f3,f4,f5⟩:=hf it (by simp)
  have hl:=rv.length
  exact wpAny_pyNext_list_end (I.ok.hd hc) st p.isList (by simp;omega) fun h' eb=>⟨rfl,I.turned (t':=s.toks) (fun b o hb e=>eb b o hb e) f0 f1 f3 f4 f5⟩
 self:=fun _ _ _ _ _ st h=>wpAny_pyIter_listiter st h
theorem qDw {P:Program}{w:World}{K:yZO}{tg:Expr}(a it:Addr):Turn P w K tg (Itt K a) [it] it (fun i h=>h.IsTupleIter it a i) where
 mem:=by simp
 obj:=fun i h st b hb=>by
  have e:b=it:=by simpa using hb
  subst e
  obtain⟨o,e,c,d⟩:=st
  exact⟨o,e,fun v z=>by rw[d] at z;cases z⟩
 keep:=fun i h h' st k=>st.at fun o e=>k it (by simp) o e
 item:=by
  intro X hP hw hK hc i pins s σ H E I hf st hg
  subst hP hw hK
  obtain⟨xs,x,hq,hx⟩:=hg
  obtain⟨its,rv,p,hz⟩:=I.tuple hq
  obtain⟨u,hu,ru⟩:=rv.get hx
  obtain⟨f0,f1,f2,f3,f4,f5⟩:=hf it (by simp)
  refine wpAny_pyNext_tuple_item st (show s.heap.IsTuple a its.toArray from p) (x:=u) (by simpa using hu) fun h' st' sb=>?_
  have I1:Inv X pins σ H { s with heap:=h' }:=I.turned (t':=s.toks) (fun b o hb e=>(sb.2 b hb).trans e) f0 f1 f3 f4 f5
  obtain⟨o,e,c,d⟩:=id st'
  exact⟨u,rfl,qUx (s:={ s with heap:=h' }) e c d (by decide) ⟨x,H,I1,ru,⟨rfl,fun ys hy=>by rw[I.tuple_inj hy hq];exact hx⟩,st',fun b hb=>(hf b hb).1⟩⟩
 done:=by
  intro X hP hw hK hc i pins s σ H E I hf st hg
  subst hP hw hK
  obtain⟨xs,hq,hx⟩:=hg
  obtain⟨its,rv,p,hz⟩:=I.tuple hq
  obtain⟨f0,f1,f2,f3,f4,f5⟩:=hf it (by simp)
  have hl:=rv.length
  exact wpAny_pyNext_tuple_end (I.ok.hd hc) st (show s.heap.IsTuple a its.toArray from p) (by simp;omega) fun h' eb=>⟨rfl,I.turned (t':=s.toks) (fun b o hb e=>eb b o hb e) f0 f1 f3 f4 f5⟩
 self:=fun _ _ _ _ _ st h=>wpAny_pyIter_tupleiter st h
theorem qDa {P:Program}{w:World}{K:yZO}{tg:Expr}(it:Addr)(lo:Int)(n:Nat):Turn P w K tg (Itr lo n) [it] it (fun i h=>IsRangeIter h it (lo+(i:Nat) * 1) ((n:Int) - (i:Nat)) 1) where
 mem:=by simp
 obj:=fun i h st b hb=>by
  have e:b=it:=by simpa using hb
  subst e
  exact⟨_,st,fun v z=>by
   have z':Data.fields _=Data.cell v:=z
   cases z'⟩
 keep:=fun i h h' st k=>k it (by simp) _ st
 item:=by
  intro X hP hw hK hc i pins s σ H E I hf st hg
  subst hP hw hK
  obtain⟨f0,f1,f2,f3,f4,f5⟩:=hf it (by simp)
  have W:=Walks.range (prog:=X.prog) (w:=X.w) (I.ok.hd hc) it lo 1 n
  refine W.item i s _ _ hg st fun v h' tk hv st' kk=>?_
  obtain⟨t,rfl⟩:=hv
  have I1:Inv X pins σ H { s with heap:=h',toks:=tk }:=I.turned (fun b o hb e=>kk b o (by simpa using hb) e) f0 f1 f3 f4 f5
  refine⟨_,rfl,qUx (s:={ s with heap:=h',toks:=tk }) (n := "range_iterator") st' rfl rfl (by decide) ⟨.int (lo+i),H,I1,⟨t,?_⟩,⟨rfl,rfl⟩,st',fun b hb=>(hf b hb).1⟩⟩
  rw[Int.mul_one]
 done:=by
  intro X hP hw hK hc i pins s σ H E I hf st hg
  subst hP hw hK
  obtain⟨f0,f1,f2,f3,f4,f5⟩:=hf it (by simp)
  exact wpAny_pyNext_range_end (I.ok.hd hc) st (by have:n≤i:=hg;omega) fun h' eb=>⟨rfl,I.turned (t':=s.toks) (fun b o hb e=>eb b o hb e) f0 f1 f3 f4 f5⟩
 self:=fun _ _ _ _ _ st h=>wpAny_pyIter_rangeiter st h
end L2

namespace L2
open PySem PySem.Spec PyProof.Rows
section
variable {X:Cx}{tg:Expr}
def iList (K:yZO)(tl:TE):TI:=fun σ H R=>tl σ H fun x H1=>∃a,x=.ref a∧(∃xs,SqL K H1 a xs)∧R (Itl K a) H1
def iTup (K:yZO)(tl:TE):TI:=fun σ H R=>tl σ H fun x H1=>∃a,x=.ref a∧(∃xs,SqT K H1 a xs)∧R (Itt K a) H1
theorem qGg {l:Expr}{tl:TE}(hl:PE X l tl):PI X tg l (iList X.K tl):=by
 intro pins s σ H R I h
 refine thn (hl pins s σ H _ I h) fun v s1 ⟨x,H1,I1,r1,q1⟩=>?_
 obtain⟨a,e,⟨xs,hq⟩,q⟩:=q1
 subst e
 cases r1
 obtain⟨its,rv,p,hz⟩:=I1.list hq
 refine wpAny_pyIter_list p.isList ?_
 refine⟨s1.heap.objs.size,[s1.heap.objs.size],_,_,H1,rfl,I1.kept (t':=s1.toks) fun b o e=>yYY _ e,qEo a _,⟨_,yZA _ rfl,rfl,rfl⟩,fun b hb=>?_,q⟩
 have e:b=s1.heap.objs.size:=by simpa using hb
 subst e
 exact I1.fpOk (yZC _) (I1.hok.fresh (yZC _))
theorem xXw {l:Expr}{tl:TE}(hl:PE X l tl):PI X tg l (iTup X.K tl):=by
 intro pins s σ H R I h
 refine thn (hl pins s σ H _ I h) fun v s1 ⟨x,H1,I1,r1,q1⟩=>?_
 obtain⟨a,e,⟨xs,hq⟩,q⟩:=q1
 subst e
 cases r1
 obtain⟨its,rv,p,hz⟩:=I1.tuple hq
 refine wpAny_pyIter_tuple (show s1.heap.IsTuple a its.toArray from p) ?_
 refine⟨s1.heap.objs.size,[s1.heap.objs.size],_,_,H1,rfl,I1.kept (t':=s1.toks) fun b o e=>yYY _ e,qDw a _,⟨_,yZA _ rfl,rfl,rfl⟩,fun b hb=>?_,q⟩
 have e:b=s1.heap.objs.size:=by simpa using hb
 subst e
 exact I1.fpOk (yZC _) (I1.hok.fresh (yZC _))
theorem qNd {pins:List (Addr×Obj)}{σ:St}{H:Hp}{s:Shared}{R:It→Hp→Prop}{E:Value→Shared→Prop}{lo hi:Int}{t u v:Tok}{tk:Nat}(I:Inv X pins σ H s)(h1 : -(2 ^ 62)≤lo)(h2:lo<2 ^ 62)(h3 : -(2 ^ 62)≤hi)(h4:hi<2 ^ 62)
  (q:R (Itr lo (hi - lo).toNat) H):wpAny (model X.prog X.w) X.A (pyIter (.ref s.heap.objs.size)) (PIE X pins σ tg R) E { s with heap:=s.heap.push { cls:=.type "range",data:=.fields #[.int lo t,.int hi u,.int 1 v] },toks:=tk }:=by
 refine wpAny_pyIter_range (IsRange.new ..) (small_one h1 h2 h3 h4) ?_
 have I1:Inv X pins σ H { s with heap:=s.heap.push { cls:=.type "range",data:=.fields #[.int lo t,.int hi u,.int 1 v] },toks:=tk }:=I.kept fun b o e=>yYY _ e
 refine⟨(s.heap.push { cls:=.type "range",data:=.fields #[.int lo t,.int hi u,.int 1 v] }).objs.size,[(s.heap.push { cls:=.type "range",data:=.fields #[.int lo t,.int hi u,.int 1 v] }).objs.size],_,_,H,rfl,
  I1.kept (t':=tk) fun b o e=>yYY _ e,qDa _ lo (hi - lo).toNat,?_,fun b hb=>?_,q⟩
 ·have e1:lo+((0:Nat):Int) * 1=lo:=by simp
  have e2:(((hi - lo).toNat:Nat):Int) - ((0:Nat):Int)=Builtin.Range.rangeSize lo hi 1:=by rw[rangeSize_one];split <;> omega
  show IsRangeIter _ _ (lo+((0:Nat):Int) * 1) ((((hi - lo).toNat:Nat):Int) - ((0:Nat):Int)) 1
  rw[e1,e2]
  exact yZA _ rfl
 ·have e:b=(s.heap.push { cls:=.type "range",data:=.fields #[.int lo t,.int hi u,.int 1 v] }).objs.size:=by simpa using hb
  subst e
  exact I1.fpOk (yZC _) (I1.hok.fresh (yZC _))
def iRng1 (ta:TA):TI:=fun σ H R=>ta σ H fun vs H1=>∃j:Int,vs=[.int j]∧-(2 ^ 62)≤j∧j<2 ^ 62∧R (Itr 0 j.toNat) H1
theorem vJ {a:Expr}{ta:TA}{p pos:Pos}(hg:Gl X "range")(hm:X.mg "range" = none)(ha:PA X [a] ta)(hs:starEach [a] X.env=[(false,eval a X.env)]:=by rfl):PI X tg (.Call (.Name "range" p) [a] [] pos) (iRng1 ta):=by
 intro pins s σ H R I h
 refine Call_ (qQo I hg hm boot_range (PyProof.Rows.callWith_type1 (thn (ha pos pins s σ H _ I h) fun us s1 ⟨vs,H1,I1,r1,q1⟩=>?_) hs rfl))
 obtain⟨j,e,q1,q2,q⟩:=q1
 subst e
 cases r1 with
 | cons r rr=>
  cases rr
  obtain⟨t,rfl⟩:=r
  exact call_range_1 (qNd I1 (by omega) (by omega) q1 q2 (by simpa using q))
def tFor (wi:TI)(g:TG)(tb:TS):TS:=fun D σ H=>wi σ H fun J H1=>∃W:Nat→Nat→St→Hp→Prop,(∃m,W 0 m σ H1)∧∀i m σ H,W i m σ H→
 (J.stop i H∧D.nx σ H)∨(J.go i H∧∃N:St→Hp→Prop,(∀σ' H',N σ' H'→∃m',m'<m∧W (i+1) m' σ' H')∧∀x H',J.yld i H x H'→g x σ H' fun σ2 H2=>tb { D with nx:=N,ct:=N,bk:=D.nx } σ2 H2)
def pinsAt (fp:List Addr)(h:Heap):List (Addr×Obj):=fp.filterMap fun b=>(h.get? b).map fun o=>(b,o)
theorem jI {fp:List Addr}{h:Heap}{b:Addr}{o:Obj}(hb:b∈fp)(e:h.get? b=some o):(b,o)∈pinsAt fp h:=List.mem_filterMap.mpr ⟨b,hb,by rw[e];rfl⟩
theorem qHz {fp:List Addr}{h:Heap}{p:Addr×Obj}(hp:p∈pinsAt fp h):p.1∈fp∧h.get? p.1=some p.2:=by
 obtain⟨b,hb,e⟩:=List.mem_filterMap.mp hp
 cases q:h.get? b with
 | none=>rw[q] at e;cases e
 | some o=>
  rw[q] at e
  have e':(b,o)=p:=Option.some.inj e
  subst e'
  exact⟨hb,q⟩
theorem Inv.pinned {pins:List (Addr×Obj)}{σ:St}{H:Hp}{s:Shared}{fp:List Addr}(I:Inv X pins σ H s)(hf:∀b∈fp,FpOk X pins H b)(ho:∀b∈fp,∃o,s.heap.get? b=some o∧∀v,o.data≠.cell v):Inv X (pins++pinsAt fp s.heap) σ H s:=
 I.pins_of fun p hp=>(yYS.mp hp).elim (fun z=>I.pin p (yYN _ z)) fun z=>by
  obtain⟨hb,e⟩:=qHz z
  obtain⟨f0,f1,f2,_⟩:=hf p.1 hb
  obtain⟨o,e',d⟩:=ho p.1 hb
  rw[e] at e';cases e'
  exact⟨e,f0,f1,f2,d⟩
theorem Inv.unpinned {pins pl:List (Addr×Obj)}{σ:St}{H:Hp}{s:Shared}(I:Inv X (pins++pl) σ H s):Inv X pins σ H s:=I.pins_of fun p hp=>I.pin p (yYN _ (List.mem_append_left _ hp))
theorem xT {iter:Expr}{body:List Stmt}{wi:TI}{g:TG}{tb:TS}{pos:Pos}(hp:PassesOwn (model X.prog X.w) X.A X.env X.xe)(hc:X.calm=true)(hi:PI X tg iter wi)(hg:PG X tg g)(hb:PSs X body tb)
  (hs:∀x,foldedSetIterable iter X.env x=pure x:=by intro _;rfl):PS X (.For tg iter body [] pos) (tFor wi g tb):=by
 intro pins s σ H D I h
 refine wpAny_For (thn (hi pins s σ H _ I h) fun v s1 h1=>thn h1 fun itv s2 h2=>?_) hs
 obtain⟨it,fp,tn,J,H2,e,I2,T,st2,f2,W,⟨m0,w0⟩,turn⟩:=h2
 subst e
 have stat:∀{H':Hp},(∀b∈fp,H' b=none)→∀b∈fp,FpOk X pins H' b:=fun hn b hb=>⟨hn b hb,(f2 b hb).2⟩
 refine codeAny_forLoop_any (fun n s'=>∃i σ' H',Inv X pins σ' H' s'∧tn i s'.heap∧(∀b∈fp,H' b=none)∧W i n σ' H') ?_ m0 ⟨0,σ,H2,I2,st2,fun b hb=>(f2 b hb).1,w0⟩
 rintro n s3 ⟨i,σ3,H3,I3,st3,fr3,w3⟩
 rcases turn i n σ3 H3 w3 with⟨stop,qn⟩ | ⟨go,N,hN,step⟩
 ·refine wpAny_passesOwn hp (thn (T.done X rfl rfl rfl hc i pins s3 σ3 H3 X.xe I3 (stat fr3) st3 stop) fun r s4 ⟨hr,I4⟩=>?_)
  subst hr
  exact wpAny_execs_nil ⟨σ3,H3,I4,qn⟩
 ·refine wpAny_passesOwn hp (thn (T.item X rfl rfl rfl hc i pins s3 σ3 H3 X.xe I3 (stat fr3) st3 go) fun r s4 ⟨u,hr,h4⟩=>?_)
  subst hr
  refine wpAny_passesOwn hp (thn h4 fun _ s5 ⟨x,H5,I5,r5,y5,st5,fr5⟩=>?_)
  have I5':=I5.pinned (stat fr5) (T.obj _ _ st5)
  refine wpAny_passesOwn hp (thn (hg _ s5 σ3 H5 x u _ I5' r5 (step x H5 y5)) fun _ s6 ⟨σ6,H6,I6,q6⟩=>?_)
  refine wpAny_passesOwn hp (thn (hb _ s6 σ6 H6 _ I6 q6) fun f s7 q7=>?_)
  have again:∀{σ7:St} {H7:Hp},Inv X (pins++pinsAt fp s5.heap) σ7 H7 s7→N σ7 H7→∃m,m<n∧∃i σ' H',Inv X pins σ' H' s7∧tn i s7.heap∧(∀b∈fp,H' b=none)∧W i m σ' H':=fun{σ7 H7} I7 n7=>by
   obtain⟨m',hm,w7⟩:=hN σ7 H7 n7
   refine⟨m',hm,i+1,σ7,H7,I7.unpinned,T.keep _ _ _ st5 fun b hb o e=>(I7.pin (b,o) (yYN _ (yYN _ (jI hb e)))).1,fun b hb=>?_,w7⟩
   obtain⟨o,e,d⟩:=T.obj _ _ st5 b hb
   exact(I7.pin (b,o) (yYN _ (yYN _ (jI hb e)))).2.1
  cases f with
  | next=>obtain⟨σ7,H7,I7,n7⟩:=q7;exact again I7 n7
  | cont=>obtain⟨σ7,H7,I7,n7⟩:=q7;exact again I7 n7
  | brk=>obtain⟨σ7,H7,I7,q7⟩:=q7;exact⟨σ7,H7,I7.unpinned,q7⟩
  | ret v=>obtain⟨x7,σ7,H7,I7,r7,q7⟩:=q7;exact⟨x7,σ7,H7,I7.unpinned,r7,q7⟩
end

theorem vB {K:yZO}{a:Addr}{xs:List V}{g:TG}{tb:TS}{D:Ends}{σ:St}{H:Hp}(Pv:Nat→St→Hp→Prop)(h0:Pv 0 σ H)(hl:∀i σ H,i≤xs.length→Pv i σ H→SqL K H a xs)
  (hs:∀i x σ H,xs[i]? = some x→Pv i σ H→g x σ H fun σ2 H2=>tb { D with nx:=Pv (i+1),ct:=Pv (i+1),bk:=D.nx } σ2 H2) (hd:∀σ H,Pv xs.length σ H→D.nx σ H):
  ∃W:Nat→Nat→St→Hp→Prop,(∃m,W 0 m σ H)∧∀i m σ H,W i m σ H→
   ((Itl K a).stop i H∧D.nx σ H)∨((Itl K a).go i H∧∃N:St→Hp→Prop,(∀σ' H',N σ' H'→∃m',m'<m∧W (i+1) m' σ' H')∧∀x H',(Itl K a).yld i H x H'→g x σ H' fun σ2 H2=>tb { D with nx:=N,ct:=N,bk:=D.nx } σ2 H2):=by
 refine⟨fun i m σ H=>m=xs.length - i∧i≤xs.length∧Pv i σ H,⟨xs.length,by simp,yZF _,h0⟩,?_⟩
 rintro i m σ H ⟨rfl,hi,p⟩
 have q:=hl i σ H hi p
 by_cases hlt:i<xs.length
 ·refine .inr ⟨⟨xs,xs[i],q,by simp[hlt]⟩,Pv (i+1),fun σ' H' p'=>⟨xs.length - (i+1),by omega,rfl,hlt,p'⟩,fun x H' y=>?_⟩
  obtain⟨e,y⟩:=y
  subst e
  exact hs i x σ _ (y xs q) p
 ·have e:i=xs.length:=by omega
  subst e
  exact .inl ⟨⟨xs,q,yZC _⟩,hd σ H p⟩
theorem qUz {K:yZO}{a:Addr}{xs:List V}{g:TG}{tb:TS}{D:Ends}{σ:St}{H:Hp}(Pv:Nat→St→Hp→Prop)(h0:Pv 0 σ H)(hl:∀i σ H,i≤xs.length→Pv i σ H→SqT K H a xs)
  (hs:∀i x σ H,xs[i]? = some x→Pv i σ H→g x σ H fun σ2 H2=>tb { D with nx:=Pv (i+1),ct:=Pv (i+1),bk:=D.nx } σ2 H2) (hd:∀σ H,Pv xs.length σ H→D.nx σ H):
  ∃W:Nat→Nat→St→Hp→Prop,(∃m,W 0 m σ H)∧∀i m σ H,W i m σ H→
   ((Itt K a).stop i H∧D.nx σ H)∨((Itt K a).go i H∧∃N:St→Hp→Prop,(∀σ' H',N σ' H'→∃m',m'<m∧W (i+1) m' σ' H')∧∀x H',(Itt K a).yld i H x H'→g x σ H' fun σ2 H2=>tb { D with nx:=N,ct:=N,bk:=D.nx } σ2 H2):=by
 refine⟨fun i m σ H=>m=xs.length - i∧i≤xs.length∧Pv i σ H,⟨xs.length,by simp,yZF _,h0⟩,?_⟩
 rintro i m σ H ⟨rfl,hi,p⟩
 have q:=hl i σ H hi p
 by_cases hlt:i<xs.length
 ·refine .inr ⟨⟨xs,xs[i],q,by simp[hlt]⟩,Pv (i+1),fun σ' H' p'=>⟨xs.length - (i+1),by omega,rfl,hlt,p'⟩,fun x H' y=>?_⟩
  obtain⟨e,y⟩:=y
  subst e
  exact hs i x σ _ (y xs q) p
 ·have e:i=xs.length:=by omega
  subst e
  exact .inl ⟨⟨xs,q,yZC _⟩,hd σ H p⟩
theorem qIq {lo:Int}{n:Nat}{g:TG}{tb:TS}{D:Ends}{σ:St}{H:Hp}(Pv:Nat→St→Hp→Prop)(h0:Pv 0 σ H)
  (hs:∀i σ H,i<n→Pv i σ H→g (.int (lo+i)) σ H fun σ2 H2=>tb { D with nx:=Pv (i+1),ct:=Pv (i+1),bk:=D.nx } σ2 H2) (hd:∀σ H,Pv n σ H→D.nx σ H):
  ∃W:Nat→Nat→St→Hp→Prop,(∃m,W 0 m σ H)∧∀i m σ H,W i m σ H→
   ((Itr lo n).stop i H∧D.nx σ H)∨((Itr lo n).go i H∧∃N:St→Hp→Prop,(∀σ' H',N σ' H'→∃m',m'<m∧W (i+1) m' σ' H')∧∀x H',(Itr lo n).yld i H x H'→g x σ H' fun σ2 H2=>tb { D with nx:=N,ct:=N,bk:=D.nx } σ2 H2):=by
 refine⟨fun i m σ H=>m=n - i∧i≤n∧Pv i σ H,⟨n,by simp,yZF _,h0⟩,?_⟩
 rintro i m σ H ⟨rfl,hi,p⟩
 by_cases hlt:i<n
 ·refine .inr ⟨hlt,Pv (i+1),fun σ' H' p'=>⟨n - (i+1),by omega,rfl,hlt,p'⟩,fun x H' y=>?_⟩
  obtain⟨e,y⟩:=y
  subst e y
  exact hs i σ _ hlt p
 ·have e:i=n:=by omega
  subst e
  exact .inl ⟨yZC _,hd σ H p⟩
end L2

namespace L2
open PySem PySem.Spec PyProof.Rows

abbrev R2:=V→V→Hp→VK→Prop
def OpR (X:Cx)(f:Value→Value→Sem Value)(r:R2):Prop:=
 ∀(pins:List (Addr×Obj)) (s:Shared) (σ:St) (H:Hp) (x y:V) (v u:Value) (Q:VK),Inv X pins σ H s→RelV x v→RelV y u→r x y H Q→
  wpAny (model X.prog X.w) X.A (f v u) (EP X pins σ Q) X.xe s
def CallR (X:Cx)(f:Value)(r:List V→Hp→VK→Prop):Prop:=
 ∀(pins:List (Addr×Obj)) (s:Shared) (σ:St) (H:Hp) (xs:List V) (us:List Value) (Q:VK),Inv X pins σ H s→Vals xs us→r xs H Q→
  wpAny (model X.prog X.w) X.A (call f us) (EP X pins σ Q) X.xe s
def tOp (r:R2)(ta tb:TE):TE:=fun σ H Q=>ta σ H fun x H1=>tb σ H1 fun y H2=>r x y H2 Q
def rI (C:Int→Int→Prop)(g:Int→Int→V):R2:=fun x y H Q=>∃i j,x=.int i∧y=.int j∧C i j∧Q (g i j) H
def rI0 (g:Int→Int→V):R2:=fun x y H Q=>∃i j,x=.int i∧y=.int j∧Q (g i j) H
section
variable {X:Cx}{a b c:Expr}{ta tb tc:TE}{pos:Pos}

theorem binT (ha:PE X a ta)(hb:PE X b tb){pins:List (Addr×Obj)}{s:Shared}{σ:St}{H:Hp}{R:V→V→Hp→Prop}(I:Inv X pins σ H s)
  (h:ta σ H fun x H1=>tb σ H1 fun y H2=>R x y H2) {Q:Value→Shared→Prop} {f:Value→Value→Sem Value}
  (hf:∀v u s2 x y H2,Inv X pins σ H2 s2→RelV x v→RelV y u→R x y H2→wpAny (model X.prog X.w) X.A (f v u) Q X.xe s2):
  wpAny (model X.prog X.w) X.A (eval a X.env) (fun v s₁=>wpAny (model X.prog X.w) X.A (eval b X.env) (fun u s₂=>wpAny (model X.prog X.w) X.A (f v u) Q X.xe s₂) X.xe s₁) X.xe s:=by
 refine thn (ha pins s σ H _ I h) fun v s1 ⟨x,H1,I1,r1,q1⟩=>?_
 refine thn (hb pins s1 σ H1 _ I1 q1) fun u s2 ⟨y,H2,I2,r2,q2⟩=>?_
 exact hf v u s2 x y H2 I2 r1 r2 q2

theorem xQ {op:Operator}{r:R2}(ho:OpR X (binaryOp op) r)(ha:PE X a ta)(hb:PE X b tb):PE X (.BinOp a op b pos) (tOp r ta tb):=by
 intro pins s σ H Q I h
 exact wpAny_BinOp (binT ha hb I h fun v u s2 x y H2 I2 rx ry q=>ho pins s2 σ H2 x y v u Q I2 rx ry q)
theorem opI {f:Value→Value→Sem Value}{C:Int→Int→Prop}{g:Int→Int→Int}
  (rule:∀(i j:Int) (t u:Tok) (s:Shared) (Q:Value→Shared→Prop) (E:Value→Shared→Prop),C i j→Q (.int (g i j) s.toks) { s with toks:=s.toks+1 }→wpAny (model X.prog X.w) X.A (f (.int i t) (.int j u)) Q E s):
  OpR X f (rI C fun i j=>.int (g i j)):=by
 intro pins s σ H x y v u Q I rx ry h
 obtain⟨i,j,rfl,rfl,hc,q⟩:=h
 obtain⟨t,rfl⟩:=rx
 obtain⟨t',rfl⟩:=ry
 exact rule i j t t' s _ _ hc ⟨.int (g i j),H,I.tok _,⟨_,rfl⟩,q⟩
theorem opI0 {f:Value→Value→Sem Value}{g:Int→Int→Int}
  (rule:∀(i j:Int) (t u:Tok) (s:Shared) (Q:Value→Shared→Prop) (E:Value→Shared→Prop),Q (.int (g i j) s.toks) { s with toks:=s.toks+1 }→wpAny (model X.prog X.w) X.A (f (.int i t) (.int j u)) Q E s):
  OpR X f (rI0 fun i j=>.int (g i j)):=by
 intro pins s σ H x y v u Q I rx ry h
 obtain⟨i,j,rfl,rfl,q⟩:=h
 obtain⟨t,rfl⟩:=rx
 obtain⟨t',rfl⟩:=ry
 exact rule i j t t' s _ _ ⟨.int (g i j),H,I.tok _,⟨_,rfl⟩,q⟩
theorem opB0 {f:Value→Value→Sem Value}{g:Int→Int→Bool}
  (rule:∀(i j:Int) (t u:Tok) (s:Shared) (Q:Value→Shared→Prop) (E:Value→Shared→Prop),Q (.bool (g i j)) s→wpAny (model X.prog X.w) X.A (f (.int i t) (.int j u)) Q E s):
  OpR X f (rI0 fun i j=>.bl (g i j)):=by
 intro pins s σ H x y v u Q I rx ry h
 obtain⟨i,j,rfl,rfl,q⟩:=h
 obtain⟨t,rfl⟩:=rx
 obtain⟨t',rfl⟩:=ry
 exact rule i j t t' s _ _ ⟨.bl (g i j),H,I,rfl,q⟩

def CPow (i j:Int):Prop:=0≤j∧j≤1000000∧i.natAbs<2 ^ 64
theorem yV:OpR X (binaryOp .Add) (rI0 fun i j=>.int (i+j)):=opI0 fun _ _ _ _ _ _ _ q=>add_int q
theorem wV:OpR X (binaryOp .Sub) (rI0 fun i j=>.int (i - j)):=opI0 fun _ _ _ _ _ _ _ q=>sub_int q
theorem qQe:OpR X (binaryOp .Mod) (rI (fun _ j=>0<j) fun i j=>.int (i % j)):=opI fun i j _ _ _ _ _ hc q=>by
 have h1:(0:Int)<j:=hc
 exact mod_int' (by omega) (by rw[Int.fmod_eq_emod_of_nonneg i (by omega)];exact q)
theorem qRf:OpR X (binaryOp .Pow) (rI CPow fun i j=>.int (i ^ j.toNat)):=opI fun _ _ _ _ _ _ _ hc q=>pow_int_small hc.1 hc.2.1 hc.2.2 q
end

def scal:V→V→Bool
 | .non,.non=>true | .non,.int _=>true | .int _,.non=>true | .non,.bl _=>true | .bl _,.non=>true | .non,.str _=>true | .str _,.non=>true
 | .int _,.int _=>true | .bl _,.bl _=>true | .str _,.str _=>true | .byt _,.byt _=>true
 | .int _,.str _=>true | .str _,.int _=>true | .bl _,.str _=>true | .str _,.bl _=>true
 | _,_=>false
def rEq:R2:=fun x y H Q=>scal x y=true∧Q (.bl (decide (x=y))) H
def rNe:R2:=fun x y H Q=>scal x y=true∧Q (.bl (!decide (x=y))) H

theorem qIg {i j:Int}:decide (V.int i=V.int j)=(i == j):=by
 rw[Bool.eq_iff_iff]
 simp
theorem qSk {i j:Bool}:decide (V.bl i=V.bl j)=(i == j):=by
 rw[Bool.eq_iff_iff]
 simp
theorem qIf {i j:Str}:decide (V.str i=V.str j)=(i == j):=by
 rw[Bool.eq_iff_iff]
 simp
theorem qIh {i j:Array UInt8}:decide (V.byt i=V.byt j)=(i.toList == j.toList):=by
 rw[Bool.eq_iff_iff]
 cases i
 cases j
 simp

section
variable {X:Cx}{a b c:Expr}{ta tb tc:TE}{pos:Pos}
theorem xR {pins:List (Addr×Obj)}{σ:St}{H:Hp}{s:Shared}{Q:VK}{k k':Bool}(I:Inv X pins σ H s)(q:Q (.bl k) H)(e:k=k'):EP X pins σ Q (.bool k') s:=by
 subst e
 exact⟨.bl k,H,I,rfl,q⟩
theorem jB:OpR X (compareOp .Eq) rEq:=by
 intro pins s σ H x y v u Q I rx ry h
 obtain⟨hs,q⟩:=h
 cases x with
 | non=>
  cases rx
  cases y with
  | non=>cases ry;exact PySem.EqNone.eq_none_none (xR I q (by simp))
  | bl j=>cases ry;exact PySem.EqNone.eq_none_bool (xR I q (by simp))
  | int j=>obtain⟨t',rfl⟩:=ry;exact PySem.EqNone.eq_none_int (xR I q (by simp))
  | str j=>obtain⟨t',rfl⟩:=ry;exact PySem.EqNone.eq_none_str (xR I q (by simp))
  | _=>exact absurd (show false=true from hs) yZK
 | bl i=>
  cases rx
  cases y with
  | non=>cases ry;exact PySem.EqNone.eq_bool_none (xR I q (by simp))
  | bl j=>cases ry;exact eq_bool (xR I q qSk)
  | str j=>obtain⟨t',rfl⟩:=ry;exact PySem.EqMixed.eq_bool_str (xR I q (by simp))
  | _=>exact absurd (show false=true from hs) yZK
 | int i=>
  obtain⟨t,rfl⟩:=rx
  cases y with
  | non=>cases ry;exact PySem.EqNone.eq_int_none (xR I q (by simp))
  | int j=>obtain⟨t',rfl⟩:=ry;exact eq_int (xR I q qIg)
  | str j=>obtain⟨t',rfl⟩:=ry;exact PySem.EqMixed.eq_int_str (xR I q (by simp))
  | _=>exact absurd (show false=true from hs) yZK
 | str i=>
  obtain⟨t,rfl⟩:=rx
  cases y with
  | non=>cases ry;exact PySem.EqNone.eq_str_none (xR I q (by simp))
  | bl j=>cases ry;exact PySem.EqMixed.eq_str_bool (xR I q (by simp))
  | int j=>obtain⟨t',rfl⟩:=ry;exact PySem.EqMixed.eq_str_int (xR I q (by simp))
  | str j=>obtain⟨t',rfl⟩:=ry;exact eq_str (xR I q qIf)
  | _=>exact absurd (show false=true from hs) yZK
 | byt i=>
  obtain⟨t,rfl⟩:=rx
  cases y with
  | byt j=>obtain⟨t',rfl⟩:=ry;exact PySem.W.eq_bytes (xR I q qIh)
  | _=>exact absurd (show false=true from hs) yZK
 | _=>cases y <;> exact absurd (show false=true from hs) yZK
theorem xXg:OpR X (compareOp .NotEq) rNe:=by
 intro pins s σ H x y v u Q I rx ry h
 obtain⟨hs,q⟩:=h
 cases x with
 | non=>
  cases rx
  cases y with
  | non=>cases ry;exact PySem.EqNone.ne_none_none (xR I q (by simp))
  | bl j=>cases ry;exact PySem.EqNone.ne_none_bool (xR I q (by simp))
  | int j=>obtain⟨t',rfl⟩:=ry;exact PySem.EqNone.ne_none_int (xR I q (by simp))
  | str j=>obtain⟨t',rfl⟩:=ry;exact PySem.EqNone.ne_none_str (xR I q (by simp))
  | _=>exact absurd (show false=true from hs) yZK
 | bl i=>
  cases rx
  cases y with
  | non=>cases ry;exact PySem.EqNone.ne_bool_none (xR I q (by simp))
  | bl j=>cases ry;exact ne_bool (xR I q (congrArg not qSk))
  | str j=>obtain⟨t',rfl⟩:=ry;exact PySem.EqMixed.ne_bool_str (xR I q (by simp))
  | _=>exact absurd (show false=true from hs) yZK
 | int i=>
  obtain⟨t,rfl⟩:=rx
  cases y with
  | non=>cases ry;exact PySem.EqNone.ne_int_none (xR I q (by simp))
  | int j=>obtain⟨t',rfl⟩:=ry;exact ne_int (xR I q (congrArg not qIg))
  | str j=>obtain⟨t',rfl⟩:=ry;exact PySem.EqMixed.ne_int_str (xR I q (by simp))
  | _=>exact absurd (show false=true from hs) yZK
 | str i=>
  obtain⟨t,rfl⟩:=rx
  cases y with
  | non=>cases ry;exact PySem.EqNone.ne_str_none (xR I q (by simp))
  | bl j=>cases ry;exact PySem.EqMixed.ne_str_bool (xR I q (by simp))
  | int j=>obtain⟨t',rfl⟩:=ry;exact PySem.EqMixed.ne_str_int (xR I q (by simp))
  | str j=>obtain⟨t',rfl⟩:=ry;exact ne_str (xR I q (congrArg not qIf))
  | _=>exact absurd (show false=true from hs) yZK
 | byt i=>
  obtain⟨t,rfl⟩:=rx
  cases y with
  | byt j=>obtain⟨t',rfl⟩:=ry;exact PySem.W.ne_bytes (xR I q (congrArg not qIh))
  | _=>exact absurd (show false=true from hs) yZK
 | _=>cases y <;> exact absurd (show false=true from hs) yZK

theorem qKb:OpR X (compareOp .Lt) (rI0 fun i j=>.bl (decide (i<j))):=opB0 fun _ _ _ _ _ _ _ q=>lt_int q
theorem qTb:OpR X (compareOp .Gt) (rI0 fun i j=>.bl (decide (j<i))):=opB0 fun _ _ _ _ _ _ _ q=>gt_int q
theorem xD (b:Expr){op:CmpOp}(h:op≠.In:=by decide)(h2:op≠.NotIn:=by decide):behindInMarks op b=false:=by
 have e1:(op == CmpOp.In)=false:=by cases op <;> first | rfl | exact absurd rfl h
 have e2:(op == CmpOp.NotIn)=false:=by cases op <;> first | rfl | exact absurd rfl h2
 cases b <;> simp[behindInMarks,e1,e2]
theorem jT {op:CmpOp}{r:R2}(ho:OpR X (compareOp op) r)(ha:PE X a ta)(hb:PE X b tb)(hm:behindInMarks op b=false):PE X (.Compare a [op] [b] pos) (tOp r ta tb):=by
 intro pins s σ H Q I h
 exact wpAny_Compare1 (binT ha hb I h fun v u s2 x y H2 I2 rx ry q=>ho pins s2 σ H2 x y v u Q I2 rx ry q) hm
def tTest (t:TE):TT:=fun σ H Q=>t σ H fun x H'=>∃k,x=.bl k∧Q k H'
theorem qR {op:CmpOp}{r:R2}(ho:OpR X (compareOp op) r)(ha:PE X a ta)(hb:PE X b tb)(hm:behindInMarks op b=false):PT X (.Compare a [op] [b] pos) (tTest (tOp r ta tb)):=by
 intro pins s σ H Q I h
 refine wpAny_isTrue_Compare1 (thn (ha pins s σ H _ I h) fun v s1 ⟨x,H1,I1,r1,q1⟩=>thn (hb pins s1 σ H1 _ I1 q1) fun u s2 ⟨y,H2,I2,r2,q2⟩=>
  thn (ho pins s2 σ H2 x y v u _ I2 r1 r2 q2) fun c s3 ⟨z,H3,I3,r3,k,e,q3⟩=>?_) hm
 subst e
 cases r3
 exact wpAny_truthy_bool ⟨H3,I3,q3⟩
theorem line63:(sizeLine:Nat)<2 ^ 63:=by rw[sizeLine_eq];decide
theorem vals1 {x:V}{us:List Value}(r:Vals [x] us):∃u,us=[u]∧RelV x u:=by
 cases r with
 | cons r1 r2=>cases r2;exact⟨_,rfl,r1⟩
theorem vals2 {x y:V}{us:List Value}(r:Vals [x,y] us):∃u w',us=[u,w']∧RelV x u∧RelV y w':=by
 cases r with
 | cons r1 r2=>
  cases r2 with
  | cons r3 r4=>cases r4;exact⟨_,_,rfl,r1,r3⟩
theorem qPn:CallR X (.builtin "abs") (fun xs H Q=>∃i,xs=[.int i]∧Q (.int (if i<0 then -i else i)) H):=by
 intro pins s σ H xs us Q I r h
 obtain⟨i,rfl,q⟩:=h
 obtain⟨u,rfl,t,rfl⟩:=vals1 r
 exact call_abs_int fun u tk=>⟨.int (if i<0 then -i else i),H,I.tok _,⟨_,rfl⟩,q⟩
theorem qVw:CallR X (.type "int") (fun xs H Q=>(∃i,xs=[.int i]∧Q (.int i) H)∨∃k,xs=[.bl k]∧Q (.int (if k then 1 else 0)) H):=by
 intro pins s σ H xs us Q I r h
 rcases h with⟨i,rfl,q⟩ | ⟨k,rfl,q⟩
 ·obtain⟨u,rfl,t,rfl⟩:=vals1 r
  exact call_int_int ⟨.int i,H,I,⟨_,rfl⟩,q⟩
 ·obtain⟨u,rfl,r1⟩:=vals1 r
  cases r1
  exact call_int_bool ⟨.int (if k then 1 else 0),H,I.tok _,⟨_,rfl⟩,q⟩
end
end L2

namespace L2
open PySem PySem.Spec PyProof.Rows

structure ObjM (h:Heap)(x dx C:Addr)(mA:Str→Option Value):Prop where
 obj:h.get? x=some (PySem.W.instObj C dx)
 ns:h.Ns1 dx mA
 ne:dx≠x

theorem qHv {h:Heap}{dx:Addr}{mA:Str→Option Value}(n:h.Ns1 dx mA):∃od,h.get? dx=some od∧∀name,PySem.W.lookIn name od=some (mA name):=by
 obtain⟨o,es,ep,ho,hd,hk,_,hm⟩:=n
 refine⟨o,ho,fun name=>?_⟩
 have e:=hm name
 unfold nsFind findBy at e
 rw[← Array.find?_toList] at e
 unfold PySem.W.lookIn
 rw[hd]
 dsimp only
 split
 ·rename_i y q
  rw[q] at e
  exact congrArg some e
 ·rename_i q
  rw[q] at e
  have a:es.toList.any (·.refKey)=false:=by
   rw[List.any_eq_false]
   intro y hy
   obtain⟨z,t,hkey⟩:=hk y (Array.mem_toList_iff.mp hy)
   simp[DictEntry.refKey,hkey]
  have a':¬es.toList.any (·.refKey)=true:=by rw[a];exact yZK
  rw[if_neg a']
  exact congrArg some e

theorem ObjM.look {h:Heap}{x dx C:Addr}{mA:Str→Option Value}(I:ObjM h x dx C mA):∃od,PySem.W.InstAt h x (PySem.W.instObj C dx) C (some od)∧∀name,PySem.W.lookIn name od=some (mA name):=
 let ⟨od,ho,hl⟩:=qHv I.ns
 ⟨od,⟨I.obj,rfl,rfl,ho⟩,hl⟩

section
variable {prog:Program}{w:World}{A:Around}{E:Value→Shared→Prop}{s:Shared}{K:yZO}{x dx C f:Addr}{mA:Str→Option Value}{name:Str}{v:Value}

end

theorem RelO.some_of {v:V}{o:Option Value}(r:RelO (some v) o):∃u,o=some u∧RelV v u:=by
 cases o with
 | none=>exact(show False from r).elim
 | some u=>exact⟨u,rfl,r⟩
section
variable {P:Program}{w:World}{H H':Hp}{h h':Heap}{a C dx:Addr}{fs fs':List (Str×V)}
theorem ins_get (hok:HOk P w H h)(e:H a=some (.ins C dx fs)):∃mA,ObjM h a dx C mA∧(∀f,RelO (fs.lookup f) (mA f))∧PySem.Within mA (fs.map (·.1))∧fs.length≤1000∧H dx=some (.own a):=by
 obtain⟨d,z,ne,ob,mA,n,r,q⟩:=(show ObjOk P w H h a (.ins C dx fs) from hok a _ e)
 exact⟨mA,⟨ob,n,ne⟩,r,q,z,d⟩
end

structure Cls (K:yZO)(C:Addr):Prop where
 pg:PySem.W.plainGet K C Str.empty=true
 hd:PySem.W.hasDictIn K C=true
 po:PySem.W.plainOver K C=true
 sa:PySem.W.findIn K (.ref C) "__setattr__" = some (some (.builtin "object.__setattr__"))
theorem Cls.get {K:yZO}{C:Addr}(c:Cls K C)(f:Str):PySem.W.plainGet K C f=true:=c.pg
section
variable {X:Cx}{pins:List (Addr×Obj)}{σ:St}{H:Hp}{s:Shared}{a C dx:Addr}{fs:List (Str×V)}{f:Str}{v:V}{A:Around}{E:Value→Shared→Prop}

end

section
variable {X:Cx}{o e value:Expr}{f:Str}{pos pos' tpos:Pos}{ta tv:TE}
end

section
variable {X:Cx}{pins:List (Addr×Obj)}{σ:St}{H:Hp}{s:Shared}{A:Around}{E:Value→Shared→Prop}{Q:Value→Shared→Prop}{c:Value}{b:Bool}
inductive TyOf (K:yZO)(H:Hp):V→Value→Prop where
 | non:TyOf K H .non (.type "NoneType")
 | bl (x:Bool):TyOf K H (.bl x) (.type "bool")
 | int (i:Int):TyOf K H (.int i) (.type "int")
 | str (x:Str):TyOf K H (.str x) (.type "str")
 | flt (x:UInt64):TyOf K H (.flt x) (.type "float")
 | lst {a:Addr} {xs:List V} (e:H a=some (.lst xs)):TyOf K H (.ref a) (.type "list")
 | frz {a:Addr} {o:Obj} {xs:List V} (e:H a=some (.frz o (.lst xs))):TyOf K H (.ref a) (.type "list")
 | tup {a:Addr} {xs:List V} (e:H a=some (.tup xs)):TyOf K H (.ref a) (.type "tuple")
 | dK {a:Addr} {kvs:List (Key×V)} (e:H a=some (.dK kvs)):TyOf K H (.ref a) (.type "dict")
 | dT {a:Addr} {kvs:List (List Key×V)} (e:H a=some (.dT kvs)):TyOf K H (.ref a) (.type "dict")
 | ins {a C dx:Addr} {fs:List (Str×V)} (e:H a=some (.ins C dx fs)) (cl:Cls K C) (ha:PySem.W.findIn K (.ref C) "__class__" = some (some (.builtin "object.__class__")))
   (hn:PySem.W.specialIn K (.builtin "object.__class__") "__get__" = some (some (.builtin "getset_descriptor.__get__"))) (htk:PySem.W.takesIn K (.builtin "object.__class__")=some true)
   (hm:PySem.W.mroIn K C (.type "object")=some true):TyOf K H (.ref a) (.ref C)
theorem qHi {x:V}{u t:Value}(I:Inv X pins σ H s)(rx:RelV x u)(ty:TyOf X.K H x t)(e:PySem.W.kitOne X.K t c=some b)(h:∀tk,Q (.bool b) { s with toks:=tk }):
  wpAny (model X.prog X.w) A (call (.builtin "isinstance") [u,c]) Q E s:=by
 cases ty with
 | non=>cases(show u=Value.none from rx);exact PySem.W.kia_one PySem.W.kitx_none I.kIn True.intro e (fun z=>nomatch z) h
 | bl y=>cases(show u=Value.bool y from rx);exact PySem.W.kia_one PySem.W.kitx_bool I.kIn True.intro e (fun z=>nomatch z) h
 | int i=>obtain⟨t,q⟩:=(show∃t,u=Value.int i t from rx);cases q;exact PySem.W.kia_one PySem.W.kitx_int I.kIn True.intro e (fun z=>nomatch z) h
 | str y=>obtain⟨t,q⟩:=(show∃t,u=Value.str y t from rx);cases q;exact PySem.W.kia_one PySem.W.kitx_str I.kIn True.intro e (fun z=>nomatch z) h
 | flt y=>obtain⟨t,q⟩:=(show∃t,u=Value.float y t from rx);cases q;exact PySem.W.kia_one PySem.W.kitx_float I.kIn True.intro e (fun z=>nomatch z) h
 | @lst a xs ea=>
  cases(show u=Value.ref a from rx)
  obtain⟨_,_,n,_,h1⟩:=(show ObjOk X.prog X.w H s.heap a (.lst xs) from I.hok a _ ea)
  exact PySem.W.kia_one PySem.W.kitx_list I.kIn ⟨_,h1,rfl⟩ e (fun z=>nomatch z) h
 | @frz a ob xs ea=>
  cases(show u=Value.ref a from rx)
  obtain⟨_,_,_,n,_,h1⟩:=(show ObjOk X.prog X.w H s.heap a (.frz ob (.lst xs)) from I.hok a _ ea)
  exact PySem.W.kia_one PySem.W.kitx_list I.kIn ⟨_,h1,rfl⟩ e (fun z=>nomatch z) h
 | @tup a xs ea=>
  cases(show u=Value.ref a from rx)
  obtain⟨_,_,_,p⟩:=(show ObjOk X.prog X.w H s.heap a (.tup xs) from I.hok a _ ea)
  obtain⟨o,h1,h2,_⟩:=p
  exact PySem.W.kia_one PySem.W.kitx_tuple I.kIn ⟨o,h1,h2⟩ e (fun z=>nomatch z) h
 | @dK a kvs ea=>
  cases(show u=Value.ref a from rx)
  obtain⟨_,_,vs,_,p⟩:=(show ObjOk X.prog X.w H s.heap a (.dK kvs) from I.hok a _ ea)
  obtain⟨o,es,ep,h1,h2,_⟩:=p
  exact PySem.W.kia_one PySem.W.kitx_dict I.kIn ⟨o,h1,h2.1⟩ e (fun z=>nomatch z) h
 | @dT a kvs ea=>
  cases(show u=Value.ref a from rx)
  obtain⟨_,_,xs,_,o,es,ep,h1,h2,_⟩:=(show ObjOk X.prog X.w H s.heap a (.dT kvs) from I.hok a _ ea)
  exact PySem.W.kia_one PySem.W.kitx_dict I.kIn ⟨o,h1,h2.1⟩ e (fun z=>nomatch z) h
 | @ins a C dx fs ea cl ha hn htk hm=>
  cases(show u=Value.ref a from rx)
  obtain⟨mA,O,_⟩:=ins_get I.hok ea
  obtain⟨od,J,_⟩:=O.look
  exact PySem.W.kia_one (PySem.W.kitx_own (cl.get _) cl.hd ha hn htk hm) I.kIn J e (fun z=>nomatch z) h
end
end L2

namespace L2
open PySem PySem.Spec PyProof.Rows

structure Room (k:Nat)(A:Around):Prop where
 hd:A.handled=none
 dp:A.depth+3 * k+5<recursionLimit
 un:A.units+16 * k+200<cLine
theorem Room.mono {j k:Nat}{A:Around}(r:Room k A)(h:j≤k):Room j A:=⟨r.hd,by have:=r.dp;omega,by have:=r.un;omega⟩
theorem Room.deeper {k:Nat}{A:Around}(r:Room (k+1) A)(env:Env):Room k (A.deeper env):=
 ⟨r.hd,by have:=r.dp;show A.depth+1+3 * k+5<_;omega,by have:=r.un;show A.units+3+16 * k+200<_;omega⟩
theorem Room.depth {k:Nat}{A:Around}(r:Room k A):A.depth<recursionLimit:=by have:=r.dp;omega
theorem Room.units {k:Nat}{A:Around}(r:Room k A):A.units+64<cLine:=by have:=r.un;omega
def tNil:TA:=fun _ H Q=>Q [] H
def tCons (ta:TE)(tr:TA):TA:=fun σ H Q=>ta σ H fun x H1=>tr σ H1 fun xs H2=>Q (x::xs) H2
section
variable {X:Cx}{e:Expr}{es:List Expr}{te:TE}{t:TA}{pos:Pos}
theorem qX:PA X [] tNil:=fun _ _ _ _ H Q I h=>Calls.spliced_nil ⟨[],H,I,.nil,h⟩
theorem qQ (ha:PE X e te)(hr:PA X es t)(hs:starEach (e::es) X.env=(false,eval e X.env)::starEach es X.env:=by rfl):PA X (e::es) (tCons te t):=by
 intro pos pins s σ H Q I h
 rw[hs]
 show wpAny _ _ (spliced ((false,eval e X.env)::backTo pos (starEach es X.env))) _ _ s
 refine Calls.spliced_cons (thn (ha pins s σ H _ I h) fun u s1 ⟨x,H1,I1,r1,q1⟩=>?_)
 exact thn (hr pos pins s1 σ H1 _ I1 q1) fun us s2 ⟨xs,H2,I2,r2,q2⟩=>⟨x::xs,H2,I2,.cons r1 r2,q2⟩

def tTup (t:TA):TE:=fun σ H Q=>t σ H fun xs H1=>xs.length≤sizeLine∧∀p,H1 p=none→Q (.ref p) (upd H1 p (.tup xs))
def tLst (t:TA):TE:=fun σ H Q=>t σ H fun xs H1=>xs.length≤sizeLine∧∀p,H1 p=none→Q (.ref p) (upd H1 p (.lst xs))
theorem jA {x1}(h:PA X es t):PE X (.Tuple es x1 pos) (tTup t):=by
 intro pins s σ H Q I hq
 refine wpAny_Tuple_spliced (thn (h pos pins s σ H _ I hq) fun us s1 ⟨xs,H1,I1,r,z,q⟩=>⟨by rw[← r.length];exact z,?_⟩)
 have hf:H1 s1.heap.objs.size=none:=I1.hok.fresh (yZC _)
 refine⟨.ref s1.heap.objs.size,upd H1 s1.heap.objs.size (.tup xs),I1.laid (t':=s1.toks) (fun b u e=>yYY _ e) (yZC _) ?_,rfl,q _ hf⟩
 exact⟨z,us,r,⟨_,yZA _ rfl,rfl,_,rfl,rfl⟩⟩
theorem xU (h:PA X es t):PE X (.List es pos) (tLst t):=by
 intro pins s σ H Q I hq
 refine wpAny_List_spliced (thn (h pos pins s σ H _ I hq) fun us s1 ⟨xs,H1,I1,r,z,q⟩=>⟨by rw[← r.length];exact z,?_⟩)
 have hf:H1 s1.heap.objs.size=none:=I1.hok.fresh (yZC _)
 refine⟨.ref s1.heap.objs.size,upd H1 s1.heap.objs.size (.lst xs),I1.laid (t':=s1.toks) (fun b u e=>yYY _ e) (yZC _) ?_,rfl,q _ hf⟩
 exact⟨z,us,0,r,yZA _ rfl⟩
end

abbrev Sp:=List V→Hp→VK→XK→Prop
abbrev CXT:=List Env→Hp→Shared→XK→Value→Shared→Prop

structure Env0 (P:Program)(w:World)(K:yZO)(mg:Str→Option Value)(base:Heap)(A:Around)(outer:List Env)(s:Shared)(H:Hp):Prop where
 frames:A.frames=some outer
 mod:Mod K mg base
 bs:∀b o,base.get? b=some o→s.heap.get? b=some o∧H b=none
 bsz:base.objs.size≤s.heap.objs.size
 funs:s.heap.FunFrames base outer
 frf:∀b∈frs outer,H b=none
 hok:HOk P w H s.heap
 bare:AllBare s.gens
def CE (outer:List Env)(P:Program)(w:World)(H:Hp)(s:Shared)(Q:VK)(u:Value)(s':Shared):Prop:=
 ∃v H',s'.os=s.os∧AllBare s'.gens∧Un (frs outer) [] H H' s.heap s'.heap∧HOk P w H' s'.heap∧RelV v u∧Q v H'
def CR (CX:CXT)(outer:List Env)(P:Program)(w:World)(H:Hp)(s:Shared)(Q:VK)(E:XK)(r:Result)(s':Shared):Prop:=
 match r with
 | .ok (.ret u)=>CE outer P w H s Q u s'
 | .ok _=>False
 | .error e=>CX outer H s E e s'
structure FnOk (P:Program)(w:World)(K:yZO)(mg:Str→Option Value)(base:Heap)(CX:CXT)(k:Nat)(f:Addr)(fd:FuncData)(ps:List Str)(sp:Sp):Prop where
 len:∀vs H Q E,sp vs H Q E→vs.length=ps.length
 run:∀(A:Around) (outer:List Env) (s:Shared) (H:Hp) (args:Args) (us:List Value) (vs:List V) (Q:VK) (E:XK),Room k A→Env0 P w K mg base A outer s H→BindsTo s fd args (ps.zip us)→Vals vs us→sp vs H Q E→
  codeAny (model P w) A (.call (.ref f) args) (CR CX outer P w H s Q E) s
theorem FnOk.mono {P:Program}{w:World}{K:yZO}{mg:Str→Option Value}{base:Heap}{CX:CXT}{j k:Nat}{f:Addr}{fd:FuncData}{ps:List Str}{sp:Sp}(F:FnOk P w K mg base CX j f fd ps sp)(h:j≤k):
  FnOk P w K mg base CX k f fd ps sp:=⟨F.len,fun A outer s H args us vs Q E hr=>F.run A outer s H args us vs Q E (hr.mono h)⟩
section
variable {X:Cx}{pins:List (Addr×Obj)}{σ:St}{H:Hp}{s s':Shared}
theorem Inv.env0 (I:Inv X pins σ H s):Env0 X.prog X.w X.K X.mg X.base X.A X.stack s H:=
 ⟨I.ok.frames,I.ok.mod,I.bs,yZI I.ok.bsz I.sz,I.stack,I.stkFree,I.hok,I.bare⟩
theorem Inv.after {Q:VK}{u:Value}(I:Inv X pins σ H s)(h:CE X.stack X.prog X.w H s Q u s'):EP X pins σ Q u s':=by
 obtain⟨v,H',os,bare,un,hok,r,q⟩:=h
 obtain⟨hh,g,d,t,os'⟩:=s'
 obtain rfl:os'=s.os:=os
 exact⟨v,H',I.call (h':=hh) (g':=g) (d':=d) (t':=t) (ch:=[]) un hok bare (fun b z=>absurd z (by simp)),r,q⟩
end

def tCall (sp:Sp)(dvs:List V)(E:XK)(t:TA):TE:=fun σ H Q=>t σ H fun vs H1=>sp (vs++dvs) H1 Q E
def Binds (K:yZO)(fd:FuncData)(ps:List Str)(ds:List Value):Prop:=
 ∀(s:Shared) (us:List Value),K.In s.heap→(us++ds).length=ps.length→BindsTo s fd ⟨us,[]⟩ (ps.zip (us++ds))
theorem Binds.all {K:yZO}{fd:FuncData}{ps:List Str}(h:∀us:List Value,us.length=ps.length→bindArgs fd ⟨us,[]⟩=pure (ps.zip us)):Binds K fd ps []:=fun s us _ hl=>by
 rw[List.append_nil] at hl ⊢
 exact .of_eq (h us hl)

def Passes (CX:CXT)(X:Cx)(E:XK):Prop:=∀(pins:List (Addr×Obj)) (σ:St) (H:Hp) (s:Shared) (e:Value) (s':Shared),Inv X pins σ H s→CX X.stack H s E e s'→X.xe e s'

section
variable {X:Cx}{CX:CXT}{k:Nat}{f C:Addr}{fd:FuncData}{ps:List Str}{sp:Sp}{dvs:List V}{ds:List Value}{E:XK}{x m:Str}{p pos apos:Pos}{e o:Expr}{es:List Expr}{ta:TE}{t:TA}

theorem xXj {pins:List (Addr×Obj)}{σ:St}{H:Hp}{s:Shared}{Q:VK}{us:List Value}{vs:List V}(F:FnOk X.prog X.w X.K X.mg X.base CX k f fd ps sp)(hr:Room k X.A)(hb:Binds X.K fd ps ds)(hd:Vals dvs ds)(hx:Passes CX X E)
  (I:Inv X pins σ H s) (r:Vals vs us) (h:sp (vs++dvs) H Q E):wpAny (model X.prog X.w) X.A (call (.ref f) us) (EP X pins σ Q) X.xe s:=by
 have r2:Vals (vs++dvs) (us++ds):=r.append hd
 have hl:(us++ds).length=ps.length:=by rw[← r2.length];exact F.len _ _ _ _ h
 refine wpAny_call (codeAny_mono (F.run X.A X.stack s H ⟨us,[]⟩ (us++ds) (vs++dvs) Q E hr I.env0 (hb s us I.kIn hl) r2 h) fun r s' hq=>?_)
 cases r with
 | error e=>exact hx pins σ H s e s' I hq
 | ok fl=>
  cases fl with
  | ret u=>exact I.after hq
  | next=>exact False.elim hq
  | brk=>exact False.elim hq
  | cont=>exact False.elim hq

theorem qJa (F:FnOk X.prog X.w X.K X.mg X.base CX k f fd ps sp)(hr:Room k X.A)(hg:Gl X x)(hm:X.mg x=some (.ref f))(hk:PySem.W.keepIn X.K (.ref f)=true)(hb:Binds X.K fd ps ds)(hd:Vals dvs ds)(hx:Passes CX X E)
  (ha:PA X (e::es) t) (hdb:(x == ("__debug__" : Str))=false:=by decide) (he:starEach (e::es) X.env=(false,eval e X.env)::starEach es X.env:=by rfl) (hpl:(backTo pos (starEach es X.env)).any (·.1)=false:=by rfl):
  PE X (.Call (.Name x p) (e::es) [] pos) (tCall sp dvs E t):=by
 intro pins s σ H Q I h
 refine wpAny_Call_Name_kw (qHb I hg hm ?_ hdb)
 refine PySem.W.callWith_K (h₀:=X.base) I.ok.mod.kin hk (thn (ha pos pins s σ H _ I h) fun us s1 ⟨vs,H1,I1,r,q⟩=>⟨I1.kIn,?_⟩) he hpl
 exact xXj F hr hb hd hx I1 r q
end

section
variable {X:Cx}{CX:CXT}{k:Nat}{f C:Addr}{fd:FuncData}{ps ks:List Str}{sp:Sp}{E:XK}{x m:Str}{p pos apos kpos:Pos}{e o:Expr}{es:List Expr}{kws:List Keyword}{te ta:TE}{t tk:TA}{nm:Option Str}
variable {g:List Value→List Value→List Value}{gV:List V→List V→List V}
end

structure xE (N P:List Str)(sc:Scope):Prop where
 kind:sc.kind=.function
 co:sc.isCoroutine=false
 gen:sc.isGenerator=false
 nd:N.Nodup
 pre:N.take P.length=P
 par:∀x∈P,sc.names.lookup x=some .local∨sc.names.lookup x=some .cell
 nofree:∀y∈sc.names,y.2≠.free

theorem qVd {kindOf:Str→Option NameKind}{x:Str}:∀{binds:List (Str×Value)} {m:Str→Option Value},(∀v,(x,v)∉binds)→bindL kindOf binds m x=m x
 | [],_,_=>rfl
 | (n,v)::r,m,h=>by
  unfold bindL
  rw[qVd fun w hw=>h w (yYH _ hw)]
  split
  ·have:x≠n:=by rintro rfl;exact h v yYG
   simp[this]
  ·rfl
theorem qVf {kindOf:Str→Option NameKind}{x:Str}:∀{binds:List (Str×Value)} {m:Str→Option Value},(∀v,(x,v)∉binds)→bindC kindOf binds m x=m x
 | [],_,_=>rfl
 | (n,v)::r,m,h=>by
  unfold bindC
  rw[qVf fun w hw=>h w (yYH _ hw)]
  split
  ·rfl
  ·have:x≠n:=by rintro rfl;exact h v yYG
   simp[this]
theorem qVe {kindOf:Str→Option NameKind}{x:Str}{v:Value}:∀{P:List Str} {vs:List Value} {i:Nat} {m:Str→Option Value},P.Nodup→P[i]? = some x→vs[i]? = some v→kindOf x=some .local→
  bindL kindOf (P.zip vs) m x=some v
 | [],_,_,_,_,h,_,_=>by simp at h
 | _::_,[],_,_,_,_,h,_=>by simp at h
 | p::P,w::vs,0,m,nd,h1,h2,hk=>by
  simp at h1 h2;subst h1;subst h2
  show bindL kindOf ((p,w)::P.zip vs) m p=_
  unfold bindL
  rw[qVd fun v hv=>(List.nodup_cons.mp nd).1 (List.of_mem_zip hv).1,if_pos hk]
  simp
 | p::P,w::vs,i+1,m,nd,h1,h2,hk=>by
  show bindL kindOf ((p,w)::P.zip vs) m x=_
  unfold bindL
  exact qVe (i:=i) (List.nodup_cons.mp nd).2 (by simpa using h1) (by simpa using h2) hk
theorem qVg {kindOf:Str→Option NameKind}{x:Str}{v:Value}:∀{P:List Str} {vs:List Value} {i:Nat} {m:Str→Option Value},P.Nodup→P[i]? = some x→vs[i]? = some v→kindOf x≠some .local→
  bindC kindOf (P.zip vs) m x=some v
 | [],_,_,_,_,h,_,_=>by simp at h
 | _::_,[],_,_,_,_,h,_=>by simp at h
 | p::P,w::vs,0,m,nd,h1,h2,hk=>by
  simp at h1 h2;subst h1;subst h2
  show bindC kindOf ((p,w)::P.zip vs) m p=_
  unfold bindC
  rw[qVf fun v hv=>(List.nodup_cons.mp nd).1 (List.of_mem_zip hv).1,if_neg hk]
  simp
 | p::P,w::vs,i+1,m,nd,h1,h2,hk=>by
  show bindC kindOf ((p,w)::P.zip vs) m x=_
  unfold bindC
  exact qVg (i:=i) (List.nodup_cons.mp nd).2 (by simpa using h1) (by simpa using h2) hk

def start (N:List Str)(vs:List V):St:=vs.map some++List.replicate (N.length - vs.length) none

def cxOf (CX:CXT)(P:Program)(w:World)(K:yZO)(mg:Str→Option Value)(base:Heap)(N:List Str)(qual:Str)(scope:Scope)(f:Addr)(cd:Value)(A:Around)(outer:List Env)(s:Shared)(H:Hp)(E:XK):Cx where
 prog:=P
 w:=w
 K:=K
 mg:=mg
 base:=base
 A:=A.deeper (envOfC qual scope s.heap.objs.size f cd)
 N:=N
 s₀:=s
 H₀:=H
 env:=envOfC qual scope s.heap.objs.size f cd
 outer:=outer
 stack:=envOfC qual scope s.heap.objs.size f cd::outer
 ex:=[]
 calm:=true
 fn:=fun _=>true
 pn:=[]
 xe:=fun e s'=>wpAny (model P w) (A.deeper (envOfC qual scope s.heap.objs.size f cd)) (leaving (envOfC qual scope s.heap.objs.size f cd) e) (fun _ s''=>CX outer H s E e s'') (fun e' s''=>CX outer H s E e' s'') s'

theorem qCo {sc:Scope}{n:Nat}{x:Str}(h:sc.names.lookup x=some .cell):∃c,(cellsFrom n sc.names []).lookup x=some c:=by
 have q:=PySem.W.cellsFrom_some sc.names n [] (.inl h)
 exact Option.isSome_iff_exists.mp q

theorem qHl {CX:CXT}{P:Program}{w:World}{K:yZO}{mg:Str→Option Value}{base:Heap}{N ps:List Str}{qual:Str}{scope:Scope}{f:Addr}{cd:Value}{A:Around}{outer:List Env}{s s1:Shared}{H:Hp}{E:XK}{us:List Value}{vs:List V}
  (S:xE N ps scope) (hd:A.handled=none) (e0:Env0 P w K mg base A outer s H) (hl:vs.length=ps.length) (r:Vals vs us)
  (x:InCallC s s.heap.objs.size (bindL (envOfC qual scope s.heap.objs.size f cd).kindOf (ps.zip us) fun _=>none) (cellsFrom (s.heap.objs.size+1) scope.names []) (bindC (envOfC qual scope s.heap.objs.size f cd).kindOf (ps.zip us) fun _=>none) s1):
  Inv (cxOf CX P w K mg base N qual scope f cd A outer s H E) [] (start N vs) H s1:=by
 have hpl:ps.length≤N.length:=by have:=congrArg List.length S.pre;rw[yYF] at this;omega
 obtain⟨h1,tk,rfl,hk⟩:=x.done
 have noA:∀b:Addr,b∉(cxOf CX P w K mg base N qual scope f cd A outer s H E).ex:=fun b z=>absurd (show b∈([]:List Addr) from z) (by simp)
 refine⟨⟨e0.mod,S.kind,rfl,rfl,yZC _,fun y z c h1 h2=>?_,fun y hy=>?_,fun y c _ h=>?_,fun _=>hd,Around.frames_deeper e0.frames,.inr ⟨rfl,rfl⟩,fun b z=>absurd z (noA b),e0.bs,e0.bsz,fun b _ _=>noA b,fun b z=>absurd z (noA b),e0.funs,e0.frf⟩,
  rfl,e0.bare,Un.kept hk,⟨_,x.toInCall.ns,fun i y v h1 h2 h3=>?_⟩,fun y c h=>⟨_,x.cell y c h⟩,e0.hok.fresh (yZC _),fun y c h=>?_,fun p hp=>absurd (show p∈([]:List (Addr×Obj)) from hp) (by simp),e0.hok.kept hk,?_⟩
 ·exact name_of_addr x.apart (PySem.mem_of_lookup h1) (PySem.mem_of_lookup h2)
 ·have hy:scope.names.lookup y=some .cell∨scope.names.lookup y=some .free:=hy
  rcases hy with hy | hy
  ·exact qCo hy
  ·exact absurd rfl (S.nofree _ (PySem.mem_of_lookup hy))
 ·exact Nat.le_of_lt (x.above y c (PySem.mem_of_lookup h))
 ·have hi:i<vs.length:=by
   unfold start at h2
   by_cases hi:i<vs.length
   ·exact hi
   ·rw[List.getElem?_append_right (by simpa using hi)] at h2
    rw[List.getElem?_replicate] at h2
    split at h2 <;> cases h2
  have ha:vs[i]? = some v:=by
   unfold start at h2
   rw[List.getElem?_append_left (by simpa using hi),yYO] at h2
   cases e:vs[i]? with
   | none=>rw[e] at h2;cases h2
   | some a=>rw[e] at h2;cases h2;rfl
  obtain⟨u,hu,rv⟩:=r.get ha
  have hp:ps[i]? = some y:=by
   rw[← S.pre,List.getElem?_take_of_lt (by omega)];exact h1
  have ndP:ps.Nodup:=by rw[← S.pre];exact S.nd.sublist (List.take_sublist _ _)
  refine⟨u,rv,?_⟩
  rcases S.par y (yYE hp) with k | k
  ·exact .inl ⟨k,qVe ndP hp hu k⟩
  ·obtain⟨c,e⟩:=qCo (n:=s.heap.objs.size+1) k
   refine .inr ⟨.inl k,c,e,?_⟩
   have q:=x.cell y c e
   rw[qVg ndP hp hu (by show scope.names.lookup y≠_;rw[k];decide)] at q
   exact q
 ·exact e0.hok.fresh (Nat.le_of_lt (x.above y c (PySem.mem_of_lookup h)))
 ·unfold start
  show _=N.length
  rw[yYI,yYC,List.length_replicate]
  omega

theorem xYg {CX:CXT}{P:Program}{w:World}{K:yZO}{mg:Str→Option Value}{base:Heap}{k:Nat}{f:Addr}{name qual:Str}{params:Arguments}{body:List Stmt}{scope:Scope}{dV kV doc pm cdv ct oc:Value}{an od:Option Addr}
  {osl:Array (Option Value)} {N ps:List Str} {sp:Sp} (lk:K.lookup f=some ⟨oc,od,.func (PySem.W.fnOf name qual params body scope dV kV doc pm an cdv ct),osl⟩) (hcd:PySem.W.codeIn K cdv qual=true) (S:xE N ps scope)
  (len:∀vs H Q E,sp vs H Q E→vs.length=ps.length)
  (hbody:∀(A:Around) (outer:List Env) (s:Shared) (H:Hp) (vs:List V) (Q:VK) (E:XK),Room k (A.deeper (envOfC qual scope s.heap.objs.size f cdv))→sp vs H Q E→
   ∃t,PSs (cxOf CX P w K mg base N qual scope f cdv A outer s H E) body t∧t { nx:=fun _ H'=>Q .non H',rt:=Q } (start N vs) H):
  FnOk P w K mg base CX (k+1) f (PySem.W.fnOf name qual params body scope dV kV doc pm an cdv ct) ps sp:=by
 refine⟨len,fun A outer s H args us vs Q E hr e0 hb r hsp=>?_⟩
 have hl:=len _ _ _ _ hsp
 have KX:K.In s.heap:=e0.mod.kin.keeps fun b o e=>(e0.bs b o e).1
 have lim:s.heap.NoLimit:=e0.mod.nolimit.keeps fun b o e=>(e0.bs b o e).1
 have hkind:∀y∈ps.zip us,scope.names.lookup y.1=some .local∨(scope.names.lookup y.1=some .cell∧((cellsFrom (s.heap.objs.size+1) scope.names []).lookup y.1).isSome=true):=fun⟨n,v⟩ hy=>by
  rcases S.par n (List.of_mem_zip hy).1 with q | q
  ·exact .inl q
  ·exact .inr ⟨q,PySem.W.cellsFrom_some _ _ _ (.inl q)⟩
 refine codeAny_call_function hr.depth (KX _ _ lk) rfl S.co S.gen rfl (PySem.W.codeRec_of KX hcd) (hb _ _ _ _ ?_)
 refine wpAny_newFunctionEnv_cells S.kind hkind fun env he s1 x=>?_
 subst he
 refine⟨lim.keeps x.toInCall.keep,codeAny_func ?_⟩
 obtain⟨t,ht,hq⟩:=hbody A outer s H vs Q E (hr.deeper _) hsp
 have I:Inv (cxOf CX P w K mg base N qual scope f cdv A outer s H E) [] (start N vs) H s1:=qHl S hr.hd e0 hl r x
 refine wpAny_mono (ht [] s1 (start N vs) H _ I hq) (fun fl s' hs=>?_) fun e s' hs=>hs
 have fin:∀{σ':St} {H':Hp} {v:V} {u:Value},Inv (cxOf CX P w K mg base N qual scope f cdv A outer s H E) [] σ' H' s'→RelV v u→Q v H'→CE outer P w H s Q u s':=
  fun{σ' H' v u} J rv q=>⟨v,H',J.os,J.bare,J.base,J.hok,rv,q⟩
 cases fl with
 | ret u=>
  obtain⟨v,σ',H',J,rv,q⟩:=hs
  exact fin J rv q
 | next=>
  obtain⟨σ',H',J,q⟩:=hs
  exact fin (v:=V.non) (u:=Value.none) J rfl q
 | brk=>
  obtain⟨_,_,_,q⟩:=hs
  exact False.elim q
 | cont=>
  obtain⟨_,_,_,q⟩:=hs
  exact False.elim q
end L2

namespace L2
open PySem PySem.Spec PyProof.Rows
section
variable {X:Cx}{x:Str}{p pos:Pos}{e:Expr}{es:List Expr}{t:TA}{id T:String}{r:List V→Hp→VK→Prop}

def tCB (r:List V→Hp→VK→Prop)(t:TA):TE:=fun σ H Q=>t σ H fun vs H1=>r vs H1 Q
theorem xZ (hc:CallR X (.builtin id) r)(hg:Gl X x)(hm:X.mg x=none)(hv:bootBuiltins x=some (.builtin id))(ha:PA X (e::es) t)(hn:x ≠ "__name__" := by decide)(hdb:(x == ("__debug__" : Str))=false:=by decide)
  (he:starEach (e::es) X.env=(false,eval e X.env)::starEach es X.env:=by rfl) (hpl:(backTo pos (starEach es X.env)).any (·.1)=false:=by rfl):PE X (.Call (.Name x p) (e::es) [] pos) (tCB r t):=by
 intro pins s σ H Q I h
 refine wpAny_Call_Name_kw (qQo I hg hm hv ?_ hn hdb)
 exact PyProof.Rows.callWith_builtin1 (thn (ha pos pins s σ H _ I h) fun us s1 ⟨vs,H1,I1,r1,q1⟩=>hc pins s1 σ H1 vs us Q I1 r1 q1) he hpl
theorem xX (hc:CallR X (.type T) r)(hg:Gl X x)(hm:X.mg x=none)(hv:bootBuiltins x=some (.type T))(ha:PA X (e::es) t)(hn:x ≠ "__name__" := by decide)(hdb:(x == ("__debug__" : Str))=false:=by decide)
  (he:starEach (e::es) X.env=(false,eval e X.env)::starEach es X.env:=by rfl) (hpl:(backTo pos (starEach es X.env)).any (·.1)=false:=by rfl):PE X (.Call (.Name x p) (e::es) [] pos) (tCB r t):=by
 intro pins s σ H Q I h
 refine wpAny_Call_Name_kw (qQo I hg hm hv ?_ hn hdb)
 exact PyProof.Rows.callWith_type1 (thn (ha pos pins s σ H _ I h) fun us s1 ⟨vs,H1,I1,r1,q1⟩=>hc pins s1 σ H1 vs us Q I1 r1 q1) he hpl
end
end L2

namespace HT
open PySem PyProof.Rows

def lexLt:List Int→List Int→Bool
 | [],[]=>false
 | [],_::_=>true
 | _::_,[]=>false
 | x::xs,y::ys=>if x=y then lexLt xs ys else decide (x<y)
theorem lexLt_cons (x y:Int)(xs ys:List Int):lexLt (x::xs) (y::ys)=if x=y then lexLt xs ys else decide (x<y):=rfl
theorem lexLt_nil_nil:lexLt [] []=false:=rfl
section
open PySem.SeqAt
open PySem.AutoSeq1 (wpAny_loadPart')
open PySem.MeetsSeq PySem.MeetsSeq2 PySem.MeetsSeq3

end

section
variable {prog:Program}{w:World}{A:Around}{E:Value→Shared→Prop}{s:Shared}

theorem cat_tup {t b:Addr}{vs ws:List Value}{Q:Value→Shared→Prop}(ht:IsTup s.heap t vs.toArray)(hb:IsTup s.heap b ws.toArray)(hv:vs≠[])
  (h1:ws=[]→Q (.ref t) s) (h2:ws≠[]→Q (.ref s.heap.objs.size) { s with heap:=s.heap.push { cls:=.type "tuple",data:=.seq (vs++ws).toArray } })
  (hsz:vs.length+ws.length≤sizeLine):wpAny (model prog w) A (binaryOp .Add (.ref t) (.ref b)) Q E s:=by
 obtain⟨⟨cls,dd,data,sl⟩,ho,hc,n,hd⟩:=id ht
 obtain⟨⟨cls2,dd2,data2,sl2⟩,ho2,hc2,n2,hd2⟩:=id hb
 simp only at hc hd hc2 hd2
 subst hc hd hc2 hd2
 have e:vs.toArray++ws.toArray=(vs++ws).toArray:=by simp
 by_cases hw:ws=[]
 ·exact concat_meets ⟨_,ho,rfl⟩ ⟨_,ho2,rfl⟩ noFill_tuple_add seq_tuple_add PySem.F.slot_tuple_add PySem.F.entry_tuple_add (PySem.F.args_tuple_add_2 _ _)
   (tuple_addW1 t b vs.toArray ws.toArray n n2 dd dd2 sl sl2 (by simpa using hv) (by simp[hw])) ⟨ho,ho2,h1 hw⟩
 ·refine concat_meets ⟨_,ho,rfl⟩ ⟨_,ho2,rfl⟩ noFill_tuple_add seq_tuple_add PySem.F.slot_tuple_add PySem.F.entry_tuple_add (PySem.F.args_tuple_add_2 _ _)
   (tuple_addW2 t b vs.toArray ws.toArray n n2 dd dd2 sl sl2 (by simpa using hv) (by simpa using hw) (by rw[yYD,yYD];exact hsz)) ⟨ho,ho2,?_⟩
  rw[e]
  exact h2 hw

def sIx (n d:Nat):Option Int→Nat
 | none=>d
 | some v=>if v<0 then (v+(n:Int)).toNat else min v.toNat n
theorem sIx_none (n d:Nat):sIx n d none=d:=rfl
theorem sIx_nat (n d k:Nat):sIx n d (some (k:Int))=min k n:=by
 show(if (k:Int)<0 then ((k:Int)+(n:Int)).toNat else min (k:Int).toNat n)=min k n
 rw[if_neg (by omega),Int.toNat_natCast]
theorem xXx (n d:Nat)(hd:d≤n)(o:Option Int):sIx n d o≤n:=by
 cases o with
 | none=>exact hd
 | some v=>
  show(if v<0 then (v+(n:Int)).toNat else min v.toNat n)≤n
  by_cases hv:v<0
  ·rw[if_pos hv];omega
  ·rw[if_neg hv];exact Nat.min_le_right _ _
theorem qMj (v:Int)(n d:Nat):(if v<0 then max (v+(n:Int)) 0 else min v (n:Int))=((sIx n d (some v):Nat):Int):=by
 show(if v<0 then max (v+(n:Int)) 0 else min v (n:Int))=(((if v<0 then (v+(n:Int)).toNat else min v.toNat n):Nat):Int)
 by_cases hv:v<0
 ·simp only[if_pos hv];omega
 ·simp only[if_neg hv];omega
theorem qEh (lo hi:Option Int)(n:Nat):Builtin.Slice.sliceAdjust lo hi 1 (n:Int)=(((sIx n 0 lo:Nat):Int),((sIx n n hi:Nat):Int)):=by
 have h1:¬((1:Int)<0):=by omega
 unfold Builtin.Slice.sliceAdjust
 simp only[h1,if_false]
 refine Prod.ext ?_ ?_
 ·cases lo with
  | none=>rfl
  | some v=>exact qMj v n 0
 ·cases hi with
  | none=>rfl
  | some v=>exact qMj v n n
theorem qDf (i j:Nat):Builtin.Slice.slicePlaces (i:Int) (j:Int) 1=j - i:=by
 unfold Builtin.Slice.slicePlaces
 have h1:(1:Int)>0:=by omega
 simp only[h1,if_true,Int.ediv_one]
 split <;> omega
theorem qXo {v:Value}{o:Option Int}{Q:Option Int→Shared→Prop}(p:IsPart v o)(h:Q o s):wpAny (model prog w) A (Builtin.Slice.slicePartIndex v) Q E s:=by
 cases p with
 | none=>exact slicePart_none h
 | int i t=>exact slicePart_int h
theorem wF {sl:Addr}{vl vu:Value}{lo hi:Option Int}{n:Nat}{Q:Int×Int×Nat→Shared→Prop}(hs:s.heap.IsSliceOf sl vl vu .none)(pl:IsPart vl lo)(pu:IsPart vu hi)
  (h:Q (((sIx n 0 lo:Nat):Int),1,sIx n n hi - sIx n 0 lo) s):wpAny (model prog w) A (Builtin.Slice.sliceApplied (.ref sl) (pure (n:Int))) Q E s:=by
 obtain⟨os,hos,hcs,hds⟩:=id hs
 unfold Builtin.Slice.sliceApplied Builtin.Slice.sliceFields
 refine yYW (yYW (wpAny_field hos hds (x:=vl) rfl (yYW (wpAny_field hos hds (x:=vu) rfl (yYW (wpAny_field hos hds (x:=.none) rfl (yYX ?_)))))))
 refine yYW (slicePart_none ?_)
 show wpAny _ _ (if ((1:Int) == 0)=true then _ else _) _ _ s
 rw[if_neg (by decide)]
 refine yYW (qXo pl (yYW (qXo pu (yYW (yYX ?_)))))
 show wpAny _ _ (match Builtin.Slice.sliceAdjust lo hi 1 (n:Int) with | (lo,hi)=>pure (lo,(1:Int),Builtin.Slice.slicePlaces lo hi 1)) _ _ s
 rw[qEh lo hi n]
 show wpAny _ _ (pure (((sIx n 0 lo:Nat):Int),(1:Int),Builtin.Slice.slicePlaces ((sIx n 0 lo:Nat):Int) ((sIx n n hi:Nat):Int) 1)) _ _ s
 rw[qDf]
 exact yYX h
theorem qNi (xs:Array Value)(i k:Nat):((List.range k).filterMap fun(m:Nat)=>xs[((i:Int)+(m:Int) * 1).toNat]?).toArray=((xs.toList.drop i).take k).toArray:=by
 have e:(fun(m:Nat)=>xs[((i:Int)+(m:Int) * 1).toNat]?)=fun m=>xs[i+m]? := by
  funext m
  have:((i:Int)+(m:Int) * 1).toNat=i+m:=by omega
  rw[this]
 rw[e]
 have:=pick_run xs i k
 rw[List.filterMap_map] at this
 have e2:((fun x=>xs[x]?)∘fun x=>i+x)=fun m=>xs[i+m]? := rfl
 rw[e2] at this
 rw[this]

theorem getItem_tuple_cut {t sl:Addr}{items:Array Value}{vl vu:Value}{lo hi:Option Int}{Q:Value→Shared→Prop}(ht:IsTup s.heap t items)(hs:s.heap.IsSliceOf sl vl vu .none)(pl:IsPart vl lo)(pu:IsPart vu hi)
  (hw:¬(sIx items.size 0 lo=0∧sIx items.size items.size hi=items.size))
  (h:Q (.ref s.heap.objs.size) { s with heap:=s.heap.push { cls:=.type "tuple",data:=.seq ((items.toList.drop (sIx items.size 0 lo)).take (sIx items.size items.size hi - sIx items.size 0 lo)).toArray } })
  (hsz:items.size≤sizeLine):wpAny (model prog w) A (getItem (.ref t) (.ref sl)) Q E s:=by
 have htake:sizeOk (.seq ((items.toList.drop (sIx items.size 0 lo)).take (sIx items.size items.size hi - sIx items.size 0 lo)).toArray):=by
  show((items.toList.drop (sIx items.size 0 lo)).take (sIx items.size items.size hi - sIx items.size 0 lo)).toArray.size≤sizeLine
  rw[yYD,yYF,List.length_drop,yZL]
  omega
 have hj:sIx items.size items.size hi≤items.size:=xXx _ _ (yZC _) hi
 obtain⟨os,hos,hcs,hds⟩:=id hs
 have hTs:s.TypeIs (.ref sl) "slice" := ⟨os,hos,hcs⟩
 unfold getItem
 try with_reducible refine wpAny_holding ?_
 first | refine yYW (yYX ?_) | skip
 refine yYW (wpAny_sequenceKey ht.typeIs (by decide) ?_)
 refine yYW (wpAny_callSpecial?_slot (name:=Str.ofString "__getitem__") ht.typeIs PyProof.Rows.slot_tuple_getitem
  (wpAny_call_entry PyProof.Rows.slot_tuple_getitem ht.typeIs entry_tuple_getitem ?_ (args_tuple_getitem _ _)))
 show wpAny _ _ (Builtin.Tuple.tupleItemsOf (.ref t) >>= _) _ _ s
 refine yYW (tupleItemsOf_ ht ?_)
 refine yYW (wpAny_typeOf hTs ?_)
 rw[if_pos (by decide)]
 refine yYW (wF hs pl pu ?_)
 have hno:¬((((sIx items.size 0 lo:Nat):Int) == 0 && (1:Int) == 1 && (sIx items.size items.size hi - sIx items.size 0 lo) == items.size)=true):=by
  intro q
  rw[Bool.and_eq_true,Bool.and_eq_true] at q
  have q1:((sIx items.size 0 lo:Nat):Int)=0:=eq_of_beq q.1.1
  have q2:sIx items.size items.size hi - sIx items.size 0 lo=items.size:=eq_of_beq q.2
  exact hw ⟨by omega,by omega⟩
 show wpAny _ _ (if (((sIx items.size 0 lo:Nat):Int) == 0 && (1:Int) == 1 && (sIx items.size items.size hi - sIx items.size 0 lo) == items.size)=true then _ else _) _ _ s
 rw[if_neg hno,qNi]
 first
  | exact yYW (m:=Builtin.Tuple.tupleExact _) (wpAny_newObj_type (yYX ⟨_,rfl,yYX h⟩) htake)
  | exact yYW (m:=Builtin.Tuple.tupleExact _) (wpAny_newObj_type (yYW (yYX (yYX ⟨_,rfl,yYX h⟩))) htake)
  | exact yYW (yYW (m:=Builtin.Tuple.tupleExact _) (wpAny_newObj_type (yYX (yYX ⟨_,rfl,yYX h⟩)) htake))
  | exact yYW (yYW (m:=Builtin.Tuple.tupleExact _) (wpAny_newObj_type (yYX ⟨_,rfl,yYX h⟩) htake))
end
end HT

namespace L2
open PySem PySem.Spec PyProof.Rows

abbrev TO:=St→Hp→(Option Int→Hp→Prop)→Prop
def PO (X:Cx)(e:Option Expr)(t:TO):Prop:=
 ∀(pins:List (Addr×Obj)) (s:Shared) (σ:St) (H:Hp) (Q:Option Int→Hp→Prop),Inv X pins σ H s→t σ H Q→
  wpAny (model X.prog X.w) X.A (evalPart e X.env) (fun u s'=>∃o H',Inv X pins σ H' s'∧IsPart u o∧Q o H') X.xe s
def qFv:TO:=fun _ H Q=>Q none H
def tPart (t:TE):TO:=fun σ H Q=>t σ H fun x H1=>∃i,x=.int i∧Q (some i) H1

section
variable {X:Cx}{e:Expr}{te:TE}{lo hi:Option Expr}{tl th:TO}{pos p2:Pos}

theorem kM:PO X none qFv:=by
 intro pins s σ H Q I h
 rw[evalPart_none]
 exact yYX ⟨none,H,I,.none,h⟩
theorem kI (h:PE X e te):PO X (some e) (tPart te):=by
 intro pins s σ H Q I hw
 rw[evalPart_some]
 refine thn (h pins s σ H _ I hw) fun u s1 ⟨x,H1,I1,r1,q1⟩=>?_
 obtain⟨i,rfl,q⟩:=q1
 obtain⟨t,rfl⟩:=r1
 exact⟨some i,H1,I1,.int i t,q⟩

def SlR (X:Cx)(r:V→Option Int→Option Int→Hp→VK→Prop):Prop:=
 ∀(pins:List (Addr×Obj)) (s:Shared) (σ:St) (H:Hp) (x:V) (v vl vu:Value) (lo hi:Option Int) (sl:Addr) (Q:VK),Inv X pins σ H s→RelV x v→s.heap.IsSliceOf sl vl vu .none→IsPart vl lo→IsPart vu hi→r x lo hi H Q→
  ∃T id,typeLookup (.type T) "__getitem__" = pure (some (.builtin id))∧s.TypeIs v T∧wpAny (model X.prog X.w) X.A (getItem v (.ref sl)) (EP X pins σ Q) X.xe s
def tSl (r:V→Option Int→Option Int→Hp→VK→Prop)(te:TE)(tl th:TO):TE:=fun σ H Q=>te σ H fun x H1=>tl σ H1 fun l H2=>th σ H2 fun u H3=>r x l u H3 Q
theorem vK {r:V→Option Int→Option Int→Hp→VK→Prop}(hr:SlR X r)(he:PE X e te)(hl:PO X lo tl)(hu:PO X hi th):PE X (.Subscript e (.Slice lo hi none p2) pos) (tSl r te tl th):=by
 intro pins s σ H Q I h
 refine Subscript_ (thn (he pins s σ H _ I h) fun v s1 ⟨x,H1,I1,r1,q1⟩=>?_)
 refine wpAny_Slice (thn (hl pins s1 σ H1 _ I1 q1) fun vl s2 ⟨l,H2,I2,pl,q2⟩=>thn (hu pins s2 σ H2 _ I2 q2) fun vu s3 ⟨u,H3,I3,pu,q3⟩=>?_)
 rw[evalPart_none]
 refine yYX ?_
 have I4:Inv X pins σ H3 { s3 with heap:=s3.heap.push { cls:=.type "slice",data:=.fields #[vl,vu,.none] } }:=I3.kept (t':=s3.toks) fun b ob q=>yYY _ q
 obtain⟨T,id,hT,ht,hg⟩:=hr pins { s3 with heap:=s3.heap.push { cls:=.type "slice",data:=.fields #[vl,vu,.none] } } σ H3 x v vl vu l u s3.heap.objs.size Q I4 r1 (Heap.IsSliceOf.new ..) pl pu q3
 show wpAny (model X.prog X.w) X.A (subscriptTail e (.Slice lo hi none p2) v (.ref s3.heap.objs.size)) (EP X pins σ Q) X.xe { s3 with heap:=s3.heap.push { cls:=.type "slice",data:=.fields #[vl,vu,.none] } }
 exact tail_any (ops:=[.ref s3.heap.objs.size,v]) ht hT hg (by with_unfolding_all rfl)

def cutV (xs:List V)(lo hi:Option Int):List V:=(xs.drop (HT.sIx xs.length 0 lo)).take (HT.sIx xs.length xs.length hi - HT.sIx xs.length 0 lo)
theorem kR (xs:List V)(lo hi:Option Int):(cutV xs lo hi).length≤xs.length:=by
 unfold cutV
 rw[yYF,List.length_drop]
 omega
def rSlT (K:yZO):V→Option Int→Option Int→Hp→VK→Prop:=fun x lo hi H Q=>∃a xs,x=.ref a∧SqT K H a xs∧
 ¬(HT.sIx xs.length 0 lo=0∧HT.sIx xs.length xs.length hi=xs.length)∧∀p,H p=none→Q (.ref p) (upd H p (.tup (cutV xs lo hi)))
theorem xQi:SlR X (rSlT X.K):=by
 intro pins s σ H x v vl vu lo hi sl Q I rx hs pl pu h
 obtain⟨a,xs,rfl,hx,hw,q⟩:=h
 cases rx
 obtain⟨its,r,ht,hz⟩:=I.tuple hx
 have hlen:its.toArray.size=xs.length:=by rw[yYD];exact r.length.symm
 refine⟨"tuple",_,PyProof.Rows.slot_tuple_getitem.lookup,ht.typeIs,?_⟩
 refine HT.getItem_tuple_cut ht hs pl pu (by rw[hlen];exact hw) ?_ (by rw[hlen];exact hz)
 rw[hlen]
 refine⟨.ref s.heap.objs.size,_,I.laid (t':=s.toks) (o:=.tup (cutV xs lo hi)) (fun b ob q=>yYY _ q) (yZC _) ?_,rfl,q _ (I.hok.fresh (yZC _))⟩
 exact⟨yZI (kR xs lo hi) hz,_,(r.drop (HT.sIx xs.length 0 lo)).take (HT.sIx xs.length xs.length hi - HT.sIx xs.length 0 lo),TupX.new _ _⟩

def rCatT (K:yZO):R2:=fun x y H Q=>∃a b xs ys,x=.ref a∧y=.ref b∧SqT K H a xs∧SqT K H b ys∧xs≠[]∧xs.length+ys.length≤sizeLine∧
 (ys=[]→Q (.ref a) H)∧(ys≠[]→∀p,H p=none→Q (.ref p) (upd H p (.tup (xs++ys))))
theorem Vals.nil_iff {xs:List V}{us:List Value}(r:Vals xs us):us=[]↔xs=[]:=by
 cases r with
 | nil=>simp
 | cons _ _=>simp
theorem qTd:OpR X (binaryOp .Add) (rCatT X.K):=by
 intro pins s σ H x y v u Q I rx ry h
 obtain⟨a,b,xs,ys,rfl,rfl,ha,hb,hx,hz,q1,q2⟩:=h
 cases rx
 cases ry
 obtain⟨its,r1,p1,_⟩:=I.tuple ha
 obtain⟨its2,r2,p2,_⟩:=I.tuple hb
 refine HT.cat_tup p1 p2 (fun z=>hx (r1.nil_iff.mp z)) (fun z=>⟨.ref a,H,I,rfl,q1 (r2.nil_iff.mp z)⟩) (fun z=>?_) (by rw[← r1.length,← r2.length];exact hz)
 refine⟨.ref s.heap.objs.size,_,I.laid (t':=s.toks) (o:=.tup (xs++ys)) (fun b ob q=>yYY _ q) (yZC _) ?_,rfl,q2 (fun w=>z (r2.nil_iff.mpr w)) _ (I.hok.fresh (yZC _))⟩
 exact⟨by rw[yYI];exact hz,_,r1.append r2,TupX.new _ _⟩
end
end L2

namespace L2
open PySem PySem.Spec PyProof.Rows

def ixN (n:Nat)(i:Int):Option Nat:=if 0≤i then (if i<n then some i.toNat else none) else if -(n:Int)≤i then some (i+n).toNat else none
def atI {α:Type}(xs:List α)(i:Int):Option α:=(ixN xs.length i).bind fun j=>xs[j]?
theorem qHh {n:Nat}{i:Int}{j:Nat}(h:ixN n i=some j):seqIndex? i n=some j∧j<n∧-(n:Int)≤i∧i<n:=by
 unfold ixN at h
 by_cases h0:0≤i
 ·rw[if_pos h0] at h
  by_cases h1:i<n
  ·rw[if_pos h1] at h
   have e:i.toNat=j:=Option.some.inj h
   exact⟨by rw[seqIndex_of h0 h1,e],by omega,by omega,h1⟩
  ·rw[if_neg h1] at h;cases h
 ·rw[if_neg h0] at h
  by_cases h1 : -(n:Int)≤i
  ·rw[if_pos h1] at h
   have e:(i+n).toNat=j:=Option.some.inj h
   exact⟨by rw[seqIndex_neg (by omega) h1,e],by omega,h1,by omega⟩
  ·rw[if_neg h1] at h;cases h
theorem qMe {α:Type}{xs:List α}{i:Int}{v:α}(h:atI xs i=some v):∃j,seqIndex? i xs.length=some j∧xs[j]? = some v∧j<xs.length∧-(xs.length:Int)≤i∧i<xs.length:=by
 unfold atI at h
 cases e:ixN xs.length i with
 | none=>rw[e] at h;cases h
 | some j=>
  rw[e] at h
  obtain⟨h1,h2,h3,h4⟩:=qHh e
  exact⟨j,h1,h,h2,h3,h4⟩
theorem qAc {α:Type}{xs:List α}{j:Nat}{v:α}(h:xs[j]? = some v):atI xs (j:Int)=some v:=by
 have hj:j<xs.length:=(yYB.mp h).1
 have e:ixN xs.length (j:Int)=some j:=by
  unfold ixN
  rw[if_pos (by omega),if_pos (by omega)];simp
 unfold atI;rw[e];exact h
def qUi (b:Expr):Prop:=∀o i,subscripted b false o i=operate [o,i] (getItem o i)
def IxR (X:Cx)(r:R2):Prop:=
 ∀(value slice:Expr) (pins:List (Addr×Obj)) (s:Shared) (σ:St) (H:Hp) (x y:V) (v u:Value) (Q:VK),Inv X pins σ H s→RelV x v→RelV y u→r x y H Q→
  subscripted slice false v u=operate [v,u] (getItem v u)→wpAny (model X.prog X.w) X.A (subscriptTail value slice v u) (EP X pins σ Q) X.xe s
def MtR (X:Cx)(id:String)(r:V→List V→Hp→VK→Prop):Prop:=
 ∀(pins:List (Addr×Obj)) (s:Shared) (σ:St) (H:Hp) (x:V) (xs:List V) (v:Value) (us:List Value) (Q:VK),Inv X pins σ H s→RelV x v→Vals xs us→r x xs H Q→
  wpAny (model X.prog X.w) X.A (call (.builtin id) (v::us)) (EP X pins σ Q) X.xe s
section
variable {X:Cx}{a b:Expr}{ta tb:TE}{pos:Pos}
theorem xG {r:R2}(hr:IxR X r)(ha:PE X a ta)(hb:PE X b tb)(hs:qUi b):PE X (.Subscript a b pos) (tOp r ta tb):=by
 intro pins s σ H Q I h
 exact Subscript_ (binT ha hb I h fun v u s2 x y H2 I2 rx ry q=>hr a b pins s2 σ H2 x y v u Q I2 rx ry q (hs _ _))

def rIxL (K:yZO):R2:=fun x y H Q=>∃p xs i v,x=.ref p∧y=.int i∧SqL K H p xs∧atI xs i=some v∧Q v H
def rIxT (K:yZO):R2:=fun x y H Q=>∃p xs i v,x=.ref p∧y=.int i∧SqT K H p xs∧atI xs i=some v∧Q v H
theorem qUq:IxR X (rIxL X.K):=by
 intro value slice pins s σ H x y v u Q I rx ry h hs
 obtain⟨p,xs,i,z,rfl,rfl,hq,he,q⟩:=h
 cases rx
 obtain⟨t,rfl⟩:=ry
 obtain⟨its,r,pl,hz⟩:=I.list hq
 obtain⟨j,h1,h2,h3,h4,h5⟩:=qMe he
 obtain⟨w,ew,rw'⟩:=r.get h2
 have hl:=r.length
 have hn:=line63
 have fin:EP X pins σ Q w s:=⟨z,H,I,rw',q⟩
 by_cases h0:0≤i
 ·have hj:i.toNat=j:=by
   rw[seqIndex_of h0 h5] at h1
   exact Option.some.inj h1
  exact item_listR pl.isList h0 (by omega) (by rw[hj];simpa using ew) fin hs
 ·have hj:(i+(its.toArray.size:Int)).toNat=j:=by
   rw[seqIndex_neg (by omega) h4] at h1
   rw[yYD,← hl]
   exact Option.some.inj h1
  exact subscriptTail_builtinR (x:=w) pl.isList.typeIs slot_list_getitem.lookup
   (wpAny_getItem_list_neg (Q:=fun r s'=>r=w∧EP X pins σ Q r s') pl.isList (by omega) (by rw[yYD] <;> omega) (by omega) (by rw[hj];simpa using ew) ⟨rfl,fin⟩) hs
theorem xZe:IxR X (rIxT X.K):=by
 intro value slice pins s σ H x y v u Q I rx ry h hs
 obtain⟨p,xs,i,z,rfl,rfl,hq,he,q⟩:=h
 cases rx
 obtain⟨t,rfl⟩:=ry
 obtain⟨its,r,pl,hz⟩:=I.tuple hq
 obtain⟨j,h1,h2,h3,h4,h5⟩:=qMe he
 obtain⟨w,ew,rw'⟩:=r.get h2
 have hl:=r.length
 have hn:=line63
 have fin:EP X pins σ Q w s:=⟨z,H,I,rw',q⟩
 exact subscriptTail_builtinR (x:=w) pl.typeIs slot_tuple_getitem.lookup
  (getItem_tuple (j:=j) (Q:=fun r s'=>r=w∧EP X pins σ Q r s') pl (by omega) (by omega) (by rw[yYD,← hl];exact h1) (by simpa using ew) ⟨rfl,fin⟩) hs
theorem qDn (its:List Value)(n j:Nat)(u:Value):Obj.mapSeq (·.setIfInBounds j u) { cls:=.type "list",data:=.seq its.toArray n }={ cls:=.type "list",data:=.seq (its.set j u).toArray n }:=by
 simp[Obj.mapSeq]
theorem Inv.lst {pins:List (Addr×Obj)}{σ:St}{H:Hp}{s:Shared}{p:Addr}{xs:List V}(I:Inv X pins σ H s)(h:H p=some (.lst xs)):
  ∃(its:List Value) (n:Nat),Vals xs its∧s.heap.get? p=some { cls:=.type "list",data:=.seq its.toArray n }∧xs.length≤sizeLine:=by
 obtain⟨z,its,n,r,e⟩:=I.hok p _ h
 exact⟨its,n,r,e,z⟩
theorem Inv.lstUpd {pins:List (Addr×Obj)}{σ:St}{H:Hp}{s:Shared}{p:Addr}{xs ys:List V}{its its':List Value}{n n':Nat}{f:Obj→Obj}(I:Inv X pins σ H s)(h:H p=some (.lst xs))
  (ho:s.heap.get? p=some { cls:=.type "list",data:=.seq its.toArray n }) (hf:f { cls:=.type "list",data:=.seq its.toArray n }={ cls:=.type "list",data:=.seq its'.toArray n' }) (r:Vals ys its') (hz:ys.length≤sizeLine) (t:Nat):
  Inv X pins σ (upd H p (.lst ys)) { s with heap:=s.heap.update p f,toks:=t }:=by
 have e:(s.heap.update p f).get? p=some { cls:=.type "list",data:=.seq its'.toArray n' }:=by
  rw[Heap.get?_update_self f ho (by rw[hf] <;> rfl),hf]
 refine I.write (x:=p) (e:=p) (by rw[h];trivial) (.inl rfl) (fun b u hb q=>(Heap.get?_update_other _ _ (Ne.symm hb)).trans q) ⟨_,e⟩ ?_
 exact⟨hz,its',n',r,e⟩
def rSetL:V→V→V→Hp→(Hp→Prop)→Prop:=fun o i v H Q=>∃p xs k j,o=.ref p∧i=.int k∧H p=some (.lst xs)∧ixN xs.length k=some j∧Q (upd H p (.lst (xs.set j v)))
theorem qBv:PSet X rSetL:=by
 intro pins s σ H o i v ov iv u Q I ro ri rv h
 obtain⟨p,xs,k,j,rfl,rfl,hp,hj,q⟩:=h
 cases ro
 obtain⟨t,rfl⟩:=ri
 obtain⟨its,n,r,ho,hz⟩:=I.lst hp
 obtain⟨h1,h2,h3,h4⟩:=qHh hj
 have hl:=r.length
 have hn:=line63
 have I':Inv X pins σ (upd H p (.lst (xs.set j v))) { s with heap:=s.heap.update p (Obj.mapSeq (·.setIfInBounds j u)) }:=
  I.lstUpd hp ho (qDn its n j u) (r.set rv j) (by rw[List.length_set];exact hz) s.toks
 by_cases h0:0≤k
 ·have hk:k.toNat=j:=by
   rw[seqIndex_of h0 h4] at h1
   exact Option.some.inj h1
  exact PySem.W.ki_setAt ho h0 (by omega) (by rw[yYD,← hl];exact h4) (by rw[hk];exact⟨_,I',q⟩)
 ·have hk:(k+(its.toArray.size:Int)).toNat=j:=by
   rw[seqIndex_neg (by omega) h3] at h1
   rw[yYD,← hl]
   exact Option.some.inj h1
  exact PySem.W.ki_setBack ho (by omega) (by rw[yYD,← hl];exact h3) (by omega) (by rw[hk];exact⟨_,I',q⟩)

theorem qYm (lo hi:Option Int)(n:Nat):(sliceBounds lo hi none n).1=((HT.sIx n 0 lo:Nat):Int)∧(sliceBounds lo hi none n).2.1=((HT.sIx n n hi:Nat):Int)∧(sliceBounds lo hi none n).2.2=1:=by
 refine⟨?_,?_,rfl⟩
 ·cases lo with
  | none=>simp[sliceBounds,HT.sIx]
  | some i=>
   simp only[sliceBounds,HT.sIx,Option.getD_none,show(1:Int)>0 by decide,if_true]
   by_cases h:i<0
   ·simp only[h,if_true] <;> omega
   ·simp only[h,if_false] <;> omega
 ·cases hi with
  | none=>simp[sliceBounds,HT.sIx]
  | some i=>
   simp only[sliceBounds,HT.sIx,Option.getD_none,show(1:Int)>0 by decide,if_true]
   by_cases h:i<0
   ·simp only[h,if_true] <;> omega
   ·simp only[h,if_false] <;> omega
theorem qZo (its:List Value)(lo hi:Option Int):slicePick its.toArray lo hi none=((its.drop (HT.sIx its.length 0 lo)).take (HT.sIx its.length its.length hi - HT.sIx its.length 0 lo)).toArray:=by
 obtain⟨h1,h2,h3⟩:=qYm lo hi its.toArray.size
 unfold slicePick
 rw[h1,h2,h3]
 simp only[sliceRange_one,pick_run,yYD] <;> rfl
def rSlL (K:yZO):V→Option Int→Option Int→Hp→VK→Prop:=fun x lo hi H Q=>∃a xs,x=.ref a∧SqL K H a xs∧∀p,H p=none→Q (.ref p) (upd H p (.lst (cutV xs lo hi)))
theorem qSh:SlR X (rSlL X.K):=by
 intro pins s σ H x v vl vu lo hi sl Q I rx hs pl pu h
 obtain⟨a,xs,rfl,hx,q⟩:=h
 cases rx
 obtain⟨its,r,ht,hz⟩:=I.list hx
 have hlen:=r.length
 refine⟨"list",_,slot_list_getitem.lookup,ht.isList.typeIs,?_⟩
 refine wpAny_getItem_list_slice ht.isList hs pl pu .none (by simp) ?_ (by rw[yYD] <;> omega)
 rw[qZo,← hlen]
 refine⟨.ref s.heap.objs.size,_,I.laid (t':=s.toks) (o:=.lst (cutV xs lo hi)) (fun b ob q=>yYY _ q) (yZC _) ?_,rfl,q _ (I.hok.fresh (yZC _))⟩
 exact⟨yZI (kR xs lo hi) hz,_,0,(r.drop (HT.sIx xs.length 0 lo)).take (HT.sIx xs.length xs.length hi - HT.sIx xs.length 0 lo),yZA _ rfl⟩

def flatV:V→Bool
 | .non=>true
 | .bl _=>true
 | .int _=>true
 | .str _=>true
 | _=>false
def eqV:V→V→Bool
 | .non,.non=>true
 | .bl a,.bl b=>a == b
 | .bl a,.int b=>(if a then 1 else 0) == b
 | .int a,.bl b=>a == (if b then 1 else 0)
 | .int a,.int b=>a == b
 | .str a,.str b=>a == b
 | _,_=>false
theorem xZh {A:Around}{s:Shared}{y x:V}{u v:Value}(ry:RelV y u)(rx:RelV x v)(fy:flatV y=true)(fx:flatV x=true):SeqAt.EqAt A s u v (eqV y x):=by
 cases y with
 | non=>
  cases ry
  cases x with
  | non=>cases rx;exact SeqAt.EqAt.same _
  | bl b=>cases rx;exact SeqAt.EqAt.none_bool b
  | int b=>obtain⟨t,rfl⟩:=rx;exact SeqAt.EqAt.none_int b t
  | str b=>obtain⟨t,rfl⟩:=rx;exact SeqAt.EqAt.none_str b t
  | _=>exact absurd (show false=true from fx) yZK
 | bl a=>
  cases ry
  cases x with
  | non=>cases rx;exact SeqAt.EqAt.bool_none a
  | bl b=>cases rx;exact SeqAt.EqAt.bool_bool a b
  | int b=>obtain⟨t,rfl⟩:=rx;exact SeqAt.EqAt.bool_int a b t
  | str b=>obtain⟨t,rfl⟩:=rx;exact SeqAt.EqAt.bool_str a b t
  | _=>exact absurd (show false=true from fx) yZK
 | int a=>
  obtain⟨t',rfl⟩:=ry
  cases x with
  | non=>cases rx;exact SeqAt.EqAt.int_none a t'
  | bl b=>cases rx;exact SeqAt.EqAt.int_bool a t' b
  | int b=>obtain⟨t,rfl⟩:=rx;exact SeqAt.EqAt.int_int a t' b t
  | str b=>obtain⟨t,rfl⟩:=rx;exact SeqAt.EqAt.int_str a t' b t
  | _=>exact absurd (show false=true from fx) yZK
 | str a=>
  obtain⟨t',rfl⟩:=ry
  cases x with
  | non=>cases rx;exact SeqAt.EqAt.str_none a t'
  | bl b=>cases rx;exact SeqAt.EqAt.str_bool a t' b
  | int b=>obtain⟨t,rfl⟩:=rx;exact SeqAt.EqAt.str_int a t' b t
  | str b=>obtain⟨t,rfl⟩:=rx;exact SeqAt.EqAt.str_str a t' b t
  | _=>exact absurd (show false=true from fx) yZK
 | _=>exact absurd (show false=true from fy) yZK
def eqU (x:V)(u:Value):Bool:=match u with
 | .none=>eqV .non x
 | .bool b=>eqV (.bl b) x
 | .int i _=>eqV (.int i) x
 | .str z _=>eqV (.str z) x
 | _=>false
theorem qSz {x y:V}{u:Value}(r:RelV y u)(f:flatV y=true):eqU x u=eqV y x:=by
 cases y with
 | non=>cases r;rfl
 | bl b=>cases r;rfl
 | int i=>obtain⟨t,rfl⟩:=r;rfl
 | str z=>obtain⟨t,rfl⟩:=r;rfl
 | _=>exact absurd (show false=true from f) yZK
theorem qXc {x:V}:∀{xs:List V} {us:List Value},Vals xs us→xs.all flatV=true→us.any (eqU x)=xs.any fun y=>eqV y x
 | _,_,.nil,_=>rfl
 | y::xs,u::us,.cons r t,f=>by
  rw[List.all_cons,Bool.and_eq_true] at f
  rw[List.any_cons,List.any_cons,qSz r f.1,qXc t f.2]
theorem vA {A:Around}{s:Shared}{x:V}{v:Value}(rx:RelV x v)(fx:flatV x=true):∀{xs:List V} {us:List Value},Vals xs us→xs.all flatV=true→∀u∈us,SeqAt.EqAt A s u v (eqU x u)
 | _,_,.nil,_=>fun u hu=>by cases hu
 | y::xs,u::us,.cons r t,f=>fun u' hu=>by
  rw[List.all_cons,Bool.and_eq_true] at f
  rcases yYK.mp hu with rfl | hu
  ·rw[qSz r f.1];exact xZh r rx f.1 fx
  ·exact vA rx fx t f.2 u' hu
def inV (x:V)(xs:List V):Bool:=xs.any fun y=>eqV y x
def rIn (K:yZO)(neg:Bool):R2:=fun x y H Q=>∃p xs,y=.ref p∧(SqL K H p xs∨SqT K H p xs)∧flatV x=true∧xs.all flatV=true∧Q (.bl (if neg then !inV x xs else inV x xs)) H
theorem qGn:OpR X (compareOp .In) (rIn X.K false):=by
 intro pins s σ H x y v u Q I rx ry h
 obtain⟨p,xs,rfl,hq,fx,fs,q⟩:=h
 cases ry
 rcases hq with hq | hq
 ·obtain⟨its,r,pl,hz⟩:=I.list hq
  refine SeqAt.in_listAt (eqU x) pl.isList (fun w hw=>vA rx fx r fs w (by simpa using hw)) ⟨.bl _,H,I,rfl,?_⟩
  rw[show its.toArray.any (eqU x)=its.any (eqU x) by simp,qXc r fs]
  exact q
 ·obtain⟨its,r,pl,hz⟩:=I.tuple hq
  refine SeqAt.in_tupleAt (eqU x) pl (fun w hw=>vA rx fx r fs w (by simpa using hw)) ⟨.bl _,H,I,rfl,?_⟩
  rw[show its.toArray.any (eqU x)=its.any (eqU x) by simp,qXc r fs]
  exact q
theorem qKa:OpR X (compareOp .NotIn) (rIn X.K true):=by
 intro pins s σ H x y v u Q I rx ry h
 obtain⟨p,xs,rfl,hq,fx,fs,q⟩:=h
 cases ry
 rcases hq with hq | hq
 ·obtain⟨its,r,pl,hz⟩:=I.list hq
  refine SeqAt.notIn_listAt (eqU x) pl.isList (fun w hw=>vA rx fx r fs w (by simpa using hw)) ⟨.bl _,H,I,rfl,?_⟩
  rw[show its.toArray.any (eqU x)=its.any (eqU x) by simp,qXc r fs]
  exact q
 ·obtain⟨its,r,pl,hz⟩:=I.tuple hq
  refine SeqAt.notIn_tupleAt (eqU x) pl (fun w hw=>vA rx fx r fs w (by simpa using hw)) ⟨.bl _,H,I,rfl,?_⟩
  rw[show its.toArray.any (eqU x)=its.any (eqU x) by simp,qXc r fs]
  exact q
theorem qVv:CallR X (.builtin "len") (fun xs H Q=>∃p ys,xs=[.ref p]∧(SqL X.K H p ys∨SqT X.K H p ys)∧Q (.int ys.length) H):=by
 intro pins s σ H xs us Q I r h
 obtain⟨p,ys,rfl,hq,q⟩:=h
 obtain⟨u,rfl,rx⟩:=vals1 r
 cases rx
 have hn:=line63
 rcases hq with hq | hq
 ·obtain⟨its,r',pl,hz⟩:=I.list hq
  have hlen:=r'.length
  exact Calls.call_len_list pl.isList (by simp only[yYD] <;> omega) ⟨.int ys.length,H,I.tok _,⟨s.toks+1,by rw[yYD,hlen]⟩,q⟩
 ·obtain⟨its,r',pl,hz⟩:=I.tuple hq
  have hlen:=r'.length
  exact len_tuple pl (by simp only[yYD] <;> omega) ⟨.int ys.length,H,I.tok _,⟨s.toks+1,by rw[yYD,hlen]⟩,q⟩
theorem qVk:CallR X (.type "list") (fun xs H Q=>∃p ys,xs=[.ref p]∧(SqL X.K H p ys∨SqT X.K H p ys)∧∀l,H l=none→Q (.ref l) (upd H l (.lst ys))):=by
 intro pins s σ H xs us Q I r h
 obtain⟨p,ys,rfl,hq,q⟩:=h
 obtain⟨u,rfl,rx⟩:=vals1 r
 cases rx
 have fin:∀(its:List Value),Vals ys its→ys.length≤sizeLine→∀(h':Heap) (c':Nat),(∀b o',s.heap.get? b=some o'→h'.get? b=some o')→
   h'.get? s.heap.objs.size=some { cls:=.type "list",dict:=none,data:=.seq its.toArray c',slots:=#[] }→EP X pins σ Q (.ref s.heap.objs.size) { s with heap:=h' }:=fun its r' hz h' c' kp e=>
  ⟨.ref s.heap.objs.size,_,I.laid (t':=s.toks) kp (yZC _) (show ObjOk X.prog X.w _ h' _ (.lst ys) from⟨hz,its,c',r',e⟩),rfl,q _ (I.hok.fresh (yZC _))⟩
 rcases hq with hq | hq
 ·obtain⟨its,r',pl,hz⟩:=I.list hq
  have hlen:=r'.length
  obtain⟨o,ho,hc,n,hd⟩:=pl.isList
  exact call_list_seq p (.inl rfl) ho hc hd (fun h' c' kp e=>fin its r' hz h' c' kp e) (by simp only[yYD] <;> omega)
 ·obtain⟨its,r',pl,hz⟩:=I.tuple hq
  have hlen:=r'.length
  obtain⟨o,ho,hc,n,hd⟩:=pl
  exact call_list_seq p (.inr rfl) ho hc hd (fun h' c' kp e=>fin its r' hz h' c' kp e) (by simp only[yYD] <;> omega)
theorem qJm:CallR X (.type "tuple") (fun xs H Q=>∃p ys,xs=[.ref p]∧((SqL X.K H p ys∧∀l,H l=none→Q (.ref l) (upd H l (.tup ys)))∨(SqT X.K H p ys∧Q (.ref p) H))):=by
 intro pins s σ H xs us Q I r h
 obtain⟨p,ys,rfl,h⟩:=h
 obtain⟨u,rfl,rx⟩:=vals1 r
 cases rx
 rcases h with⟨hq,q⟩ | ⟨hq,q⟩
 ·obtain⟨its,r',pl,hz⟩:=I.list hq
  have hlen:=r'.length
  refine call_tuple_list pl.isList (fun h' kp=>?_) (by simp only[yYD] <;> omega)
  have I1:Inv X pins σ H { s with heap:=h' }:=I.kept (t':=s.toks) kp
  have I2:Inv X pins σ (upd H h'.objs.size (.tup ys)) { s with heap:=h'.push { cls:=.type "tuple",data:=.seq its.toArray } }:=
   I1.laid (t':=s.toks) (fun b o e=>yYY _ e) (yZC _) (show ObjOk X.prog X.w _ _ _ (.tup ys) from⟨hz,its,r',TupX.new _ _⟩)
  exact⟨.ref h'.objs.size,_,I2,rfl,q _ (I1.hok.fresh (yZC _))⟩
 ·obtain⟨its,r',pl,hz⟩:=I.tuple hq
  exact call_tuple_same pl ⟨.ref p,H,I,rfl,q⟩

def tyV (K:yZO)(T:String)(x:V)(H:Hp):Prop:=match x with
 | .str _=>T = "str"
 | .int _=>T = "int"
 | .ref p=>(T = "list" ∧ ∃xs,SqL K H p xs)∨(T = "tuple" ∧ ∃o,K.lookup p=some o∧o.cls=.type "tuple" ∧ o.dict=none)∨
   (T = "dict" ∧ ((∃kvs,H p=some (.dK kvs))∨∃kvs,H p=some (.dT kvs)))∨(T = "set" ∧ ∃S n,H p=some (.set S n))
 | _=>False
theorem qRw {pins:List (Addr×Obj)}{σ:St}{H:Hp}{s:Shared}{T:String}{x:V}{v:Value}(I:Inv X pins σ H s)(r:RelV x v)(ty:tyV X.K T x H):
  s.TypeIs v T∧∀a,v=.ref a→∃ob,s.heap.get? a=some ob∧ob.dict=none:=by
 cases x with
 | str z=>
  obtain⟨t,rfl⟩:=r
  cases(show T = "str" from ty)
  exact⟨typeIs_str s z t,fun _ e=>nomatch e⟩
 | int i=>
  obtain⟨t,rfl⟩:=r
  cases(show T = "int" from ty)
  exact⟨typeIs_int s i t,fun _ e=>nomatch e⟩
 | ref p=>
  cases r
  rcases ty with⟨rfl,xs,hq⟩ | ⟨rfl,o,hk,hc,hd⟩ | ⟨rfl,hk⟩ | ⟨rfl,S,n,hk⟩
  ·obtain⟨its,_,pl,_⟩:=I.list hq
   refine⟨pl.isList.typeIs,fun a e=>?_⟩
   cases e
   obtain⟨o,n,e,c,hd,_⟩:=pl
   exact⟨o,e,hd⟩
  ·refine⟨⟨o,I.kIn p o hk,hc⟩,fun a e=>?_⟩
   cases e
   exact⟨o,I.kIn _ o hk,hd⟩
  ·have z:∃o,s.heap.get? p=some o∧o.ExactDict:=by
    rcases hk with⟨kvs,hk⟩ | ⟨kvs,hk⟩
    ·obtain⟨_,_,_,_,o,_,_,e,ex,_⟩:=I.hok p _ hk
     exact⟨o,e,ex⟩
    ·obtain⟨_,_,_,_,o,_,_,e,ex,_⟩:=I.hok p _ hk
     exact⟨o,e,ex⟩
   obtain⟨o,e,ex⟩:=z
   refine⟨⟨o,e,ex.1⟩,fun a e2=>?_⟩
   cases e2
   exact⟨o,e,ex.2.1⟩
  ·obtain⟨o,_,_,_,e,ex,_⟩:=I.hok p _ hk
   refine⟨⟨o,e,ex.1⟩,fun a e2=>?_⟩
   cases e2
   exact⟨o,e,ex.2.1⟩
 | _=>exact False.elim ty
def tBM0 (K:yZO)(T:String)(r:V→List V→Hp→VK→Prop)(to:TE):TE:=fun σ H Q=>to σ H fun x H1=>tyV K T x H1∧r x [] H1 Q
def tBM (K:yZO)(T:String)(r:V→List V→Hp→VK→Prop)(to:TE)(t:TA):TE:=fun σ H Q=>to σ H fun x H1=>tyV K T x H1∧t σ H1 fun xs H2=>r x xs H2 Q
variable {o e:Expr}{es:List Expr}{to:TE}{t:TA}{name:Str}{apos cpos:Pos}{T id:String}{r:V→List V→Hp→VK→Prop}
theorem xXb (pa:PlainAttrs T)(slot:Slot T name id)(hty:typeOf (.builtin id)=pure (.type "method_descriptor"))(hm:MtR X id r)(ho:PE X o to)
  (hbase:attributeBase o name X.env (eval o X.env)=eval o X.env:=by rfl) (hline:(apos.endLine == cpos.line)=true:=by rfl):PE X (.Call (.Attribute o name apos) [] [] cpos) (tBM0 X.K T r to):=by
 intro pins s σ H Q I h
 refine wpAny_Call_method0_late hbase hline (thn (ho pins s σ H _ I h) fun v s1 ⟨x,H1,I1,r1,ty,q1⟩=>?_)
 obtain⟨h1,h2⟩:=qRw I1 r1 ty
 exact⟨T,id,pa,slot,hty,h1,h2,Calls.callWith_builtin rfl (PySem.evalArgs_none (hm pins s1 σ H1 x [] v [] Q I1 r1 .nil q1))⟩
theorem xYd (pa:PlainAttrs T)(slot:Slot T name id)(hty:typeOf (.builtin id)=pure (.type "method_descriptor"))(hm:MtR X id r)(ho:PE X o to)(ha:PA X (e::es) t)
  (hbase:attributeBase o name X.env (eval o X.env)=eval o X.env:=by rfl)
  (hfew:((backTo cpos (starEach (e::es) X.env)).all (fun x=>!x.1) && (backToKw cpos (keywordEach [] X.env)).all (fun x=>x.1.isSome)
   && decide ((e::es).length+([]:List Keyword).length+(if ([]:List Keyword).isEmpty then 0 else 1)<30))=true:=by rfl)
  (hline:(apos.endLine == cpos.line)=true:=by rfl) (hs:starEach (e::es) X.env=(false,eval e X.env)::starEach es X.env:=by rfl) (hplain:(backTo cpos (starEach es X.env)).any (·.1)=false:=by rfl):
  PE X (.Call (.Attribute o name apos) (e::es) [] cpos) (tBM X.K T r to t):=by
 intro pins s σ H Q I h
 refine wpAny_Call_method_late hbase hfew hline rfl (thn (ho pins s σ H _ I h) fun v s1 ⟨x,H1,I1,r1,ty,q1⟩=>?_)
 obtain⟨h1,h2⟩:=qRw I1 r1 ty
 refine⟨T,id,pa,slot,hty,h1,h2,?_⟩
 have hA:=ha cpos pins s1 σ H1 _ I1 q1
 rw[hs] at hA ⊢
 refine Calls.callWith_builtin (by show(false || (backTo cpos (starEach es X.env)).any (·.1))=false;rw[hplain] <;> rfl) (Calls.evalArgs_plain ?_)
 exact thn hA fun us s2 ⟨vs,H2,I2,r2,q2⟩=>hm pins s2 σ H2 x vs v us Q I2 r1 r2 q2
end
end L2

namespace L2
open PySem PySem.Spec PyProof.Rows

def MtM (X:Cx)(id:String)(r:V→List V→Hp→VK→Prop):Prop:=
 ∀(pins:List (Addr×Obj)) (s:Shared) (σ:St) (H:Hp) (x:V) (xs:List V) (v:Value) (us:List Value) (Q:VK),Inv X pins σ H s→RelV x v→Vals xs us→r x xs H Q→
  wpAny (model X.prog X.w) X.A (call (.builtin id) (v::us)) (EP X pins σ Q) X.xe s

theorem Vals.one {x:V}{us:List Value}(h:Vals [x] us):∃u,us=[u]∧RelV x u:=by
 cases h with
 | cons r t=>
  cases t
  exact⟨_,rfl,r⟩
theorem Vals.zero:∀{us:List Value},Vals [] us→us=[]
 | _,.nil=>rfl
theorem Vals.dropLast {xs:List V}{us:List Value}(h:Vals xs us):Vals xs.dropLast us.dropLast:=by
 induction h with
 | nil=>exact .nil
 | cons r t ih=>
  cases t with
  | nil=>exact .nil
  | cons q t'=>exact .cons r ih
theorem Vals.reverse {xs:List V}{us:List Value}(h:Vals xs us):Vals xs.reverse us.reverse:=by
 induction h with
 | nil=>exact .nil
 | cons r t ih=>rw[List.reverse_cons,List.reverse_cons];exact Vals.append ih (.cons r .nil)
theorem qEj {α:Type}(l:List α):l.eraseIdx (l.length - 1)=l.dropLast:=by
 induction l with
 | nil=>rfl
 | cons a r ih=>
  cases r with
  | nil=>rfl
  | cons b r=>
   have e:(a::b::r).length - 1=((b::r).length - 1)+1:=by
    have h1:(a::b::r).length=r.length+2:=rfl
    have h2:(b::r).length=r.length+1:=rfl
    omega
   rw[e,List.eraseIdx_cons_succ,ih]
   all_goals rfl
section
variable {X:Cx}{pins:List (Addr×Obj)}{σ:St}{H:Hp}{s:Shared}{l b:Addr}{xs ys zs:List V}

theorem Inv.lset {its its':List Value}{n:Nat}{f:Array Value→Array Value}{t':Nat}(I:Inv X pins σ H s)(hH:H l=some (.lst xs))
  (e:s.heap.get? l=some { cls:=.type "list",data:=.seq its.toArray n }) (hf:f its.toArray=its'.toArray) (hv:Vals ys its') (hz:ys.length≤sizeLine):
  Inv X pins σ (upd H l (.lst ys)) { s with heap:=s.heap.update l (Obj.mapSeq f),toks:=t' }:=by
 have q:=PySem.IsL.update e f
 rw[hf] at q
 refine I.write (x:=l) (e:=l) (by rw[hH];exact trivial) (.inl rfl) (fun b' u hb hu=>(Heap.get?_update_other s.heap (Obj.mapSeq f) (Ne.symm hb)).trans hu) ⟨_,q⟩ ?_
 exact⟨hz,its',_,hv,q⟩
theorem Inv.lnew {its:List Value}{t':Nat}(I:Inv X pins σ H s)(hv:Vals ys its)(hz:ys.length≤sizeLine):
  Inv X pins σ (upd H s.heap.objs.size (.lst ys)) { s with heap:=s.heap.push { cls:=.type "list",data:=.seq its.toArray },toks:=t' }:=
 I.laid (fun _ _ q=>yYY _ q) (yZC _) ⟨hz,its,0,hv,yZA _ rfl⟩
theorem Inv.fresh (I:Inv X pins σ H s):H s.heap.objs.size=none:=I.hok.fresh (yZC _)
theorem Inv.lstM (I:Inv X pins σ H s)(hH:H l=some (.lst xs)):xs.length≤sizeLine∧∃(its:List Value) (n:Nat),Vals xs its∧xs.length=its.length∧s.heap.get? l=some { cls:=.type "list",data:=.seq its.toArray n }:=by
 obtain⟨z,its,n,r,e⟩:=I.hok l _ hH
 exact⟨z,its,n,r,r.length,e⟩

theorem qOk {n:Nat}(h:n≤sizeLine):Builtin.List.listTooLong n=false:=by
 unfold Builtin.List.listTooLong
 exact decide_eq_false (by omega)
end

section
variable {X:Cx}

def qSo:V→List V→Hp→VK→Prop:=fun x vs H Q=>∃l xs y,x=.ref l∧vs=[y]∧H l=some (.lst xs)∧xs.length<sizeLine∧Q .non (upd H l (.lst (xs++[y])))
theorem jO:MtM X "list.append" qSo:=by
 intro pins s σ H x vs v us Q I rx rv h
 obtain⟨l,xs,y,rfl,rfl,hH,hz,q⟩:=h
 cases rx
 obtain⟨u,rfl,ru⟩:=rv.one
 obtain⟨z,its,n,r,hl,e⟩:=I.lstM hH
 refine call_meets F.slot_list_append ⟨_,e,rfl⟩ F.entry_list_append (F.args_list_append_2 _ _) (PySem.list_append l its.toArray n u (by rw[yYD];omega)) ⟨e,?_⟩
 refine⟨.non,_,I.lset (its':=its++[u]) hH e (by simp) (r.append (.cons ru .nil)) ?_,rfl,q⟩
 rw[yYI,List.length_singleton]
 omega

def qSn:V→List V→Hp→VK→Prop:=fun x vs H Q=>∃l b xs zs,x=.ref l∧vs=[.ref b]∧H l=some (.lst xs)∧H b=some (.lst zs)∧xs.length+zs.length≤sizeLine∧Q .non (upd H l (.lst (xs++zs)))
theorem qQl:MtM X "list.extend" qSn:=by
 intro pins s σ H x vs v us Q I rx rv h
 obtain⟨l,b,xs,zs,rfl,rfl,hH,hB,hz,q⟩:=h
 cases rx
 obtain⟨u,rfl,ru⟩:=rv.one
 cases ru
 obtain⟨z,its,n,r,hl,e⟩:=I.lstM hH
 obtain⟨z2,its2,n2,r2,hl2,e2⟩:=I.lstM hB
 have hsz:its.toArray.size+its2.toArray.size≤sizeLine:=by rw[yYD,yYD];omega
 have hlong:¬(!its.toArray.isEmpty && Builtin.List.listTooLong (its.toArray.size+its2.toArray.size))=true:=by
  rw[qOk hsz,Bool.and_false]
  exact yZK
 refine call_meets F.slot_list_extend ⟨_,e,rfl⟩ F.entry_list_extend (F.args_list_extend_2 _ _)
  (AutoSeq1.list_extend_list_list_0 l its.toArray n b its2.toArray n2 hlong (by rw[yYD];omega) (by omega)) ⟨e,e2,?_⟩
 refine⟨.non,_,I.lset (its':=its++its2) hH e (by simp) (r.append r2) ?_,rfl,q⟩
 rw[yYI]
 omega

def rPop:V→List V→Hp→VK→Prop:=fun x vs H Q=>∃l xs y,x=.ref l∧vs=[]∧H l=some (.lst xs)∧xs[xs.length - 1]? = some y∧Q y (upd H l (.lst xs.dropLast))
theorem xZx:MtM X "list.pop" rPop:=by
 intro pins s σ H x vs v us Q I rx rv h
 obtain⟨l,xs,y,rfl,rfl,hH,hy,q⟩:=h
 cases rx
 have hus:=rv.zero
 subst hus
 obtain⟨z,its,n,r,hl,e⟩:=I.lstM hH
 obtain⟨u,hu,ru⟩:=r.get hy
 have hy':its.toArray[its.toArray.size - 1]? = some u:=by
  show its.toArray[its.length - 1]? = some u
  rw[← yZM,← hl]
  exact hu
 refine call_meets F.slot_list_pop ⟨_,e,rfl⟩ F.entry_list_pop (F.args_list_pop_1 _) (MeetsSeq.list_pop_last l its.toArray n u hy' (by rw[yYD];omega)) ⟨e,?_⟩
 refine⟨y,_,I.lset (its':=its.dropLast) hH e ?_ r.dropLast ?_,ru,q⟩
 ·show its.toArray.eraseIdxIfInBounds (its.toArray.size - 1)=its.dropLast.toArray
  rw[yYD,List.eraseIdxIfInBounds_toArray,qEj]
 ·rw[List.length_dropLast]
  omega

def qNe:V→List V→Hp→VK→Prop:=fun x vs H Q=>∃l xs,x=.ref l∧vs=[]∧H l=some (.lst xs)∧Q .non (upd H l (.lst xs.reverse))
theorem qDl:MtM X "list.reverse" qNe:=by
 intro pins s σ H x vs v us Q I rx rv h
 obtain⟨l,xs,rfl,rfl,hH,q⟩:=h
 cases rx
 have hus:=rv.zero
 subst hus
 obtain⟨z,its,n,r,hl,e⟩:=I.lstM hH
 refine call_meets F.slot_list_reverse ⟨_,e,rfl⟩ F.entry_list_reverse (F.args_list_reverse_1 _) (AutoSeq1.list_reverse_list_0 l its.toArray n (by rw[yYD];omega)) ⟨e,?_⟩
 refine⟨.non,_,I.lset (its':=its.reverse) hH e (by simp) r.reverse ?_,rfl,q⟩
 rw[List.length_reverse]
 omega

def rCat:R2:=fun x y H Q=>∃l b xs zs,x=.ref l∧y=.ref b∧H l=some (.lst xs)∧H b=some (.lst zs)∧xs.length+zs.length≤sizeLine∧∀p,H p=none→Q (.ref p) (upd H p (.lst (xs++zs)))
theorem xXi:OpR X (binaryOp .Add) rCat:=by
 intro pins s σ H x y v u Q I rx ry h
 obtain⟨l,b,xs,zs,rfl,rfl,hH,hB,hz,q⟩:=h
 cases rx
 cases ry
 obtain⟨z,its,n,r,hl,e⟩:=I.lstM hH
 obtain⟨z2,its2,n2,r2,hl2,e2⟩:=I.lstM hB
 refine PySem.P.add_list e e2 ?_ (by rw[yYD,yYD];omega)
 have ea:its.toArray++its2.toArray=(its++its2).toArray:=by simp
 rw[ea]
 exact⟨.ref _,_,I.lnew (t':=s.toks) (r.append r2) (by rw[yYI];omega),rfl,q _ I.fresh⟩
end

section
variable {prog:Program}{w:World}{A:Around}{E:Value→Shared→Prop}{s:Shared}
end

section
variable {X:Cx}
end
end L2

namespace L2
open PySem PySem.Spec PyProof.Rows

section
variable {κ:Type}[DecidableEq κ]
def valV (kvs:List (κ×V))(k:κ):Option V:=(kvs.find? fun kv=>decide (kv.1=k)).map (·.2)
def putK (kvs:List (κ×V))(k:κ)(v:V):List (κ×V):=
 if (kvs.any fun kv=>decide (kv.1=k))=true then kvs.map (fun kv=>if kv.1=k then (kv.1,v) else kv) else kvs++[(k,v)]
theorem zP {p:κ×V}{r:List (κ×V)}{k:κ}(e:p.1=k):valV (p::r) k=some p.2:=by simp[valV,List.find?_cons,e]
theorem zR {p:κ×V}{r:List (κ×V)}{k:κ}(e:¬p.1=k):valV (p::r) k=valV r k:=by simp[valV,List.find?_cons,e]
theorem wG (k:κ):∀kvs:List (κ×V),(kvs.any fun kv=>decide (kv.1=k))=(valV kvs k).isSome
 | []=>rfl
 | p::r=>by
  rw[List.any_cons]
  by_cases e:p.1=k
  ·simp only[zP e,decide_eq_true e,Bool.true_or,Option.isSome_some]
  ·rw[zR e,decide_eq_false e,Bool.false_or];exact wG k r
theorem qAh (k j:κ)(y:V):∀kvs:List (κ×V),valV (kvs.map fun kv=>if kv.1=k then (kv.1,y) else kv) j=(valV kvs j).map fun x=>if j=k then y else x
 | []=>rfl
 | p::r=>by
  have ih:=qAh k j y r
  rw[List.map_cons]
  by_cases h:p.1=k
  ·rw[if_pos h]
   by_cases e:p.1=j
   ·rw[zP (p:=(p.1,y)) e,zP e,yZN,if_pos (e.symm.trans h)]
   ·rw[zR (p:=(p.1,y)) e,zR e,ih]
  ·rw[if_neg h]
   by_cases e:p.1=j
   ·rw[zP (p:=p) e,zP e,yZN,if_neg (fun z=>h (e.trans z))]
   ·rw[zR (p:=p) e,zR e,ih]
theorem qYd (k j:κ)(y:V):∀kvs:List (κ×V),valV kvs k=none→valV (kvs++[(k,y)]) j=if j=k then some y else valV kvs j
 | [],_=>by
  by_cases e:k=j
  ·rw[if_pos e.symm];exact zP (p:=(k,y)) e
  ·rw[if_neg (fun z=>e z.symm)];exact zR (p:=(k,y)) e
 | p::r,hn=>by
  rw[List.cons_append]
  have hk:¬p.1=k:=fun z=>by rw[zP z] at hn;cases hn
  rw[zR hk] at hn
  have ih:=qYd k j y r hn
  by_cases e:p.1=j
  ·rw[zP e,zP e,if_neg (fun z=>hk (e.trans z))]
  ·rw[zR e,zR e,ih]
theorem kJ (kvs:List (κ×V))(k j:κ)(y:V):valV (putK kvs k y) j=if j=k then some y else valV kvs j:=by
 unfold putK
 by_cases a:(kvs.any fun kv=>decide (kv.1=k))=true
 ·rw[if_pos a,qAh]
  rw[wG] at a
  by_cases e:j=k
  ·obtain⟨x,hx⟩:=Option.isSome_iff_exists.mp a
   rw[if_pos e,e,hx,yZN,if_pos rfl]
  ·rw[if_neg e]
   cases valV kvs j with
   | none=>rfl
   | some x=>rw[yZN,if_neg e]
 ·rw[if_neg a]
  refine qYd k j y kvs ?_
  rw[wG] at a
  cases q:valV kvs k with
  | none=>rfl
  | some x=>rw[q] at a;exact(a rfl).elim
theorem kO (kvs:List (κ×V))(k:κ)(v:V):(putK kvs k v).length≤kvs.length+1:=by
 unfold putK
 split
 ·rw[yYC];omega
 ·rw[yYI,yYT,yYU];omega
theorem RelO.isSome_eq {o:Option V}{u:Option Value}(r:RelO o u):o.isSome=u.isSome:=by
 cases o with
 | none=>cases u with
  | none=>rfl
  | some _=>exact(show False from r).elim
 | some _=>cases u with
  | none=>exact(show False from r).elim
  | some _=>rfl
theorem KV.val {kvs:List (κ×V)}{vs:List (κ×Value)}(r:KV kvs vs)(k:κ):RelO (valV kvs k) (valueAt vs k):=by
 unfold KV at r
 induction r with
 | nil=>exact True.intro
 | @cons p q ps qs h t ih=>
  obtain⟨h1,h2⟩:=h
  by_cases e:p.1=k
  ·have e':q.1=k:=h1.symm.trans e
   have b:valueAt (q::qs) k=some q.2:=by simp[valueAt,List.find?_cons,e']
   rw[zP e,b];exact h2
  ·have e':¬q.1=k:=fun z=>e (h1.trans z)
   have b:valueAt (q::qs) k=valueAt qs k:=by simp[valueAt,List.find?_cons,e']
   rw[zR e,b];exact ih
theorem KV.any {kvs:List (κ×V)}{vs:List (κ×Value)}(r:KV kvs vs)(k:κ):(kvs.any fun kv=>decide (kv.1=k))=vs.any fun kv=>decide (kv.1=k):=by
 unfold KV at r
 induction r with
 | nil=>rfl
 | cons h t ih=>rw[List.any_cons,List.any_cons,ih,h.1]
theorem KV.repl {kvs:List (κ×V)}{vs:List (κ×Value)}(r:KV kvs vs)(k:κ){y:V}{u:Value}(ry:RelV y u):
  KV (kvs.map fun kv=>if kv.1=k then (kv.1,y) else kv) (vs.map fun kv=>if kv.1=k then (kv.1,u) else kv):=by
 unfold KV at r ⊢
 induction r with
 | nil=>exact .nil
 | @cons p q ps qs h t ih=>
  rw[List.map_cons,List.map_cons]
  refine .cons ?_ ih
  obtain⟨h1,h2⟩:=h
  by_cases e:p.1=k
  ·rw[if_pos e,if_pos (h1.symm.trans e)];exact⟨h1,ry⟩
  ·rw[if_neg e,if_neg (fun z=>e (h1.trans z))];exact⟨h1,h2⟩
theorem KV.put {kvs:List (κ×V)}{vs:List (κ×Value)}(r:KV kvs vs)(k:κ){y:V}{u:Value}(ry:RelV y u):KV (putK kvs k y) (stored vs k u):=by
 unfold putK stored
 rw[r.any k]
 by_cases e:(vs.any fun kv=>decide (kv.1=k))=true
 ·rw[if_pos e,if_pos e];exact r.repl k ry
 ·rw[if_neg e,if_neg e];exact Paired.snoc r ⟨rfl,ry⟩
theorem KV.length {kvs:List (κ×V)}{vs:List (κ×Value)}(r:KV kvs vs):kvs.length=vs.length:=Paired.length r
end

theorem qTo {P:Program}{w:World}{k:Key}{u:Value}(r:RelV (kV k) u):(xS P w).is k u=true:=by
 cases k with
 | inl i=>obtain⟨t,e⟩:=(show∃t,u=Value.int i t from r);subst e;exact qWd P w i t
 | inr x=>obtain⟨t,e⟩:=(show∃t,u=Value.str x t from r);subst e;exact yD P w x t
theorem qKl {P:Program}{w:World}:∀{ks:List Key} {us:List Value},Vals (ks.map kV) us→ItemsAre (xS P w) ks us
 | [],_,r=>by rw[List.map_nil] at r;cases r;exact .nil
 | k::ks,_,r=>by
  rw[List.map_cons] at r
  cases r with
  | cons h t=>exact .cons (qTo h) (qKl t)

abbrev KT (H:Hp):List (List Key×V)→List (List Key×Addr×Value)→Prop:=Paired fun p q=>p.1=q.1∧H q.2.1=some (.tup (p.1.map kV))∧RelV p.2 q.2.2
theorem KT.val {H:Hp}{kvs:List (List Key×V)}{xs:List (List Key×Addr×Value)}(r:KT H kvs xs)(k:List Key):RelO (valV kvs k) ((atKey xs k).map (·.2)):=by
 induction r with
 | nil=>exact True.intro
 | @cons p q ps qs h t ih=>
  obtain⟨h1,_,h2⟩:=h
  by_cases e:p.1=k
  ·have e':q.1=k:=h1.symm.trans e
   have b:atKey (q::qs) k=some q.2:=by simp[atKey,List.find?_cons,e']
   rw[zP e,b];exact h2
  ·have e':¬q.1=k:=fun z=>e (h1.trans z)
   have b:atKey (q::qs) k=atKey qs k:=by simp[atKey,List.find?_cons,e']
   rw[zR e,b];exact ih
theorem KT.repl {H:Hp}{kvs:List (List Key×V)}{xs:List (List Key×Addr×Value)}(r:KT H kvs xs)(k:List Key){y:V}{u:Value}(ry:RelV y u):
  KT H (kvs.map fun kv=>if kv.1=k then (kv.1,y) else kv) (xs.map (putAt k u)):=by
 induction r with
 | nil=>exact .nil
 | @cons p q ps qs h t ih=>
  rw[List.map_cons,List.map_cons]
  refine .cons ?_ ih
  obtain⟨h1,h2,h3⟩:=h
  unfold putAt
  by_cases e:p.1=k
  ·rw[if_pos e,if_pos (h1.symm.trans e)];exact⟨h1,h2,ry⟩
  ·rw[if_neg e,if_neg (fun z=>e (h1.trans z))];exact⟨h1,h2,h3⟩
theorem KT.put {H:Hp}{kvs:List (List Key×V)}{xs:List (List Key×Addr×Value)}(r:KT H kvs xs)(k:List Key){b:Addr}{y:V}{u:Value}(hb:H b=some (.tup (k.map kV)))(ry:RelV y u):
  KT H (putK kvs k y) (storedH xs k b u):=by
 have e:(kvs.any fun kv=>decide (kv.1=k))=(atKey xs k).isSome:=by
  rw[wG,(r.val k).isSome_eq,Option.isSome_map]
 unfold putK storedH
 rw[e]
 by_cases q:(atKey xs k).isSome=true
 ·rw[if_pos q,if_pos q];exact r.repl k ry
 ·rw[if_neg q,if_neg q];exact Paired.snoc r ⟨rfl,hb,ry⟩
theorem KT.keeps {H H':Hp}{kvs:List (List Key×V)}{xs:List (List Key×Addr×Value)}(r:KT H kvs xs)(ht:∀b ys,H b=some (.tup ys)→H' b=some (.tup ys)):KT H' kvs xs:=
 Paired.mapP r fun _ _ z=>⟨z.1,ht _ _ z.2.1,z.2.2⟩

section
variable {P:Program}{w:World}{H:Hp}{h:Heap}{a:Addr}
theorem xXv {u:HO}(ok:HOk P w H h)(e:Rd H a u):ObjOk P w H h a u:=e.ok ok
theorem qPe {kvs:List (Key×V)}(ok:HOk P w H h)(e:Rd H a (.dK kvs)):kvs.length≤sizeLine∧(a == sysModules)=false∧∃vs,KV kvs vs∧h.DictOf (xS P w) a vs:=
 show ObjOk P w H h a (.dK kvs) from xXv ok e
theorem xYh {kvs:List (Key×V)}(ok:HOk P w H h)(e:H a=some (.dK kvs)):kvs.length≤sizeLine∧(a == sysModules)=false∧∃vs,KV kvs vs∧h.DictOf (xS P w) a vs:=qPe ok (.inl e)
theorem qCf {ks:List Key}(ok:HOk P w H h)(e:H a=some (.tup (ks.map kV))):(tupleKind (xS P w)).is h ks a:=by
 obtain⟨_,its,r,o,h1,h2,n,h3,_⟩:=(show ObjOk P w H h a (.tup (ks.map kV)) from ok a _ e)
 exact⟨o,its.toArray,n,h1,h2,h3,by simpa using qKl r⟩
theorem qUj {kvs:List (List Key×V)}(ok:HOk P w H h)(e:Rd H a (.dT kvs)):kvs.length≤sizeLine∧(a == sysModules)=false∧
  ∃xs,KT H kvs xs∧h.DictOfH (tupleKind (xS P w)) a xs:=by
 obtain⟨z,y,xs,r,o,es,ep,h1,h2,h3,h4,h5⟩:=(show ObjOk P w H h a (.dT kvs) from xXv ok e)
 refine⟨z,y,xs,r,o,es,ep,h1,h2,h3,h4,fun x hx=>?_,h5⟩
 have all:∀{l:List (List Key×V)} {m:List (List Key×Addr×Value)},KT H l m→∀x∈m,(tupleKind (xS P w)).is h x.1 x.2.1:=by
  intro l m q
  induction q with
  | nil=>intro x hx;exact nomatch hx
  | @cons p q ps qs hq t ih=>
   intro x hx
   rcases yYK.mp hx with e | hx
   ·subst e
    exact qCf ok (by rw[← hq.1];exact hq.2.1)
   ·exact ih x hx
 exact all r x hx
theorem xZi {kvs:List (List Key×V)}(ok:HOk P w H h)(e:H a=some (.dT kvs)):kvs.length≤sizeLine∧(a == sysModules)=false∧
  ∃xs,KT H kvs xs∧h.DictOfH (tupleKind (xS P w)) a xs:=qUj ok (.inl e)
end

def DGet (H:Hp)(a:Addr)(y:V)(r:Option V):Prop:=
 (∃kvs k,Rd H a (.dK kvs)∧y=kV k∧r=valV kvs k)∨∃kvs k b,Rd H a (.dT kvs)∧y=.ref b∧H b=some (.tup (k.map kV))∧r=valV kvs k
def DPut (H:Hp)(a:Addr)(y v:V)(H':Hp):Prop:=
 (∃kvs k,H a=some (.dK kvs)∧y=kV k∧kvs.length<sizeLine∧H'=upd H a (.dK (putK kvs k v)))∨
 ∃kvs k b,H a=some (.dT kvs)∧y=.ref b∧H b=some (.tup (k.map kV))∧kvs.length<sizeLine∧H'=upd H a (.dT (putK kvs k v))
theorem DGet.k {H:Hp}{a:Addr}{kvs:List (Key×V)}{k:Key}(e:H a=some (.dK kvs)):DGet H a (kV k) (valV kvs k):=.inl ⟨kvs,k,.inl e,rfl,rfl⟩
theorem DPut.k {H:Hp}{a:Addr}{kvs:List (Key×V)}{k:Key}{v:V}(e:H a=some (.dK kvs))(hl:kvs.length<sizeLine):DPut H a (kV k) v (upd H a (.dK (putK kvs k v))):=.inl ⟨kvs,k,e,rfl,hl,rfl⟩
theorem DPut.t {H:Hp}{a b:Addr}{kvs:List (List Key×V)}{k:List Key}{v:V}(e:H a=some (.dT kvs))(eb:H b=some (.tup (k.map kV)))(hl:kvs.length<sizeLine):
  DPut H a (.ref b) v (upd H a (.dT (putK kvs k v))):=.inr ⟨kvs,k,b,e,rfl,eb,hl,rfl⟩

section
variable {X:Cx}{pins:List (Addr×Obj)}{σ:St}{H:Hp}{s:Shared}{a:Addr}{y v:V}{u r:Value}{o:Option V}{A:Around}{E:Value→Shared→Prop}

theorem Inv.big (I:Inv X pins σ H s):sysModules<s.heap.objs.size:=by
 have h:mainGlobals<s.heap.objs.size:=(I.mod.glob.keeps I.bk).lt
 exact Nat.lt_trans (by decide) h

theorem qIm {Q:Value→Shared→Prop}(hu:A.units+1<cLine)(I:Inv X pins σ H s)(g:DGet H a y (some v))(ry:RelV y u)(h:∀w' s',Inv X pins σ H s'→RelV v w'→Q w' s'):
  wpAny (model X.prog X.w) A (getItem (.ref a) u) Q E s:=by
 rcases g with⟨kvs,k,e,ey,l⟩ | ⟨kvs,k,b,e,ey,eb,l⟩
 ·subst ey
  obtain⟨z,hd,vs,rel,dd⟩:=qPe I.hok e
  obtain⟨w',hw,rw'⟩:=RelO.some_of (v:=v) (o:=valueAt vs k) (by rw[l];exact rel.val k)
  exact wpAny_getItem_of (qTo ry) dd.mapOf hw (h w' _ (I.tok _) rw')
 ·subst ey
  cases(show u=Value.ref b from ry)
  obtain⟨z,hd,xs,rel,dd⟩:=qUj I.hok e
  obtain⟨w',hw,rw'⟩:=RelO.some_of (v:=v) (o:=(atKey xs k).map (·.2)) (by rw[l];exact rel.val k)
  obtain⟨p,hp,hp2⟩:=Option.map_eq_some_iff.mp hw
  refine wpAny_getItem_heap (tupleKind_room_in1 hu) (qCf I.hok eb) dd hp ?_
  rw[hp2]
  exact h w' _ (I.tok _) rw'
theorem qIi {h':Heap}{t':Nat}{ob:HO}(I:Inv X pins σ H s)(mu:Mut (H a))(hs:Heap.SameBut a s.heap h')(he:∃q,h'.get? a=some q)(new:ObjOk X.prog X.w (upd H a ob) h' a ob):
  Inv X pins σ (upd H a ob) { s with heap:=h',toks:=t' }:=
 I.write (x:=a) (e:=a) mu (.inl rfl) (fun b q hb z=>(hs.2 b hb).trans z) he new
theorem qSj {P:Program}{w:World}{H':Hp}{h':Heap}{kvs:List (Key×V)}{vs:List (Key×Value)}(z:kvs.length≤sizeLine)(hd:(a == sysModules)=false)(rel:KV kvs vs)(dd:h'.DictOf (xS P w) a vs):
  ObjOk P w H' h' a (.dK kvs):=⟨z,hd,vs,rel,dd⟩
theorem qIl {H':Hp}{Q:Unit→Shared→Prop}(hu:A.units+1<cLine)(I:Inv X pins σ H s)(g:DPut H a y v H')(ry:RelV y u)(rv:RelV v r)(h:∀s',Inv X pins σ H' s'→Q () s'):
  wpAny (model X.prog X.w) A (setItem (.ref a) u r) Q E s:=by
 rcases g with⟨kvs,k,e,ey,l,eH⟩ | ⟨kvs,k,b,e,ey,eb,l,eH⟩
 ·subst ey eH
  obtain⟨z,hd,vs,rel,dd⟩:=xYh I.hok e
  have hz:vs.length≤sizeLine:=by rw[← rel.length];exact z
  have hl:(putK kvs k v).length≤sizeLine:=by have:=kO kvs k v;omega
  refine wpAny_setItem_pairs (hsz:=hz) (qTo ry) dd fun h' dd' hs=>h _ ?_
  have he:∃q,h'.get? a=some q:=let ⟨q,_,_,hq,_⟩:=dd';⟨q,hq⟩
  exact qIi I (by rw[e];exact True.intro) hs he (qSj hl hd (rel.put k rv) dd')
 ·subst ey eH
  cases(show u=Value.ref b from ry)
  obtain⟨z,hd,xs,rel,dd⟩:=xZi I.hok e
  have hz:xs.length≤sizeLine:=by rw[← Paired.length rel];exact z
  have hl:(putK kvs k v).length≤sizeLine:=by have:=kO kvs k v;omega
  refine wpAny_setItem_heap (hsz:=hz) (tupleKind_room_in1 hu) (qCf I.hok eb) dd fun h' dd' hs=>h _ ?_
  obtain⟨q,es,ep,hq,h2,h3,h4,_,h5⟩:=dd'
  refine qIi I (by rw[e];exact True.intro) hs ⟨q,hq⟩ ⟨hl,hd,_,(rel.put k eb rv).keeps fun c ys ec=>?_,q,es,ep,hq,h2,h3,h4,h5⟩
  rw[qA (jZ ec e (fun z=>nomatch z))]
  exact ec
end

section
variable {X:Cx}{pins:List (Addr×Obj)}{σ:St}{H:Hp}{s:Shared}{a:Addr}{kvs:List (Key×V)}{k:Key}{u:Value}{A:Around}{E:Value→Shared→Prop}
end

def NoSl (i:Expr):Prop:=∀ov iv,subscripted i false ov iv=operate [ov,iv] (getItem ov iv)
theorem qSe {prog:Program}{w:World}{A:Around}{E:Value→Shared→Prop}{s:Shared}{env:Env}{value slice:Expr}{pos:Pos}{T id:String}{Q:Value→Shared→Prop}
  (hl:typeLookup (.type T) "__getitem__" = pure (some (.builtin id))) (hs:NoSl slice)
  (h:wpAny (model prog w) A (eval value env) (fun o s₁=>wpAny (model prog w) A (eval slice env) (fun i s₂=>s₂.TypeIs o T∧wpAny (model prog w) A (getItem o i) Q E s₂) E s₁) E s):
  wpAny (model prog w) A (eval (.Subscript value slice pos) env) Q E s:=by
 refine Subscript_ (wpAny_mono h (fun o s₁ h₁=>wpAny_mono h₁ (fun i s₂ h₂=>?_) fun _ _ x=>x) fun _ _ x=>x)
 obtain⟨hT,h₂⟩:=h₂
 unfold subscriptTail
 refine yYW ?_
 rw[getitemInPython_of_ne hT.not_modules]
 refine yYW (wpAny_specialOf hT hl ?_)
 have fin:wpAny (model prog w) A (subscripted slice false o i) (fun r s₃=>wpAny (model prog w) A (letTemporaryGo value o r >>= fun _=>pure r) Q E s₃) E s₂:=by
  rw[hs o i]
  exact wpAny_operating (wpAny_mono h₂ (fun r s₃ h₃=>yYW (wpAny_letTemporaryGo (yYX h₃))) fun _ _ x=>x)
 first
  | exact yYX (yYW fin)
  | exact yYW (yYX (yYW fin))
  | exact yYW fin

theorem qAj {X:Cx}{pins:List (Addr×Obj)}{σ:St}{H:Hp}{s:Shared}{a:Addr}{y:V}{o:Option V}(I:Inv X pins σ H s)(g:DGet H a y o):s.TypeIs (.ref a) "dict" := by
 rcases g with⟨kvs,k,e,_,_⟩ | ⟨kvs,k,b,e,_,_,_⟩
 ·obtain⟨_,_,vs,_,dd⟩:=qPe I.hok e
  exact dd.typeIs
 ·obtain⟨_,_,xs,_,dd⟩:=qUj I.hok e
  exact dd.typeIs
def tDGet (td ty:TE):TE:=fun σ H Q=>td σ H fun x H1=>ty σ H1 fun y H2=>∃a v,x=.ref a∧DGet H2 a y (some v)∧Q v H2
def sDPut (td ty tv:TE):TS:=fun D σ H=>tv σ H fun v H1=>td σ H1 fun x H2=>ty σ H2 fun y H3=>∃a H4,x=.ref a∧DPut H3 a y v H4∧D.nx σ H4
section
variable {X:Cx}{o i e value:Expr}{pos pos' tpos:Pos}{td ty tv:TE}
theorem kN (hu:X.A.units+1<cLine)(ho:PE X o td)(hi:PE X i ty)(hs:NoSl i):PE X (.Subscript o i pos) (tDGet td ty):=by
 intro pins s σ H Q I h
 refine qSe PySem.F.slot_dict_getitem.lookup hs (thn (ho pins s σ H _ I h) fun u s1 ⟨x,H1,I1,rx,q1⟩=>thn (hi pins s1 σ H1 _ I1 q1) fun iv s2 ⟨y,H2,I2,ry,a,v,ex,g,q2⟩=>?_)
 subst ex
 obtain rfl:u=Value.ref a:=rx
 exact⟨qAj I2 g,qIm hu I2 g ry fun w' s3 I3 rw'=>⟨v,H2,I3,rw',q2⟩⟩
theorem qJv (hu:X.A.units+1<cLine)(ho:PE X o td)(hi:PE X i ty)(hv:PE X value tv)(hs:swapsWith value (some (.Subscript o i pos')) pos.line X.env=pure false):
  PS X (.Assign [.Subscript o i pos'] value pos) (sDPut td ty tv):=by
 intro pins s σ H D I h
 refine wpAny_Assign_Subscript (thn (hv pins s σ H _ I h) fun r s1 ⟨v,H1,I1,rv,q1⟩=>thn (ho pins s1 σ H1 _ I1 q1) fun u s2 ⟨x,H2,I2,rx,q2⟩=>thn (hi pins s2 σ H2 _ I2 q2) fun iv s3 ⟨y,H3,I3,ry,a,H4,ex,g,q3⟩=>?_) hs
 subst ex
 obtain rfl:u=Value.ref a:=rx
 exact qIl hu I3 g ry rv fun s4 I4=>⟨σ,H4,I4,q3⟩
end

theorem qPf {P:Program}{w:World}{H:Hp}(h:Heap)(hb:sysModules<h.objs.size):ObjOk P w H (h.push { cls:=.type "dict",data:=.dict #[] }) h.objs.size (.dK []):=
 ⟨yZF _,beq_eq_false_iff_ne.mpr (Ne.symm (yZE hb)),[],.nil,Heap.DictOf.new h⟩
theorem qPq {P:Program}{w:World}{H:Hp}(h:Heap)(hb:sysModules<h.objs.size):ObjOk P w H (h.push { cls:=.type "dict",data:=.dict #[] }) h.objs.size (.dT []):=
 ⟨yZF _,beq_eq_false_iff_ne.mpr (Ne.symm (yZE hb)),[],.nil,_,#[],0,yZA _ rfl,⟨rfl,rfl,rfl⟩,rfl,rfl,List.nodup_nil⟩
def tDNewK:TE:=fun _ H Q=>∀p,H p=none→Q (.ref p) (upd H p (.dK []))
def tDNewT:TE:=fun _ H Q=>∀p,H p=none→Q (.ref p) (upd H p (.dT []))
section
variable {X:Cx}{pos:Pos}
theorem qNn:PE X (.Dict [] [] pos) tDNewK:=fun pins s σ H Q I h=>
 wpAny_Dict_empty ⟨.ref s.heap.objs.size,_,I.laid (a:=s.heap.objs.size) (o:=.dK []) (t':=s.toks) (fun _ _ q=>yYY _ q) (yZC _) (qPf s.heap I.big),rfl,h _ (I.hok.fresh (yZC _))⟩
theorem qNm:PE X (.Dict [] [] pos) tDNewT:=fun pins s σ H Q I h=>
 wpAny_Dict_empty ⟨.ref s.heap.objs.size,_,I.laid (a:=s.heap.objs.size) (o:=.dT []) (t':=s.toks) (fun _ _ q=>yYY _ q) (yZC _) (qPq s.heap I.big),rfl,h _ (I.hok.fresh (yZC _))⟩
end

def mergeK (kvs more:List (Key×V)):List (Key×V):=more.foldl (fun acc kv=>putK acc kv.1 kv.2) kvs
theorem KV.merge:∀{more:List (Key×V)} {rs:List (Key×Value)} {kvs:List (Key×V)} {vs:List (Key×Value)},KV more rs→KV kvs vs→KV (mergeK kvs more) (merged vs rs):=by
 intro more rs kvs vs r
 unfold KV at r
 induction r generalizing kvs vs with
 | nil=>intro q;exact q
 | @cons p q ps qs h t ih=>
  intro r0
  have e:KV (putK kvs p.1 p.2) (stored vs q.1 q.2):=by
   have:=r0.put p.1 h.2
   rw[← h.1];exact this
  exact ih e
theorem yF:∀(more kvs:List (Key×V)),(mergeK kvs more).length≤kvs.length+more.length
 | [],kvs=>by show kvs.length≤kvs.length+0;omega
 | p::r,kvs=>by
  have h1:=yF r (putK kvs p.1 p.2)
  have h2:=kO kvs p.1 p.2
  show(mergeK (putK kvs p.1 p.2) r).length≤_
  rw[yYT];omega
section
variable {X:Cx}{pins:List (Addr×Obj)}{σ:St}{H:Hp}{s:Shared}{a:Addr}{y d:V}{u r:Value}{o:Option V}{A:Around}{E:Value→Shared→Prop}
end

section
variable {X:Cx}{o e f:Expr}{apos cpos:Pos}{td ty tx:TE}
end

section
variable {X:Cx}{pins:List (Addr×Obj)}{σ:St}{H:Hp}{s:Shared}{a:Addr}{kvs:List (Key×V)}{A:Around}{E:Value→Shared→Prop}
theorem qPh {Q:Value→Shared→Prop}(I:Inv X pins σ H s)(e:Rd H a (.dK kvs))(h:∀p s',H p=none→Inv X pins σ (upd H p (.dK kvs)) s'→Q (.ref p) s'):wpAny (model X.prog X.w) A (call (.type "dict") [.ref a]) Q E s:=by
 obtain⟨z,hd,vs,rel,dd⟩:=qPe I.hok e
 refine kt_call_dict hd dd (by rw[← rel.length];exact z) fun h' dd' hs=>?_
 refine h _ _ (I.hok.fresh (yZC _)) (I.laid (a:=s.heap.objs.size) (o:=.dK kvs) (t':=s.toks) (fun b q hq=>?_) (yZC _) (qSj z (beq_eq_false_iff_ne.mpr (Ne.symm (yZE I.big))) rel dd'))
 exact(hs.2 b (yZE (yYZ hq))).trans (yYY _ hq)
end

section
variable {X:Cx}{pins:List (Addr×Obj)}{σ:St}{H:Hp}{s:Shared}{a:Addr}{y:V}{u:Value}{A:Around}{E:Value→Shared→Prop}
end
end L2

namespace Att
open PySem PySem.W PySem.Calls PyProof.Rows

theorem qXq {P:Params}{h:Heap}:∀(ns:List Int) (vs:List Value),WellAll P h vs (ns.map WData.int)→IntsAre vs ns:=by
 intro ns
 induction ns with
 | nil=>
  intro vs w
  rw[List.map_nil] at w
  cases w
  exact .nil
 | cons n ns ih=>
  intro vs w
  rw[List.map_cons] at w
  cases w with
  | cons a b=>
   cases a
   exact .cons _ _ (ih _ b)

theorem qFl {l:OpenLaw}{n:Nat}(hn:l.most=some n){P:Params}{h:Heap}{args:List WData}{vals:List Value}
  (hpre:l.row.toRowW.claim.pre args=true) (hwl:WellAll P h vals args):
  ∃a vs ns,vals=[Value.ref a]∧args=[WData.list (ns.map WData.int)]∧h.get? a=some { cls:=.type "list",data:=.seq vs.toArray }∧IntsAre vs ns∧ns.length≤n:=by
 have hsh:WShape.hasAll [] args [.list .int]=true:=(pre_splitW hpre).1
 have hc:l.pre.holds [] { args:=args }=true:=(pre_splitW hpre).2
 obtain⟨d,r,rfl,h1,h2⟩:=hasAllW_cons hsh
 obtain rfl:=hasAllW_nil h2
 obtain⟨xs,rfl,h3⟩:=hasW_list h1
 obtain⟨ns,rfl⟩:=items_int h3
 have hlen:ns.length≤n:=by
  unfold OpenLaw.pre at hc
  have h4:(WTm.not (.lt (.lit (.int (n:Int))) (.len (.arg 0)))).holds [] { args:=[.list (ns.map .int)] }=true:=by
   have h4:=(holds_andW hc).1
   rw[hn] at h4
   exact h4
  have h5:=condW_of h4 (w_not (w_lt w_lit (w_len_list (w_arg rfl))))
  rw[yYC] at h5
  refine Nat.le_of_not_lt fun q=>?_
  have q':(n:Int)<((ns.length:Nat):Int):=by omega
  first
   | (rw[decide_eq_true q'] at h5;exact absurd h5 (by decide))
   | (simp at h5;omega)
 cases hwl with
 | cons w1 w2=>
  cases w2
  cases w1 with
  | list ho hall=>exact⟨_,_,ns,rfl,rfl,ho,qXq ns _ hall,hlen⟩

theorem qGw (l:OpenLaw)(args:List WData):l.row.toRowW.claim.post args (.bool true) args=true:=
 postW_of (r:=l.row.toRowW) (X:=(true == true))
  (show WShape.has [] (.bool true) .bool=true by first | rfl | decide | simp[WShape.has,WShape.arms,WShape.armsAll])
  (show(WTm.eq .res (.lit (.bool true))).value [] { args:=args,res:=some (.bool true),after:=args }=some (.bool (true == true)) from w_eq_bool (w_res rfl) w_lit) rfl

theorem attach_call {l:OpenLaw}{n:Nat}{q:Program}{loose:List Str}{XP:(Str→Option Value)→Heap→Prop}{YP:World→Heap→Prop}{d:DefRec}
  (hn:l.most=some n) (hdf:d.params.defaults=[])
  (call:∀(w:World) (s₀ s₁:Shared) (mg mb:Str→Option Value) (fa:Addr) (o:Obj) (pm cd doc:Value) (a:Addr) (vs:List Value) (ns:List Int),
   Ground q loose [] XP w s₀ mg mb s₁.heap→YP w s₁.heap→
   s₁.heap.get? fa=some o→o.data=.func (docDef d.name d.params d.body d.scope pm cd doc)→s₁.heap.CodeRec cd d.name→mg d.name=some (.ref fa)→
   s₁.heap.get? a=some { cls:=.type "list",data:=.seq vs.toArray }→IntsAre vs ns→ns.length≤n→s₁.gens=#[]→
   codeAny (model l.prog w) callerA (.call (.ref fa) ⟨[.ref a],[]⟩) (fun r s'=>r=.ok (.ret (.bool true))∧OldK s₁.heap s'.heap∧s'.os=s₁.os∧AllBare s'.gens) s₁):
  WalkO q loose XP YP l.row.toRowW d [] (fun f vs=>PySem.call f vs):=by
 intro w s₀ s₁ mg mb G Y fa o pm cd doc dV kV ho hd hcd hD hmg hg args vals as hpre hlay hrd hwl hlo
 obtain rfl:dV=.none:=Dflts.none hD hdf
 obtain rfl:kV=.none:=Dflts.noKw hD
 obtain⟨a,vs,ns,rfl,rfl,hobj,hints,hlen⟩:=qFl hn hpre hwl
 refine enter_call (codeAny_mono (call w s₀ s₁ mg mb fa o pm cd doc a vs ns G Y ho (fd_plain hd) hcd hmg hobj hints hlen hg) fun r s' hq=>?_)
 obtain⟨rfl,h2,h3,h4⟩:=hq
 exact⟨.inl ⟨.bool true,.bool true,[],rfl,fun _=>rfl,.bool true,qGw l _,fun _=>⟨List.Pairwise.nil,fun _ hm=>(nomatch hm)⟩⟩,h2,h3,h4⟩

section
variable {prog:Program}{w:World}{A:Around}{E:Value→Shared→Prop}{s:Shared}{K:Frag}

end
end Att

namespace L2
open PySem PySem.Spec PyProof.Rows

theorem qYc:∀{vs:List Value} {ns:List Int},IntsAre vs ns→Vals (ns.map V.int) vs
 | _,_,.nil=>.nil
 | _,_,.cons n t h=>.cons ⟨t,rfl⟩ (qYc h)

def Only (H:Hp):Prop:=∀b,H b=none∨∃o xs,H b=some (.frz o (.lst xs))

theorem qOa {P:Program}{w:World}{K:yZO}{mg mb:Str→Option Value}{CX:CXT}{k:Nat}{fa a:Addr}{fd:FuncData}{x:Str}{sp:Sp}{s₁:Shared}{vs:List Value}{ns:List Int}
  (KX:K.In s₁.heap) (hns:s₁.heap.Ns mainGlobals mg) (hb:s₁.heap.Ns builtinsNs mb) (hbb:∀x:Str,x ≠ "__name__" → mb x=bootBuiltins x) (hlim:s₁.heap.NoLimit) (hg:s₁.gens=#[])
  (ha:s₁.heap.get? a=some { cls:=.type "list",data:=.seq vs.toArray }) (hi:IntsAre vs ns) (hl:ns.length≤sizeLine) (hr:Room k callerA)
  (F:∀base:Heap,K.In base→base.Ns mainGlobals mg→FnOk P w K mg base CX k fa fd [x] sp) (hbind:∀(s:Shared) (u:Value),BindsTo s fd ⟨[u],[]⟩ [(x,u)])
  (hsp:∀H:Hp,Only H→SqL K H a (ns.map V.int)→sp [.ref a] H (fun v _=>v=.bl true) fun _ _ _=>False)
  (hCX:∀H e s',CX [] H s₁ (fun _ _ _=>False) e s'→False):
  codeAny (model P w) callerA (.call (.ref fa) ⟨[.ref a],[]⟩) (fun r s'=>r=.ok (.ret (.bool true))∧OldK s₁.heap s'.heap∧s'.os=s₁.os∧AllBare s'.gens) s₁:=by
 have rv:=qYc hi
 have lenV:=hi.length
 have core:∀H:Hp,Only H→SqL K H a (ns.map V.int)→HOk P w H s₁.heap→(∀b,H b≠none→b=a)→(H a≠none→K.lookup a=none)→
   codeAny (model P w) callerA (.call (.ref fa) ⟨[.ref a],[]⟩) (fun r s'=>r=.ok (.ret (.bool true))∧OldK s₁.heap s'.heap∧s'.os=s₁.os∧AllBare s'.gens) s₁:=by
  intro H hO hS hok hA hK
  have base_of:∀{b:Addr} {o:Obj},s₁.heap.get? b=some o→H b=none→(hidT s₁.heap H).get? b=some o:=fun e n=>qOi e n
  have noA:∀{b:Addr} {o:Obj} {es:Array DictEntry} {ep:Nat},s₁.heap.get? b=some o→o.data=.dict es ep→H b=none:=fun{b o es ep} e d=>by
   cases q:H b with
   | none=>rfl
   | some u=>
    have e':b=a:=hA b (by rw[q];simp)
    subst e'
    rw[ha] at e;cases e
    have d':Data.seq vs.toArray _=Data.dict es ep:=d
    cases d'
  have nsK:∀{b:Addr} {m:Str→Option Value},s₁.heap.Ns b m→(hidT s₁.heap H).Ns b m:=fun{b m} ⟨o,es,ep,e,d,r⟩=>⟨o,es,ep,base_of e (noA e d),d,r⟩
  have hKb:K.In (hidT s₁.heap H):=fun b o e=>base_of (KX b o e) (by
   cases q:H b with
   | none=>rfl
   | some u=>
    have e':b=a:=hA b (by rw[q];simp)
    subst e'
    rw[hK (by rw[q];simp)] at e;cases e)
  have hM:Mod K mg (hidT s₁.heap H):=⟨hKb,nsK hns,⟨mb,nsK hb,hbb⟩,let ⟨mc,h1,h2⟩:=hlim;⟨mc,nsK h1,h2⟩⟩
  have e0:Env0 P w K mg (hidT s₁.heap H) callerA [] s₁ H:=⟨rfl,hM,fun b o e=>qTf e,Nat.le_of_eq (qHn _ _),trivial,fun b hb=>absurd (show b∈([]:List Addr) from hb) (by simp),hok,.of_eq hg⟩
  refine codeAny_mono ((F _ hKb (nsK hns)).run callerA [] s₁ H ⟨[.ref a],[]⟩ [.ref a] [.ref a] _ _ hr e0 (hbind s₁ (.ref a)) (.cons rfl .nil) (hsp H hO hS)) fun r s' h=>?_
  cases r with
  | error e=>exact(hCX H e s' h).elim
  | ok fl=>
   cases fl with
   | next=>exact False.elim h
   | brk=>exact False.elim h
   | cont=>exact False.elim h
   | ret u=>
    obtain⟨v,H',os,bare,un,hok',r',q⟩:=h
    have q':v=.bl true:=q
    subst q'
    obtain rfl:u=Value.bool true:=r'
    refine⟨rfl,OldK.of_keep fun b o e=>?_,os,bare⟩
    cases q:H b with
    | none=>exact un.keep b o e q (by intro z;exact absurd (show b∈([]:List Addr) from z) (by simp)) (by simp)
    | some u=>
     rcases hO b with z | ⟨ob,xs,z⟩
     ·rw[q] at z;cases z
     ·have z2:=un.frzs b ob _ z
      obtain⟨e1,_⟩:=hok b _ z
      obtain⟨e2,_⟩:=hok' b _ z2
      rw[e] at e1;cases e1
      exact e2
 cases hk:K.lookup a with
 | some o=>
  have e:=KX a o hk
  rw[ha] at e
  cases e
  refine core (fun _=>none) (fun _=>.inl rfl) (.inr ⟨_,vs.toArray,_,hk,rfl,rfl,rfl,by rw[yYD,lenV];exact hl,by simpa using rv⟩) (fun b u z=>by have z':(none:Option HO)=some u:=z;cases z') (fun b z=>absurd rfl z) fun z=>absurd rfl z
 | none=>
  refine core (fun b=>if b=a then some (.frz { cls:=.type "list",data:=.seq vs.toArray } (.lst (ns.map V.int))) else none) (fun b=>?_) (.inl (.inr ⟨{ cls:=.type "list",data:=.seq vs.toArray },if_pos rfl⟩)) (fun b u z=>?_) (fun b z=>?_) fun _=>hk
  ·by_cases hb:b=a
   ·exact .inr ⟨_,_,if_pos hb⟩
   ·exact .inl (if_neg hb)
  ·by_cases hb:b=a
   ·have z':=(if_pos hb).symm.trans z
    cases z'
    subst hb
    exact⟨ha,by rw[yYC];exact hl,vs,_,rv,ha⟩
   ·have z':=(if_neg hb).symm.trans z
    cases z'
  ·by_cases hb:b=a
   ·exact hb
   ·exact absurd (if_neg hb) z
end L2

namespace L2
open PySem PySem.Spec PyProof.Rows

theorem qSa {l:PySem.W.OpenLaw}{n k:Nat}{q:Program}{loose:List Str}{XP:(Str→Option Value)→Heap→Prop}{YP:World→Heap→Prop}{d:DefRec}{K:Params→yZO}{CX:World→CXT}{sp:World→Sp}{x:Str}
  (hn:l.most=some n) (hn2:n≤sizeLine) (hdf:d.params.defaults=[]) (hr:Room k callerA)
  (hY:∀(w:World) (h:Heap),YP w h→(K w.params).In h)
  (F:∀(w:World) (mg:Str→Option Value) (fa:Addr) (h:Heap),(K w.params).In h→h.Ns mainGlobals mg→mg d.name=some (.ref fa)→
   ∃fd:FuncData,(∀(s:Shared) (u:Value),BindsTo s fd ⟨[u],[]⟩ [(x,u)])∧
    ∀base:Heap,(K w.params).In base→base.Ns mainGlobals mg→FnOk l.prog w (K w.params) mg base (CX w) k fa fd [x] (sp w))
  (hsp:∀(w:World) (H:Hp) (a:Addr) (ns:List Int),ns.length≤n→Only H→SqL (K w.params) H a (ns.map V.int)→sp w [.ref a] H (fun v _=>v=.bl true) fun _ _ _=>False)
  (hCX:∀(w:World) (H:Hp) (s:Shared) (e:Value) (s':Shared),CX w [] H s (fun _ _ _=>False) e s'→False):
  PySem.W.WalkO q loose XP YP l.row.toRowW d [] (fun f vs=>PySem.call f vs):=by
 refine Att.attach_call hn hdf fun w s₀ s₁ mg mb fa o pm cd doc a vs ns G Y ho hd hcd hmg hobj hints hlen hg=>?_
 have KX:=hY w _ Y
 obtain⟨fd,hb,hF⟩:=F w mg fa _ KX G.T.g hmg
 exact qOa KX G.T.g G.T.b G.T.builtins G.T.nolimit hg hobj hints (yZI hlen hn2) hr hF hb (fun H hO hS=>hsp w H a ns hlen hO hS) fun H e s'=>hCX w H s₁ e s'
end L2

namespace L2
open PySem PySem.Spec PyProof.Rows

abbrev CX0:CXT:=fun _ _ _ _ _ _=>False
abbrev E0:XK:=fun _ _ _=>False
theorem pass0 {X:Cx}:Passes CX0 X E0:=fun _ _ _ _ _ _ _ h=>h.elim

structure Fun (K:yZO)(x qual:Str)(st:Stmt)(f:Addr)(fd:FuncData):Prop where
 ex:∃(oc:Value) (od:Option Addr) (kV doc pm:Value) (an:Option Addr) (cdv ct:Value) (osl:Array (Option Value)),
  fd=PySem.W.fnOf x qual (xC st) (xB st) (xA st) .none kV doc pm an cdv ct∧K.lookup f=some ⟨oc,od,.func fd,osl⟩∧PySem.W.codeIn K cdv qual=true
 kp:PySem.W.keepIn K (.ref f)=true
section
variable {P:Program}{w:World}{K:yZO}{mg:Str→Option Value}{base:Heap}
theorem Fun.ok {x qual:Str}{st:Stmt}{f:Addr}{fd:FuncData}{N ps:List Str}{k:Nat}{sp:Sp}(F:Fun K x qual st f fd)(S:xE N ps (xA st))(len:∀vs H Q E,sp vs H Q E→vs.length=ps.length)
  (hbody:∀(cdv:Value) (A:Around) (outer:List Env) (s:Shared) (H:Hp) (vs:List V) (Q:VK) (E:XK),Room k (A.deeper (envOfC qual (xA st) s.heap.objs.size f cdv))→sp vs H Q E→
   ∃t,PSs (cxOf CX0 P w K mg base N qual (xA st) f cdv A outer s H E).nox (xB st) t∧t { nx:=fun _ H'=>Q .non H',rt:=Q } (start N vs) H):FnOk P w K mg base CX0 (k+1) f fd ps sp:=by
 obtain⟨oc,od,kV,doc,pm,an,cdv,ct,osl,rfl,lk,hcd⟩:=F.ex
 refine xYg lk hcd S len fun A outer s H vs Q E hr hsp=>?_
 obtain⟨t,h,q⟩:=hbody cdv A outer s H vs Q E hr hsp
 exact⟨t,h.nox,q⟩
theorem Fun.binds {x qual:Str}{st:Stmt}{f:Addr}{fd:FuncData}{ps:List Str}(F:Fun K x qual st f fd)
  (h:∀(kV doc pm:Value) (an:Option Addr) (cdv ct:Value) (us:List Value),us.length=ps.length→bindArgs (PySem.W.fnOf x qual (xC st) (xB st) (xA st) .none kV doc pm an cdv ct) ⟨us,[]⟩=pure (ps.zip us)):Binds K fd ps []:=by
 obtain⟨oc,od,kV,doc,pm,an,cdv,ct,osl,rfl,lk,hcd⟩:=F.ex
 exact .all (h kV doc pm an cdv ct)
theorem xI {x qual:Str}{st:Stmt}{f:Addr}{oc:Value}{od an:Option Addr}{osl:Array (Option Value)}{kV doc pm cdv ct:Value}(l:K.lookup f=some ⟨oc,od,.func (PySem.W.fnOf x qual (xC st) (xB st) (xA st) .none kV doc pm an cdv ct),osl⟩)
  (c:PySem.W.codeIn K cdv qual=true) (k:PySem.W.keepIn K (.ref f)=true):Fun K x qual st f (PySem.W.fnOf x qual (xC st) (xB st) (xA st) .none kV doc pm an cdv ct):=⟨⟨oc,od,kV,doc,pm,an,cdv,ct,osl,rfl,l,c⟩,k⟩
end
theorem qWm {A:Around}{k:Nat}(hr:Room k A):A.units+1<cLine:=yZH (Nat.add_le_add_left (by decide:1≤64) _) hr.units
section
variable {X:Cx}
theorem pv (i:Nat){x:Str}{pos:Pos}(hN:X.N[i]? = some x:=by rfl)(hv:Vis X.env.scope x:=by first | exact Or.inl rfl | exact Or.inr (Or.inl rfl) | exact Or.inr (Or.inr rfl))(hd:(x == ("__debug__" : Str))=false:=by decide)
  (hcd:(x == ("__classdict__" : Str))=false:=by decide):PE X (.Name x pos) (tVar i):=xXa hN hv hd hcd
end

theorem iteF {A B:Prop}(h:B):if false=true then A else B:=by
 rw[if_neg yZK]
 exact h
theorem iteT {A B:Prop}(h:A):if true=true then A else B:=by
 rw[if_pos rfl]
 exact h
theorem ite2 {c A B:Prop}[Decidable c](h1:c→A)(h2:¬c→B):if c then A else B:=by
 by_cases h:c
 ·rw[if_pos h]
  exact h1 h
 ·rw[if_neg h]
  exact h2 h
def Same (H H':Hp):Prop:=∀b o,H b=some o→H' b=some o
theorem Same.refl (H:Hp):Same H H:=fun _ _ h=>h
theorem Same.trans {H H1 H2:Hp}(a:Same H H1)(b:Same H1 H2):Same H H2:=fun c o h=>b c o (a c o h)
theorem Same.free {H H':Hp}(e:Same H H'){l:Addr}(h:H' l=Option.none):H l=Option.none:=by
 cases q:H l with
 | none=>rfl
 | some o=>
  rw[e l o q] at h
  cases h
theorem Same.seq {K:yZO}{H H':Hp}{a:Addr}{xs:List V}(e:Same H H')(h:SqL K H a xs):SqL K H' a xs:=by
 rcases h with(h | ⟨o,h⟩) | h
 ·exact .inl (.inl (e _ _ h))
 ·exact .inl (.inr ⟨o,e _ _ h⟩)
 ·exact .inr h

end L2

namespace L2
open PySem PySem.Spec PyProof.Rows
section
variable {X:Cx}
end
section
variable {κ:Type}[DecidableEq κ]
end
end L2

namespace L2
open PySem PySem.Spec PyProof.Rows

theorem wJ {scope:Scope}{env:Env}(h:∀p∈scope.names,p.2=.free→∃c,env.cells.lookup p.1=some c):
  ∃cl,closureFor scope env=pure cl∧(∀x c,cl.lookup x=some c→env.cells.lookup x=some c)∧(∀p∈scope.names,p.2=.free→∃c,cl.lookup p.1=some c):=by
 have key:∀(names:List (Str×NameKind)) (acc:List (Str×Addr)),(∀p∈names,p.2=.free→∃c,env.cells.lookup p.1=some c)→(∀x c,acc.lookup x=some c→env.cells.lookup x=some c)→
   ∃cl,(forIn names acc (fun(x:Str×NameKind) (r:List (Str×Addr))=>(if (x.2 == NameKind.free)=true then (do let a ← cellOf env x.1;pure (ForInStep.yield ((x.1,a)::r))) else pure (ForInStep.yield r):Sem (ForInStep (List (Str×Addr))))):Sem (List (Str×Addr)))=pure cl∧
    (∀x c,cl.lookup x=some c→env.cells.lookup x=some c)∧(∀x c,acc.lookup x=some c→∃c,cl.lookup x=some c)∧(∀p∈names,p.2=.free→∃c,cl.lookup p.1=some c):=by
  intro names
  induction names with
  | nil=>intro acc _ ha;exact⟨acc,rfl,ha,fun x c e=>⟨c,e⟩,fun p hp=>by cases hp⟩
  | cons p r ih=>
   intro acc hn ha
   obtain⟨n,k⟩:=p
   by_cases hk:k=.free
   ·subst hk
    obtain⟨c,hc⟩:=hn (n,.free) yYG rfl
    have ha':∀x d,((n,c)::acc).lookup x=some d→env.cells.lookup x=some d:=fun x d e=>by
     rw[List.lookup_cons] at e
     cases hx:x == n with
     | true=>rw[hx] at e;cases e;rw[eq_of_beq hx];exact hc
     | false=>rw[hx] at e;exact ha x d e
    obtain⟨cl,e,h1,h2,h3⟩:=ih ((n,c)::acc) (fun p hp=>hn p (yYH _ hp)) ha'
    have hcell:cellOf env n=pure c:=by unfold cellOf;rw[hc]
    refine⟨cl,?_,h1,fun x d ex=>?_,fun p hp hf=>?_⟩
    ·rw[List.forIn_cons]
     show(if (NameKind.free == NameKind.free)=true then (do let a ← cellOf env n;pure (ForInStep.yield ((n,a)::acc))) else _) >>= _=_
     rw[if_pos (show(NameKind.free == NameKind.free)=true from rfl),hcell]
     exact e
    ·cases hx:x == n with
     | true=>exact h2 x c (by rw[List.lookup_cons,hx])
     | false=>exact h2 x d (by rw[List.lookup_cons,hx];exact ex)
    ·rcases yYK.mp hp with rfl | hp
     ·exact h2 n c (by rw[List.lookup_cons,beq_self_eq_true])
     ·exact h3 p hp hf
   ·obtain⟨cl,e,h1,h2,h3⟩:=ih acc (fun p hp=>hn p (yYH _ hp)) ha
    refine⟨cl,?_,h1,h2,fun p hp hf=>?_⟩
    ·rw[List.forIn_cons]
     show(if (k == NameKind.free)=true then _ else _) >>= _=_
     rw[if_neg (by simpa using hk)]
     exact e
    ·rcases yYK.mp hp with rfl | hp
     ·exact absurd hf hk
     ·exact h3 p hp hf
 obtain⟨cl,e,h1,_,h3⟩:=key scope.names [] h (fun x c e=>by cases e)
 refine⟨cl,?_,h1,h3⟩
 show(forIn scope.names [] _ >>= fun r=>pure r)=pure cl
 rw[bind_pure]
 exact e

theorem jC {α:Type}(x:Str)(k:α)(l:List (Str×α)):List.lookup x ((x,k)::l)=some k:=by rw[List.lookup_cons,beq_self_eq_true]
theorem zG {α:Type}{x n:Str}(k:α)(l:List (Str×α))(h:(x == n)=false):List.lookup x ((n,k)::l)=List.lookup x l:=by rw[List.lookup_cons,h]
theorem jU {env:Env}{x:Str}:∀(names:List (Str×NameKind)),
  (names.map fun(n,k)=>if (k == NameKind.free && env.scope.kind == .function && env.kindOf n == some .cell) then (n,NameKind.cell) else (n,k)).lookup x=
   (names.lookup x).map fun k=>if (k == NameKind.free && env.scope.kind == .function && env.kindOf x == some .cell) then NameKind.cell else k
 | []=>rfl
 | (n,k)::r=>by
  have ih:=@jU env x r
  show List.lookup x ((if (k == NameKind.free && env.scope.kind == .function && env.kindOf n == some .cell)=true then (n,NameKind.cell) else (n,k))::_)=_
  cases hx:x == n with
  | true=>
   have e:x=n:=eq_of_beq hx
   subst e
   rw[jC]
   by_cases hc:(k == NameKind.free && env.scope.kind == .function && env.kindOf x == some .cell)=true
   ·rw[if_pos hc,jC]
    show _=some (if (k == NameKind.free && env.scope.kind == .function && env.kindOf x == some .cell)=true then NameKind.cell else k)
    rw[if_pos hc]
   ·rw[if_neg hc,jC]
    show _=some (if (k == NameKind.free && env.scope.kind == .function && env.kindOf x == some .cell)=true then NameKind.cell else k)
    rw[if_neg hc]
  | false=>
   rw[zG _ _ hx]
   by_cases hc:(k == NameKind.free && env.scope.kind == .function && env.kindOf n == some .cell)=true
   ·rw[if_pos hc,zG _ _ hx];exact ih
   ·rw[if_neg hc,zG _ _ hx];exact ih

def cxC (X:Cx)(scope:Scope)(cl:List (Str×Addr))(N:List Str)(fp:List Addr)(s:Shared)(H:Hp):Cx where
 prog:=X.prog
 w:=X.w
 K:=X.K
 mg:=X.mg
 base:=X.base
 A:=X.A
 N:=N
 s₀:=s
 H₀:=H
 env:=compEnvC scope cl s.heap.objs.size X.env
 outer:=X.stack
 stack:=X.stack
 ex:=fp
 fn:=fun _=>false
 calm:=X.calm
 pn:=[]
 xe:=fun _ _=>False

def PTs (X:Cx)(ifs:List Expr)(t:TT):Prop:=
 ∀(pins:List (Addr×Obj)) (s:Shared) (σ:St) (H:Hp) (Q:Bool→Hp→Prop),Inv X pins σ H s→t σ H Q→
  wpAny (model X.prog X.w) X.A (forIn ifs true fun c r=>if r=true then do let ok ← isTrue c X.env (eval c X.env);pure (ForInStep.yield ok) else pure (ForInStep.yield r)) (TP X pins σ Q) X.xe s
def tYes:TT:=fun _ H Q=>Q true H
theorem zE {X:Cx}:PTs X [] tYes:=fun _ _ _ H _ I h=>wpAny_tests_nil ⟨H,I,h⟩
theorem qWz {X:Cx}{c:Expr}{t:TT}(h:PT X c t):PTs X [c] t:=fun pins s σ H Q I q=>wpAny_tests_one (h pins s σ H Q I q)

def frees (js:List Nat)(σ:St):St:=js.map fun j=>σ.getD j none
abbrev stC (k:Nat)(js:List Nat)(σ:St):St:=List.replicate k none++frees js σ

def rdC (k:Nat)(js:List Nat)(g:TG)(tt:TT)(te:TE)(J:It)(σ:St)(H1:Hp)(Q:VK):Prop:=∀D,H1 D=none→
 ∃W:Nat→Nat→List V→Hp→Prop,(∃m,W 0 m [] (upd H1 D (.lst [])))∧∀i m ys H2,W i m ys H2→H2 D=some (.lst ys)∧
  ((J.stop i H2∧Q (.ref D) H2)∨(J.go i H2∧∀x H3,J.yld i H2 x H3→g x (stC k js σ) H3 fun σ4 H4=>(∃ow:St,ow.length=k∧σ4=ow++frees js σ)∧
   tt σ4 H4 fun b H5=>if b=true then te σ4 H5 fun y H6=>H6 D=some (.lst ys)∧ys.length<sizeLine∧∃m',m'<m∧W (i+1) m' (ys++[y]) (upd H6 D (.lst (ys++[y])))
    else ∃m',m'<m∧W (i+1) m' ys H5))
def tComp (k:Nat)(js:List Nat)(wi:TI)(g:TG)(tt:TT)(te:TE):TE:=fun σ H Q=>wi σ H fun J H1=>rdC k js g tt te J σ H1 Q

structure CompOk (sc:Scope)(N0:List Str)(scope:Scope)(N:List Str)(k:Nat)(js:List Nat):Prop where
 kind:scope.kind=.function
 cell:∀y∈scope.names,y.2≠.cell
 names:∀y∈scope.names,y.2=.local→scope.names.lookup y.1=some .local
 free:∀p∈scope.names,p.2=.free→sc.names.lookup p.1=some .cell∨sc.names.lookup p.1=some .free
 fn:∀x∈N.drop k,scope.names.lookup x=some .free
 at':js.map (fun j=>N0[j]?)=(N.drop k).map some
 le:k≤N.length
 nd:N.Nodup

theorem zW {names:List (Str×NameKind)}{x:Str}{k:NameKind}(h:names.lookup x=some k):(x,k)∈names:=PySem.mem_of_lookup h

section
variable {X:Cx}{elt tg iter:Expr}{ifs:List Expr}{scope:Scope}{cpos:Pos}{N:List Str}{k:Nat}{js:List Nat}{cl:List (Str×Addr)}{g:TG}{tt:TT}{te:TE}

theorem qHm {pins:List (Addr×Obj)}{σ:St}{H:Hp}{s:Shared}{fp:List Addr}{h₁:Heap}{t':Nat}{m:Str→Option Value}(C:CompOk X.env.scope X.N scope N k js)
  (hcl1:∀x c,cl.lookup x=some c→X.env.cells.lookup x=some c) (hcl2:∀p∈scope.names,p.2=.free→∃c,cl.lookup p.1=some c)
  (I:Inv X pins σ H s) (f2:∀b∈fp,FpOk X pins H b) (flt:∀b∈fp,b<s.heap.objs.size) (hns:h₁.Ns s.heap.objs.size m) (keep:∀b o,s.heap.get? b=some o→h₁.get? b=some o):
  Inv (cxC X scope cl N fp s H) [] (stC k js σ) H { s with heap:=h₁,toks:=t' }:=by
 have relk:∀x,(cxC X scope cl N fp s H).env.kindOf x=(scope.names.lookup x).map fun k=>if (k == NameKind.free && X.env.scope.kind == .function && X.env.kindOf x == some .cell) then NameKind.cell else k:=fun x=>jU scope.names
 have wasfree:∀x,((cxC X scope cl N fp s H).env.kindOf x=some .cell∨(cxC X scope cl N fp s H).env.kindOf x=some .free)→scope.names.lookup x=some .free:=fun x hx=>by
  rw[relk x] at hx
  cases e:scope.names.lookup x with
  | none=>rw[e] at hx;rcases hx with hx | hx <;> cases hx
  | some kd=>
   rw[e] at hx
   by_cases hk:kd=.free
   ·rw[hk]
   ·have hk':(kd == NameKind.free)=false:=by simpa using hk
    rw[yZN,hk',Bool.false_and,Bool.false_and,if_neg yZK] at hx
    rcases hx with hx | hx
    ·exact absurd (Option.some.inj hx) (C.cell _ (zW e))
    ·exact absurd (Option.some.inj hx) hk
 have clt:∀x c,cl.lookup x=some c→c<s.heap.objs.size:=fun x c e=>by
  obtain⟨v,z⟩:=I.cell x c (hcl1 x c e)
  exact z.lt
 have ok:(cxC X scope cl N fp s H).Ok:=
  {mod:=I.ok.mod
   kind:=by show(relabel scope X.env).kind=_;exact C.kind
   glob:=I.ok.glob
   blt:=I.ok.blt
   above:=yZC _
   inj:=fun x y c e1 e2=>I.ok.inj x y c (hcl1 x c e1) (hcl1 y c e2)
   has:=fun x hx=>hcl2 (x,.free) (zW (wasfree x hx)) rfl
   cab:=fun x c z=>by cases z
   hd:=I.ok.hd
   frames:=I.ok.frames
   stk:=.inl rfl
   exf:=fun b hb=>⟨yZE (flt b hb),fun x c e=>(f2 b hb).2.2.2.2.1 x c (hcl1 x c e)⟩
   bs:=fun b o e=>I.bs b o e
   bsz:=yZI I.ok.bsz I.sz
   noex:=fun b o e hb=>by
    rcases(f2 b hb).2.2.2.1 with z | z
    ·exact I.ok.noex b o e z
    ·exact absurd (yZD (yYZ (I.ok.bs b o e).1) z) (Nat.lt_irrefl _)
   exfs:=fun b hb z=>by
    rcases yYK.mp (I.stkSub b z) with q | q
    ·exact(f2 b hb).2.1 q
    ·exact(f2 b hb).2.2.1 q
   funs:=I.stack
   frf:=I.stkFree }
 have hlen:(stC k js σ).length=N.length:=by
  have q:=congrArg List.length C.at'
  rw[yYC,yYC,List.length_drop] at q
  have:=C.le
  show(List.replicate k none++frees js σ).length=N.length
  rw[yYI,List.length_replicate,frees,yYC]
  omega
 refine⟨ok,rfl,I.bare,Un.kept keep,⟨m,hns,fun i x v e1 e2 e3=>?_⟩,fun x c e=>?_,I.hok.fresh (yZC _),fun x c e=>I.freeC x c (hcl1 x c e),fun p hp=>absurd (show p∈([]:List (Addr×Obj)) from hp) (by simp),I.hok.kept keep,hlen⟩
 ·have e1:N[i]? = some x:=e1
  have hik:k≤i:=by
   by_cases hik:k≤i
   ·exact hik
   ·have e2':(List.replicate k (none:Option V)++frees js σ)[i]? = some (some v):=e2
    rw[List.getElem?_append_left (by rw[List.length_replicate];omega),List.getElem?_replicate] at e2'
    split at e2' <;> cases e2'
  obtain⟨d,rfl⟩:∃d,i=k+d:=⟨i - k,by omega⟩
  have e2':(List.replicate k (none:Option V)++frees js σ)[k+d]? = some (some v):=e2
  rw[List.getElem?_append_right (by rw[List.length_replicate];omega),List.length_replicate,Nat.add_sub_cancel_left,frees,yYO] at e2'
  have ed:(N.drop k)[d]? = some x:=by rw[List.getElem?_drop];exact e1
  cases ej:js[d]? with
  | none=>rw[ej] at e2';cases e2'
  | some j=>
   rw[ej] at e2'
   have ev:σ.getD j none=some v:=Option.some.inj e2'
   have ej2:X.N[j]? = some x:=by
    have q:=congrArg (fun l=>l[d]?) C.at'
    simp only[yYO,ej,ed,yZN] at q
    exact Option.some.inj q
   have eσ:σ[j]? = some (some v):=by
    rw[List.getD_eq_getElem?_getD] at ev
    cases z:σ[j]? with
    | none=>rw[z] at ev;cases ev
    | some w=>rw[z] at ev;exact congrArg some ev
   have hfx:scope.names.lookup x=some .free:=C.fn x (yYE ed)
   have hX:X.env.scope.names.lookup x=some .cell∨X.env.scope.names.lookup x=some .free:=C.free (x,.free) (zW hfx) rfl
   obtain⟨mX,_,lX⟩:=I.loc
   obtain⟨u,ru,lu⟩:=lX j x v ej2 eσ (hX.elim (fun z=>.inr (.inl z)) fun z=>.inr (.inr z))
   refine⟨u,ru,.inr ⟨?_,?_⟩⟩
   ·rw[relk x,hfx]
    show some (if _ then _ else _)=_∨some (if _ then _ else _)=_
    split
    ·exact .inl rfl
    ·exact .inr rfl
   ·rcases lu with⟨z,_⟩ | ⟨_,c,ec,ic⟩
    ·have z:X.env.scope.names.lookup x=some .local:=z
     rcases hX with q | q <;> rw[q] at z <;> cases z
    ·obtain⟨c',ec'⟩:=hcl2 (x,.free) (zW hfx) rfl
     have:c'=c:=Option.some.inj ((hcl1 x c' ec').symm.trans ec)
     subst this
     obtain⟨o,ho,hd⟩:=ic
     exact⟨c',ec',o,keep _ _ ho,hd⟩
 ·obtain⟨v,o,ho,hd⟩:=I.cell x c (hcl1 x c e)
  exact⟨v,o,keep _ _ ho,hd⟩

theorem qCm {pins:List (Addr×Obj)}{σ:St}{H2:Hp}{s2:Shared}{E:Value→Shared→Prop}{it:Addr}{fp:List Addr}{tn:Nat→Heap→Prop}{J:It}{Q:VK}{RR:Value→Addr→Result→Shared→Prop}
  (hc:X.calm=true) (C:CompOk X.env.scope X.N scope N k js) (hcl1:∀x c,cl.lookup x=some c→X.env.cells.lookup x=some c) (hcl2:∀p∈scope.names,p.2=.free→∃c,cl.lookup p.1=some c)
  (hg:∀fp s H,PG (cxC X scope cl N fp s H) tg g) (ht:∀fp s H,PTs (cxC X scope cl N fp s H) ifs tt) (he:∀fp s H,PE (cxC X scope cl N fp s H) elt te)
  (I:Inv X pins σ H2 s2) (T:Turn X.prog X.w X.K tg J fp it tn) (st:tn 0 s2.heap) (f2:∀b∈fp,FpOk X pins H2 b) (rd:rdC k js g tt te J σ H2 Q)
  (fin:∀D L H' s',Inv X pins σ H' s'→FpOk X pins H' L→(∃m,s'.heap.Ns L m)→Q (.ref D) H'→RR (.ref D) L (.ok .next) s'):
  wpAny (model X.prog X.w) X.A (newList []) (fun acc s₃=>wpAny (model X.prog X.w) X.A (newFunctionEnv scope X.env.globals cl [] X.env.qual none .none (some X.env)) (fun cenv s₄=>
   codeAny (model X.prog X.w) X.A (.compStart (.ListComp elt [⟨tg,iter,ifs,0⟩] scope cpos) 0 (.ref it) acc { cenv with scope:=relabel scope X.env }) (RR acc cenv.locals) s₄) E s₃) E s2:=by
 refine wpAny_newObj_type (wpAny_newFunctionEnv C.cell (by intro y hy;simp at hy) (fun h₁ hns₁ hsb₁=>?_) C.kind)
 dsimp only at hns₁ hsb₁ ⊢
 have hD:H2 s2.heap.objs.size=none:=I.hok.fresh (yZC _)
 have Id:Inv X pins σ (upd H2 s2.heap.objs.size (.lst [])) { s2 with heap:=s2.heap.push { cls:=.type "list",dict:=none,data:=.seq ([]:List Value).toArray } }:=
  I.laid (t':=s2.toks) (fun b u e=>yYY _ e) (yZC _) ⟨yZF _,[],0,.nil,yZA _ rfl⟩
 have kD:∀b o,s2.heap.get? b=some o→(s2.heap.push { cls:=.type "list",dict:=none,data:=.seq ([]:List Value).toArray }).get? b=some o:=fun b o e=>yYY _ e
 generalize hHd:s2.heap.push { cls:=.type "list",dict:=none,data:=.seq ([]:List Value).toArray }=Hd at hns₁ hsb₁ Id kD ⊢
 have szd:Hd.objs.size=s2.heap.objs.size+1:=by rw[← hHd,yZB]
 have keep:∀b o,Hd.get? b=some o→h₁.get? b=some o:=fun b o e=>hsb₁.extBut b o (yZE (yYZ e)) (yYY _ e)
 have flt2:∀b∈fp,b<s2.heap.objs.size:=fun b hb=>by
  obtain⟨o,e,_⟩:=T.obj _ _ st b hb
  exact yYZ e
 have fd:∀b∈fp,FpOk X pins (upd H2 s2.heap.objs.size (.lst [])) b:=fun b hb=>
  ⟨by rw[qA (yZE (flt2 b hb))];exact(f2 b hb).1,(f2 b hb).2⟩
 obtain⟨W,⟨m0,w0⟩,turn⟩:=rd _ hD
 generalize hY:cxC X scope cl N fp { s2 with heap:=Hd } (upd H2 s2.heap.objs.size (.lst []))=Y
 have hg:=hg fp { s2 with heap:=Hd } (upd H2 s2.heap.objs.size (.lst []))
 have ht:=ht fp { s2 with heap:=Hd } (upd H2 s2.heap.objs.size (.lst []))
 have he:=he fp { s2 with heap:=Hd } (upd H2 s2.heap.objs.size (.lst []))
 have loop:∀s₃:Shared,s₃={ s2 with heap:=h₁,toks:=s2.toks+([]:List (Str×Value)).length }→
   codeAny (model X.prog X.w) X.A (.compLoop (.ListComp elt [⟨tg,iter,ifs,0⟩] scope cpos) 0 (.ref it) (.ref s2.heap.objs.size) (compEnvC scope cl Hd.objs.size X.env))
    (RR (.ref s2.heap.objs.size) Hd.objs.size) s₃:=by
  rintro s₃ rfl
  have IY:Inv Y [] (stC k js σ) (upd H2 s2.heap.objs.size (.lst [])) { s2 with heap:=h₁,toks:=s2.toks+([]:List (Str×Value)).length }:=by
   rw[← hY]
   exact qHm (t':=s2.toks+([]:List (Str×Value)).length) C hcl1 hcl2 Id fd (fun b hb=>yZD (flt2 b hb) (by show s2.heap.objs.size≤Hd.objs.size;omega)) hns₁ keep
  rw[hY] at hg ht he
  have yprog:Y.prog=X.prog:=by rw[← hY];rfl
  have yw:Y.w=X.w:=by rw[← hY];rfl
  have yK:Y.K=X.K:=by rw[← hY];rfl
  have yA:Y.A=X.A:=by rw[← hY];rfl
  have yc:Y.calm=true:=by rw[← hY];exact hc
  have yenv:Y.env=compEnvC scope cl Hd.objs.size X.env:=by rw[← hY];rfl
  have yxe:Y.xe=fun _ _=>False:=by rw[← hY];rfl
  have ybase:∀{pn σ' H' s'},Inv Y pn σ' H' s'→Un (frs X.stack) fp (upd H2 s2.heap.objs.size (.lst [])) H' Hd s'.heap∧s'.os=s2.os:=fun{pn σ' H' s'} J=>by
   have u:=J.base
   have o:=J.os
   rw[← hY] at u o
   exact⟨u,o⟩
  have statY:∀{H':Hp},(∀b∈fp,H' b=none)→∀b∈fp,FpOk Y [] H' b:=fun{H'} hn b hb=>by
   rw[← hY]
   refine⟨hn b hb,yZE (yZD (flt2 b hb) (by show s2.heap.objs.size≤Hd.objs.size;omega)),?_,.inl hb,fun x c e=>(f2 b hb).2.2.2.2.1 x c (hcl1 x c e),fun p hp=>absurd (show p∈([]:List (Addr×Obj)) from hp) (by simp)⟩
   intro z
   rcases yYK.mp (I.stkSub b z) with q | q
   ·exact(f2 b hb).2.1 q
   ·exact(f2 b hb).2.2.1 q
  have st₁:tn 0 h₁:=T.keep _ _ _ st fun b hb o e=>keep b o (kD b o e)
  refine codeAny_loop rfl (fun n s'=>∃i ys H',Inv Y [] (stC k js σ) H' s'∧tn i s'.heap∧(∀b∈fp,H' b=none)∧W i n ys H') ?_ m0 ⟨0,[],_,IY,st₁,fun b hb=>(fd b hb).1,w0⟩
  rintro n s3 ⟨i,ys,H3,I3,st3,fr3,w3⟩
  show wpAny _ X.A ((compTurn (.ListComp elt [⟨tg,iter,ifs,0⟩] scope cpos) 0 (.ref it) (.ref s2.heap.objs.size) (compEnvC scope cl Hd.objs.size X.env)).onRaise (fun x=>do noteFrame x (compEnvC scope cl Hd.objs.size X.env);theTreesLotGoes x)) _ _ s3
  refine wpAny_noted ?_
  rw[compTurn_list]
  obtain⟨hDs,tr⟩:=turn i n ys H3 w3
  have hPE:∀{α:Type} {t:Sem α} {R R':α→Shared→Prop} {E':Value→Shared→Prop} {s:Shared},wpAny (model Y.prog Y.w) Y.A t R Y.xe s→(∀a s,R a s→R' a s)→wpAny (model X.prog X.w) X.A t R' E' s:=fun{α t R R' E' s} h hQ=>by
   rw[yprog,yw,yA,yxe] at h
   exact wpAny_mono h hQ fun _ _ z=>z.elim
  rcases tr with⟨stop,qn⟩ | ⟨go,step⟩
  ·refine yYW (wpAny_standAt (yYW ?_))
   have dn:=T.done Y yprog yw yK yc i [] s3 (stC k js σ) H3 (fun _ _=>False) I3 (statY fr3) st3 stop
   rw[yA] at dn
   refine wpAny_mono dn (fun r s4 ⟨hr,I4⟩=>?_) fun _ _ z=>z.elim
   subst hr
   obtain⟨u4,o4⟩:=ybase I4
   refine yYX (fin _ _ H3 s4 ?_ ?_ ?_ qn)
   ·refine I.call' (ch:=fp) o4 ((Un.laid (fun b o e=>kD b o e) (yZC _) hD).trans u4) (by have:=I4.hok;rw[yprog,yw] at this;exact this) I4.bare fun b hb=>?_
    obtain⟨_,q1,q2,q3,q4,q5⟩:=f2 b hb
    exact⟨q3,q1,q4,q5⟩
   ·refine I.fpOk (by show s2.heap.objs.size≤Hd.objs.size;omega) ?_
    have:=I4.free
    rw[yenv] at this
    exact this
   ·obtain⟨m,hn,_⟩:=I4.loc
    rw[yenv] at hn
    exact⟨m,hn⟩
  ·refine yYW (wpAny_standAt (yYW ?_))
   have itm:=T.item Y yprog yw yK yc i [] s3 (stC k js σ) H3 (fun _ _=>False) I3 (statY fr3) st3 go
   rw[yA] at itm
   refine wpAny_mono itm (fun r s4 ⟨u,hr,h4⟩=>?_) fun _ _ z=>z.elim
   subst hr
   refine yYW (wpAny_mono h4 (fun _ s5 ⟨x,H5,I5,r5,y5,st5,fr5⟩=>?_) fun _ _ z=>z.elim)
   have I5':=I5.pinned (statY fr5) (T.obj _ _ st5)
   have as:=hg _ s5 (stC k js σ) H5 x u _ I5' r5 (step x H5 y5)
   rw[yenv] at as
   refine yYW (hPE as fun _ s6 ⟨σ6,H6,I6,⟨ow,eow,e6⟩,q6⟩=>?_)
   have again:∀{H7:Hp} {s7:Shared} {zs:List V},Inv Y ([]++pinsAt fp s5.heap) σ6 H7 s7→(∃m',m'<n∧W (i+1) m' zs H7)→
     ∃m,m<n∧∃i ys H',Inv Y [] (stC k js σ) H' s7∧tn i s7.heap∧(∀b∈fp,H' b=none)∧W i m ys H':=fun{H7 s7 zs} I7 ⟨m',hm,w7⟩=>by
    have J7:Inv Y ([]++pinsAt fp s5.heap) (stC k js σ) H7 s7:=by
     refine I7.weak ?_ fun j v e=>?_
     ·rw[e6]
      show(List.replicate k none++frees js σ).length=_
      rw[yYI,yYI,List.length_replicate,eow]
     ·have e:(List.replicate k (none:Option V)++frees js σ)[j]? = some (some v):=e
      rw[e6]
      by_cases hj:j<k
      ·rw[List.getElem?_append_left (by rw[List.length_replicate];exact hj),List.getElem?_replicate] at e
       split at e <;> cases e
      ·rw[List.getElem?_append_right (by rw[List.length_replicate];omega),List.length_replicate] at e
       rw[List.getElem?_append_right (by omega),eow]
       exact e
    refine⟨m',hm,i+1,zs,H7,J7.unpinned,T.keep _ _ _ st5 fun b hb o e=>(I7.pin (b,o) (yYN _ (yYN _ (jI hb e)))).1,fun b hb=>?_,w7⟩
    obtain⟨o,e,d⟩:=T.obj _ _ st5 b hb
    exact(I7.pin (b,o) (yYN _ (yYN _ (jI hb e)))).2.1
   have tst:=ht _ s6 σ6 H6 _ I6 q6
   rw[yenv] at tst
   refine yYW (hPE tst fun b s7 ⟨H7,I7,q7⟩=>?_)
   cases b with
   | false=>exact yYX ⟨rfl,again I7 q7⟩
   | true=>
    have ev:=he _ s7 σ6 H7 _ I7 q7
    rw[yenv] at ev
    refine yYW (yYW (hPE ev fun v s8 ⟨y,H8,I8,r8,q8,z8,w8⟩=>?_))
    refine yYW (hPE (jO (X:=Y) _ s8 σ6 H8 (.ref s2.heap.objs.size) [y] (.ref s2.heap.objs.size) [v] (fun _ H9=>H9=upd H8 s2.heap.objs.size (.lst (ys++[y]))) I8 rfl (.cons r8 .nil) ⟨_,ys,y,rfl,rfl,q8,z8,rfl⟩) fun _ s9 ⟨_,H9,I9,_,e9⟩=>?_)
    subst e9
    exact yYX (yYX ⟨rfl,again I9 w8⟩)
 exact codeAny_compStart_list (loop _ rfl) (T.self _ 0 _ _ _ (T.keep _ _ _ st fun b hb o e=>keep b o (kD b o e)) (loop _ rfl))

theorem qRo {pins:List (Addr×Obj)}{σ:St}{H:Hp}{s:Shared}(I:Inv X pins σ H s)(C:CompOk X.env.scope X.N scope N k js):∀p∈scope.names,p.2=.free→∃c,X.env.cells.lookup p.1=some c:=
 fun p hp hf=>I.ok.has p.1 (C.free p hp hf)

theorem zT {wi:TI}{sc:Scope}{N0:List Str}(hc:X.calm=true)(C:CompOk sc N0 scope N k js)(hi:PI X tg iter wi)
  (hg:∀cl fp s H,PG (cxC X scope cl N fp s H) tg g) (ht:∀cl fp s H,PTs (cxC X scope cl N fp s H) ifs tt) (he:∀cl fp s H,PE (cxC X scope cl N fp s H) elt te)
  (hs:∀x,foldedSetIterable iter X.env x=pure x:=by intro _;rfl) (hsc:X.env.scope=sc:=by rfl) (hN0:X.N=N0:=by rfl):PE X (.ListComp elt [⟨tg,iter,ifs,0⟩] scope cpos) (tComp k js wi g tt te):=by
 subst hsc hN0
 intro pins s σ H Q I h
 obtain⟨cl,e,h1,h2⟩:=wJ (qRo I C)
 rw[eval_ListComp]
 refine wpAny_comprehension_free (use:=none) rfl hs e C.kind C.names (thn (hi pins s σ H _ I h) fun v s1 q=>thn q fun itv s2 q2=>?_)
 obtain⟨it,fp,tn,J,H2,rfl,I2,T,st,f2,rd⟩:=q2
 refine qCm (RR:=fun acc L=>compPost (model X.prog X.w) X.A X.xe none (EP X pins σ Q) acc L) hc C h1 h2 (hg cl) (ht cl) (he cl) I2 T st f2 rd ?_
 intro D L H' s' I' ⟨f0,f1,_,f3,f4,f5⟩ ⟨m,hn⟩ q
 refine⟨m,hn,fun h' sb=>⟨.ref D,H',?_,rfl,q⟩⟩
 exact I'.turned (t':=s'.toks) (fun b o hb e=>(sb.2 b hb).trans e) f0 f1 f3 f4 f5

theorem kW {wi:TI}{i:Nat}{x:Str}{pos pos':Pos}{sc:Scope}{N0:List Str}(hN:X.N.Nodup)(hi':X.N[i]? = some x)(hx:Loc X.env.scope x)(hc:X.calm=true)(C:CompOk sc N0 scope N k js)(hi:PI X tg iter wi)
  (hg:∀cl fp s H,PG (cxC X scope cl N fp s H) tg g) (ht:∀cl fp s H,PTs (cxC X scope cl N fp s H) ifs tt) (he:∀cl fp s H,PE (cxC X scope cl N fp s H) elt te)
  (hsw:swapsWith (.ListComp elt [⟨tg,iter,ifs,0⟩] scope cpos) (some (.Name x pos')) pos.line X.env=pure true:=by rfl)
  (hs:∀x,foldedSetIterable iter X.env x=pure x:=by intro _;rfl) (hsc:X.env.scope=sc:=by rfl) (hN0:X.N=N0:=by rfl) (hf:X.fn x=true∨X.env.scope.names.lookup x=some .local:=by first | exact .inl rfl | exact .inr rfl | assumption):
  PS X (.Assign [.Name x pos'] (.ListComp elt [⟨tg,iter,ifs,0⟩] scope cpos) pos) (tAsg (tComp k js wi g tt te) (gName i)):=by
 subst hsc hN0
 intro pins s σ H D I h
 obtain⟨cl,e,h1,h2⟩:=wJ (qRo I C)
 rw[exec_Assign_Name_used _ _ _ _ hsw]
 refine yYW (wpAny_standAt (yYW ?_))
 show wpAny _ X.A (do let _ ← comprehension (.ListComp elt [⟨tg,iter,ifs,0⟩] scope cpos) scope X.env _ (newList []) false (eval iter X.env) (some (assign (.Name x pos') X.env))) _ _ s
 refine yYW (wpAny_mono (wpAny_comprehension_free (use:=some (assign (.Name x pos') X.env)) (Q:=fun _ s'=>SP X pins D .next s') rfl hs e C.kind C.names
  (thn (hi pins s σ H _ I h) fun v s1 q=>thn q fun itv s2 q2=>?_)) (fun _ s' hq=>yYX (yYX hq)) fun _ _ z=>z)
 obtain⟨it,fp,tn,J,H2,rfl,I2,T,st,f2,rd⟩:=q2
 refine qCm (RR:=fun acc L=>compPost (model X.prog X.w) X.A X.xe (some (assign (.Name x pos') X.env)) (fun _ s'=>SP X pins D .next s') acc L) hc C h1 h2 (hg cl) (ht cl) (he cl) I2 T st f2 rd ?_
 intro A' L H' s' I' ⟨f0,f1,f2',f3,f4,f5⟩ ⟨m,hn⟩ q
 show wpAny _ X.A (assign (.Name x pos') X.env (.ref A')) _ _ s'
 refine wpAny_assign_Name (qYf (v:=V.ref A') I' hN hi' hx rfl (fun s'' I'' ⟨a,sb,ha⟩=>?_) hf)
 have hLa:L≠a:=by
  rcases ha with rfl | ha
  ·exact f1
  ·exact fun z=>f4 x a ha z.symm
 refine⟨m,hn.sameBut sb hLa,fun h' sb'=>⟨σ.set i (some (.ref A')),H',?_,q⟩⟩
 exact I''.turned (t':=s''.toks) (fun b o hb e=>(sb'.2 b hb).trans e) f0 f1 f3 f4 f5
end

abbrev turnC (k:Nat)(js:List Nat)(g:TG)(tt:TT)(te:TE)(σ:St)(D:Addr)(x:V)(ys:List V)(H:Hp)(N:List V→Hp→Prop):Prop:=
 g x (stC k js σ) H fun σ4 H4=>(∃ow:St,ow.length=k∧σ4=ow++frees js σ)∧
  tt σ4 H4 fun b H5=>if b=true then te σ4 H5 fun y H6=>H6 D=some (.lst ys)∧ys.length<sizeLine∧N (ys++[y]) (upd H6 D (.lst (ys++[y]))) else N ys H5
section
variable {K:yZO}{a:Addr}{xs:List V}{k:Nat}{js:List Nat}{g:TG}{tt:TT}{te:TE}{σ:St}{H1:Hp}{Q:VK}
theorem zJ (Pv:Addr→Nat→List V→Hp→Prop)(h0:∀D,H1 D=none→Pv D 0 [] (upd H1 D (.lst [])))
  (hl:∀D i ys H,i≤xs.length→Pv D i ys H→SqL K H a xs)
  (hs:∀D i x ys H (N:List V→Hp→Prop),H1 D=none→H D=some (.lst ys)→xs[i]? = some x→Pv D i ys H→(∀zs H',H' D=some (.lst zs)→Pv D (i+1) zs H'→N zs H')→turnC k js g tt te σ D x ys H N)
  (hd:∀D ys H,H1 D=none→H D=some (.lst ys)→Pv D xs.length ys H→Q (.ref D) H):rdC k js g tt te (Itl K a) σ H1 Q:=by
 intro D hD
 refine⟨fun i m ys H=>m=xs.length - i∧i≤xs.length∧H D=some (.lst ys)∧Pv D i ys H,⟨xs.length,by simp,yZF _,qW,h0 D hD⟩,?_⟩
 rintro i m ys H ⟨rfl,hi,hDy,p⟩
 refine⟨hDy,?_⟩
 have q:=hl D i ys H hi p
 by_cases hlt:i<xs.length
 ·refine .inr ⟨⟨xs,xs[i],q,by simp[hlt]⟩,fun x H' y=>?_⟩
  obtain⟨e,y⟩:=y
  subst e
  exact hs D i x ys _ (fun zs H'=>∃m',m'<xs.length - i∧m'=xs.length - (i+1)∧i+1≤xs.length∧H' D=some (.lst zs)∧Pv D (i+1) zs H') hD hDy (y xs q) p fun zs H' e p'=>⟨xs.length - (i+1),by omega,rfl,hlt,e,p'⟩
 ·have e:i=xs.length:=by omega
  subst e
  exact .inl ⟨⟨xs,q,yZC _⟩,hd D ys H hD hDy p⟩
theorem qPm (Pv:Addr→Nat→List V→Hp→Prop)(h0:∀D,H1 D=none→Pv D 0 [] (upd H1 D (.lst [])))
  (hl:∀D i ys H,i≤xs.length→Pv D i ys H→SqT K H a xs)
  (hs:∀D i x ys H (N:List V→Hp→Prop),H1 D=none→H D=some (.lst ys)→xs[i]? = some x→Pv D i ys H→(∀zs H',H' D=some (.lst zs)→Pv D (i+1) zs H'→N zs H')→turnC k js g tt te σ D x ys H N)
  (hd:∀D ys H,H1 D=none→H D=some (.lst ys)→Pv D xs.length ys H→Q (.ref D) H):rdC k js g tt te (Itt K a) σ H1 Q:=by
 intro D hD
 refine⟨fun i m ys H=>m=xs.length - i∧i≤xs.length∧H D=some (.lst ys)∧Pv D i ys H,⟨xs.length,by simp,yZF _,qW,h0 D hD⟩,?_⟩
 rintro i m ys H ⟨rfl,hi,hDy,p⟩
 refine⟨hDy,?_⟩
 have q:=hl D i ys H hi p
 by_cases hlt:i<xs.length
 ·refine .inr ⟨⟨xs,xs[i],q,by simp[hlt]⟩,fun x H' y=>?_⟩
  obtain⟨e,y⟩:=y
  subst e
  exact hs D i x ys _ (fun zs H'=>∃m',m'<xs.length - i∧m'=xs.length - (i+1)∧i+1≤xs.length∧H' D=some (.lst zs)∧Pv D (i+1) zs H') hD hDy (y xs q) p fun zs H' e p'=>⟨xs.length - (i+1),by omega,rfl,hlt,e,p'⟩
 ·have e:i=xs.length:=by omega
  subst e
  exact .inl ⟨⟨xs,q,yZC _⟩,hd D ys H hD hDy p⟩
theorem qZv {lo:Int}{n:Nat}(Pv:Addr→Nat→List V→Hp→Prop)(h0:∀D,H1 D=none→Pv D 0 [] (upd H1 D (.lst [])))
  (hs:∀D i ys H (N:List V→Hp→Prop),H1 D=none→H D=some (.lst ys)→i<n→Pv D i ys H→(∀zs H',H' D=some (.lst zs)→Pv D (i+1) zs H'→N zs H')→turnC k js g tt te σ D (.int (lo+i)) ys H N)
  (hd:∀D ys H,H1 D=none→H D=some (.lst ys)→Pv D n ys H→Q (.ref D) H):rdC k js g tt te (Itr lo n) σ H1 Q:=by
 intro D hD
 refine⟨fun i m ys H=>m=n - i∧i≤n∧H D=some (.lst ys)∧Pv D i ys H,⟨n,by simp,yZF _,qW,h0 D hD⟩,?_⟩
 rintro i m ys H ⟨rfl,hi,hDy,p⟩
 refine⟨hDy,?_⟩
 by_cases hlt:i<n
 ·refine .inr ⟨hlt,fun x H' y=>?_⟩
  obtain⟨e,y⟩:=y
  subst e y
  exact hs D i ys _ (fun zs H'=>∃m',m'<n - i∧m'=n - (i+1)∧i+1≤n∧H' D=some (.lst zs)∧Pv D (i+1) zs H') hD hDy hlt p fun zs H' e p'=>⟨n - (i+1),by omega,rfl,hlt,e,p'⟩
 ·have e:i=n:=by omega
  subst e
  exact .inl ⟨yZC _,hd D ys H hD hDy p⟩
end
def qFm (e:Expr):Scope:=match e with
 | .ListComp _ _ s _=>s
 | _=>{ kind:=.function,names:=[],isGenerator:=false,isCoroutine:=false }
def argOf (e:Expr)(i:Nat):Expr:=match e with
 | .Call _ as _ _=>as.getD i (.Constant .none 0 ⟨0,0,0,0⟩)
 | _=>.Constant .none 0 ⟨0,0,0,0⟩
def stAt (l:List Stmt)(i:Nat):Stmt:=l.getD i (.Pass ⟨0,0,0,0⟩)
def asgVal (s:Stmt):Expr:=match s with
 | .Assign _ v _=>v
 | .Return (some v) _=>v
 | _=>.Constant .none 0 ⟨0,0,0,0⟩
end L2

namespace L2
open PySem PySem.Spec PyProof.Rows

theorem log2_lt {n k:Nat}(h:n<2 ^ (k+1)):n.log2≤k:=by
 by_cases h0:n=0
 ·subst h0;simp
 ·exact Nat.lt_succ_iff.mp ((Nat.log2_lt h0).mpr h)
theorem qMd {a:Int}(h:a.natAbs<2 ^ 1000):Builtin.Int.intBits a≤2 ^ 20:=by
 unfold Builtin.Int.intBits
 split
 ·exact yZF _
 ·have:=log2_lt (n:=a.natAbs) (k:=999) h
  have e:(2:Nat) ^ 20=1048576:=by decide
  omega
theorem mulOk {a b:Int}(ha:a.natAbs<2 ^ 1000)(hb:b.natAbs<2 ^ 1000):IntMulOk a b:=IntMulOk.of_bits (qMd ha) (qMd hb)
section
variable {X:Cx}{a b:Expr}{ta tb:TE}{pos:Pos}
theorem qQd:OpR X (binaryOp .Mult) (rI (fun i j=>i.natAbs<2 ^ 1000∧j.natAbs<2 ^ 1000) fun i j=>.int (i * j)):=opI fun _ _ _ _ _ _ _ hc q=>mul_int q (mulOk hc.1 hc.2)
theorem qOx:OpR X (binaryOp .FloorDiv) (rI (fun _ j=>0<j∧j.natAbs<2 ^ 1000) fun i j=>.int (i / j)):=opI fun i j _ _ _ _ _ hc q=>by
 have h0:j≠0:=by have:=hc.1;omega
 have e:i.fdiv j=i / j:=Int.fdiv_eq_ediv_of_nonneg _ (by have:=hc.1;omega)
 refine floordiv_int h0 (by rw[e];exact q) (.inl (PyProof.noPylong_of_log2 ?_))
 have:=log2_lt (n:=j.natAbs) (k:=999) hc.2
 omega

inductive DEq (K:yZO)(H:Hp):Nat→V→V→Prop
 | int {n} (i:Int):DEq K H n (.int i) (.int i)
 | str {n} (x:Str):DEq K H n (.str x) (.str x)
 | bl {n} (b:Bool):DEq K H n (.bl b) (.bl b)
 | non {n}:DEq K H n .non .non
 | same {n} (a:Addr):DEq K H n (.ref a) (.ref a)
 | lst {n} {a b:Addr} {xs ys:List V}:SqL K H a xs→SqL K H b ys→xs.length=ys.length→(∀(j:Nat) x y,xs[j]? = some x→ys[j]? = some y→DEq K H n x y)→DEq K H (n+1) (.ref a) (.ref b)
 | tup {n} {a b:Addr} {xs ys:List V}:SqT K H a xs→SqT K H b ys→xs.length=ys.length→(∀(j:Nat) x y,xs[j]? = some x→ys[j]? = some y→DEq K H n x y)→DEq K H (n+1) (.ref a) (.ref b)
theorem wO (n:Nat):(List.range n).all (fun _=>true)=true:=List.all_eq_true.mpr fun _ _=>rfl
theorem Inv.deq {pins:List (Addr×Obj)}{σ:St}{H:Hp}{s:Shared}(I:Inv X pins σ H s):∀{n:Nat} {x y:V},DEq X.K H n x y→∀{A:Around} {u v:Value},RelV x u→RelV y v→A.units+n<cLine→SeqAt.EqAt A s u v true:=by
 intro n x y d
 induction d with
 | int i=>intro A u v r q _;obtain⟨t,rfl⟩:=r;obtain⟨t',rfl⟩:=q;have:=SeqAt.EqAt.int_int (A:=A) (s:=s) i t i t';rwa [beq_self_eq_true] at this
 | str i=>intro A u v r q _;obtain⟨t,rfl⟩:=r;obtain⟨t',rfl⟩:=q;have:=SeqAt.EqAt.str_str (A:=A) (s:=s) i t i t';rwa [beq_self_eq_true] at this
 | bl i=>intro A u v r q _;cases r;cases q;exact SeqAt.EqAt.same _
 | non=>intro A u v r q _;cases r;cases q;exact SeqAt.EqAt.same _
 | same a=>intro A u v r q _;cases r;cases q;exact SeqAt.EqAt.same _
 | @lst n a b xs ys ha hb hl _ ih=>
  intro A u v r q hu
  cases r;cases q
  obtain⟨its,r1,p1,_⟩:=I.list ha
  obtain⟨its2,r2,p2,_⟩:=I.list hb
  by_cases hab:a=b
  ·subst hab;exact SeqAt.EqAt.same _
  ·refine SeqAt.EqAt.of_refs hab ?_
   have sz:its.toArray.size=its2.toArray.size:=by rw[yYD,yYD,← r1.length,← r2.length,hl]
   have:=SeqAt.RcAt.lists (A:=A) (s:=s) (e:=fun _=>true) p1.isList p2.isList sz (by omega) fun j h1 h2=>?_
   ·rwa [wO] at this
   ·have h1':j<xs.length:=by rw[r1.length];simpa using h1
    have h2':j<ys.length:=by rw[← hl];exact h1'
    obtain⟨u1,e1,q1⟩:=r1.get (yYA h1')
    obtain⟨u2,e2,q2⟩:=r2.get (yYA h2')
    have g1:its.toArray[j]=u1:=by
     have:its[j]? = some its.toArray[j]:=by simp
     exact Option.some.inj (this.symm.trans e1)
    have g2:its2.toArray[j]=u2:=by
     have:its2[j]? = some its2.toArray[j]:=by simp
     exact Option.some.inj (this.symm.trans e2)
    rw[g1,g2]
    exact ih j _ _ (yYA h1') (yYA h2') q1 q2 (by show A.units+1+n<cLine;omega)
 | @tup n a b xs ys ha hb hl _ ih=>
  intro A u v r q hu
  cases r;cases q
  obtain⟨its,r1,p1,_⟩:=I.tuple ha
  obtain⟨its2,r2,p2,_⟩:=I.tuple hb
  by_cases hab:a=b
  ·subst hab;exact SeqAt.EqAt.same _
  ·refine SeqAt.EqAt.of_refs hab ?_
   have sz:its.toArray.size=its2.toArray.size:=by rw[yYD,yYD,← r1.length,← r2.length,hl]
   have:=SeqAt.RcAt.tuples (A:=A) (s:=s) (e:=fun _=>true) (show s.heap.IsTuple a its.toArray from p1) (show s.heap.IsTuple b its2.toArray from p2) (by omega) fun j h1 h2=>?_
   ·rw[wO,sz,beq_self_eq_true] at this
    exact this
   ·have h1':j<xs.length:=by rw[r1.length];simpa using h1
    have h2':j<ys.length:=by rw[← hl];exact h1'
    obtain⟨u1,e1,q1⟩:=r1.get (yYA h1')
    obtain⟨u2,e2,q2⟩:=r2.get (yYA h2')
    have g1:its.toArray[j]=u1:=by
     have:its[j]? = some its.toArray[j]:=by simp
     exact Option.some.inj (this.symm.trans e1)
    have g2:its2.toArray[j]=u2:=by
     have:its2[j]? = some its2.toArray[j]:=by simp
     exact Option.some.inj (this.symm.trans e2)
    rw[g1,g2]
    exact ih j _ _ (yYA h1') (yYA h2') q1 q2 (by show A.units+1+n<cLine;omega)
def rEqL (K:yZO)(k:Bool):R2:=fun x y H Q=>∃n a b xs ys,n≤60∧x=.ref a∧y=.ref b∧SqL K H a xs∧SqL K H b ys∧xs.length=ys.length∧(∀(j:Nat) x y,xs[j]? = some x→ys[j]? = some y→DEq K H n x y)∧Q (.bl k) H
theorem qKi {pins:List (Addr×Obj)}{σ:St}{H:Hp}{s:Shared}(I:Inv X pins σ H s){n:Nat}{xs ys:List V}{its its2:List Value}(r1:Vals xs its)(r2:Vals ys its2)(hl:xs.length=ys.length)
  (hd:∀(j:Nat) x y,xs[j]? = some x→ys[j]? = some y→DEq X.K H n x y) {A:Around} (hu:A.units+n<cLine):∀j (h1:j<its.toArray.size) (h2:j<its2.toArray.size),SeqAt.EqAt A s its.toArray[j] its2.toArray[j] true:=by
 intro j h1 h2
 have h1':j<xs.length:=by rw[r1.length];simpa using h1
 have h2':j<ys.length:=by rw[← hl];exact h1'
 obtain⟨u1,e1,q1⟩:=r1.get (yYA h1')
 obtain⟨u2,e2,q2⟩:=r2.get (yYA h2')
 have g1:its.toArray[j]=u1:=by
  have:its[j]? = some its.toArray[j]:=by simp
  exact Option.some.inj (this.symm.trans e1)
 have g2:its2.toArray[j]=u2:=by
  have:its2[j]? = some its2.toArray[j]:=by simp
  exact Option.some.inj (this.symm.trans e2)
 rw[g1,g2]
 exact I.deq (hd j _ _ (yYA h1') (yYA h2')) q1 q2 hu
theorem qRh (hu:X.A.units+64<cLine):OpR X (compareOp .Eq) (rEqL X.K true):=by
 intro pins s σ H x y v u Q I rx ry h
 obtain⟨n,a,b,xs,ys,hn,rfl,rfl,ha,hb,hl,hd,q⟩:=h
 cases rx;cases ry
 obtain⟨its,r1,p1,_⟩:=I.list ha
 obtain⟨its2,r2,p2,_⟩:=I.list hb
 have sz:its.toArray.size=its2.toArray.size:=by rw[yYD,yYD,← r1.length,← r2.length,hl]
 refine SeqAt.RcAt.lists (e:=fun _=>true) p1.isList p2.isList sz (by omega) (qKi I r1 r2 hl hd (by show X.A.units+1+n<cLine;omega)) _ _ _ _ ?_
 rw[wO]
 exact⟨.bl true,H,I,rfl,q⟩
theorem qRg (hu:X.A.units+64<cLine):OpR X (compareOp .NotEq) (rEqL X.K false):=by
 intro pins s σ H x y v u Q I rx ry h
 obtain⟨n,a,b,xs,ys,hn,rfl,rfl,ha,hb,hl,hd,q⟩:=h
 cases rx;cases ry
 obtain⟨its,r1,p1,_⟩:=I.list ha
 obtain⟨its2,r2,p2,_⟩:=I.list hb
 have sz:its.toArray.size=its2.toArray.size:=by rw[yYD,yYD,← r1.length,← r2.length,hl]
 refine SeqAt.RcNeAt.lists (e:=fun _=>true) p1.isList p2.isList sz (by omega) (qKi I r1 r2 hl hd (by show X.A.units+1+n<cLine;omega)) _ _ _ _ ?_
 rw[wO]
 exact⟨.bl false,H,I,rfl,q⟩
theorem xXf (hu:X.A.units+64<cLine):OpR X (compareOp .NotEq) (fun x y H Q=>∃a b xs,x=.ref a∧y=.ref b∧SqL X.K H a xs∧SqL X.K H b []∧Q (.bl (!xs.isEmpty)) H):=by
 intro pins s σ H x y v u Q I rx ry h
 obtain⟨a,b,xs,rfl,rfl,ha,hb,q⟩:=h
 cases xs with
 | nil=>exact qRg hu pins s σ H _ _ v u Q I rx ry ⟨0,a,b,[],[],by omega,rfl,rfl,ha,hb,rfl,fun j x y e=>by simp at e,q⟩
 | cons z zs=>
  cases rx;cases ry
  obtain⟨its,r1,p1,_⟩:=I.list ha
  obtain⟨its2,r2,p2,_⟩:=I.list hb
  have l1:=r1.length
  have l2:=r2.length
  refine SeqAt.RcNeAt.lists_lengths p1.isList p2.isList ?_ (by omega) _ _ _ _ ⟨.bl true,H,I,rfl,q⟩
  simp only[yYT,yYU] at l1 l2
  rw[bne_iff_ne,yYD,yYD]
  omega
theorem qAw:CallR X (.builtin "isinstance") (fun xs H Q=>∃x T t b,xs=[x,.ty T]∧TyOf X.K H x t∧PySem.W.kitOne X.K t (.type T)=some b∧Q (.bl b) H):=by
 intro pins s σ H xs us Q I r h
 obtain⟨x,T,t,b,rfl,ty,e,q⟩:=h
 obtain⟨u,v,rfl,ru,rv⟩:=vals2 r
 cases rv
 exact qHi I ru ty e fun tk=>⟨.bl b,H,I.tok _,rfl,q⟩
theorem qDg {x:Str}{T:String}{pos:Pos}(hg:Gl X x)(hm:X.mg x=none)(hv:bootBuiltins x=some (.type T))(hn:x ≠ "__name__" := by decide)(hd:(x == ("__debug__" : Str))=false:=by decide):PE X (.Name x pos) (tC (.ty T)):=
 qTv hg hm hv rfl hn hd
end

def But (d:Addr)(H H':Hp):Prop:=∀b o,b≠d→H b=some o→H' b=some o
theorem But.refl {d:Addr}(H:Hp):But d H H:=fun _ _ _ h=>h
theorem But.trans {d:Addr}{H H1 H2:Hp}(a:But d H H1)(b:But d H1 H2):But d H H2:=fun c o n h=>b c o n (a c o n h)
theorem Same.but {d:Addr}{H H':Hp}(s:Same H H'):But d H H':=fun b o _ h=>s b o h
theorem But.upd {d:Addr}{H:Hp}{o:HO}:But d H (upd H d o):=fun b u n h=>by rw[qA n];exact h
theorem qV {H:Hp}{p:Addr}(h:H p=none)(o:HO):Same H (upd H p o):=fun b u q=>by rw[qA (qB q h)];exact q
theorem qYz {α:Type}(x:α)(xs:List α):atI (x::xs) 0=some x:=qAc (xs:=x::xs) (j:=0) rfl
theorem qXw:bootBuiltins "len" = some (.builtin "len"):=by decide +kernel
theorem zD:bootBuiltins "isinstance" = some (.builtin "isinstance"):=by decide +kernel
theorem kU:bootBuiltins "list" = some (.type "list"):=by decide +kernel
theorem wN:bootBuiltins "tuple" = some (.type "tuple"):=by decide +kernel
theorem qMa:bootBuiltins "int" = some (.type "int"):=by decide +kernel
theorem qAa:bootBuiltins "bool" = some (.type "bool"):=by decide +kernel
theorem wY:bootBuiltins "dict" = some (.type "dict"):=by decide +kernel
end L2

namespace PySem
namespace FR
end FR
section
variable {prog:Program}{w:World}{A:Around}{E:Value→Shared→Prop}{s:Shared}
end
end PySem
namespace L2
open PySem PySem.Spec PyProof.Rows
section
variable {X:Cx}{tg:Expr}
end
theorem wZ {α β:Type}{F:α→β→Prop}:∀{a c:List α} {b d:List β},Paired F a b→Paired F c d→Paired F (a++c) (b++d)
 | _,_,_,_,.nil,q=>q
 | _,_,_,_,.cons f p,q=>.cons f (wZ p q)
theorem xK {α β:Type}{F:α→β→Prop}:∀{a:List α} {b:List β} {i:Nat} {x:α} {y:β},Paired F a b→a[i]? = some x→b[i]? = some y→F x y
 | _,_,_,_,_,.nil,e,_=>by simp at e
 | _,_,0,_,_,.cons f _,e1,e2=>by simp at e1 e2;subst e1 e2;exact f
 | _,_,i+1,_,_,.cons _ p,e1,e2=>xK (i:=i) p (by simpa using e1) (by simpa using e2)
end L2

namespace PySem
namespace FD
theorem list_no_keys:typeLookup (.type "list") "keys" = pure none:=by rw[typeLookup_type,builtinLookup_eq_fast];kernel_rfl
theorem zip_no_keys:typeLookup (.type "zip") "keys" = pure none:=by rw[typeLookup_type,builtinLookup_eq_fast];kernel_rfl
theorem zip_no_getattr:typeLookup (.type "zip") "__getattr__" = pure none:=by rw[typeLookup_type,builtinLookup_eq_fast];kernel_rfl
theorem entry_zip_ga:entryFor table "zip.__getattribute__" = some Builtin.«object.__getattribute__»:=
 entryFor_alias (id' := "object.__getattribute__") (by kernel_rfl) (by decide +kernel) (by decide +kernel) (by kernel_rfl)
theorem keys_len:("keys" : Str).length+100≤sizeLine:=by decide +kernel
theorem keys_name:(["__module__","__name__","__qualname__","__doc__","__annotations__"]:List Str).contains "keys" = false:=by decide +kernel
end FD
theorem qWn (z:Addr)(vs:Array Value)(u:Tok):
  Meets (Builtin.«object.__getattribute__» ⟨[.ref z,.str "keys" u],[]⟩) (fun A R s=>s.heap.get? z=some { cls:=.type "zip",dict:=none,data:=.fields vs,slots:=#[] }∧raisesAttr (.ref z) "keys" A R s):=
 Meets.of_wp fun prog w A R s hs=>by
  obtain⟨hp,g,d,tk,os⟩:=s
  obtain⟨hx,hs⟩:=hs
  have hT:(⟨hp,g,d,tk,os⟩:Shared).TypeIs (.ref z) "zip" := ⟨_,hx,rfl⟩
  have f1:=FD.zip_no_keys
  unfold Builtin.«object.__getattribute__»
  repeat (any_goals (first | assumption | wp_step))
  try (simp only[FD.keys_name,yZJ,if_false];repeat (any_goals (first | assumption | wp_step)))
  exact wpAny_raiseAttrError hs.1 hs.2 (attrMsg_fits (by decide +kernel) FD.keys_len)
section
variable {prog:Program}{w:World}{A:Around}{E:Value→Shared→Prop}{s:Shared}
theorem qJe {z:Addr}{vs:Array Value}{Q:Option Value→Shared→Prop}(hx:s.heap.get? z=some { cls:=.type "zip",dict:=none,data:=.fields vs,slots:=#[] })(hA:A.handled=none)
  (h:∀h' tk,(∀b o,s.heap.get? b=some o→h'.get? b=some o)→Q none { s with heap:=h',toks:=tk }):wpAny (model prog w) A (getAttr? (.ref z) "keys") Q E s:=by
 obtain⟨hp,g,d,tk,os⟩:=s
 have hT:∀tk',(⟨hp,g,d,tk',os⟩:Shared).TypeIs (.ref z) "zip" := fun _=>⟨_,hx,rfl⟩
 have f1:=sub_AttributeError
 have f3:=F.slot_zip_getattribute.lookup
 have f4:=F.slot_zip_getattribute.bind (.ref z)
 have f5:=FD.zip_no_getattr
 unfold getAttr? getAttrBy? getAttrBy
 repeat (any_goals (first | assumption | exact hT _ | ((with_reducible show wpAny _ _ (call (Value.builtin "zip.__getattribute__") _ _) _ _ _);refine call_meets F.slot_zip_getattribute (hT _) FD.entry_zip_ga (F.args_zip_getattribute_2 _ _) (qWn z vs _) ⟨hx,hA,fun h' tk' e hx'=>?_⟩) | wp_step))
 obtain⟨t',u',he⟩:=hx'.there
 show wpAny _ _ (getattributeRaised _ _ _ _ _ _ _) _ _ _
 unfold getattributeRaised
 repeat (any_goals (first | assumption | wp_step))
 exact h _ _ hx'.keeps
theorem qXg {a:Addr}{xs:Array Value}{k:Nat}{Q:Option Value→Shared→Prop}(hx:s.heap.get? a=some { cls:=.type "list",data:=.seq xs k })(hA:A.handled=none)
  (h:∀h' tk,(∀b o,s.heap.get? b=some o→h'.get? b=some o)→Q none { s with heap:=h',toks:=tk }):wpAny (model prog w) A (getAttr? (.ref a) "keys") Q E s:=by
 obtain⟨hp,g,d,tk,os⟩:=s
 have hT:∀tk',(⟨hp,g,d,tk',os⟩:Shared).TypeIs (.ref a) "list" := fun _=>⟨_,hx,rfl⟩
 have f1:=sub_AttributeError
 have f3:=F.slot_list_getattribute.lookup
 have f4:=F.slot_list_getattribute.bind (.ref a)
 have f5:=am_list_getattr_none
 unfold getAttr? getAttrBy? getAttrBy
 repeat (any_goals (first | assumption | exact hT _ | ((with_reducible show wpAny _ _ (call (Value.builtin "list.__getattribute__") _ _) _ _ _);refine call_meets F.slot_list_getattribute (hT _) am_entry_list_getattribute (F.args_list_getattribute_2 _ _) (meets_getattribute_miss_list a xs k #[] _ _ FD.list_no_keys FD.keys_name FD.keys_len) ⟨hx,hA,fun h' tk' e hx'=>?_⟩) | wp_step))
 obtain⟨t',u',he⟩:=hx'.there
 show wpAny _ _ (getattributeRaised _ _ _ _ _ _ _) _ _ _
 unfold getattributeRaised
 repeat (any_goals (first | assumption | wp_step))
 exact h _ _ hx'.keeps

theorem wW {it t:Addr}{i:Nat}{items:Array Value}{x:Value}{Q:Value→Shared→Prop}(hit:s.heap.IsTupleIter it t i)(ht:s.heap.IsTuple t items)(hx:items[i]? = some x)
  (hQ:∀h',h'.IsTupleIter it t (i+1)→Heap.SameBut it s.heap h'→Q x { s with heap:=h' }):wpAny (model prog w) A (Builtin.SmallTypes.nextOf (.ref it)) Q E s:=by
 obtain⟨o,ho,hc,hd⟩:=id hit
 obtain⟨ol,hol,_,nl,hdl⟩:=ht
 unfold Builtin.SmallTypes.nextOf
 refine yYW (wpAny_callSpecial?_slot (name:=Str.ofString "__next__") hit.typeIs F.slot_tuple_iterator_next (wpAny_call_entry F.slot_tuple_iterator_next hit.typeIs F.entry_tuple_iterator_next ?_ (F.args_tuple_iterator_next_1 _)))
 refine yYW (m:=field (.ref it) 0) (wpAny_field ho hd (x:=.ref t) rfl ?_)
 show wpAny _ _ (if (Value.ref t == Value.none)=true then _ else _) _ _ s;rw[if_neg (show¬((Value.ref t == Value.none)=true) from yZK)]
 refine yYW (m:=field (.ref it) 1) (wpAny_field ho hd (x:=.int i 0) rfl ?_)
 refine yYW (m:=seqItems? (.ref t)) (wpAny_seqItems hol hdl ?_)
 simp only[Int.toNat_natCast,hx]
 refine yYW (wpAny_setField ho hd (by simp) (yYX ⟨x,rfl,yYX (hQ _ ?_ (Heap.SameBut.update ..))⟩))
 exact⟨_,Heap.get?_update_self _ ho (Obj.isFreed_of_fields (Obj.data_mapFields hd _)),(Obj.cls_mapFields ..).trans hc,by rw[Obj.data_mapFields hd];simp[rawInt]⟩

abbrev ZipAt (h:Heap)(z TI TO:Addr)(f0 f1:Value):Prop:=h.get? z=some { cls:=.type "zip",dict:=none,data:=.fields #[f0,f1,.bool false,.ref TI,.ref TO],slots:=#[] }
abbrev zH1 (h:Heap)(l:Addr):Heap:=h.push { cls:=.type "list_iterator",data:=.fields #[.ref l,.int 0 0] }
abbrev zH2 (h:Heap)(l t:Addr):Heap:=(zH1 h l).push { cls:=.type "tuple_iterator",data:=.fields #[.ref t,.int 0 0] }
abbrev zH3 (h:Heap)(l t:Addr):Heap:=(zH2 h l t).push { cls:=.type "tuple",data:=.seq #[.ref h.objs.size,.ref (zH1 h l).objs.size] }
abbrev zH4 (h:Heap)(l t:Addr):Heap:=(zH3 h l t).push { cls:=.type "tuple",data:=.seq #[.none,.none] }
abbrev zH5 (h:Heap)(l t:Addr):Heap:=(zH4 h l t).push { cls:=.type "zip",data:=.fields #[.none,.bool false,.bool false,.ref (zH2 h l t).objs.size,.ref (zH3 h l t).objs.size] }
theorem qKg (l t:Addr)(xs ys:Array Value):
  Meets (Builtin.«zip.__new__» ⟨[.type "zip",.ref l,.ref t],[]⟩) (fun _ R s=>s.heap.IsList l xs∧s.heap.IsTuple t ys∧R (.ok (.ret (.ref (zH4 s.heap l t).objs.size))) { s with heap:=zH5 s.heap l t }):=
 .of_wp fun prog w A R s h=>by
  obtain⟨hp,g,d,tk,os⟩:=s;obtain⟨hl,ht,h⟩:=h
  have hsub:=sub_zip
  have hL1:Heap.IsList (Shared.heap ⟨hp,g,d,tk,os⟩) l xs:=hl
  have hL2:Heap.IsTuple (Shared.heap ⟨hp.push { cls:=.type "list_iterator",data:=.fields #[.ref l,.int 0 0] },g,d,tk,os⟩) t ys:=by
   obtain⟨o,ho,r⟩:=ht
   exact⟨o,yYY _ ho,r⟩
  wp_walk using wpAny_pyIter_list hL1,wpAny_pyIter_tuple hL2
  exact⟨_,rfl,h⟩
structure ZipSt (h:Heap)(z TI TO i1 i2 l t:Addr)(k:Nat):Prop where
 zip:ZipAt h z TI TO .none (.bool false)∨∃(T:Addr) (f:Bool),ZipAt h z TI TO (rawInt T) (.bool f)∧(∃o,h.get? T=some o)∧T≠z∧T≠TO∧T≠i1∧T≠i2
 its:IsPair h TI (.ref i1) (.ref i2)
 own:∃a b,IsPair h TO a b
 one:h.IsListIter i1 l k
 two:h.IsTupleIter i2 t k
structure ZApart (z TI TO i1 i2:Addr):Prop where
 TIz:TI≠z
 TOz:TO≠z
 i1z:i1≠z
 i2z:i2≠z
 TITO:TI≠TO
 TIi1:TI≠i1
 TIi2:TI≠i2
 TOi1:TO≠i1
 TOi2:TO≠i2
 i12:i1≠i2
theorem qAv {l t:Addr}{xs ys:Array Value}{Q:Value→Shared→Prop}(hl:s.heap.IsList l xs)(ht:s.heap.IsTuple t ys)
  (h:∀h' z TI TO i1 i2,ZApart z TI TO i1 i2→ZipSt h' z TI TO i1 i2 l t 0→s.heap.objs.size≤z→s.heap.objs.size≤TI→s.heap.objs.size≤TO→s.heap.objs.size≤i1→s.heap.objs.size≤i2→
   (∀c o,s.heap.get? c=some o→h'.get? c=some o)→Q (.ref z) { s with heap:=h' }):
  wpAny (model prog w) A (call (.type "zip") [.ref l,.ref t]) Q E s:=by
 refine callType_new F.called_zip (by decide) (F.typeCall_zip_2 _ _) (F.newCall_zip_2 _ _) (fun obj=>F.args_object_init_3 obj _ _) F.entry_zip_new (qKg l t xs ys) ⟨hl,ht,?_⟩
 have z1:(zH1 s.heap l).objs.size=s.heap.objs.size+1:=yZB ..
 have z2:(zH2 s.heap l t).objs.size=s.heap.objs.size+2:=by rw[yZB,z1]
 have z3:(zH3 s.heap l t).objs.size=s.heap.objs.size+3:=by rw[yZB,z2]
 have z4:(zH4 s.heap l t).objs.size=s.heap.objs.size+4:=by rw[yZB,z3]
 have g5:(zH5 s.heap l t).get? (zH4 s.heap l t).objs.size=some _:=yZA _ rfl
 have g4:(zH5 s.heap l t).get? (zH3 s.heap l t).objs.size=some _:=yYY _ (yZA _ rfl)
 have g3:(zH5 s.heap l t).get? (zH2 s.heap l t).objs.size=some _:=yYY _ (yYY _ (yZA _ rfl))
 have g2:(zH5 s.heap l t).get? (zH1 s.heap l).objs.size=some _:=yYY _ (yYY _ (yYY _ (yZA _ rfl)))
 have g1:(zH5 s.heap l t).get? s.heap.objs.size=some _:=yYY _ (yYY _ (yYY _ (yYY _ (yZA _ rfl))))
 refine⟨⟨_,g5,rfl⟩,h _ _ (zH2 s.heap l t).objs.size (zH3 s.heap l t).objs.size s.heap.objs.size (zH1 s.heap l).objs.size ?_ ⟨.inl g5,g3,⟨_,_,g4⟩,⟨_,g1,rfl,rfl⟩,⟨_,g2,rfl,rfl⟩⟩ (by omega) (by omega) (by omega) (yZC _) (by omega) ?_⟩
 ·constructor <;> (intro e;have e':@Eq Nat _ _:=e;omega)
 ·exact fun c o e=>yYY _ (yYY _ (yYY _ (yYY _ (yYY _ e))))
end
end PySem

namespace PySem
section
variable {prog:Program}{w:World}{A:Around}{E:Value→Shared→Prop}{s:Shared}
theorem qZe {z TI TO i1 i2 l t:Addr}{k:Nat}{xs ys:Array Value}{x y:Value}{Q:Value→Shared→Prop}(D:ZApart z TI TO i1 i2)(S:ZipSt s.heap z TI TO i1 i2 l t k)
  (hl:s.heap.IsList l xs) (ht:s.heap.IsTuple t ys) (nl:l≠z∧l≠TO∧l≠i1∧l≠i2) (nt:t≠z∧t≠TO∧t≠i1∧t≠i2) (hx:xs[k]? = some x) (hy:ys[k]? = some y)
  (hQ:∀h' T,ZipSt h' z TI TO i1 i2 l t (k+1)→IsPair h' T x y→(∀c o,c≠z→c≠TO→c≠i1→c≠i2→s.heap.get? c=some o→h'.get? c=some o)→Q (.ref T) { s with heap:=h' }):
  wpAny (model prog w) A (Builtin.«zip.__next__» ⟨[.ref z],[]⟩) (fun fin s'=>∃v,fin=.done (.ret v)∧Q v s') E s:=by
 obtain⟨hz,hTI,⟨a,b,hTO⟩,h1,h2⟩:=S
 rcases hz with hz | ⟨T,f,hz,⟨oT,hT⟩,n1,n2,n3,n4⟩
 ·refine yYW (m:=field (.ref z) 2) (wpAny_field hz rfl (x:=.bool false) rfl ?_)
  refine yYW (m:=field (.ref z) 3) (wpAny_field hz rfl (x:=.ref TI) rfl ?_)
  refine yYW (wpAny_seqItems hTI rfl ?_)
  refine yYW (m:=Builtin.SmallTypes.ownedTupleIsFree (.ref z)) ?_
  unfold Builtin.SmallTypes.ownedTupleIsFree
  refine yYW (wpAny_field hz rfl (x:=.none) rfl (yYX ?_))
  simp only[if_true]
  refine yYW (wpAny_rule (yYW (wpAny_field hz rfl (x:=.ref TO) rfl (yYW (wpAny_setField_rec hz (by simp) fun h₁ hz₁ hs₁=>?_)))))
  replace hz₁:ZipAt h₁ z TI TO .ellipsis (.bool false):=hz₁
  refine yYW ?_
  simp only[List.zipIdx_cons,List.zipIdx_nil,List.forIn_cons,List.forIn_nil]
  refine yYW (yYW (wpAny_onRaise ?_))
  refine yYW (m:=Builtin.SmallTypes.nextOf (.ref i1)) (wpAny_nextOf_list_item (h1.extBut hs₁.extBut D.i1z) (hl.extBut hs₁.extBut nl.1) hx fun h₂ h1₂ hs₂=>yYX ?_)
  have hTO₂:IsPair h₂ TO a b:=hs₂.extBut _ _ D.TOi1 (hs₁.extBut _ _ D.TOz hTO)
  refine yYW (wpAny_seqItems hTO₂ rfl (yYW (wpAny_updateSeq_pair hTO₂ fun h₃ hTO₃ hs₃=>?_)))
  replace hTO₃:IsPair h₃ TO x b:=hTO₃
  refine yYW (wpAny_letGo (yYX ?_))
  refine yYW (yYW (wpAny_onRaise ?_))
  have ht₃:h₃.IsTuple t ys:=by
   obtain⟨o,ho,r⟩:=ht
   exact⟨o,hs₃.extBut _ _ nt.2.1 (hs₂.extBut _ _ nt.2.2.1 (hs₁.extBut _ _ nt.1 ho)),r⟩
  have h2₃:h₃.IsTupleIter i2 t k:=h2.at fun o e=>hs₃.extBut _ _ (Ne.symm D.TOi2) (hs₂.extBut _ _ (Ne.symm D.i12) (hs₁.extBut _ _ D.i2z e))
  refine yYW (m:=Builtin.SmallTypes.nextOf (.ref i2)) (wW h2₃ ht₃ hy fun h₄ h2₄ hs₄=>yYX ?_)
  have hTO₄:IsPair h₄ TO x b:=hs₄.extBut _ _ D.TOi2 hTO₃
  refine yYW (wpAny_seqItems hTO₄ rfl (yYW (wpAny_updateSeq_pair hTO₄ fun h₅ hTO₅ hs₅=>?_)))
  replace hTO₅:IsPair h₅ TO x y:=hTO₅
  refine yYW (wpAny_letGo (yYX (yYX (yYW (wpAny_seqItems hTO₅ rfl (yYW (wpAny_newTuple ?_)))))))
  have hz₅:ZipAt h₅ z TI TO .ellipsis (.bool false):=hs₅.extBut _ _ D.TOz.symm (hs₄.extBut _ _ D.i2z.symm (hs₃.extBut _ _ D.TOz.symm (hs₂.extBut _ _ D.i1z.symm hz₁)))
  have hk₅:∀c o,c≠z→c≠TO→c≠i1→c≠i2→s.heap.get? c=some o→h₅.get? c=some o:=fun c o c1 c2 c3 c4 e=>hs₅.extBut _ _ c2 (hs₄.extBut _ _ c4 (hs₃.extBut _ _ c2 (hs₂.extBut _ _ c3 (hs₁.extBut _ _ c1 e))))
  have h1₅:h₅.IsListIter i1 l (k+1):=h1₂.at fun o e=>hs₅.extBut _ _ (Ne.symm D.TOi1) (hs₄.extBut _ _ D.i12 (hs₃.extBut _ _ (Ne.symm D.TOi1) e))
  have h2₅:h₅.IsTupleIter i2 t (k+1):=h2₄.at fun o e=>hs₅.extBut _ _ (Ne.symm D.TOi2) e
  refine yYW (m:=Builtin.SmallTypes.ownedTupleHandOut (.ref z) (.ref h₅.objs.size)) ?_
  unfold Builtin.SmallTypes.ownedTupleHandOut
  have hz₆:ZipAt (h₅.push { cls:=.type "tuple",data:=.seq #[x,y] }) z TI TO .ellipsis (.bool false):=yYY _ hz₅
  refine yYW (wpAny_setField_rec hz₆ (by simp) fun h₇ hz₇ hs₇=>?_)
  replace hz₇:ZipAt h₇ z TI TO (rawInt h₅.objs.size) (.bool false):=hz₇
  refine wpAny_setField_rec hz₇ (by simp) fun h₈ hz₈ hs₈=>?_
  replace hz₈:ZipAt h₈ z TI TO (rawInt h₅.objs.size) (.bool false):=hz₈
  have up:∀c o,c≠z→h₅.get? c=some o→h₈.get? c=some o:=fun c o c1 e=>hs₈.extBut _ _ c1 (hs₇.extBut _ _ c1 (yYY _ e))
  have hzlt:z<h₅.objs.size:=yYZ hz₅
  have hT₈:IsPair h₈ h₅.objs.size x y:=hs₈.extBut _ _ (yZG hzlt) (hs₇.extBut _ _ (yZG hzlt) (yZA _ rfl))
  have lt1:i1<h₅.objs.size:=by obtain⟨_,e,_⟩:=h1₅;exact yYZ e
  have lt2:i2<h₅.objs.size:=by obtain⟨_,e,_⟩:=h2₅;exact yYZ e
  refine yYX ⟨_,rfl,hQ h₈ _ ⟨.inr ⟨_,_,hz₈,⟨_,hT₈⟩,yZG hzlt,yZG (yYZ hTO₅),yZG lt1,yZG lt2⟩,up _ _ D.TIz (hk₅ _ _ D.TIz D.TITO D.TIi1 D.TIi2 hTI),⟨_,_,up _ _ D.TOz hTO₅⟩,h1₅.at fun o e=>up _ o D.i1z e,h2₅.at fun o e=>up _ o D.i2z e⟩ hT₈ fun c o c1 c2 c3 c4 e=>up c o c1 (hk₅ c o c1 c2 c3 c4 e)⟩
 ·refine yYW (m:=field (.ref z) 2) (wpAny_field hz rfl (x:=.bool false) rfl ?_)
  refine yYW (m:=field (.ref z) 3) (wpAny_field hz rfl (x:=.ref TI) rfl ?_)
  refine yYW (wpAny_seqItems hTI rfl ?_)
  refine yYW (m:=Builtin.SmallTypes.ownedTupleIsFree (.ref z)) ?_
  have step:∀{α:Type} (N:Bool→Sem α) (QQ:α→Shared→Prop),(∀h₁,ZipAt h₁ z TI TO (rawInt T) (.bool true)→Heap.SameBut z s.heap h₁→wpAny (model prog w) A (N false) QQ E { s with heap:=h₁ })→
    wpAny (model prog w) A (Builtin.SmallTypes.ownedTupleIsFree (.ref z)) (fun b s'=>wpAny (model prog w) A (N b) QQ E s') E s:=fun N QQ hN=>by
   unfold Builtin.SmallTypes.ownedTupleIsFree
   refine yYW (wpAny_field hz rfl (x:=rawInt T) rfl ?_)
   show wpAny _ _ (loadIfAlive ((T:Int).toNat) >>= _) _ _ _
   rw[Int.toNat_natCast]
   refine yYW (W.kdx_alive hT ?_)
   simp only[Option.isNone_some,yZJ,if_false]
   refine yYW (wpAny_field hz rfl (x:=.bool f) rfl ?_)
   cases f with
   | true=>rw[if_neg (show¬((Value.bool true != Value.bool true)=true) from yZK)];exact yYX (hN _ hz (.refl ..))
   | false=>rw[if_pos (show(Value.bool false != Value.bool true)=true from rfl)];exact yYW (wpAny_setField_rec hz (by simp) fun h₁ hz₁ hs₁=>yYX (hN h₁ hz₁ hs₁))
  refine step _ _ fun h₁ hz₁ hs₁=>?_
  simp only[yZJ,if_false]
  refine yYW ?_
  rw[← Array.forIn_toList]
  simp only[List.forIn_cons,List.forIn_nil]
  refine yYW (yYW (wpAny_holding ?_))
  refine yYW (m:=Builtin.SmallTypes.nextOf (.ref i1)) (wpAny_nextOf_list_item (h1.extBut hs₁.extBut D.i1z) (hl.extBut hs₁.extBut nl.1) hx fun h₂ h1₂ hs₂=>yYX (yYX ?_))
  refine yYW (yYW (wpAny_holding ?_))
  have ht₂:h₂.IsTuple t ys:=by
   obtain⟨o,ho,r⟩:=ht
   exact⟨o,hs₂.extBut _ _ nt.2.2.1 (hs₁.extBut _ _ nt.1 ho),r⟩
  have h2₂:h₂.IsTupleIter i2 t k:=h2.at fun o e=>hs₂.extBut _ _ (Ne.symm D.i12) (hs₁.extBut _ _ D.i2z e)
  refine yYW (m:=Builtin.SmallTypes.nextOf (.ref i2)) (wW h2₂ ht₂ hy fun h₃ h2₃ hs₃=>yYX (yYX (yYX ?_)))
  refine yYW (wpAny_newTuple ?_ (show 2≤sizeLine by decide))
  have k₃:∀c o,c≠z→c≠i1→c≠i2→s.heap.get? c=some o→h₃.get? c=some o:=fun c o c1 c2 c3 e=>hs₃.extBut _ _ c3 (hs₂.extBut _ _ c2 (hs₁.extBut _ _ c1 e))
  have hz₃:ZipAt h₃ z TI TO (rawInt T) (.bool true):=hs₃.extBut _ _ (Ne.symm D.i2z) (hs₂.extBut _ _ (Ne.symm D.i1z) hz₁)
  refine yYX ⟨_,rfl,hQ _ _ ⟨.inr ⟨T,true,yYY _ hz₃,⟨_,yYY _ (k₃ _ _ n1 n3 n4 hT)⟩,n1,n2,n3,n4⟩,yYY _ (k₃ _ _ D.TIz D.TIi1 D.TIi2 hTI),⟨_,_,yYY _ (k₃ _ _ D.TOz D.TOi1 D.TOi2 hTO)⟩,h1₂.at fun o e=>yYY _ (hs₃.extBut _ _ D.i12 e),h2₃.at fun o e=>yYY _ e⟩ (yZA _ rfl) fun c o c1 _ c3 c4 e=>yYY _ (k₃ c o c1 c3 c4 e)⟩
theorem qZd {z TI TO i1 i2 l t:Addr}{k:Nat}{xs:Array Value}{Q:Fin→Shared→Prop}(hh:A.handled=none)(D:ZApart z TI TO i1 i2)(S:ZipSt s.heap z TI TO i1 i2 l t k)
  (hl:s.heap.IsList l xs) (nl:l≠z∧l≠TO∧l≠i1∧l≠i2) (hx:xs[k]? = none)
  (hE:∀h' e,(∀c o,c≠z→c≠TO→c≠i1→c≠i2→s.heap.get? c=some o→h'.get? c=some o)→(∃o,h'.get? e=some o∧o.cls=.type "StopIteration")→E (.ref e) { s with heap:=h' }):
  wpAny (model prog w) A (Builtin.«zip.__next__» ⟨[.ref z],[]⟩) Q E s:=by
 obtain⟨hz,hTI,⟨a,b,hTO⟩,h1,h2⟩:=S
 rcases hz with hz | ⟨T,f,hz,⟨oT,hT⟩,n1,n2,n3,n4⟩
 ·refine yYW (m:=field (.ref z) 2) (wpAny_field hz rfl (x:=.bool false) rfl ?_)
  refine yYW (m:=field (.ref z) 3) (wpAny_field hz rfl (x:=.ref TI) rfl ?_)
  refine yYW (wpAny_seqItems hTI rfl ?_)
  refine yYW (m:=Builtin.SmallTypes.ownedTupleIsFree (.ref z)) ?_
  unfold Builtin.SmallTypes.ownedTupleIsFree
  refine yYW (wpAny_field hz rfl (x:=.none) rfl (yYX ?_))
  simp only[if_true]
  refine yYW (wpAny_rule (yYW (wpAny_field hz rfl (x:=.ref TO) rfl (yYW (wpAny_setField_rec hz (by simp) fun h₁ hz₁ hs₁=>?_)))))
  replace hz₁:ZipAt h₁ z TI TO .ellipsis (.bool false):=hz₁
  refine yYW ?_
  simp only[List.zipIdx_cons,List.zipIdx_nil,List.forIn_cons,List.forIn_nil]
  refine yYW (yYW (wpAny_onRaise ?_))
  refine yYW (m:=Builtin.SmallTypes.nextOf (.ref i1)) (wpAny_nextOf_list_end hh (h1.extBut hs₁.extBut D.i1z) (hl.extBut hs₁.extBut nl.1) hx fun h₂ e hs₂ he=>?_)
  obtain⟨oe,hoe,hce⟩:=he
  have hz₂:ZipAt h₂ z TI TO .ellipsis (.bool false):=hs₂ _ _ D.i1z.symm hz₁
  have hez:e≠z:=fun x=>by subst x;rw[hz₂] at hoe;cases hoe;simp at hce
  exact wpAny_setField_rec hz₂ (by simp) fun h₃ _ hs₃=>hE h₃ e (fun c o c1 _ c3 _ x=>hs₃.extBut _ _ c1 (hs₂ _ _ c3 (hs₁.extBut _ _ c1 x))) ⟨oe,hs₃.extBut _ _ hez hoe,hce⟩
 ·refine yYW (m:=field (.ref z) 2) (wpAny_field hz rfl (x:=.bool false) rfl ?_)
  refine yYW (m:=field (.ref z) 3) (wpAny_field hz rfl (x:=.ref TI) rfl ?_)
  refine yYW (wpAny_seqItems hTI rfl ?_)
  refine yYW (m:=Builtin.SmallTypes.ownedTupleIsFree (.ref z)) ?_
  have step:∀{α:Type} (N:Bool→Sem α) (QQ:α→Shared→Prop),(∀h₁,ZipAt h₁ z TI TO (rawInt T) (.bool true)→Heap.SameBut z s.heap h₁→wpAny (model prog w) A (N false) QQ E { s with heap:=h₁ })→
    wpAny (model prog w) A (Builtin.SmallTypes.ownedTupleIsFree (.ref z)) (fun b s'=>wpAny (model prog w) A (N b) QQ E s') E s:=fun N QQ hN=>by
   unfold Builtin.SmallTypes.ownedTupleIsFree
   refine yYW (wpAny_field hz rfl (x:=rawInt T) rfl ?_)
   show wpAny _ _ (loadIfAlive ((T:Int).toNat) >>= _) _ _ _
   rw[Int.toNat_natCast]
   refine yYW (W.kdx_alive hT ?_)
   simp only[Option.isNone_some,yZJ,if_false]
   refine yYW (wpAny_field hz rfl (x:=.bool f) rfl ?_)
   cases f with
   | true=>rw[if_neg (show¬((Value.bool true != Value.bool true)=true) from yZK)];exact yYX (hN _ hz (.refl ..))
   | false=>rw[if_pos (show(Value.bool false != Value.bool true)=true from rfl)];exact yYW (wpAny_setField_rec hz (by simp) fun h₁ hz₁ hs₁=>yYX (hN h₁ hz₁ hs₁))
  refine step _ _ fun h₁ hz₁ hs₁=>?_
  simp only[yZJ,if_false]
  refine yYW ?_
  rw[← Array.forIn_toList]
  simp only[List.forIn_cons,List.forIn_nil]
  refine yYW (yYW (wpAny_holding ?_))
  refine yYW (m:=Builtin.SmallTypes.nextOf (.ref i1)) (wpAny_nextOf_list_end hh (h1.extBut hs₁.extBut D.i1z) (hl.extBut hs₁.extBut nl.1) hx fun h₂ e hs₂ he=>hE h₂ e (fun c o c1 _ c3 _ x=>hs₂ _ _ c3 (hs₁.extBut _ _ c1 x)) he)
theorem qDd {z TI TO i1 i2 l t:Addr}{k:Nat}{xs ys:Array Value}{x y:Value}{Q:Option Value→Shared→Prop}(D:ZApart z TI TO i1 i2)(S:ZipSt s.heap z TI TO i1 i2 l t k)
  (hl:s.heap.IsList l xs) (ht:s.heap.IsTuple t ys) (nl:l≠z∧l≠TO∧l≠i1∧l≠i2) (nt:t≠z∧t≠TO∧t≠i1∧t≠i2) (hx:xs[k]? = some x) (hy:ys[k]? = some y)
  (hQ:∀h' T,ZipSt h' z TI TO i1 i2 l t (k+1)→IsPair h' T x y→(∀c o,c≠z→c≠TO→c≠i1→c≠i2→s.heap.get? c=some o→h'.get? c=some o)→Q (some (.ref T)) { s with heap:=h' }):
  wpAny (model prog w) A (pyNext (.ref z)) Q E s:=by
 have hT:s.TypeIs (.ref z) "zip" := by
  rcases S.zip with h | ⟨_,_,h,_⟩ <;> exact⟨_,h,rfl⟩
 unfold pyNext
 exact yYW (wpAny_attempt (wpAny_callSpecial?_slot (name:=Str.ofString "__next__") hT F.slot_zip_next (wpAny_call_entry F.slot_zip_next hT F.entry_zip_next
   (qZe D S hl ht nl nt hx hy fun h' T a1 a2 a3=>yYX (hQ h' T a1 a2 a3)) (F.args_zip_next_1 _))))
theorem qQv {z TI TO i1 i2 l t:Addr}{k:Nat}{xs:Array Value}{Q:Option Value→Shared→Prop}(hh:A.handled=none)(D:ZApart z TI TO i1 i2)(S:ZipSt s.heap z TI TO i1 i2 l t k)
  (hl:s.heap.IsList l xs) (nl:l≠z∧l≠TO∧l≠i1∧l≠i2) (hx:xs[k]? = none)
  (hQ:∀h',(∀c o,c≠z→c≠TO→c≠i1→c≠i2→s.heap.get? c=some o→h'.get? c=some o)→Q none { s with heap:=h' }):wpAny (model prog w) A (pyNext (.ref z)) Q E s:=by
 have hT:s.TypeIs (.ref z) "zip" := by
  rcases S.zip with h | ⟨_,_,h,_⟩ <;> exact⟨_,h,rfl⟩
 unfold pyNext
 refine yYW (wpAny_attempt (wpAny_callSpecial?_slot (name:=Str.ofString "__next__") hT F.slot_zip_next (wpAny_call_entry F.slot_zip_next hT F.entry_zip_next (qZd hh D S hl nl hx fun h' e hk he=>?_) (F.args_zip_next_1 _))))
 obtain⟨o,ho,hc⟩:=he
 exact yYW (wpAny_isInstance (T := "StopIteration") (b:=true) ⟨o,ho,hc⟩ isSubtype_stop (yYX (hQ _ hk)))
theorem qDe {z TI TO i1 i2 l t:Addr}{k:Nat}{Q:Value→Shared→Prop}(S:ZipSt s.heap z TI TO i1 i2 l t k)(h:Q (.ref z) s):wpAny (model prog w) A (pyIter (.ref z)) Q E s:=by
 have hT:s.TypeIs (.ref z) "zip" := by
  rcases S.zip with h | ⟨_,_,h,_⟩ <;> exact⟨_,h,rfl⟩
 exact wpAny_pyIter_slot hT F.slot_zip_iter (wpAny_call_entry F.slot_zip_iter hT F.entry_zip_iter (yYX ⟨_,rfl,"zip",_,hT,F.slot_zip_next.lookup,h⟩) (F.args_zip_iter_1 _))
end
end PySem

namespace PySem
namespace FD
theorem entry_upd_loop:entryFor table "dict.update.loop" = some Builtin.«dict.update.loop»:=entryFor_of_tree (by kernel_rfl)
theorem plain_upd_loop:plainId "dict.update.loop" = true:=by decide +kernel
end FD
structure PairIt (prog:Program)(w:World)(A:Around)(d it:Addr)(fp:List Addr)(kvs:List (Value×Value))(St:Nat→Heap→Prop):Prop where
 frame:∀i h h',St i h→Heap.SameBut d h h'→(∃o,h'.get? d=some o)→St i h'
 item:∀(i:Nat) (s:Shared) (Q:Option Value→Shared→Prop) (E:Value→Shared→Prop) (k v:Value),kvs[i]? = some (k,v)→St i s.heap→
  (∀T h' tk n,St (i+1) h'→(∃o,h'.get? T=some o∧o.cls=.type "tuple" ∧ o.data=.seq #[k,v] n)→(∀b o,b∉fp→s.heap.get? b=some o→h'.get? b=some o)→Q (some (.ref T)) { s with heap:=h',toks:=tk })→wpAny (model prog w) A (pyNext (.ref it)) Q E s
 done:∀(s:Shared) (Q:Option Value→Shared→Prop) (E:Value→Shared→Prop),St kvs.length s.heap→
  (∀h' tk,(∀b o,b∉fp→s.heap.get? b=some o→h'.get? b=some o)→Q none { s with heap:=h',toks:=tk })→wpAny (model prog w) A (pyNext (.ref it)) Q E s
section
variable {prog:Program}{w:World}{K:Type}[DecidableEq K]{knd:KeyKind prog w K}{A:Around}
abbrev Keyed (knd:KeyKind prog w K):List (K×Value)→List (Value×Value)→Prop:=Paired fun p q=>knd.is p.1 q.1=true∧p.2=q.2
theorem qHe {ks:List (K×Value)}{kvs:List (Value×Value)}(h:Keyed knd ks kvs):∀{i:Nat} {p:K×Value},ks[i]? = some p→∃q,kvs[i]? = some q∧knd.is p.1 q.1=true∧p.2=q.2:=by
 induction h with
 | nil=>intro i p e;simp at e
 | cons f _ ih=>
  intro i p e
  cases i with
  | zero=>simp at e;subst e;exact⟨_,rfl,f⟩
  | succ i=>exact ih (i:=i) (by simpa using e)
theorem qAi {d it:Addr}{fp:List Addr}{kvs:List (Value×Value)}{ks:List (K×Value)}{St:Nat→Heap→Prop}(P:PairIt prog w A.in1 d it fp kvs St)(hk:Keyed knd ks kvs)(hd:d∉fp)(hz:ks.length≤1000){R:Result→Shared→Prop}{s₀:Shared}
  (hR:∀h' tk,(∀b o,b∉fp→b≠d→s₀.heap.get? b=some o→h'.get? b=some o)→h'.DictOf knd d (merged [] ks)→R (.ok (.ret .none)) { s₀ with heap:=h',toks:=tk }):
  ∀(m i:Nat) (h:Heap) (tk:Nat),ks.length - i=m→i≤ks.length→St i h→h.DictOf knd d (merged [] (ks.take i))→(∀b o,b∉fp→b≠d→s₀.heap.get? b=some o→h.get? b=some o)→
   codeAny (model prog w) A (.builtin "dict.update.loop" ⟨[.ref d,.ref it,rawInt i,.none],[]⟩) R { s₀ with heap:=h,toks:=tk }:=by
 intro m
 induction m with
 | zero=>
  intro i h tk hm hi st hD keep
  have e:i=ks.length:=by omega
  subst e
  refine codeAny_builtin FD.entry_upd_loop ?_
  rw[Around.under_plainId FD.plain_upd_loop _]
  rw[hk.length] at st
  refine yYW (m:=pyNext (.ref it)) (P.done { s₀ with heap:=h,toks:=tk } _ _ st fun h' tk' kp=>?_)
  rw[yYJ] at hD
  refine yYW (m:=Builtin.Dict.addKeywords d []) (yYX (yYX ?_))
  refine hR h' tk' (fun b o b1 b2 e=>kp b o b1 (keep b o b1 b2 e)) ?_
  obtain⟨o,es,ep,ho,r⟩:=hD
  exact⟨o,es,ep,kp _ _ hd ho,r⟩
 | succ m ih=>
  intro i h tk hm hi st hD keep
  have hlt:i<ks.length:=by omega
  obtain⟨p,ep⟩:∃p,ks[i]? = some p:=⟨_,yYA hlt⟩
  obtain⟨⟨kv,vv⟩,eq,hkey,hval⟩:=qHe hk ep
  have hval:p.2=vv:=hval
  refine codeAny_builtin FD.entry_upd_loop ?_
  rw[Around.under_plainId FD.plain_upd_loop _]
  refine yYW (m:=pyNext (.ref it)) (P.item i { s₀ with heap:=h,toks:=tk } _ _ kv vv eq st fun T h' tk' n st' hT kp=>?_)
  obtain⟨oT,hT,hTc,hTd⟩:=hT
  have hTy:Shared.TypeIs { s₀ with heap:=h',toks:=tk' } (.ref T) "tuple" := ⟨_,hT,hTc⟩
  have hD':h'.DictOf knd d (merged [] (ks.take i)):=by
   obtain⟨o,es,ep,ho,r⟩:=hD
   exact⟨o,es,ep,kp _ _ hd ho,r⟩
  refine yYW (wpAny_holding ?_)
  refine yYW (wpAny_tryCatch ?_)
  unfold Builtin.Dict.pairItems
  refine yYW (wpAny_typeOf hTy ?_)
  rw[if_pos (by decide)]
  refine yYW (wpAny_seqItems hT hTd (yYX ?_))
  refine wpAny_holding (wpAny_dictSet_pairs hkey hD' (fun h'' hD'' sb=>?_) ?_)
  ·refine yYX ⟨plainId_quiet FD.plain_upd_loop _,?_⟩
   have e1:merged [] (ks.take (i+1))=stored (merged [] (ks.take i)) p.1 p.2:=merged_take_succ [] ks i p ep
   rw[← hval] at hD''
   have:=ih (i+1) h'' (tk'+1) (by omega) hlt (P.frame _ _ _ st' sb (by obtain⟨o,_,_,ho,_⟩:=hD'';exact⟨o,ho⟩)) (by rw[e1];exact hD'') fun b o b1 b2 e=>(sb.2 b b2).trans (kp b o b1 (keep b o b1 b2 e))
   exact this
  ·have:=merged_length_le ([]:List (K×Value)) (ks.take i)
   rw[yYF,yYU] at this
   have e:sizeLine=16777216:=by decide
   omega

theorem vI {E:Value→Shared→Prop}{s:Shared}{a:Addr}{T:String}{Q:Value→Shared→Prop}(hT:s.TypeIs (.ref a) T)(hne:(Value.type T != Value.type "dict")=true)
  (h:∀E':Value→Shared→Prop,wpAny (model prog w) A.in1.in1 (getAttr? (.ref a) "keys") (fun r s2=>r=none∧wpAny (model prog w) A.in1.in1 (pyIter (.ref a)) (fun it s3=>codeAny (model prog w) A.in1 (.builtin "dict.update.loop" ⟨[.ref s.heap.objs.size,it,rawInt 0,.none],[]⟩)
   (wants (fun r s₂=>r=.none∧Q (.ref s.heap.objs.size) s₂) E) s3) E' s2) E' { s with heap:=s.heap.push { cls:=.type "dict",data:=.dict #[] } }):
  wpAny (model prog w) A (call (.type "dict") [.ref a]) Q E s:=by
 refine callType_codes (Q₁:=fun obj s₁=>obj=.ref s.heap.objs.size∧s₁={ s with heap:=s.heap.push { cls:=.type "dict",data:=.dict #[] } }) F.kt_called_dict (F.kt_typeCall_dict_1 _) F.entry_dict_init (kt_code_dict_new _ ⟨rfl,rfl⟩) ?_
 rintro obj s₁ ⟨rfl,rfl⟩
 have gd:(s.heap.push { cls:=.type "dict",data:=.dict #[] }).get? s.heap.objs.size=some { cls:=.type "dict",data:=.dict #[] }:=yZA _ rfl
 have hnew:Shared.TypeIs { s with heap:=s.heap.push { cls:=.type "dict",data:=.dict #[] } } (.ref s.heap.objs.size) "dict" := ⟨_,gd,rfl⟩
 have hT':Shared.TypeIs { s with heap:=s.heap.push { cls:=.type "dict",data:=.dict #[] } } (.ref a) T:=by
  obtain⟨o,ho,hc⟩:=hT
  exact⟨o,yYY _ ho,hc⟩
 refine⟨hnew,F.args_dict_init_2 _ _,?_⟩
 unfold Builtin.«dict.__init__»
 refine yYW ?_
 unfold Builtin.Dict.selfAndRest
 refine yYW (wpAny_notOrdered_dict hnew ?_)
 show wpAny _ _ (pure (s.heap.objs.size,[Value.ref a])) _ _ _
 refine yYX ?_
 show wpAny _ _ (Builtin.Dict.updateFrom "dict.__init__" s.heap.objs.size (.ref a) [] .none) _ _ _
 unfold Builtin.Dict.updateFrom
 refine yYW (wpAny_typeOf hT' ?_)
 rw[if_pos hne]
 refine yYW (wpAny_mono (h _) (fun r s2 hr=>?_) fun _ _ x=>x)
 obtain⟨rfl,hr⟩:=hr
 simp only[Option.isNone_none,if_true]
 refine yYW (wpAny_rule (yYW (wpAny_mono hr (fun it s3 hc=>?_) fun _ _ x=>x)))
 exact yYX ⟨plainId_quiet FD.plain_upd_loop _,hc⟩
end
section
variable {prog:Program}{w:World}{K:Type}[DecidableEq K]{knd:KeyKind prog w K}{A:Around}{E:Value→Shared→Prop}{s:Shared}
theorem qQi (h:Heap):(h.push { cls:=.type "dict",data:=.dict #[] }).DictOf knd h.objs.size []:=Heap.DictOf.new h
theorem qJo {l t:Addr}{xs ys:Array Value}{ks:List (K×Value)}{Q:Value→Shared→Prop}(hh:A.handled=none)(hl:s.heap.IsList l xs)(ht:s.heap.IsTuple t ys)(hsz:xs.size=ys.size)(hk:Keyed knd ks (xs.toList.zip ys.toList))(hz:ks.length≤1000)
  (hQ:∀p h' tk,s.heap.objs.size≤p→(∀b o,s.heap.get? b=some o→h'.get? b=some o)→h'.DictOf knd p (merged [] ks)→Q (.ref p) { s with heap:=h',toks:=tk }):
  wpAny (model prog w) A (call (.type "zip") [.ref l,.ref t]) (fun z s1=>wpAny (model prog w) A (call (.type "dict") [z]) Q E s1) E s:=by
 refine qAv hl ht fun h1 z TI TO i1 i2 D S z1 z2 z3 z4 z5 keep1=>?_
 have hT:Shared.TypeIs { s with heap:=h1 } (.ref z) "zip" := by
  rcases S.zip with h | ⟨_,_,h,_⟩ <;> exact⟨_,h,rfl⟩
 have llt:l<s.heap.objs.size:=by obtain⟨o,e,_⟩:=hl;exact yYZ e
 have tlt:t<s.heap.objs.size:=by obtain⟨o,e,_⟩:=ht;exact yYZ e
 have zlt:∀x,x=z∨x=TI∨x=TO∨x=i1∨x=i2→x<h1.objs.size:=fun x hx=>by
  rcases hx with rfl | rfl | rfl | rfl | rfl
  ·rcases S.zip with h | ⟨_,_,h,_⟩ <;> exact yYZ h
  ·exact yYZ S.its
  ·obtain⟨_,_,h⟩:=S.own;exact yYZ h
  ·obtain⟨_,h,_⟩:=S.one;exact yYZ h
  ·obtain⟨_,h,_⟩:=S.two;exact yYZ h
 refine vI hT (by decide) fun E'=>?_
 have S2:ZipSt (h1.push { cls:=.type "dict",data:=.dict #[] }) z TI TO i1 i2 l t 0:=by
  refine⟨?_,yYY _ S.its,?_,S.one.at fun o e=>yYY _ e,S.two.at fun o e=>yYY _ e⟩
  ·rcases S.zip with h | ⟨T,f,h,⟨o,e⟩,r⟩
   ·exact .inl (yYY _ h)
   ·exact .inr ⟨T,f,yYY _ h,⟨o,yYY _ e⟩,r⟩
  ·obtain⟨a,b,e⟩:=S.own
   exact⟨a,b,yYY _ e⟩
 have dz:∀x,x=z∨x=TI∨x=TO∨x=i1∨x=i2→h1.objs.size≠x:=fun x hx=>yZG (zlt x hx)
 have old:s.heap.objs.size≤h1.objs.size:=Nat.le_of_lt (yZH z1 (zlt z (.inl rfl)))
 obtain⟨vs,hzip⟩:∃vs,(h1.push { cls:=.type "dict",data:=.dict #[] }).get? z=some { cls:=.type "zip",dict:=none,data:=.fields vs,slots:=#[] }:=by
  rcases S2.zip with h | ⟨_,_,h,_⟩ <;> exact⟨_,h⟩
 refine qJe hzip hh fun h2 tk2 kp2=>⟨rfl,?_⟩
 have S3:ZipSt h2 z TI TO i1 i2 l t 0:=by
  refine⟨?_,kp2 _ _ S2.its,?_,S2.one.at fun o e=>kp2 _ _ e,S2.two.at fun o e=>kp2 _ _ e⟩
  ·rcases S2.zip with h | ⟨T,f,h,⟨o,e⟩,r⟩
   ·exact .inl (kp2 _ _ h)
   ·exact .inr ⟨T,f,kp2 _ _ h,⟨o,kp2 _ _ e⟩,r⟩
  ·obtain⟨a,b,e⟩:=S2.own
   exact⟨a,b,kp2 _ _ e⟩
 refine qDe S3 ?_
 have hlen:(xs.toList.zip ys.toList).length=xs.size:=by rw[List.length_zip];simp[hsz]
 have ndl:l≠z∧l≠TO∧l≠i1∧l≠i2:=⟨yZE (yZD llt z1),yZE (yZD llt z3),yZE (yZD llt z4),yZE (yZD llt z5)⟩
 have ndt:t≠z∧t≠TO∧t≠i1∧t≠i2:=⟨yZE (yZD tlt z1),yZE (yZD tlt z3),yZE (yZD tlt z4),yZE (yZD tlt z5)⟩
 have nl5:l≠h1.objs.size:=yZE (yZD llt old)
 have nt5:t≠h1.objs.size:=yZE (yZD tlt old)
 have P:PairIt prog w A.in1.in1 h1.objs.size z [z,TO,i1,i2] (xs.toList.zip ys.toList) (fun i h=>ZipSt h z TI TO i1 i2 l t i∧h.IsList l xs∧h.IsTuple t ys):=
  {frame:=fun i h h' ⟨S,hl,ht⟩ sb ⟨od,hod⟩=>by
    have k:∀b o,b≠h1.objs.size→h.get? b=some o→h'.get? b=some o:=fun b o hb e=>(sb.2 b hb).trans e
    refine⟨⟨?_,k _ _ (dz TI (.inr (.inl rfl))).symm S.its,?_,S.one.at fun o e=>k _ _ (dz i1 (by simp)).symm e,S.two.at fun o e=>k _ _ (dz i2 (by simp)).symm e⟩,?_,?_⟩
    ·rcases S.zip with h | ⟨T,f,h,⟨o,e⟩,r⟩
     ·exact .inl (k _ _ (dz z (.inl rfl)).symm h)
     ·refine .inr ⟨T,f,k _ _ (dz z (.inl rfl)).symm h,?_,r⟩
      by_cases hTd:T=h1.objs.size
      ·exact⟨od,by rw[hTd];exact hod⟩
      ·exact⟨o,k _ _ hTd e⟩
    ·obtain⟨a,b,e⟩:=S.own
     exact⟨a,b,k _ _ (dz TO (by simp)).symm e⟩
    ·obtain⟨o,ho,r⟩:=hl;exact⟨o,k _ _ nl5 ho,r⟩
    ·obtain⟨o,ho,r⟩:=ht;exact⟨o,k _ _ nt5 ho,r⟩
   item:=fun i s Q E k v e ⟨S,hl,ht⟩ hQ=>by
    obtain⟨e1,e2⟩:=List.getElem?_zip_eq_some.mp e
    refine qDd D S hl ht ndl ndt (x:=k) (y:=v) (by simpa using e1) (by simpa using e2) fun h' T S' hT kp=>?_
    refine hQ T h' s.toks 0 ⟨S',?_,?_⟩ ⟨_,hT,rfl,rfl⟩ fun b o hb e=>kp b o (fun z=>hb (by simp[z])) (fun z=>hb (by simp[z])) (fun z=>hb (by simp[z])) (fun z=>hb (by simp[z])) e
    ·obtain⟨o,ho,r⟩:=hl;exact⟨o,kp _ _ ndl.1 ndl.2.1 ndl.2.2.1 ndl.2.2.2 ho,r⟩
    ·obtain⟨o,ho,r⟩:=ht;exact⟨o,kp _ _ ndt.1 ndt.2.1 ndt.2.2.1 ndt.2.2.2 ho,r⟩
   done:=fun s Q E ⟨S,hl,ht⟩ hQ=>by
    refine qQv (A:=A.in1.in1) hh D S hl ndl (by rw[hlen];simp) fun h' kp=>?_
    exact hQ h' s.toks fun b o hb e=>kp b o (fun z=>hb (by simp[z])) (fun z=>hb (by simp[z])) (fun z=>hb (by simp[z])) (fun z=>hb (by simp[z])) e }
 have kl:∀b o,s.heap.get? b=some o→h2.get? b=some o:=fun b o e=>kp2 _ _ (yYY _ (keep1 _ _ e))
 have hd0:h2.DictOf knd h1.objs.size (merged [] (ks.take 0)):=by
  obtain⟨o,es,ep,ho,r⟩:=qQi (knd:=knd) h1
  exact⟨o,es,ep,kp2 _ _ ho,r⟩
 refine qAi (A:=A.in1) (s₀:={ s with heap:=h2,toks:=tk2 }) P hk (by simp[dz z,dz TO,dz i1,dz i2]) hz (fun h' tk kp hD=>⟨rfl,?fin⟩) ks.length 0 h2 tk2 (by simp) (yZF _) ⟨S3,?sl,?st⟩ hd0 (fun _ _ _ _ e=>e)
 case fin=>
  refine hQ _ h' tk old (fun b o e=>kp b o ?_ ?_ (kl b o e)) hD
  ·have bl:=yYZ e
   intro hb
   simp only[yYK,List.not_mem_nil,or_false] at hb
   rcases hb with rfl | rfl | rfl | rfl
   ·exact absurd (yZD bl z1) (Nat.lt_irrefl _)
   ·exact absurd (yZD bl z3) (Nat.lt_irrefl _)
   ·exact absurd (yZD bl z4) (Nat.lt_irrefl _)
   ·exact absurd (yZD bl z5) (Nat.lt_irrefl _)
  ·exact yZE (yZD (yYZ e) old)
 case sl=>obtain⟨o,ho,r⟩:=hl;exact⟨o,kl _ _ ho,r⟩
 case st=>obtain⟨o,ho,r⟩:=ht;exact⟨o,kl _ _ ho,r⟩
theorem qXi {l:Addr}{xs:Array Value}{n:Nat}{kvs:List (Value×Value)}{ks:List (K×Value)}{Q:Value→Shared→Prop}(hh:A.handled=none)(hl:s.heap.get? l=some { cls:=.type "list",data:=.seq xs n })
  (hp:∀(i:Nat) p,kvs[i]? = some p→∃T o m,xs[i]? = some (.ref T)∧s.heap.get? T=some o∧o.cls=.type "tuple" ∧ o.data=.seq #[p.1,p.2] m) (hlen:kvs.length=xs.size) (hk:Keyed knd ks kvs) (hz:ks.length≤1000)
  (hQ:∀p h' tk,s.heap.objs.size≤p→(∀b o,s.heap.get? b=some o→h'.get? b=some o)→h'.DictOf knd p (merged [] ks)→Q (.ref p) { s with heap:=h',toks:=tk }):
  wpAny (model prog w) A (call (.type "dict") [.ref l]) Q E s:=by
 refine vI (T := "list") ⟨_,hl,rfl⟩ (by decide) fun E'=>?_
 have kd:∀b o,s.heap.get? b=some o→(s.heap.push { cls:=.type "dict",data:=.dict #[] }).get? b=some o:=fun b o e=>yYY _ e
 refine qXg (kd _ _ hl) hh fun h2 tk2 kp2=>⟨rfl,?_⟩
 have kl:∀b o,s.heap.get? b=some o→h2.get? b=some o:=fun b o e=>kp2 _ _ (kd _ _ e)
 have L2:h2.IsList l xs:=⟨_,kl _ _ hl,rfl,n,rfl⟩
 refine wpAny_pyIter_list (s:={ s with heap:=h2,toks:=tk2 }) L2 ?_
 have k3:∀b o,h2.get? b=some o→(h2.push { cls:=.type "list_iterator",data:=.fields #[.ref l,.int 0 0] }).get? b=some o:=fun b o e=>yYY _ e
 have dlt:s.heap.objs.size<h2.objs.size:=yYZ (kp2 _ _ (yZA _ rfl))
 have P:PairIt prog w A.in1.in1 s.heap.objs.size h2.objs.size [h2.objs.size] kvs (fun i h=>h.IsListIter h2.objs.size l i∧∀b o,s.heap.get? b=some o→h.get? b=some o):=
  {frame:=fun i h h' ⟨S,kp⟩ sb _=>⟨S.at fun o e=>(sb.2 _ (yZG dlt)).trans e,fun b o e=>(sb.2 b (yZE (yYZ e))).trans (kp b o e)⟩
   item:=fun i s' Q E k v e ⟨S,kp⟩ hQ=>by
    obtain⟨T,o,m,ex,ho,hc,hd⟩:=hp i (k,v) e
    refine wpAny_pyNext_list_item S ⟨_,kp _ _ hl,rfl,n,rfl⟩ ex fun h' S' sb=>?_
    have nb:∀b o,s.heap.get? b=some o→b≠h2.objs.size:=fun b o e=>yZE (Nat.lt_trans (yYZ e) dlt)
    exact hQ T h' s'.toks m ⟨S',fun b o e=>(sb.2 b (nb b o e)).trans (kp b o e)⟩ ⟨o,(sb.2 T (nb T o ho)).trans (kp _ _ ho),hc,hd⟩ fun b o hb e=>(sb.2 b (fun z=>hb (by simp[z]))).trans e
   done:=fun s' Q E ⟨S,kp⟩ hQ=>by
    refine wpAny_pyNext_list_end (A:=A.in1.in1) hh S ⟨_,kp _ _ hl,rfl,n,rfl⟩ (by rw[hlen];simp) fun h' eb=>?_
    exact hQ h' s'.toks fun b o hb e=>eb b o (fun z=>hb (by simp[z])) e }
 have hd0:(h2.push { cls:=.type "list_iterator",data:=.fields #[.ref l,.int 0 0] }).DictOf knd s.heap.objs.size (merged [] (ks.take 0)):=by
  obtain⟨o,es,ep,ho,r⟩:=qQi (knd:=knd) s.heap
  exact⟨o,es,ep,k3 _ _ (kp2 _ _ ho),r⟩
 refine qAi (A:=A.in1) (s₀:={ s with heap:=h2.push { cls:=.type "list_iterator",data:=.fields #[.ref l,.int 0 0] },toks:=tk2 }) P hk (by simp;exact yZE dlt) hz (fun h' tk kp hD=>⟨rfl,?_⟩) ks.length 0 _ tk2 (by simp) (yZF _) ⟨⟨_,yZA _ rfl,rfl,rfl⟩,fun b o e=>k3 _ _ (kl _ _ e)⟩ hd0 (fun _ _ _ _ e=>e)
 refine hQ _ h' tk (yZC _) (fun b o e=>kp b o ?_ (yZE (yYZ e)) (k3 _ _ (kl b o e))) hD
 simp only[yYL]
 exact yZE (Nat.lt_trans (yYZ e) dlt)
end
end PySem

namespace L2
open PySem PySem.Spec PyProof.Rows
theorem xJv:bootBuiltins "zip" = some (.type "zip"):=by decide +kernel
def zipK (ns:List Str)(xs:List V):List (Key×V):=(ns.zip xs).map fun p=>(Sum.inr p.1,p.2)
def pairK (kvs:List (Str×V)):List (Key×V):=kvs.map fun p=>(Sum.inr p.1,p.2)
theorem qYw {P:Program}{w:World}:∀{ns:List Str} {xs:List V} {us vs:List Value},Vals (ns.map V.str) us→Vals xs vs→ns.length=xs.length→∃ks:List (Key×Value),Keyed (xS P w) ks (us.zip vs)∧KV (zipK ns xs) ks∧ks.length=ns.length
 | [],[],_,_,.nil,.nil,_=>⟨[],.nil,.nil,rfl⟩
 | n::ns,x::xs,_,_,.cons r1 t1,.cons (b:=v) r2 t2,hl=>by
  obtain⟨ks,h1,h2,h3⟩:=qYw (P:=P) (w:=w) t1 t2 (by simpa using hl)
  obtain⟨t,rfl⟩:=r1
  exact⟨(Sum.inr n,v)::ks,.cons ⟨yD P w n t,rfl⟩ h1,.cons ⟨rfl,r2⟩ h2,by simp[h3]⟩
 | [],_::_,_,_,_,_,hl=>by simp at hl
 | _::_,[],_,_,_,_,hl=>by simp at hl
section
variable {X:Cx}{pins:List (Addr×Obj)}{σ:St}{H:Hp}{s:Shared}
theorem Inv.newDict {Q:VK}{p:Addr}{h':Heap}{tk:Nat}{kvs:List (Key×V)}{ks:List (Key×Value)}(I:Inv X pins σ H s)(hp:s.heap.objs.size≤p)(keep:∀b o,s.heap.get? b=some o→h'.get? b=some o)
  (rel:KV kvs ks) (hk:ks.length≤1000) (hD:h'.DictOf (xS X.prog X.w) p (merged [] ks)) (q:Q (.ref p) (upd H p (.dK (mergeK [] kvs)))):EP X pins σ Q (.ref p) { s with heap:=h',toks:=tk }:=by
 refine⟨.ref p,upd H p (.dK (mergeK [] kvs)),I.laid (o:=.dK (mergeK [] kvs)) keep hp ⟨?_,?_,merged [] ks,KV.merge rel .nil,hD⟩,rfl,q⟩
 ·have l1:=yF kvs []
  have l2:=rel.length
  have e:sizeLine=16777216:=by decide
  rw[yYU] at l1
  omega
 ·have:=I.big
  have ne:p≠sysModules:=yZG (yZD this hp)
  exact beq_eq_false_iff_ne.mpr ne
def qMm (K:yZO)(ta:TA):TE:=fun σ H Q=>ta σ H fun vs H1=>∃l t ns xs,vs=[.ref l,.ref t]∧SqL K H1 l (ns.map V.str)∧SqT K H1 t xs∧ns.length=xs.length∧ns.length≤1000∧
 ∀p,H1 p=none→Q (.ref p) (upd H1 p (.dK (mergeK [] (zipK ns xs))))
theorem qWj {a b:Expr}{ta:TA}{p p2 pos pos2:Pos}(hc:X.calm=true)(hg:Gl X "dict")(hm:X.mg "dict" = none)(hg2:Gl X "zip")(hm2:X.mg "zip" = none)(ha:PA X [a,b] ta)
  (he:starEach [.Call (.Name "zip" p2) [a,b] [] pos2] X.env=[(false,eval (.Call (.Name "zip" p2) [a,b] [] pos2) X.env)]:=by rfl)
  (he2:starEach [a,b] X.env=[(false,eval a X.env),(false,eval b X.env)]:=by rfl) (he3:starEach [b] X.env=[(false,eval b X.env)]:=by rfl):
  PE X (.Call (.Name "dict" p) [.Call (.Name "zip" p2) [a,b] [] pos2] [] pos) (qMm X.K ta):=by
 intro pins s σ H Q I h
 refine Call_ (qQo I hg hm wY (PyProof.Rows.callWith_type1 ?_ he rfl))
 rw[he]
 refine Calls.spliced_cons (Call_ (qQo I hg2 hm2 xJv (PyProof.Rows.callWith_type1 (thn (ha pos2 pins s σ H _ I h) fun us s1 ⟨vs,H1,I1,r1,q1⟩=>?_) (by rw[he2,he3]) (by rw[he3];rfl))))
 obtain⟨l,t,ns,xs,rfl,hl,ht,hlen,h1000,q⟩:=q1
 obtain⟨u,v,rfl,ru,rv⟩:=vals2 r1
 cases ru;cases rv
 obtain⟨its,r2,p2',_⟩:=I1.list hl
 obtain⟨its2,r3,p3,_⟩:=I1.tuple ht
 obtain⟨ks,k1,k2,k3⟩:=qYw (P:=X.prog) (w:=X.w) r2 r3 hlen
 have e1:=r2.length
 have e2:=r3.length
 rw[yYC] at e1
 refine thn (qJo (knd:=xS X.prog X.w) (ks:=ks) (I1.ok.hd hc) p2'.isList (show s1.heap.IsTuple t its2.toArray from p3) (by simp only[yYD];omega) (by simpa using k1) (by omega) fun p' h' tk hp keep hD=>?_) fun z s2 hz=>Calls.spliced_nil hz
 exact I1.newDict hp keep k2 (by omega) hD (q p' (I1.hok.fresh hp))
def PairIn (H:Hp)(kv:Str×V)(u:V):Prop:=∃a,u=.ref a∧H a=some (.tup [.str kv.1,kv.2])
theorem qWk (I:Inv X pins σ H s):∀{kvs:List (Str×V)} {us:List V} {its:List Value},Paired (PairIn H) kvs us→Vals us its→∃(vv:List (Value×Value)) (ks:List (Key×Value)),
  (∀(i:Nat) p,vv[i]? = some p→∃T o m,its[i]? = some (.ref T)∧s.heap.get? T=some o∧o.cls=.type "tuple" ∧ o.data=.seq #[p.1,p.2] m)∧vv.length=its.length∧Keyed (xS X.prog X.w) ks vv∧KV (pairK kvs) ks∧ks.length=kvs.length:=by
 intro kvs us its hp
 induction hp generalizing its with
 | nil=>
  intro hv
  cases hv
  exact⟨[],[],fun i p e=>by simp at e,rfl,.nil,.nil,rfl⟩
 | @cons kv _ _ _ f t ih=>
  intro hv
  cases hv with
  | cons r t2=>
  obtain⟨n,x⟩:=kv
  obtain⟨vv,ks,h1,h2,h3,h4,h5⟩:=ih t2
  obtain⟨a,rfl,ha⟩:=f
  cases r
  obtain⟨z,its,rv,o,ho,hc,m,hd,_⟩:=I.hok a _ ha
  obtain⟨u,v,rfl,ru,rv'⟩:=vals2 rv
  obtain⟨tk,rfl⟩:=ru
  refine⟨(.str n tk,v)::vv,(Sum.inr n,v)::ks,fun i p e=>?_,by simp[h2],.cons ⟨yD _ _ n tk,rfl⟩ h3,.cons ⟨rfl,rv'⟩ h4,by simp[h5]⟩
  cases i with
  | zero=>
   simp at e
   subst e
   exact⟨a,o,m,rfl,ho,hc,hd⟩
  | succ i=>exact h1 i p (by simpa using e)
theorem wE (hc:X.calm=true):CallR X (.type "dict") (fun vs H Q=>∃l us kvs,vs=[.ref l]∧H l=some (.lst us)∧Paired (PairIn H) kvs us∧kvs.length≤1000∧∀p,H p=none→Q (.ref p) (upd H p (.dK (mergeK [] (pairK kvs))))):=by
 intro pins s σ H vs us Q I r h
 obtain⟨l,xs,kvs,rfl,hl,hp,h1000,q⟩:=h
 obtain⟨u,rfl,ru⟩:=vals1 r
 cases ru
 obtain⟨z,its,n,rv,hlen,e⟩:=I.lstM hl
 obtain⟨vv,ks,k1,k2,k3,k4,k5⟩:=qWk I hp rv
 refine qXi (knd:=xS X.prog X.w) (ks:=ks) (kvs:=vv) (I.ok.hd hc) e (fun i p ep=>?_) (by simp[k2]) k3 (by omega) fun p h' tk hp' keep hD=>I.newDict hp' keep k4 (by omega) hD (q p (I.hok.fresh hp'))
 obtain⟨T,o,m,a1,a2⟩:=k1 i p ep
 exact⟨T,o,m,by simpa using a1,a2⟩
end
end L2

namespace FP
open PySem L2

inductive Th where
 | num (n:Int) | box (x:Str) | nul (k:Str) | un (k:Str) (a:Th) | bin (k:Str) (a b:Th)
namespace Th
def Op (k:Str):Prop:=k ≠ "box" ∧ k ≠ "number"
def Ok:Th→Prop
 | num _=>True
 | box _=>True
 | nul k=>Op k
 | un k a=>Op k∧a.Ok
 | bin k a b=>Op k∧a.Ok∧b.Ok
def dep:Th→Nat
 | num _=>1
 | box _=>1
 | nul _=>1
 | un _ a=>a.dep+1
 | bin _ a b=>max a.dep b.dep+1
def cnt:Th→Nat
 | num _=>1
 | box _=>1
 | nul _=>1
 | un _ a=>a.cnt+1
 | bin _ a b=>a.cnt+b.cnt+1
def names:Th→List Str
 | num _=>[]
 | box x=>[x]
 | nul _=>[]
 | un _ a=>a.names
 | bin _ a b=>a.names++b.names
theorem qUd:∀t:Th,1≤t.cnt
 | num _=>yZC _
 | box _=>yZC _
 | nul _=>yZC _
 | un _ a=>by show 1≤a.cnt+1;omega
 | bin _ a b=>by show 1≤a.cnt+b.cnt+1;omega
theorem names_le:∀t:Th,t.names.length≤t.cnt
 | num _=>yZF _
 | box _=>yZC _
 | nul _=>yZF _
 | un _ a=>by have:=names_le a;show a.names.length≤a.cnt+1;omega
 | bin _ a b=>by
  have:=names_le a
  have:=names_le b
  show(a.names++b.names).length≤a.cnt+b.cnt+1
  rw[yYI];omega
theorem qCn:∀t:Th,t.cnt+1≤2 ^ t.dep
 | num _=>by show 1+1≤2 ^ 1;decide
 | box _=>by show 1+1≤2 ^ 1;decide
 | nul _=>by show 1+1≤2 ^ 1;decide
 | un _ a=>by
  have:=qCn a
  have:=qUd a
  show a.cnt+1+1≤2 ^ (a.dep+1)
  rw[Nat.pow_succ];omega
 | bin _ a b=>by
  have ha:=qCn a
  have hb:=qCn b
  show a.cnt+b.cnt+1+1≤2 ^ (max a.dep b.dep+1)
  have h1:2 ^ a.dep≤2 ^ (max a.dep b.dep):=Nat.pow_le_pow_right (by decide) (Nat.le_max_left _ _)
  have h2:2 ^ b.dep≤2 ^ (max a.dep b.dep):=Nat.pow_le_pow_right (by decide) (Nat.le_max_right _ _)
  rw[Nat.pow_succ];omega
theorem cnt_small {t:Th}(h:t.dep≤12):t.cnt≤4096:=by
 have h1:=qCn t
 have h2:2 ^ t.dep≤2 ^ 12:=Nat.pow_le_pow_right (by decide) h
 have e:2 ^ 12=4096:=by decide
 omega
theorem dep_pos:∀t:Th,1≤t.dep
 | num _=>yZC _
 | box _=>yZC _
 | nul _=>yZC _
 | un _ a=>by show 1≤a.dep+1;omega
 | bin _ a b=>by show 1≤max a.dep b.dep+1;omega
def At (H:Hp):Th→V→Prop
 | num n,v=>∃a,v=.ref a∧H a=some (.tup [.str "number",.int n])
 | box x,v=>∃a,v=.ref a∧H a=some (.tup [.str "box",.str x])
 | nul k,v=>∃a,v=.ref a∧H a=some (.tup [.str k])
 | un k t,v=>∃a u,v=.ref a∧H a=some (.tup [.str k,u])∧t.At H u
 | bin k t r,v=>∃a u w,v=.ref a∧H a=some (.tup [.str k,u,w])∧t.At H u∧r.At H w
def _root_.FP.Tups (H H':Hp):Prop:=∀b xs,H b=some (.tup xs)→H' b=some (.tup xs)
theorem At.mono {H H':Hp}(h:Tups H H'):∀{t:Th} {v:V},t.At H v→t.At H' v
 | num _,_,⟨a,e,q⟩=>⟨a,e,h _ _ q⟩
 | box _,_,⟨a,e,q⟩=>⟨a,e,h _ _ q⟩
 | nul _,_,⟨a,e,q⟩=>⟨a,e,h _ _ q⟩
 | un _ t,_,⟨a,u,e,q,r⟩=>⟨a,u,e,h _ _ q,At.mono h r⟩
 | bin _ t r,_,⟨a,u,w,e,q,r1,r2⟩=>⟨a,u,w,e,h _ _ q,At.mono h r1,At.mono h r2⟩
end Th
theorem qC {H H':Hp}(s:Same H H'):Tups H H':=fun b xs h=>s b _ h
theorem Tups.trans {H H1 H2:Hp}(a:Tups H H1)(b:Tups H1 H2):Tups H H2:=fun c xs h=>b c xs (a c xs h)

inductive View (H:Hp)(t:Th)(v:V):Prop
 | box (a:Addr) (x:Str):t=.box x→v=.ref a→H a=some (.tup [.str "box",.str x])→View H t v
 | num (a:Addr) (n:Int):t=.num n→v=.ref a→H a=some (.tup [.str "number",.int n])→View H t v
 | op (a:Addr) (k:Str) (us:List V) (ts:List Th):v=.ref a→H a=some (.tup (.str k::us))→Th.Op k→us.length=ts.length→us.length≤2→
   (∀(i:Nat) u r,us[i]? = some u→ts[i]? = some r→r.At H u∧r.Ok∧r.dep+1≤t.dep)→t.names=ts.flatMap Th.names→(ts.map Th.cnt).sum+1=t.cnt→View H t v
theorem view {H:Hp}:∀{t:Th} {v:V},t.At H v→t.Ok→View H t v
 | .num n,_,⟨a,e,q⟩,_=>.num a n rfl e q
 | .box x,_,⟨a,e,q⟩,_=>.box a x rfl e q
 | .nul k,_,⟨a,e,q⟩,ok=>.op a k [] [] e q ok rfl (by decide) (fun i u r h=>by simp at h) rfl rfl
 | .un k t,_,⟨a,u,e,q,r⟩,ok=>by
  refine .op a k [u] [t] e q ok.1 rfl (by show 1≤2;decide) (fun i u' r' h1 h2=>?_) (by simp[Th.names]) (by simp[Th.cnt])
  match i,h1,h2 with
  | 0,h1,h2=>
   cases h1;cases h2
   exact⟨r,ok.2,yZC _⟩
  | i+1,h1,_=>simp at h1
 | .bin k t s,_,⟨a,u,w,e,q,r1,r2⟩,ok=>by
  refine .op a k [u,w] [t,s] e q ok.1 rfl (by show 2≤2;decide) (fun i u' r' h1 h2=>?_) (by simp[Th.names]) (by simp[Th.cnt])
  match i,h1,h2 with
  | 0,h1,h2=>
   cases h1;cases h2
   exact⟨r1,ok.2.1,by show t.dep+1≤max t.dep s.dep+1;omega⟩
  | 1,h1,h2=>
   cases h1;cases h2
   exact⟨r2,ok.2.2,by show s.dep+1≤max t.dep s.dep+1;omega⟩
  | i+2,h1,_=>simp at h1
theorem qYe {ts:List Th}{i:Nat}{t:Th}(h:ts[i]? = some t):(ts.take (i+1)).flatMap Th.names=(ts.take i).flatMap Th.names++t.names:=by
 rw[yYM,h,List.flatMap_append]
 simp
theorem take_len {ts:List Th}(i:Nat):((ts.take i).flatMap Th.names).length≤(ts.flatMap Th.names).length:=by
 have e:ts.flatMap Th.names=(ts.take i).flatMap Th.names++(ts.drop i).flatMap Th.names:=by rw[← List.flatMap_append,List.take_append_drop]
 rw[e,yYI];omega
theorem cut1 (k:V)(us:List V):cutV (k::us) (some 1) none=us:=by
 unfold cutV
 have e1:HT.sIx (k::us).length 0 (some (1:Int))=1:=by
  have:=HT.sIx_nat (k::us).length 0 1
  rw[yYT] at this ⊢
  have e:min 1 (us.length+1)=1:=by omega
  rw[e] at this
  exact this
 rw[e1,HT.sIx_none,List.drop_one,List.tail_cons,yYT,Nat.add_sub_cancel,yYJ]
theorem notwhole (k:V)(us:List V):¬(HT.sIx (k::us).length 0 (some 1)=0∧HT.sIx (k::us).length (k::us).length none=(k::us).length):=by
 intro z
 have:=HT.sIx_nat (k::us).length 0 1
 rw[yYT] at this
 have e:min 1 (us.length+1)=1:=by omega
 rw[e] at this
 have z1:=z.1
 rw[yYT] at z1
 exact absurd (this.symm.trans z1) (by decide)
theorem small {n:Nat}(h:n≤10000):n<sizeLine:=yZH h (by decide)
theorem smallE {n:Nat}(h:n≤10000):n≤sizeLine:=Nat.le_of_lt (small h)
theorem xXo:("number" : Str) ≠ "box" := by decide +kernel
theorem xV {a b:Str}(h:a≠b):decide (V.str a=V.str b)=false:=decide_eq_false (by intro z;cases z;exact h rfl)
theorem zC (a:Str):decide (V.str a=V.str a)=true:=decide_eq_true rfl

abbrev strsV (ws:List Str):List V:=ws.map V.str
theorem xW (ws:List Str):(strsV ws).length=ws.length:=yYC _

theorem yJ (a b:List Str):strsV (a++b)=strsV a++strsV b:=yYV
abbrev intsV (ns:List Int):List V:=ns.map V.int
theorem kA (a:List Int)(x:Int):intsV (a++[x])=intsV a++[.int x]:=yYV
theorem zU (ws:List Int):(intsV ws).length=ws.length:=yYC _

end FP

namespace L2
open PySem PySem.Spec PyProof.Rows

section
variable {X:Cx}{K:yZO}
theorem qT (hK:X.K=K:=by rfl):IxR X (rIxL K):=by subst hK;exact qUq
theorem qS (hK:X.K=K:=by rfl):IxR X (rIxT K):=by subst hK;exact xZe
theorem wH (hK:X.K=K:=by rfl):SlR X (rSlL K):=by subst hK;exact qSh
theorem qSg (hK:X.K=K:=by rfl):SlR X (rSlT K):=by subst hK;exact xQi
def rLen (K:yZO):List V→Hp→VK→Prop:=fun xs H Q=>∃p ys,xs=[.ref p]∧(SqL K H p ys∨SqT K H p ys)∧Q (.int ys.length) H
theorem yW (hK:X.K=K:=by rfl):CallR X (.builtin "len") (rLen K):=by subst hK;exact qVv
def qSl (K:yZO):List V→Hp→VK→Prop:=fun xs H Q=>∃p ys,xs=[.ref p]∧(SqL K H p ys∨SqT K H p ys)∧∀l,H l=none→Q (.ref l) (upd H l (.lst ys))
theorem jM (hK:X.K=K:=by rfl):CallR X (.type "list") (qSl K):=by subst hK;exact qVk
def rTupOf (K:yZO):List V→Hp→VK→Prop:=fun xs H Q=>∃p ys,xs=[.ref p]∧SqL K H p ys∧∀l,H l=none→Q (.ref l) (upd H l (.tup ys))
theorem kT (hK:X.K=K:=by rfl):CallR X (.type "tuple") (rTupOf K):=by
 subst hK
 intro pins s σ H xs us Q I r h
 obtain⟨p,ys,e,hs,q⟩:=h
 exact qJm pins s σ H xs us Q I r ⟨p,ys,e,.inl ⟨hs,q⟩⟩
def rIsIn (K:yZO):List V→Hp→VK→Prop:=fun xs H Q=>∃x T t b,xs=[x,.ty T]∧TyOf K H x t∧PySem.W.kitOne K t (.type T)=some b∧Q (.bl b) H
theorem zO (hK:X.K=K:=by rfl):CallR X (.builtin "isinstance") (rIsIn K):=by subst hK;exact qAw
theorem xXh (hK:X.K=K:=by rfl):OpR X (compareOp .In) (rIn K false):=by subst hK;exact qGn
theorem qGm (hK:X.K=K:=by rfl):OpR X (compareOp .NotIn) (rIn K true):=by subst hK;exact qKa
theorem qWb (hu:X.A.units+64<cLine)(hK:X.K=K:=by rfl):OpR X (compareOp .Eq) (rEqL K true):=by subst hK;exact qRh hu
theorem qWw (hu:X.A.units+64<cLine)(hK:X.K=K:=by rfl):OpR X (compareOp .NotEq) (rEqL K false):=by subst hK;exact qRg hu
def rNeE (K:yZO):R2:=fun x y H Q=>∃a b xs,x=.ref a∧y=.ref b∧SqL K H a xs∧SqL K H b []∧Q (.bl (!xs.isEmpty)) H
theorem qWa (hu:X.A.units+64<cLine)(hK:X.K=K:=by rfl):OpR X (compareOp .NotEq) (rNeE K):=by subst hK;exact xXf hu
def rEqE (K:yZO):R2:=fun x y H Q=>∃a b xs,x=.ref a∧y=.ref b∧SqL K H a xs∧SqL K H b []∧Q (.bl xs.isEmpty) H
theorem qTc (hu:X.A.units+64<cLine)(hK:X.K=K:=by rfl):OpR X (compareOp .Eq) (rEqE K):=by
 subst hK
 intro pins s σ H x y v u Q I rx ry h
 obtain⟨a,b,xs,rfl,rfl,ha,hb,q⟩:=h
 cases xs with
 | nil=>exact qRh hu pins s σ H _ _ v u Q I rx ry ⟨0,a,b,[],[],by omega,rfl,rfl,ha,hb,rfl,fun j x y e=>by simp at e,q⟩
 | cons z zs=>
  cases rx;cases ry
  obtain⟨its,r1,p1,_⟩:=I.list ha
  obtain⟨its2,r2,p2,_⟩:=I.list hb
  have l1:=r1.length
  have l2:=r2.length
  refine SeqAt.RcAt.lists_lengths p1.isList p2.isList ?_ (by omega) _ _ _ _ ⟨.bl false,H,I,rfl,q⟩
  simp only[yYT,yYU] at l1 l2
  rw[bne_iff_ne,yYD,yYD]
  omega
variable {tg l o e:Expr}{es:List Expr}{tl to:TE}{t:TA}{name:Str}{pos apos cpos:Pos}{T id:String}{r:V→List V→Hp→VK→Prop}
theorem qU (hl:PE X l tl)(hK:X.K=K:=by rfl):PI X tg l (iList K tl):=by subst hK;exact qGg hl
theorem qGf (hl:PE X l tl)(hK:X.K=K:=by rfl):PI X tg l (iTup K tl):=by subst hK;exact xXw hl
theorem zF {es:List Expr}{k:Nat}{t:TGs}{n:Nat}(hc:X.calm=true)(h:PGs X es t)
  (hn:(assignEach es X.env).length=n:=by rfl) (hst:(assignEach es X.env).findIdx? (·.1)=none:=by rfl) (hK:X.K=K:=by rfl):PG X (.Tuple es k pos) (gTup K n t):=by subst hK;exact qRd hc h hn hst
theorem qGl (pa:PlainAttrs T)(slot:Slot T name id)(hty:typeOf (.builtin id)=pure (.type "method_descriptor"))(hm:MtR X id r)(ho:PE X o to)
  (hbase:attributeBase o name X.env (eval o X.env)=eval o X.env:=by rfl) (hline:(apos.endLine == cpos.line)=true:=by rfl) (hK:X.K=K:=by rfl):PE X (.Call (.Attribute o name apos) [] [] cpos) (tBM0 K T r to):=by
 subst hK;exact xXb pa slot hty hm ho hbase hline
theorem vV (pa:PlainAttrs T)(slot:Slot T name id)(hty:typeOf (.builtin id)=pure (.type "method_descriptor"))(hm:MtR X id r)(ho:PE X o to)(ha:PA X (e::es) t)
  (hbase:attributeBase o name X.env (eval o X.env)=eval o X.env:=by rfl)
  (hfew:((backTo cpos (starEach (e::es) X.env)).all (fun x=>!x.1) && (backToKw cpos (keywordEach [] X.env)).all (fun x=>x.1.isSome)
   && decide ((e::es).length+([]:List Keyword).length+(if ([]:List Keyword).isEmpty then 0 else 1)<30))=true:=by rfl)
  (hline:(apos.endLine == cpos.line)=true:=by rfl) (hs:starEach (e::es) X.env=(false,eval e X.env)::starEach es X.env:=by rfl) (hplain:(backTo cpos (starEach es X.env)).any (·.1)=false:=by rfl) (hK:X.K=K:=by rfl):
  PE X (.Call (.Attribute o name apos) (e::es) [] cpos) (tBM K T r to t):=by
 subst hK;exact xYd pa slot hty hm ho ha hbase hfew hline hs hplain
end

structure Dn (P:Program)(w:World)(K:yZO)(mg:Str→Option Value)(base:Heap)(x:Str)(k:Nat)(ps:List Str)(sp:Sp):Prop where
 ex:∃f fd,FnOk P w K mg base CX0 k f fd ps sp∧mg x=some (.ref f)∧PySem.W.keepIn K (.ref f)=true∧Binds K fd ps []
section
variable {P:Program}{w:World}{K:yZO}{mg:Str→Option Value}{base:Heap}{x:Str}{j k:Nat}{ps:List Str}{sp sp':Sp}
end
section
variable {X:Cx}{P:Program}{w:World}{K:yZO}{mg:Str→Option Value}{base:Heap}{j k:Nat}{ps:List Str}{sp:Sp}{x:Str}{p pos:Pos}{e:Expr}{es:List Expr}{t:TA}
theorem qD (D:Dn P w K mg base x j ps sp)(hr:Room k X.A)(ha:PA X (e::es) t)(hjk:j≤k:=by first | decide | omega)(hg:Gl X x:=by rfl)
  (h1:X.prog=P:=by rfl) (h2:X.w=w:=by rfl) (h3:X.K=K:=by rfl) (h4:X.mg=mg:=by rfl) (h5:X.base=base:=by rfl)
  (hdb:(x == ("__debug__" : Str))=false:=by decide) (he:starEach (e::es) X.env=(false,eval e X.env)::starEach es X.env:=by rfl) (hpl:(backTo pos (starEach es X.env)).any (·.1)=false:=by rfl):
  PE X (.Call (.Name x p) (e::es) [] pos) (tCall sp [] E0 t):=by
 subst h1 h2 h3 h4 h5
 obtain⟨f,fd,F,a,b,c⟩:=D.ex
 exact qJa (F.mono hjk) hr hg a b c .nil pass0 ha hdb he hpl
end

def kidsE:Expr→List Expr
 | .BoolOp _ vs _=>vs
 | .BinOp l _ r _=>[l,r]
 | .UnaryOp _ a _=>[a]
 | .IfExp a b c _=>[a,b,c]
 | .ListComp e gs _ _=>e::gs.flatMap fun g=>g.iter::g.ifs
 | .Compare l _ cs _=>l::cs
 | .Call f as _ _=>f::as
 | .Attribute v _ _=>[v]
 | .Subscript a b _=>[a,b]
 | .List es _=>es
 | .Tuple es _ _=>es
 | .Slice a b c _=>a.toList++b.toList++c.toList
 | _=>[]
def downE (e:Expr):List Nat→Expr
 | []=>e
 | i::p=>downE ((kidsE e).getD i (.Constant .none 0 ⟨0,0,0,0⟩)) p
def exprS:Stmt→Expr
 | .Assign _ v _=>v
 | .Return (some v) _=>v
 | .Expr v _=>v
 | .If t _ _ _=>t
 | .While t _ _ _=>t
 | .For _ it _ _ _=>it
 | _=>.Constant .none 0 ⟨0,0,0,0⟩
def blockS:Stmt→List Stmt
 | .If _ a b _=>a++b
 | .For _ _ b _ _=>b
 | .While _ b _ _=>b
 | _=>[]
def stmtAt (body:List Stmt):List Nat→Stmt
 | []=>.Pass ⟨0,0,0,0⟩
 | [i]=>body.getD i (.Pass ⟨0,0,0,0⟩)
 | i::j::p=>stmtAt (blockS (body.getD i (.Pass ⟨0,0,0,0⟩))) (j::p)
abbrev scAt (body:List Stmt)(p q:List Nat):Scope:=qFm (downE (exprS (stmtAt body p)) q)
def relS (scope sc:Scope):Scope:=
 { scope with names:=scope.names.map fun(n,k)=>if (k == .free && sc.kind == .function && sc.names.lookup n == some .cell) then (n,.cell) else (n,k) }

def tCut (t u:TS):TS:=fun D σ H=>∃Pv:St→Hp→Prop,t { D with nx:=Pv } σ H∧∀σ' H',Pv σ' H'→u D σ' H'
theorem qK {X:Cx}{st:Stmt}{rest:List Stmt}{t u:TS}(h1:PS X st t)(h2:PSs X rest u):PSs X (st::rest) (tCut t u):=by
 intro pins s σ H D I h
 obtain⟨Pv,q1,q2⟩:=h
 refine wpAny_execs_cons (thn (h1 pins s σ H { D with nx:=Pv } I q1) fun f s1 q=>?_)
 cases f with
 | next=>
  obtain⟨σ',H',I',q⟩:=q
  exact h2 pins s1 σ' H' D I' (q2 σ' H' q)
 | ret v=>exact q
 | brk=>exact q
 | cont=>exact q

section
variable {σ:St}{H:Hp}{Q:VK}{R:Bool→Hp→Prop}{S:St→Hp→Prop}{L:List V→Hp→Prop}{O:Option Int→Hp→Prop}{D:Ends}{ta tb tc:TE}{t u:TT}{a b:TS}{x y v:V}{i j:Int}{c:Bool}{K:yZO}
theorem w_var {k:Nat}(h:σ[k]? = some (some v))(q:Q v H):tVar k σ H Q:=⟨v,h,q⟩
theorem w_c (q:Q v H):tC v σ H Q:=q
theorem w_op {r:R2}(q:ta σ H fun x H1=>tb σ H1 fun y H2=>r x y H2 Q):tOp r ta tb σ H Q:=q
theorem w_I0 {g:Int→Int→V}(q:Q (g i j) H):rI0 g (.int i) (.int j) H Q:=⟨i,j,rfl,rfl,q⟩
theorem w_I {C:Int→Int→Prop}{g:Int→Int→V}(h:C i j)(q:Q (g i j) H):rI C g (.int i) (.int j) H Q:=⟨i,j,rfl,rfl,h,q⟩
theorem w_eq (h:scal x y=true)(q:Q (.bl (decide (x=y))) H):rEq x y H Q:=⟨h,q⟩
theorem w_ne (h:scal x y=true)(q:Q (.bl (!decide (x=y))) H):rNe x y H Q:=⟨h,q⟩
theorem xJn {p:Addr}{xs:List V}(h:SqL K H p xs)(e:atI xs i=some v)(q:Q v H):rIxL K (.ref p) (.int i) H Q:=⟨p,xs,i,v,rfl,rfl,h,e,q⟩
theorem xJm {p:Addr}{xs:List V}(h:SqT K H p xs)(e:atI xs i=some v)(q:Q v H):rIxT K (.ref p) (.int i) H Q:=⟨p,xs,i,v,rfl,rfl,h,e,q⟩
theorem qUn (q:ta σ H fun x H'=>∃k,x=.bl k∧R k H'):tTest ta σ H R:=q
theorem w_B (q:ta σ H fun x H'=>∃k,x=.bl k∧R k H'):tB ta σ H R:=q
theorem w_bl {F:Bool→Prop}(q:F c):∃k,V.bl c=.bl k∧F k:=⟨c,rfl,q⟩
theorem w_not (q:t σ H fun c H1=>R (!c) H1):tNot t σ H R:=q
theorem w_and (q:t σ H fun c H1=>if c=true then u σ H1 R else R false H1):tAnd t u σ H R:=q
theorem w_or (q:t σ H fun c H1=>if c=true then R true H1 else u σ H1 R):tOr t u σ H R:=q
theorem xQh (q:ta σ H fun x H1=>∃c,x=.bl c∧if c=true then tb σ H1 Q else Q (.bl false) H1):tAndV ta tb σ H Q:=q
theorem xQx (q:ta σ H fun x H1=>∃c,x=.bl c∧Q (.bl (!c)) H1):tNotV ta σ H Q:=q
theorem w_if (q:t σ H fun c H1=>if c=true then ta σ H1 Q else tb σ H1 Q):tIf t ta tb σ H Q:=q
theorem xQz (q:D.nx σ H):tNext D σ H:=q
theorem xJg (q:a { D with nx:=b D } σ H):tSeq a b D σ H:=q
theorem xQc (q:ta σ H fun _ H1=>D.nx σ H1):tDrop ta D σ H:=q
theorem xJh (q:ta σ H D.rt):tRet ta D σ H:=q
theorem xJo (q:t σ H fun c H1=>if c=true then a D σ H1 else b D σ H1):tIfS t a b D σ H:=q
theorem xYk {g:TG}(q:ta σ H fun x H1=>g x σ H1 D.nx):tAsg ta g D σ H:=q
theorem xQj {k:Nat}(q:S (σ.set k (some v)) H):gName k v σ H S:=q
theorem xQw (q:S σ H):gNil [] σ H S:=⟨rfl,q⟩
theorem qSc {g:TG}{gs:TGs}{vs:List V}(q:g v σ H fun σ' H'=>gs vs σ' H' S):gCons g gs (v::vs) σ H S:=⟨v,vs,rfl,q⟩
theorem xQv {n:Nat}{gs:TGs}{p:Addr}{xs:List V}(h:SqT K H p xs)(e:xs.length=n)(q:gs xs σ H S):gTup K n gs (.ref p) σ H S:=⟨p,xs,rfl,h,e,q⟩
theorem xJi (q:L [] H):tNil σ H L:=q
theorem xQf {ts:TA}(q:ta σ H fun x H1=>ts σ H1 fun xs H2=>L (x::xs) H2):tCons ta ts σ H L:=q
theorem xJf {ts:TA}(q:ts σ H fun xs H1=>xs.length≤sizeLine∧∀p,H1 p=none→Q (.ref p) (upd H1 p (.tup xs))):tTup ts σ H Q:=q
theorem xJl {ts:TA}(q:ts σ H fun xs H1=>xs.length≤sizeLine∧∀p,H1 p=none→Q (.ref p) (upd H1 p (.lst xs))):tLst ts σ H Q:=q
theorem xQg {sp:Sp}{dvs:List V}{E:XK}{ts:TA}(q:ts σ H fun vs H1=>sp (vs++dvs) H1 Q E):tCall sp dvs E ts σ H Q:=q
theorem w_cb {r:List V→Hp→VK→Prop}{ts:TA}(q:ts σ H fun vs H1=>r vs H1 Q):tCB r ts σ H Q:=q
theorem xYj {T:String}{r:V→List V→Hp→VK→Prop}(q:ta σ H fun x H1=>tyV K T x H1∧r x [] H1 Q):tBM0 K T r ta σ H Q:=q
theorem w_bm {T:String}{r:V→List V→Hp→VK→Prop}{ts:TA}(q:ta σ H fun x H1=>tyV K T x H1∧ts σ H1 fun xs H2=>r x xs H2 Q):tBM K T r ta ts σ H Q:=q
theorem qDv {p:Addr}{xs:List V}{A:Prop}(h:SqL K H p xs)(q:A):tyV K "list" (.ref p) H∧A:=⟨.inl ⟨rfl,xs,h⟩,q⟩
theorem qMi (q:O none H):qFv σ H O:=q
theorem xQq (q:ta σ H fun x H1=>∃i,x=.int i∧O (some i) H1):tPart ta σ H O:=q
theorem xYz {F:Int→Prop}(q:F i):∃k,V.int i=.int k∧F k:=⟨i,rfl,q⟩
theorem w_sl {r:V→Option Int→Option Int→Hp→VK→Prop}{tl th:TO}(q:ta σ H fun x H1=>tl σ H1 fun l H2=>th σ H2 fun u H3=>r x l u H3 Q):tSl r ta tl th σ H Q:=q
theorem w_len {p:Addr}{xs:List V}(h:SqL K H p xs∨SqT K H p xs)(q:Q (.int xs.length) H):rLen K [.ref p] H Q:=⟨p,xs,rfl,h,q⟩
theorem xQe {td ty:TE}(q:td σ H fun x H1=>ty σ H1 fun y H2=>∃a v,x=.ref a∧DGet H2 a y (some v)∧Q v H2):tDGet td ty σ H Q:=q
theorem xQd {td ty tv:TE}(q:tv σ H fun v H1=>td σ H1 fun x H2=>ty σ H2 fun y H3=>∃a H4,x=.ref a∧DPut H3 a y v H4∧D.nx σ H4):sDPut td ty tv D σ H:=q
theorem qSb {W:It→Hp→Prop}(q:ta σ H fun x H1=>∃a,x=.ref a∧(∃xs,SqL K H1 a xs)∧W (Itl K a) H1):iList K ta σ H W:=q
theorem xQk {W:It→Hp→Prop}(q:ta σ H fun x H1=>∃a,x=.ref a∧(∃xs,SqT K H1 a xs)∧W (Itt K a) H1):iTup K ta σ H W:=q
theorem qUo {W:It→Hp→Prop}{ts:TA}(q:ts σ H fun vs H1=>∃j:Int,vs=[.int j]∧-(2 ^ 62)≤j∧j<2 ^ 62∧W (Itr 0 j.toNat) H1):iRng1 ts σ H W:=q
theorem xQa {p:Addr}{xs:List V}{F:Addr→Prop}(h:SqL K H p xs)(q:F p):∃a,V.ref p=.ref a∧(∃xs,SqL K H a xs)∧F a:=⟨p,rfl,⟨xs,h⟩,q⟩
theorem xYx {F:Int→Prop}(h1 : -(2 ^ 62)≤i)(h2:i<2 ^ 62)(q:F i):∃j:Int,[V.int i]=[.int j]∧-(2 ^ 62)≤j∧j<2 ^ 62∧F j:=⟨i,rfl,h1,h2,q⟩
theorem qUm {A B:Prop}(h:c=true)(q:A):if c=true then A else B:=by rw[if_pos h];exact q
theorem yP {A B:Prop}(h:c=false)(q:B):if c=true then A else B:=by rw[h];exact iteF q
def forK (g:TG)(tb:TS)(D:Ends)(σ:St):It→Hp→Prop:=fun J H1=>∃W:Nat→Nat→St→Hp→Prop,(∃m,W 0 m σ H1)∧∀i m σ H,W i m σ H→
 (J.stop i H∧D.nx σ H)∨(J.go i H∧∃N:St→Hp→Prop,(∀σ' H',N σ' H'→∃m',m'<m∧W (i+1) m' σ' H')∧∀x H',J.yld i H x H'→g x σ H' fun σ2 H2=>tb { D with nx:=N,ct:=N,bk:=D.nx } σ2 H2)
theorem xYq {wi:TI}{g:TG}(q:wi σ H (forK g a D σ)):tFor wi g a D σ H:=q
theorem qRk {k:Nat}{js:List Nat}{wi:TI}{g:TG}(q:wi σ H fun J H1=>rdC k js g t ta J σ H1 Q):tComp k js wi g t ta σ H Q:=q
theorem iteNT {A B:Prop}(q:B):if (!true)=true then A else B:=iteF q
theorem iteNF {A B:Prop}(q:A):if (!false)=true then A else B:=iteT q
theorem qCe {T:String}:PySem.W.kitOne K (.type T) (.type T)=some true:=by simp[PySem.W.kitOne]
end
section
variable {X:Cx}{K:yZO}
end

structure Fd (K:yZO)(mg:Str→Option Value)(x:Str)(st:Stmt)(ps:List Str):Prop where
 ex:∃f fd,Fun K x x st f fd∧mg x=some (.ref f)∧PySem.W.keepIn K (.ref f)=true∧Binds K fd ps []
section
variable {P:Program}{w:World}{K:yZO}{mg:Str→Option Value}{base:Heap}{x:Str}{st:Stmt}{k:Nat}{N ps:List Str}{sp:Sp}
theorem Fd.ok (F:Fd K mg x st ps)(S:xE N ps (xA st))(len:∀vs H Q E,sp vs H Q E→vs.length=ps.length)
  (hbody:∀(f:Addr) (cdv:Value) (A:Around) (outer:List Env) (s:Shared) (H:Hp) (vs:List V) (Q:VK) (E:XK),Room k (A.deeper (envOfC x (xA st) s.heap.objs.size f cdv))→sp vs H Q E→
   ∃t,PSs (cxOf CX0 P w K mg base N x (xA st) f cdv A outer s H E).nox (xB st) t∧t { nx:=fun _ H'=>Q .non H',rt:=Q } (start N vs) H):Dn P w K mg base x (k+1) ps sp:=
 let ⟨f,fd,F,a,b,c⟩:=F.ex
 ⟨f,fd,F.ok S len (hbody f),a,b,c⟩
theorem Fd.never (F:Fd K mg x st ps)(no:∀vs H Q E,¬sp vs H Q E):Dn P w K mg base x k ps sp:=
 let ⟨f,fd,F,a,b,c⟩:=F.ex
 ⟨f,fd,⟨fun vs H Q E h=>absurd h (no vs H Q E),fun A outer s H args us vs Q E _ _ _ _ h=>absurd h (no vs H Q E)⟩,a,b,c⟩
end
end L2

namespace PySem
section
variable {prog:Program}{w:World}{κ:Type}[DecidableEq κ]{knd:KeyKind prog w κ}
theorem qBw {h:Heap}{a:Addr}{S S':κ→Bool}{n n':Nat}(x:h.SetOf knd a S n)(e:∀k,S k=S' k)(en:n=n'):h.SetOf knd a S' n':=by
 obtain rfl:S=S':=funext e
 subst en
 exact x
def metBy (key:Nat→κ)(i:Nat)(x:κ):Bool:=(List.range i).any fun j=>decide (key j=x)
theorem qDm (key:Nat→κ)(i:Nat)(x:κ):metBy key (i+1) x=(metBy key i x || decide (x=key i)):=by
 unfold metBy
 rw[List.range_succ,List.any_append]
 congr 1
 simp only[List.any_cons,List.any_nil,Bool.or_false]
 exact decide_eq_decide.mpr ⟨Eq.symm,Eq.symm⟩
theorem qHk {key:Nat→κ}{n i:Nat}(hd:∀a b,a<n→b<n→key a=key b→a=b)(hi:i<n):metBy key i (key i)=false:=by
 unfold metBy
 refine Bool.eq_false_iff.mpr fun z=>?_
 obtain⟨j,hj,e⟩:=List.any_eq_true.mp z
 have hj':=List.mem_range.mp hj
 have:=hd j i (by omega) hi (of_decide_eq_true e)
 omega
variable {A:Around}{R:Result→Shared→Prop}{I:Addr}{fp wr:List Addr}{G:Array GenState→Array GenState→Prop}{n:Nat}{P:Nat→Value→Prop}{St:Nat→Shared→Prop}
theorem qNk (W:WalksS prog w A.in1 I fp wr G n P St)(T:Addr)(hT:T∉fp)(key:Nat→κ)(hkey:∀i v,P i v→knd.is (key i) v=true∧v.scannable=true)(hd:∀a b,a<n→b<n→key a=key b→a=b)(hb:n+1<scanBound):
  ∀(k i:Nat) (s:Shared),n - i=k→i≤n→St i s→s.heap.SetOf knd T (metBy key i) i→(∀s',Moved (T::wr) G s s'→s'.heap.SetOf knd T (metBy key n) n→R (.ok (.ret .none)) s')→
   codeAny (model prog w) A (.builtin "set.update.loop" ⟨[.ref T,.ref I],[]⟩) R s:=by
 have hTw:T∉wr:=fun z=>hT (W.sub _ z)
 have up:∀b∈wr,b∈T::wr:=fun b z=>yYH _ z
 have carry:∀{s s':Shared} {S:κ→Bool} {m:Nat},Moved wr G s s'→s.heap.SetOf knd T S m→s'.heap.SetOf knd T S m:=fun mv ⟨o,es,ep,t,e,r⟩=>⟨o,es,ep,t,mv.heap T _ hTw e,r⟩
 intro k
 induction k with
 | zero=>
  intro i s hk hi st hS hR
  obtain rfl:i=n:=by omega
  refine codeAny_builtin PyProof.Rows.F.entry_set_update_loop ?_
  rw[Around.under_plainId PyProof.Rows.F.plain_set_update_loop _]
  refine yYW (m:=pyNext (.ref I)) (W.done s _ _ st fun s' mv=>?_)
  exact yYX (hR s' (mv.mono up) (carry mv hS))
 | succ k ih=>
  intro i s hk hi st hS hR
  have lt:i<n:=by omega
  refine codeAny_builtin PyProof.Rows.F.entry_set_update_loop ?_
  rw[Around.under_plainId PyProof.Rows.F.plain_set_update_loop _]
  refine yYW (m:=pyNext (.ref I)) (W.item i s _ _ lt st fun v s' hP st' mv=>?_)
  obtain⟨hv,sc⟩:=hkey i v hP
  have hS1:=carry mv hS
  refine yYW (m:=holding [v] (setAdd T v)) (wpAny_holding ?_)
  unfold setAdd
  refine wpAny_holding (yYW (knd.pyHash (k:=key i) hv ?_))
  refine wpAny_setAddHashed_of (knd:=knd) (s:={ s' with toks:=s'.toks+1 }) hv sc hS1 (by omega) fun h' sb hS2=>?_
  have hS3:h'.SetOf knd T (metBy key (i+1)) (i+1):=by
   refine qBw hS2 (fun x=>(qDm key i x).symm) ?_
   rw[qHk hd lt]
   rfl
  refine yYX ⟨plainId_quiet PyProof.Rows.F.plain_set_update_loop _,ih (i+1) _ (by omega) lt (W.frame _ s' _ _ st' (Nat.le_succ _) fun b hb' o e=>?_) hS3 fun s'' mv2 hS4=>?_⟩
  ·rw[sb.2 b (fun z=>hT (z▸hb'))];exact e
  ·refine hR s'' (Moved.trans W.gtrans ((mv.mono up).then_heap (Nat.le_succ _) fun b o hb' e=>?_) mv2) hS4
   rw[sb.2 b (fun z=>hb' (z▸yYG))];exact e
end
section
variable {prog:Program}{w:World}{κ:Type}[DecidableEq κ]{knd:KeyKind prog w κ}{A:Around}{E:Value→Shared→Prop}{s:Shared}
abbrev setObj (led:Bool):Obj:={ cls:=.type "set",dict:=none,data:=.set #[] 0 (.fresh 0 0 led) }
theorem qJn {l:Addr}{items:Array Value}{key:Nat→κ}{Q:Value→Shared→Prop}(hh:A.handled=none)(hl:s.heap.IsList l items)(hkey:∀(i:Nat) v,items[i]? = some v→knd.is (key i) v=true∧v.scannable=true)
  (hd:∀a b,a<items.size→b<items.size→key a=key b→a=b) (hb:items.size+1<scanBound)
  (fin:∀(h':Heap) (tk:Nat),h'.SetOf knd s.heap.objs.size (metBy key items.size) items.size→(∀b o,s.heap.get? b=some o→h'.get? b=some o)→Q (.ref s.heap.objs.size) { s with heap:=h',toks:=tk }):
  wpAny (model prog w) A (call (.type "set") [.ref l]) Q E s:=by
 obtain⟨c0,tl0,m0⟩:=F.called_set.mro
 have m1:=F.called_set.made
 have m2:=F.called_set.sub
 refine wpAny_call (codeAny_of_tree ?_)
 show wpAny _ _ (callAny (.type "set") _) _ _ _
 refine yYX ⟨Code.quiet_builtin _ (by decide +kernel),codeAny_builtin F.entry_type_call ?_⟩
 rw[Around.under_plain (weight_type_call_type "set" [.ref l] []) rfl]
 have m3:=F.called_set.notType
 have m4:=F.called_set.canCreate
 have m5:=F.typeCall_set_1 (.ref l)
 repeat (any_goals (first | assumption | wp_step))
 refine codeAny_mono (code_set_new_1 (.ref l) (E:=E) (Q₁:=fun obj s₁=>∃led:Bool,obj=.ref s.heap.objs.size∧s₁={ s with heap:=s.heap.push (setObj led) }) fun led=>⟨led,rfl,rfl⟩) fun r s₁ hr=>?_
 cases r with
 | error e=>exact hr
 | ok fl=>
 cases fl with
 | ret obj=>
  obtain⟨led,rfl,rfl⟩:=hr
  have at0:(s.heap.push (setObj led)).get? s.heap.objs.size=some (setObj led):=yZA _ rfl
  have ty0:Shared.TypeIs { s with heap:=s.heap.push (setObj led) } (.ref s.heap.objs.size) "set" := ⟨_,at0,rfl⟩
  have m6:=F.called_set.init.lookup
  have m7:=F.called_set.init.bind (.ref s.heap.objs.size)
  repeat (any_goals (first | assumption | wp_step))
  refine codeAny_mono (codeAny_call_builtin (R:=wants (fun r s₂=>r=.none∧∃h' tk,s₂={ s with heap:=h',toks:=tk }∧h'.SetOf knd s.heap.objs.size (metBy key items.size) items.size∧(∀b o,s.heap.get? b=some o→h'.get? b=some o)) E)
   F.called_set.init.plain F.entry_set_init (check_set_init_1 ty0 ?_)) fun r₂ s₂ hr₂=>?_
  ·obtain⟨⟨oc,od,oda,osl⟩,g,kc,nl,kd⟩:=hl
   simp only at kc kd
   subst kc kd
   have g1:(s.heap.push (setObj led)).get? l=some { cls:=.type "list",dict:=od,data:=.seq items nl,slots:=osl }:=yYY _ g
   have n1:=F.sub_list_set
   have n2:=F.sub_list_frozenset
   have n3:(Value.type "list" == Value.type "dict")=false:=by decide
   have l1:(s.heap.push (setObj led)).IsList l items:=⟨_,g1,rfl,nl,rfl⟩
   unfold Builtin.«set.__init__» noKeywords Builtin.Frozenset.updateFrom
   generalize hPI:pyIter=PI
   wp_walk
   subst hPI
   refine wpAny_pyIter_list l1 (yYW (wpAny_runValue ?_))
   have lt:l<s.heap.objs.size:=yYZ g
   have sz:(s.heap.push (setObj led)).objs.size=s.heap.objs.size+1:=yZB _ _
   have ne1:l≠(s.heap.push (setObj led)).objs.size:=by rw[sz];exact yZE (Nat.lt_succ_of_lt lt)
   have out:s.heap.objs.size∉[(s.heap.push (setObj led)).objs.size,l]:=by
    rw[sz]
    intro z
    simp only[yYK,List.not_mem_nil,or_false] at z
    rcases z with z | z
    ·exact absurd z (yZE (Nat.lt_succ_self _))
    ·exact absurd z (yZG lt)
   refine qNk ((Walks.list (by simp[hh]) _ l ne1 items).toS) s.heap.objs.size out key hkey hd hb (items.size - 0) 0 _ (by omega) (yZF _) ⟨⟨_,yZA _ rfl,rfl,rfl⟩,(l1.push _)⟩ ?start ?done
   case start=>
    refine qBw ((PyProof.Rows.setObjOf_fresh (knd:=knd) led).setOf (yYY _ at0) (by unfold scanBound;omega)) (fun _=>rfl) rfl
   case done=>
    intro s' mv hS'
    obtain⟨h',g',d',tk',os'⟩:=s'
    obtain rfl:g'=s.gens:=mv.gens
    obtain rfl:d'=s.drawn:=mv.drawn
    obtain rfl:os'=s.os:=mv.os
    refine yYX ?_
    refine yYX ⟨rfl,h',tk',rfl,hS',fun b o e=>?_⟩
    have lb:=yYZ e
    refine mv.heap b o (fun z=>?_) (yYY _ (yYY _ e))
    simp only[yYK,List.not_mem_nil,or_false] at z
    rcases z with z | z
    ·exact absurd z (yZE lb)
    ·exact absurd z (by rw[sz];exact yZE (Nat.lt_succ_of_lt lb))
  ·cases r₂ with
   | error e=>exact hr₂
   | ok fl₂=>
   cases fl₂ with
   | ret r=>
    obtain⟨rfl,h',tk,rfl,hS',keep⟩:=hr₂
    repeat (any_goals (first | assumption | wp_step))
    exact fin _ _ hS' keep
   | _=>exact hr₂.elim
 | _=>exact hr.elim
end
end PySem

namespace L2
open PySem PySem.Spec PyProof.Rows

def rCatN (K:yZO):R2:=fun x y H Q=>∃a b xs ys,x=.ref a∧y=.ref b∧SqT K H a xs∧SqT K H b ys∧ys≠[]∧xs.length+ys.length≤sizeLine∧
 (xs=[]→Q (.ref b) H)∧(xs≠[]→∀p,H p=none→Q (.ref p) (upd H p (.tup (xs++ys))))
section
variable {X:Cx}{K:yZO}
theorem qOz (hK:X.K=K:=by rfl):OpR X (binaryOp .Add) (rCatN K):=by
 subst hK
 intro pins s σ H x y v u Q I rx ry h
 obtain⟨a,b,xs,ys,rfl,rfl,ha,hb,hy,hz,q0,q1⟩:=h
 by_cases hx:xs=[]
 ·subst hx
  cases rx;cases ry
  obtain⟨i1,r1,⟨⟨c1,d1,t1,l1⟩,g1,k1,n1,e1⟩,_⟩:=I.tuple ha
  obtain⟨i2,r2,⟨⟨c2,d2,t2,l2⟩,g2,k2,n2,e2⟩,_⟩:=I.tuple hb
  cases r1
  simp only at k1 e1 k2 e2
  subst k1 e1 k2 e2
  exact concat_meets ⟨_,g1,rfl⟩ ⟨_,g2,rfl⟩ noFill_tuple_add seq_tuple_add PySem.F.slot_tuple_add PySem.F.entry_tuple_add (PySem.F.args_tuple_add_2 _ _) (tuple_addW0 a b _ _ n1 n2 d1 d2 l1 l2 (by simp)) ⟨g1,g2,⟨.ref b,H,I,rfl,q0 rfl⟩⟩
 ·exact qTd pins s σ H _ _ v u Q I rx ry ⟨a,b,xs,ys,rfl,rfl,ha,hb,hx,hz,fun z=>absurd z hy,fun _=>q1 hx⟩
end

def SetN (P:Program)(w:World)(a:Addr)(n:Nat):HO:=.ext fun h=>∃S,h.SetOf (xS P w) a S n
def rSetOf (P:Program)(w:World)(K:yZO):List V→Hp→VK→Prop:=fun xs H Q=>∃(l:Addr) (ws:List Str),xs=[.ref l]∧SqL K H l (ws.map V.str)∧ws.Nodup∧ws.length≤1000∧∀p,H p=none→Q (.ref p) (upd H p (SetN P w p ws.length))
def rLenS (P:Program)(w:World):List V→Hp→VK→Prop:=fun xs H Q=>∃p n,xs=[.ref p]∧H p=some (SetN P w p n)∧n≤1000∧Q (.int n) H
theorem qSv:bootBuiltins "set" = some (.type "set"):=by decide +kernel
theorem vM:bootBuiltins "sorted" = some (.builtin "sorted"):=by decide +kernel
section
variable {X:Cx}{P:Program}{w:World}{K:yZO}
theorem qMv (hc:X.calm=true)(hP:X.prog=P:=by rfl)(hw:X.w=w:=by rfl)(hK:X.K=K:=by rfl):CallR X (.type "set") (rSetOf P w K):=by
 subst hK hP hw
 intro pins s σ H xs us Q I r h
 obtain⟨l,ws,rfl,hl,nd,hz,q⟩:=h
 obtain⟨u,rfl,ru⟩:=vals1 r
 cases ru
 obtain⟨its,r1,p1,_⟩:=I.list hl
 have len:=r1.length
 rw[yYC] at len
 have l1:its.toArray.size=ws.length:=by simp[len]
 have sc:scanBound=4096:=rfl
 refine qJn (knd:=xS X.prog X.w) (key:=fun i=>Sum.inr (ws.getD i "")) (I.ok.hd hc) p1.isList (fun i v e=>?_) (fun a b ha hb e=>?_) (by omega) fun h' tk hS keep=>?_
 ·have hi:i<ws.length:=by
   have:=(Array.getElem?_eq_some_iff.mp e).1
   omega
  have e0:(ws.map V.str)[i]? = some (.str ws[i]):=by rw[yYO,yYA hi];rfl
  obtain⟨u,e1,q1⟩:=r1.get e0
  have:its.toArray[i]? = some u:=by simpa using e1
  rw[this] at e
  cases e
  obtain⟨t,rfl⟩:=q1
  have d:ws.getD i "" = ws[i]:=by rw[List.getD_eq_getElem?_getD,yYA hi];rfl
  rw[d]
  exact⟨yD _ _ _ t,rfl⟩
 ·have ha:a<ws.length:=by omega
  have hb:b<ws.length:=by omega
  have e':=Sum.inr.inj e
  rw[List.getD_eq_getElem?_getD,List.getD_eq_getElem?_getD,yYA ha,yYA hb] at e'
  exact(List.getElem_inj nd).mp e'
 ·rw[l1] at hS
  refine⟨.ref s.heap.objs.size,_,I.laid (t':=tk) (o:=SetN X.prog X.w s.heap.objs.size ws.length) keep (yZC _) ⟨⟨_,hS⟩,?_,?_⟩,rfl,q _ (I.hok.fresh (yZC _))⟩
  ·obtain⟨o,_,_,_,e,_⟩:=hS
   exact⟨o,e⟩
  ·rintro h1 h2 ⟨S,o,es,ep,t,e,r⟩ k
   exact⟨S,o,es,ep,t,k o e,r⟩
theorem qMw (hP:X.prog=P:=by rfl)(hw:X.w=w:=by rfl):CallR X (.builtin "len") (rLenS P w):=by
 subst hP hw
 intro pins s σ H xs us Q I r h
 obtain⟨p,n,rfl,hp,hn,q⟩:=h
 obtain⟨u,rfl,ru⟩:=vals1 r
 cases ru
 obtain⟨⟨S,o,es,ep,t,e,ex,ed,_,_,_,ef,en⟩,_⟩:=I.hok p _ hp
 subst en
 exact call_len_set e ex ed ef (by omega) ⟨.int _,H,I.tok _,⟨_,rfl⟩,q⟩
end

structure Gi (mg:Str→Option Value)(x:Str)(i:Int):Prop where
 ex:∃t,mg x=some (.int i t)
structure Gs (K:yZO)(mg:Str→Option Value)(x:Str)(ws:List Str):Prop where
 ex:∃p,mg x=some (.ref p)∧∀H,SqT K H p (ws.map V.str)
section
variable {X:Cx}{mg:Str→Option Value}{K:yZO}{x:Str}{i:Int}{ws:List Str}{pos:Pos}
theorem qTk (g:Gi mg x i)(hg:Gl X x:=by rfl)(hm:X.mg=mg:=by rfl)(hd:(x == ("__debug__" : Str))=false:=by decide):PE X (.Name x pos) (tC (.int i)):=by
 subst hm
 obtain⟨t,e⟩:=g.ex
 exact qGi hg e ⟨t,rfl⟩ hd
def tGs (K:yZO)(ws:List Str):TE:=fun _ H Q=>∀p,SqT K H p (ws.map V.str)→Q (.ref p) H
theorem xYc (g:Gs K mg x ws)(hg:Gl X x:=by rfl)(hm:X.mg=mg:=by rfl)(hd:(x == ("__debug__" : Str))=false:=by decide):PE X (.Name x pos) (tGs K ws):=by
 subst hm
 obtain⟨p,e,sq⟩:=g.ex
 intro pins s σ H Q I h
 exact qGi (v:=.ref p) hg e rfl hd pins s σ H Q I (h p (sq H))
end
end L2

namespace L2
open PySem PySem.Spec PyProof.Rows
def qGj:List V→Hp→VK→Prop:=fun xs H Q=>∃(d:Addr) (kvs:List (Key×V)),xs=[.ref d]∧H d=some (.dK kvs)∧∀p,H p=none→Q (.ref p) (upd H p (.dK kvs))
section
variable {X:Cx}{K:yZO}
theorem yX:CallR X (.type "dict") qGj:=by
 intro pins s σ H xs us Q I r h
 obtain⟨d,kvs,rfl,hd,q⟩:=h
 obtain⟨u,rfl,ru⟩:=vals1 r
 cases ru
 exact qPh I (.inl hd) fun p s' hp I'=>⟨.ref p,_,I',rfl,q p hp⟩
end
section
variable {α:Type}
theorem qWe {x:Str}:∀{l:List (Str×α)},x∉l.map (·.1)→l.lookup x=none
 | [],_=>rfl
 | (n,v)::l,h=>by
  have h1:x≠n:=fun z=>h (z▸yYG)
  rw[zG _ _ (by simpa using h1)]
  exact qWe fun z=>h (yYH _ z)
theorem qQm {x:Str}{v:α}:∀{l:List (Str×α)} {i:Nat},(l.map (·.1)).Nodup→l[i]? = some (x,v)→l.lookup x=some v
 | (n,u)::l,0,_,e=>by
  cases e
  exact jC _ _ _
 | (n,u)::l,i+1,nd,e=>by
  have e:l[i]? = some (x,v):=e
  have nd':=List.nodup_cons.mp nd
  have h1:x≠n:=fun z=>nd'.1 (z▸yYP.mpr ⟨_,yYE e,rfl⟩)
  rw[zG _ _ (by simpa using h1)]
  exact qQm nd'.2 e
end
theorem vW {x:Str}:∀(kvs:List (Str×V)) (acc:List (Key×V)),(kvs.map (·.1)).Nodup→valV (mergeK acc (pairK kvs)) (Sum.inr x)=(match kvs.lookup x with | some v=>some v | none=>valV acc (Sum.inr x))
 | [],acc,_=>rfl
 | (n,v)::kvs,acc,nd=>by
  have nd':=List.nodup_cons.mp nd
  show valV (mergeK (putK acc (Sum.inr n) v) (pairK kvs)) (Sum.inr x)=_
  rw[vW kvs _ nd'.2]
  by_cases e:x=n
  ·subst e
   rw[qWe nd'.1,jC]
   show valV (putK acc (Sum.inr x) v) (Sum.inr x)=some v
   rw[kJ,if_pos rfl]
  ·rw[zG v kvs (by simpa using e)]
   cases kvs.lookup x with
   | some u=>rfl
   | none=>
    show valV (putK acc (Sum.inr n) v) (Sum.inr x)=valV acc (Sum.inr x)
    rw[kJ,if_neg (fun z=>e (Sum.inr.inj z))]
end L2

namespace PySem
section
variable {prog:Program}{w:World}{A:Around}{E:Value→Shared→Prop}{s:Shared}
end
end PySem
namespace L2
open PySem PySem.Spec PyProof.Rows
section
variable {X:Cx}{K:yZO}
end
section
variable {X:Cx}{K:yZO}
end
theorem qHa:∀{r r' s s':List Int},HT.lexLt r r'=true→r.length=r'.length→HT.lexLt (r++s) (r'++s')=true
 | [],[],_,_,h,_=>by rw[HT.lexLt_nil_nil] at h;cases h
 | x::r,y::r',s,s',h,hl=>by
  rw[HT.lexLt_cons] at h
  rw[List.cons_append,List.cons_append,HT.lexLt_cons]
  by_cases e:x=y
  ·rw[if_pos e] at h ⊢
   exact qHa h (by simpa using hl)
  ·rw[if_neg e] at h ⊢
   exact h
 | [],_::_,_,_,_,hl=>by simp at hl
 | _::_,[],_,_,_,hl=>by simp at hl
theorem qCc {a b:Int}(h:a<b):∀r:List Int,HT.lexLt (r++[a]) (r++[b])=true
 | []=>by
  show HT.lexLt [a] [b]=true
  rw[HT.lexLt_cons,if_neg (by omega)]
  exact decide_eq_true h
 | x::r=>by
  rw[List.cons_append,List.cons_append,HT.lexLt_cons,if_pos rfl]
  exact qCc h r
end L2

namespace PySem
section
variable {prog:Program}{w:World}{A:Around}{E:Value→Shared→Prop}{s:Shared}
end
end PySem
namespace L2
open PySem PySem.Spec PyProof.Rows
section
variable {X:Cx}{K:yZO}
end
end L2

namespace L2
open PySem PySem.Spec PyProof.Rows
def Ite (K:yZO)(a:Addr):It:=
 ⟨fun i H=>∃xs x,SqL K H a xs∧xs[i]? = some x,
   fun i H x H'=>∃T vx,x=.ref T∧H T=none∧H'=upd H T (.tup [.int (i:Int),vx])∧∀xs,SqL K H a xs→xs[i]? = some vx,
   fun i H=>∃xs,SqL K H a xs∧xs.length≤i⟩
theorem qFq {P:Program}{w:World}{K:yZO}{es:List Expr}{kk:Nat}{tp:Pos}(a e it:Addr)(nei:e≠it):
  Turn P w K (.Tuple es kk tp) (Ite K a) [e,it] e (fun i h=>(∃old,IsEnum h e it ((i:Nat):Int) old)∧h.IsListIter it a i) where
 mem:=by simp
 obj:=fun i h S b hb=>by
  obtain⟨⟨old,he⟩,o,ho,hc,hd⟩:=S
  simp only[yYK,List.not_mem_nil,or_false] at hb
  rcases hb with rfl | rfl
  ·exact⟨_,he,fun v q=>by cases(show Data.fields _=Data.cell v from q)⟩
  ·exact⟨o,ho,fun v q=>by rw[hd] at q;cases q⟩
 keep:=fun i h h' S k=>by
  obtain⟨⟨old,he⟩,hit⟩:=S
  exact⟨⟨old,k e (by simp) _ he⟩,hit.at fun o q=>k it (by simp) o q⟩
 item:=by
  intro X hP hw hK hc i pins s σ H E I hf S hg
  subst hP hw hK
  obtain⟨⟨old,he⟩,hit⟩:=S
  obtain⟨xs,x,hq,hx⟩:=hg
  obtain⟨its,rv,p,_⟩:=I.list hq
  obtain⟨u,hu,ru⟩:=rv.get hx
  have elt:e<s.heap.objs.size:=yYZ he
  have ilt:it<s.heap.objs.size:=by obtain⟨o,ho,_⟩:=hit;exact yYZ ho
  refine wpAny_pyNext_enum_item he hit p.isList (x:=u) (by simpa using hu) nei fun h' a1 a2 a3 a4 a5=>?_
  refine⟨.ref s.heap.objs.size,rfl,?_⟩
  refine wpAny_letOwnedTupleGo_enum (s:={ s with heap:=h',toks:=s.toks+1 }) a1 fun h'' he'' sb=>?_
  have k2:∀c o,c≠e→h'.get? c=some o→h''.get? c=some o:=fun c o c1 q=>sb.extBut _ _ c1 q
  have keep:∀c o,c∉[e,it]→s.heap.get? c=some o→h''.get? c=some o:=fun c o hcx q=>by
   simp only[yYK,List.not_mem_nil,or_false,not_or] at hcx
   exact k2 _ _ hcx.1 (a5 c o hcx.1 hcx.2 q)
  have hT'':=k2 _ _ (yZG elt) a3
  have fresh:H s.heap.objs.size=none:=I.hok.fresh (yZC _)
  have nfp:∀b o,H b=some o→b∉[e,it]:=fun b o q hb=>by
   have:=(hf b hb).1
   rw[q] at this;cases this
  have I1:Inv X pins σ (upd H s.heap.objs.size (.tup [.int (i:Int),x])) { s with heap:=h'',toks:=s.toks+1 }:=by
   refine I.step (h':=h'') (H':=upd H s.heap.objs.size (.tup [.int (i:Int),x])) (g':=s.gens) (d':=s.drawn) (t':=s.toks+1) (ch:=[e,it]) (fun b hb=>?_) (fun b o _ _ hc' q _=>keep b o hc' q) (fun b o _ _ hc' q _=>⟨o.slots,keep b o hc' q⟩) (fun b o hc' q n=>?_)
    (fun b o hc' q=>⟨o,keep b o hc' q⟩) (fun b zs q=>?_) (fun b o q' q=>?_) (fun b ps q=>⟨#[],?_⟩) (fun m hm=>?_) (fun b ob q=>?_) I.bare
   ·obtain⟨f0,f1,f2,f3,f4,f5⟩:=hf b hb
    exact⟨f3,f1,f4,f5⟩
   ·rw[qA (yZE (yYZ q))];exact n
   ·rw[qA (qB q fresh)];exact q
   ·rw[qA (qB q fresh)];exact q
   ·rw[qA (qB q fresh),q];simp
   ·obtain⟨o,es',ep,ho,r⟩:=hm
    exact⟨o,es',ep,keep _ o (fun hb=>(hf _ hb).2.1 rfl) ho,r⟩
   ·by_cases hb:b=s.heap.objs.size
    ·subst hb
     rw[qW] at q
     cases q
     exact⟨by show 2≤sizeLine;decide,[.int (i:Int) s.toks,u],.cons ⟨_,rfl⟩ (.cons ru .nil),⟨_,hT'',rfl,0,rfl,rfl⟩⟩
    ·rw[qA hb] at q
     refine(I.hok b ob q).stay (fun c o hc' q'=>keep c o ?_ q') (fun c q'=>by rw[qA (qB q' fresh)];exact q') fun c zs q'=>by rw[qA (qB q' fresh)];exact q'
     rcases hc' with rfl | hc'
     ·exact nfp _ _ q
     ·exact nfp _ _ hc'
  refine⟨.ref s.heap.objs.size,_,I1,rfl,⟨_,_,rfl,fresh,rfl,fun zs hz=>by rw[I.list_inj hz hq];exact hx⟩,⟨⟨u,by rw[Int.natCast_add];exact he''⟩,a2.at fun o q=>k2 _ _ (Ne.symm nei) q⟩,fun b hb=>?_⟩
  rw[qA ?_]
  ·exact(hf b hb).1
  ·simp only[yYK,List.not_mem_nil,or_false] at hb
   rcases hb with rfl | rfl
   ·exact yZE elt
   ·exact yZE ilt
 done:=by
  intro X hP hw hK hc i pins s σ H E I hf S hg
  subst hP hw hK
  obtain⟨⟨old,he⟩,hit⟩:=S
  obtain⟨xs,hq,hx⟩:=hg
  obtain⟨its,rv,p,_⟩:=I.list hq
  obtain⟨f0,f1,f2,f3,f4,f5⟩:=hf it (by simp)
  have hl:=rv.length
  exact wpAny_pyNext_enum_end (I.ok.hd hc) he hit p.isList (by simp;omega) fun h' eb=>⟨rfl,I.turned (t':=s.toks) (fun b o hb q=>eb b o hb q) f0 f1 f3 f4 f5⟩
 self:=fun _ _ _ _ _ S h=>by
  obtain⟨⟨old,he⟩,_⟩:=S
  exact wpAny_pyIter_enum he h
theorem qVa:bootBuiltins "enumerate" = some (.type "enumerate"):=by decide +kernel
theorem xJw:bootBuiltins "abs" = some (.builtin "abs"):=by decide +kernel
section
variable {X:Cx}{K:yZO}
def iEnum (K:yZO)(ta:TA):TI:=fun σ H R=>ta σ H fun vs H1=>∃l xs,vs=[.ref l]∧SqL K H1 l xs∧R (Ite K l) H1
theorem qNl {es:List Expr}{kk:Nat}{tp p pos:Pos}{a:Expr}{ta:TA}(hg:Gl X "enumerate")(hm:X.mg "enumerate" = none)(ha:PA X [a] ta)
  (hs:starEach [a] X.env=[(false,eval a X.env)]:=by rfl) (hK:X.K=K:=by rfl):PI X (.Tuple es kk tp) (.Call (.Name "enumerate" p) [a] [] pos) (iEnum K ta):=by
 subst hK
 intro pins s σ H R I h
 refine Call_ (qQo I hg hm qVa (PyProof.Rows.callWith_type1 (thn (ha pos pins s σ H _ I h) fun us s1 ⟨vs,H1,I1,r1,q1⟩=>?_) hs rfl))
 obtain⟨l,xs,rfl,hq,q⟩:=q1
 cases r1 with
 | cons r rr=>
  cases rr
  cases r
  obtain⟨its,r2,p2,_⟩:=I1.list hq
  refine call_enumerate_list p2.isList fun h' hE hI hsz hk=>?_
  have I2:Inv X pins σ H1 { s1 with heap:=h' }:=I1.kept (t':=s1.toks) hk
  refine wpAny_pyIter_enum (s:={ s1 with heap:=h' }) hE ?_
  refine⟨s1.heap.objs.size+1,[s1.heap.objs.size+1,s1.heap.objs.size],_,_,H1,rfl,I2,qFq l _ _ (Nat.succ_ne_self _),⟨⟨_,hE⟩,hI⟩,fun b hb=>?_,q⟩
  have hb':s1.heap.objs.size≤b:=by
   simp only[yYK,List.not_mem_nil,or_false] at hb
   rcases hb with rfl | rfl
   ·exact Nat.le_succ _
   ·exact yZC _
  exact I1.fpOk hb' (I1.hok.fresh hb')
end
theorem qOm {K:yZO}{a:Addr}{xs:List V}{g:TG}{tb:TS}{D:Ends}{σ:St}{H:Hp}(Pv:Nat→St→Hp→Prop)(h0:Pv 0 σ H)(hl:∀i σ H,i≤xs.length→Pv i σ H→SqL K H a xs)
  (hs:∀(N:St→Hp→Prop) (rt:VK) (bk:St→Hp→Prop) i x T σ H,xs[i]? = some x→H T=none→Pv i σ H→(∀σ H,Pv (i+1) σ H→N σ H)→g (.ref T) σ (upd H T (.tup [.int (i:Int),x])) fun σ2 H2=>tb ⟨N,rt,bk,N⟩ σ2 H2) (hd:∀σ H,Pv xs.length σ H→D.nx σ H):
  forK g tb D σ (Ite K a) H:=by
 refine⟨fun i m σ H=>m=xs.length - i∧i≤xs.length∧Pv i σ H,⟨xs.length,by simp,yZF _,h0⟩,?_⟩
 rintro i m σ H ⟨rfl,hi,p⟩
 have q1:=hl i σ H hi p
 by_cases hlt:i<xs.length
 ·refine .inr ⟨⟨xs,xs[i],q1,by simp[hlt]⟩,Pv (i+1),fun σ' H' p'=>⟨xs.length - (i+1),by omega,rfl,hlt,p'⟩,fun x H' y=>?_⟩
  obtain⟨T,vx,rfl,nT,rfl,e1⟩:=y
  exact hs _ _ _ i vx T σ H (e1 xs q1) nT p fun _ _ z=>z
 ·have e:i=xs.length:=by omega
  subst e
  exact .inl ⟨⟨xs,q1,yZC _⟩,hd σ H p⟩
theorem Vals.pick {xs:List V}{us:List Value}(r:Vals xs us):∀idx:List Nat,Vals (idx.filterMap (xs[·]?)) (idx.filterMap (us[·]?))
 | []=>.nil
 | i::idx=>by
  have ih:=Vals.pick r idx
  rw[List.filterMap_cons,List.filterMap_cons]
  cases e:xs[i]? with
  | none=>
   have:us[i]? = none:=List.getElem?_eq_none (by rw[← r.length];exact List.getElem?_eq_none_iff.mp e)
   rw[this];exact ih
  | some x=>
   obtain⟨u,eu,ru⟩:=r.get e
   rw[eu];exact .cons ru ih
section
variable {X:Cx}{K:yZO}{e st:Expr}{te ts:TE}{lo hi:Option Expr}{tl th:TO}{pos p2:Pos}
end
open FP
open Classical in
open Classical in
section
variable {X:Cx}{es rest:List Expr}{kw:List Keyword}{f a b:Expr}{k:Nat}{pos:Pos}{env:Env}{te:TE}{t:TA}
theorem qMo:starEach (.Tuple es k pos::rest) env=(false,eval (.Tuple es k pos) env)::starEach rest env:=rfl
theorem qNz:starEach (.List es pos::rest) env=(false,eval (.List es pos) env)::starEach rest env:=rfl
theorem qNq:starEach (.Subscript a b pos::rest) env=(false,eval (.Subscript a b pos) env)::starEach rest env:=rfl
theorem qFw:starEach (.Call f es kw pos::rest) env=(false,eval (.Call f es kw pos) env)::starEach rest env:=rfl
theorem qNj {v:Const}:starEach (.Constant v k pos::rest) env=(false,eval (.Constant v k pos) env)::starEach rest env:=rfl
theorem qNx {x:Str}:starEach (.Name x pos::rest) env=(false,eval (.Name x pos) env)::starEach rest env:=rfl
theorem zI {v:Const}(ha:PE X (.Constant v k pos) te)(hr:PA X rest t):PA X (.Constant v k pos::rest) (tCons te t):=qQ ha hr qNj
theorem xM {x:Str}(ha:PE X (.Name x pos) te)(hr:PA X rest t):PA X (.Name x pos::rest) (tCons te t):=qQ ha hr qNx
theorem qCq (ha:PE X (.Tuple es k pos) te)(hr:PA X rest t):PA X (.Tuple es k pos::rest) (tCons te t):=qQ ha hr qMo
theorem qJb (ha:PE X (.List es pos) te)(hr:PA X rest t):PA X (.List es pos::rest) (tCons te t):=qQ ha hr qNz
theorem wI (ha:PE X (.Subscript a b pos) te)(hr:PA X rest t):PA X (.Subscript a b pos::rest) (tCons te t):=qQ ha hr qNq
theorem qJc (ha:PE X (.Call f es kw pos) te)(hr:PA X rest t):PA X (.Call f es kw pos::rest) (tCons te t):=qQ ha hr qFw
end
end L2

namespace TM
open PySem PyProof.Rows
section
variable {prog:Program}{w:World}{A:Around}{E:Value→Shared→Prop}{s:Shared}{O:KeyOrd}{key:Value→O.α}{κ:SortKind}{a₀:Array Keyed}
def AskS (prog:Program)(w:World)(A:Around)(s:Shared)(key:Value→O.α)(κ:SortKind)(a₀:Array Keyed):Prop:=
 ∀x y:Keyed,x∈a₀.toList→y∈a₀.toList→∀(E:Value→Shared→Prop) (Q:Bool→Shared→Prop),Q (O.blt (key x.1) (key y.1)) s→wpAny (model prog w) A (keyLt' κ x.1 y.1) Q E s
structure SB (κ:SortKind)(a₀:Array Keyed)(st:SortSt):Prop where
 perm:(arrOf st).Perm a₀
 kind:kindOf st=κ
 failed:failedOf st=none
theorem SB.size {st:SortSt}(h:SB κ a₀ st):(arrOf st).size=a₀.size:=h.perm.size_eq
theorem SB.setArr {st:SortSt}(h:SB κ a₀ st){xs:Array Keyed}(p:xs.Perm (arrOf st)):SB κ a₀ (setArr st xs):=⟨p.trans h.perm,h.kind,h.failed⟩
theorem SB.mem {st:SortSt}(h:SB κ a₀ st){x:Keyed}(hx:x∈(arrOf st).toList):x∈a₀.toList:=(Array.perm_iff_toList_perm.mp h.perm).mem_iff.mp hx
def ak (key:Value→O.α)(xs:Array Keyed)(i:Nat):O.α:=key (xs[i]?.getD (Value.none,Value.none)).1
theorem qYj {xs:Array Keyed}{i:Nat}{x:Keyed}(e:xs[i]? = some x):ak key xs i=key x.1:=by unfold ak;rw[e];rfl
theorem qMh {xs ys:Array Keyed}{i j:Nat}(h:xs[i]? = ys[j]?):ak key xs i=ak key ys j:=by unfold ak;rw[h]
theorem s_lt (K:AskS prog w A s key κ a₀){st:SortSt}{x y:Keyed}{Q:Option Bool→SortSt→Prop}(hk:kindOf st=κ)(hx:x∈a₀.toList)(hy:y∈a₀.toList)(h:Q (some (O.blt (key x.1) (key y.1))) st):
  wpS (model prog w) A E s (lt' x y) Q st:=by
 rw[lt'_eq]
 refine wpS_bind (wpS_get ?_)
 rw[hk]
 refine wpS_bind (wpS_lift (wpAny_attempt (K x y hx hy _ _ ⟨rfl,?_⟩)))
 exact wpS_pure h
theorem zK {st:SortSt}{arr:Array Keyed}{i:Nat}{x:Keyed}{Q:Keyed→SortSt→Prop}(e:arr[i]? = some x)(h:Q x st):wpS (model prog w) A E s (elem' arr i) Q st:=by
 rw[elem'_eq,e];exact wpS_pure h
theorem qYo (K:AskS prog w A s key κ a₀){st:SortSt}{i j:Nat}{Q:Option Bool→SortSt→Prop}(hB:SB κ a₀ st)(hi:i<a₀.size)(hj:j<a₀.size)(h:Q (some (O.blt (ak key (arrOf st) i) (ak key (arrOf st) j))) st):
  wpS (model prog w) A E s (ltAt' i j) Q st:=by
 have hi':i<(arrOf st).size:=by rw[hB.size];exact hi
 have hj':j<(arrOf st).size:=by rw[hB.size];exact hj
 have ei:(arrOf st)[i]? = some (arrOf st)[i]:=getElem?_pos _ i hi'
 have ej:(arrOf st)[j]? = some (arrOf st)[j]:=getElem?_pos _ j hj'
 rw[qYj ei,qYj ej] at h
 rw[ltAt'_eq]
 refine wpS_bind (wpS_get ?_)
 refine wpS_bind (zK ei (wpS_bind (zK ej ?_)))
 exact s_lt K hB.kind (hB.mem (Array.getElem_mem_toList hi')) (hB.mem (Array.getElem_mem_toList hj')) h
def Up (key:Value→O.α)(xs:Array Keyed)(lo k:Nat):Prop:=∀i j,i≤j→j<k→O.kle (ak key xs (lo+i)) (ak key xs (lo+j))
def Dw (key:Value→O.α)(xs:Array Keyed)(lo k:Nat):Prop:=∀i j,i≤j→j<k→O.kle (ak key xs (lo+j)) (ak key xs (lo+i))
theorem Up.one {xs:Array Keyed}{lo:Nat}:Up key xs lo 1:=fun i j a b=>by
 have:i=j:=by omega
 subst this;exact KeyOrd.kle_refl _
theorem Up.step {xs:Array Keyed}{lo a:Nat}(u:Up key xs lo a)(h1:1≤a)(l:O.kle (ak key xs (lo+a - 1)) (ak key xs (lo+a))):Up key xs lo (a+1):=fun i j hij hj=>by
 by_cases e:j<a
 ·exact u i j hij e
 ·have:j=a:=by omega
  subst this
  by_cases e2:i=j
  ·subst e2;exact KeyOrd.kle_refl _
  ·refine KeyOrd.kle_trans (u i (j - 1) (by omega) (by omega)) ?_
   rw[show lo+(j - 1)=lo+j - 1 by omega];exact l
theorem Dw.step {xs:Array Keyed}{lo a:Nat}(u:Dw key xs lo a)(h1:1≤a)(l:O.kle (ak key xs (lo+a)) (ak key xs (lo+a - 1))):Dw key xs lo (a+1):=fun i j hij hj=>by
 by_cases e:j<a
 ·exact u i j hij e
 ·have:j=a:=by omega
  subst this
  by_cases e2:i=j
  ·subst e2;exact KeyOrd.kle_refl _
  ·refine KeyOrd.kle_trans ?_ (u i (j - 1) (by omega) (by omega))
   rw[show lo+(j - 1)=lo+j - 1 by omega];exact l
theorem qMg {xs:Array Keyed}{i j:Nat}(hj:j≤xs.size)(k:Nat):ak key (mirror xs i j ((j - i) / 2)) k=if i≤k∧k<j then ak key xs (i+j - 1 - k) else ak key xs k:=by
 have e:=getElem?_mirror_all (i:=i) hj k
 by_cases h1:i≤k∧k<j
 ·rw[if_pos h1] at e ⊢;exact qMh e
 ·rw[if_neg h1] at e ⊢;exact qMh e
theorem qXe {xs:Array Keyed}{i j:Nat}(hj:j≤xs.size)(he:∀k,i≤k→k<j→ak key xs k=ak key xs (j - 1))(k:Nat):ak key (mirror xs i j ((j - i) / 2)) k=ak key xs k:=by
 rw[qMg hj]
 split
 ·rw[he _ (by omega) (by omega),he k (by omega) (by omega)]
 ·rfl
theorem qSw {xs:Array Keyed}{m d:Nat}(hs:m<xs.size)(hd:d≤m)(k:Nat):ak key (bubble xs m d) k=if k=m - d then ak key xs m else if m - d<k∧k≤m then ak key xs (k - 1) else ak key xs k:=by
 have e:=getElem?_bubble hs d hd k
 by_cases h1:k=m - d
 ·rw[if_pos h1] at e ⊢;exact qMh e
 ·rw[if_neg h1] at e ⊢
  by_cases h2:m - d<k∧k≤m
  ·rw[if_pos h2] at e ⊢;exact qMh e
  ·rw[if_neg h2] at e ⊢;exact qMh e
structure Nx (κ:SortKind)(a₀:Array Keyed)(lo:Nat)(st st':SortSt):Prop where
 sb:SB κ a₀ st'
 keep:∀i,i<lo→(arrOf st')[i]? = (arrOf st)[i]?
 pend:pendingOf st'=pendingOf st
theorem Nx.refl {lo:Nat}{st:SortSt}(h:SB κ a₀ st):Nx κ a₀ lo st st:=⟨h,fun _ _=>rfl,rfl⟩
theorem Nx.rev {lo i j:Nat}{st st':SortSt}(h:Nx κ a₀ lo st st')(hi:lo≤i)(hj:j≤a₀.size):Nx κ a₀ lo st (setArr st' (mirror (arrOf st') i j ((j - i) / 2))):=
 ⟨h.sb.setArr (mirror_perm _ _ _ _),fun k hk=>by
  refine(getElem?_mirror_all (i:=i) (by rw[h.sb.size];exact hj) k).trans ?_
  rw[if_neg (by omega)];exact h.keep k hk,h.pend⟩
theorem Nx.bub {lo m d:Nat}{st st':SortSt}(h:Nx κ a₀ lo st st')(hm:m<a₀.size)(hd:lo+d≤m):Nx κ a₀ lo st (setArr st' (bubble (arrOf st') m d)):=
 ⟨h.sb.setArr (bubble_perm _ _ _),fun k hk=>by
  refine(getElem?_bubble (by rw[h.sb.size];exact hm) d (by omega) k).trans ?_
  rw[if_neg (by omega),if_neg (by omega)];exact h.keep k hk,h.pend⟩

def upL (lo a m:Nat):StateT SortSt Sem AscSt:=
 forIn [a:m] ((none,a):AscSt) fun _ z=>do
  let c ← ltAt' (lo+z.2) (lo+z.2 - 1)
  match c with
  | some c=>if c=true then pure (ForInStep.done (none,z.2)) else pure (ForInStep.yield (none,z.2+1))
  | _=>pure (ForInStep.done (some none,z.2))
def finL (lo n m:Nat):StateT SortSt Sem (Option Nat):=do
 reverseSlice' lo (lo+n)
 let z ← upL lo n m
 match z.1 with
 | some r=>pure r
 | none=>pure (some z.2)
def dnL (lo n m:Nat):StateT SortSt Sem DescSt:=
 forIn [n:m] ((none,n,0):DescSt) fun _ z=>do
  let c ← ltAt' (lo+z.2.1) (lo+z.2.1 - 1)
  match c with
  | some c=>
   if c=true then
    if z.2.2>0 then do
     reverseSlice' (lo+z.2.1 - (z.2.2+1)) (lo+z.2.1)
     pure (ForInStep.yield (none,z.2.1+1,0))
    else pure (ForInStep.yield (none,z.2.1+1,0))
   else do
    let d ← ltAt' (lo+z.2.1 - 1) (lo+z.2.1)
    match d with
    | some d=>if d=true then pure (ForInStep.done (none,z.2.1,z.2.2)) else pure (ForInStep.yield (none,z.2.1+1,z.2.2+1))
    | _=>pure (ForInStep.done (some none,z.2.1,z.2.2))
  | _=>pure (ForInStep.done (some none,z.2.1,z.2.2))
def dnP (lo n m:Nat):StateT SortSt Sem (Option Nat):=do
 liftM (rule "list.sort.descending-run")
 let z ← dnL lo (n+1) m
 match z.1 with
 | some r=>pure r
 | none=>
  if z.2.2>0 then do
   reverseSlice' (lo+z.2.1 - (z.2.2+1)) (lo+z.2.1)
   finL lo z.2.1 m
  else finL lo z.2.1 m
def cntL (lo m:Nat):StateT SortSt Sem (Option Nat):=do
 let z ← upL lo 1 m
 match z.1 with
 | some r=>pure r
 | none=>
  if (z.2 == m)=true then pure (some z.2)
  else if z.2>1 then do
   let c ← ltAt' lo (lo+z.2 - 1)
   match c with
   | some c=>if c=true then pure (some z.2) else do
     reverseSlice' lo (lo+z.2)
     dnP lo z.2 m
   | _=>pure none
  else dnP lo z.2 m
theorem xJk (lo m:Nat):countRun' lo m=cntL lo m:=by
 have T:∀(n:Nat) (f:AscSt→StateT SortSt Sem (Option Nat)),(∀z,f z=match z.1 with | some r=>pure r | none=>pure (some z.2))→(do reverseSlice' lo (lo+n);let z ← upL lo n m;f z)=finL lo n m:=fun n f hf=>by
  unfold finL
  rw[funext hf]
 rw[countRun'_eq]
 unfold cntL dnP dnL
 refine congrArg (bind (upL lo 1 m)) (funext fun z=>?_)
 obtain⟨r,n⟩:=z
 cases r with
 | some r=>rfl
 | none=>
  dsimp only
  split
  ·rfl
  ·split
   ·congr 1
    funext c
    cases c with
    | none=>rfl
    | some c=>
     dsimp only
     split
     ·rfl
     ·congr 1
      funext _
      congr 1
      funext _
      congr 1
      funext q
      obtain⟨r2,n2,q2⟩:=q
      cases r2 with
      | some r2=>rfl
      | none=>
       dsimp only
       split
       ·congr 1;funext _;exact T n2 _ fun z=>by obtain⟨r3,n3⟩:=z;cases r3 <;> rfl
       ·exact T n2 _ fun z=>by obtain⟨r3,n3⟩:=z;cases r3 <;> rfl
   ·congr 1
    funext _
    congr 1
    funext q
    obtain⟨r2,n2,q2⟩:=q
    cases r2 with
    | some r2=>rfl
    | none=>
     dsimp only
     split
     ·congr 1;funext _;exact T n2 _ fun z=>by obtain⟨r3,n3⟩:=z;cases r3 <;> rfl
     ·exact T n2 _ fun z=>by obtain⟨r3,n3⟩:=z;cases r3 <;> rfl
theorem qNa {st:SortSt}{i j:Nat}{Q:Unit→SortSt→Prop}(h:Q () (setArr st (mirror (arrOf st) i j ((j - i) / 2)))):wpS (model prog w) A E s (reverseSlice' i j) Q st:=by
 rw[reverseSlice'_eq];exact wpS_modify h
theorem s_up (K:AskS prog w A s key κ a₀){st:SortSt}{lo a m:Nat}{Q:AscSt→SortSt→Prop}(hm:lo+m≤a₀.size)(h1:1≤a)(ha:a≤m)(hB:SB κ a₀ st)(u:Up key (arrOf st) lo a)
  (h:∀n,a≤n→n≤m→Up key (arrOf st) lo n→(n=m∨O.klt (ak key (arrOf st) (lo+n)) (ak key (arrOf st) (lo+n - 1)))→Q (none,n) st):wpS (model prog w) A E s (upL lo a m) Q st:=by
 unfold upL
 refine wpS_forRange (I:=fun x c st'=>st'=st∧c=(none,x)∧Up key (arrOf st) lo x) ?step ?fin ⟨rfl,rfl,u⟩
 case fin=>
  rintro c st' ⟨rfl,rfl,u'⟩
  rw[show max a m=m by omega] at u' ⊢
  exact h m ha (yZC _) u' (.inl rfl)
 case step=>
  rintro x c st' ax xm ⟨rfl,rfl,u'⟩
  dsimp only
  refine wpS_bind (qYo K hB (by omega) (by omega) ?_)
  cases c:O.blt (ak key (arrOf st') (lo+x)) (ak key (arrOf st') (lo+x - 1)) with
  | true=>
   simp only[if_true]
   exact wpS_pure (h x ax (by omega) u' (.inr c))
  | false=>
   simp only[yZJ,if_false]
   exact wpS_pure ⟨rfl,rfl,u'.step (by omega) c⟩
theorem xQo (K:AskS prog w A s key κ a₀){st st0:SortSt}{lo n m:Nat}{Q:Option Nat→SortSt→Prop}(hm:lo+m≤a₀.size)(h1:1≤n)(hn:n≤m)(hB:Nx κ a₀ lo st0 st)(d:Dw key (arrOf st) lo n)
  (h:∀k st',Nx κ a₀ lo st0 st'→1≤k→k≤m→Up key (arrOf st') lo k→Q (some k) st'):wpS (model prog w) A E s (finL lo n m) Q st:=by
 unfold finL
 refine wpS_bind (qNa ?_)
 have hB':=hB.rev (yZC lo) (show lo+n≤a₀.size by omega)
 have z:lo+n≤(arrOf st).size:=by rw[hB.sb.size];omega
 refine wpS_bind (s_up K hm h1 hn hB'.sb ?_ fun k a1 a2 a3 _=>wpS_pure (h k _ hB' (by omega) a2 a3))
 intro i j hij hj
 show O.kle (ak key (mirror (arrOf st) lo (lo+n) ((lo+n - lo) / 2)) (lo+i)) (ak key (mirror (arrOf st) lo (lo+n) ((lo+n - lo) / 2)) (lo+j))
 rw[qMg z,qMg z,if_pos (by omega),if_pos (by omega)]
 have:=d (n - 1 - j) (n - 1 - i) (by omega) (by omega)
 rw[show lo+(lo+n) - 1 - (lo+i)=lo+(n - 1 - i) by omega,show lo+(lo+n) - 1 - (lo+j)=lo+(n - 1 - j) by omega]
 exact this
theorem s_dn (K:AskS prog w A s key κ a₀){st st0:SortSt}{lo n m:Nat}{Q:DescSt→SortSt→Prop}(hm:lo+m≤a₀.size)(h1:1≤n)(hn:n≤m)(hB:Nx κ a₀ lo st0 st)(d:Dw key (arrOf st) lo n)
  (h:∀k q st',Nx κ a₀ lo st0 st'→n≤k→k≤m→Dw key (arrOf st') lo k→q+1≤k→(∀i,lo+k - (q+1)≤i→i<lo+k→ak key (arrOf st') i=ak key (arrOf st') (lo+k - 1))→Q (none,k,q) st'):wpS (model prog w) A E s (dnL lo n m) Q st:=by
 unfold dnL
 refine wpS_forRange (I:=fun x c st'=>∃q,c=(none,x,q)∧Nx κ a₀ lo st0 st'∧Dw key (arrOf st') lo x∧q+1≤x∧(∀i,lo+x - (q+1)≤i→i<lo+x→ak key (arrOf st') i=ak key (arrOf st') (lo+x - 1)))
  ?step ?fin ⟨0,rfl,hB,d,by omega,fun i x y=>by congr 1;omega⟩
 case fin=>
  rintro c st' ⟨q,rfl,hB',d',hq,he⟩
  rw[show max n m=m by omega] at d' hq he ⊢
  exact h m q st' hB' hn (yZC _) d' hq he
 case step=>
  rintro x c st' ax xm ⟨q,rfl,hB',d',hq,he⟩
  dsimp only
  have z:lo+x≤(arrOf st').size:=by rw[hB'.sb.size];omega
  refine wpS_bind (qYo K hB'.sb (by omega) (by omega) ?_)
  cases c:O.blt (ak key (arrOf st') (lo+x)) (ak key (arrOf st') (lo+x - 1)) with
  | true=>
   simp only[if_true]
   have d1:∀xs:Array Keyed,(∀k,ak key xs k=ak key (arrOf st') k)→Dw key xs lo (x+1):=fun xs e=>by
    refine Dw.step (fun i j y z=>by rw[e,e];exact d' i j y z) (by omega) ?_
    rw[e,e];exact KeyOrd.kle_of_klt c
   by_cases q0:q>0
   ·rw[if_pos q0]
    exact wpS_bind (qNa (wpS_pure ⟨0,rfl,hB'.rev (by omega) (by omega),d1 _ (qXe z he),by omega,fun i y z=>by congr 1;omega⟩))
   ·rw[if_neg q0]
    exact wpS_pure ⟨0,rfl,hB',d1 _ (fun _=>rfl),by omega,fun i y z=>by congr 1;omega⟩
  | false=>
   simp only[yZJ,if_false]
   refine wpS_bind (qYo K hB'.sb (by omega) (by omega) ?_)
   cases c2:O.blt (ak key (arrOf st') (lo+x - 1)) (ak key (arrOf st') (lo+x)) with
   | true=>
    simp only[if_true]
    exact wpS_pure (h x q st' hB' ax (by omega) d' hq he)
   | false=>
    simp only[yZJ,if_false]
    have e:ak key (arrOf st') (lo+x)=ak key (arrOf st') (lo+x - 1):=KeyOrd.kle_antisymm c2 c
    refine wpS_pure ⟨q+1,rfl,hB',d'.step (by omega) c2,by omega,fun i y z=>?_⟩
    rw[show lo+(x+1) - 1=lo+x by omega]
    by_cases ix:i=lo+x
    ·subst ix;rfl
    ·rw[e];exact he i (by omega) (by omega)
theorem xXq (K:AskS prog w A s key κ a₀){st st0:SortSt}{lo n m:Nat}{Q:Option Nat→SortSt→Prop}(hm:lo+m≤a₀.size)(hn:n+1≤m)(hB:Nx κ a₀ lo st0 st)(d:Dw key (arrOf st) lo (n+1))
  (h:∀k st',Nx κ a₀ lo st0 st'→1≤k→k≤m→Up key (arrOf st') lo k→Q (some k) st'):wpS (model prog w) A E s (dnP lo n m) Q st:=by
 unfold dnP
 refine wpS_bind (wpS_lift (wpAny_rule ⟨rfl,?_⟩))
 refine wpS_bind (s_dn K hm (by omega) hn hB d fun k q st' hB' a1 a2 d' hq he=>?_)
 dsimp only
 have z:lo+k≤(arrOf st').size:=by rw[hB'.sb.size];omega
 by_cases q0:q>0
 ·rw[if_pos q0]
  refine wpS_bind (qNa (xQo K hm (by omega) a2 (hB'.rev (by omega) (by omega)) (fun i j x y=>?_) h))
  show O.kle (ak key (mirror (arrOf st') _ _ _) _) (ak key (mirror (arrOf st') _ _ _) _)
  rw[qXe z he,qXe z he]
  exact d' i j x y
 ·rw[if_neg q0]
  exact xQo K hm (by omega) a2 hB' d' h
theorem qSi (K:AskS prog w A s key κ a₀){st:SortSt}{lo m:Nat}{Q:Option Nat→SortSt→Prop}(hm:lo+m≤a₀.size)(h1:1≤m)(hB:SB κ a₀ st)
  (h:∀k st',Nx κ a₀ lo st st'→1≤k→k≤m→Up key (arrOf st') lo k→Q (some k) st'):wpS (model prog w) A E s (countRun' lo m) Q st:=by
 rw[xJk]
 unfold cntL
 refine wpS_bind (s_up K hm (yZC 1) h1 hB Up.one fun n a1 a2 u or=>?_)
 dsimp only
 by_cases e:n=m
 ·rw[if_pos (by simpa using e)]
  exact wpS_pure (h n st (Nx.refl hB) a1 a2 u)
 rw[if_neg (by simpa using e)]
 have lt:=or.resolve_left e
 have z:lo+n≤(arrOf st).size:=by rw[hB.size];omega
 by_cases n1:n>1
 ·rw[if_pos n1]
  refine wpS_bind (qYo K hB (by omega) (by omega) ?_)
  cases c:O.blt (ak key (arrOf st) lo) (ak key (arrOf st) (lo+n - 1)) with
  | true=>
   simp only[if_true]
   exact wpS_pure (h n st (Nx.refl hB) a1 a2 u)
  | false=>
   simp only[yZJ,if_false]
   have all:∀k,lo≤k→k<lo+n→ak key (arrOf st) k=ak key (arrOf st) (lo+n - 1):=fun k x y=>by
    have u1:=u (k - lo) (n - 1) (by omega) (by omega)
    have u2:=u 0 (k - lo) (by omega) (by omega)
    rw[show lo+(k - lo)=k by omega] at u1 u2
    rw[show lo+(n - 1)=lo+n - 1 by omega] at u1
    exact KeyOrd.kle_antisymm u1 (KeyOrd.kle_trans c u2)
   refine wpS_bind (qNa (xXq K hm (by omega) ((Nx.refl hB).rev (yZC lo) (by omega)) (fun i j x y=>?_) h))
   show O.kle (ak key (mirror (arrOf st) _ _ _) _) (ak key (mirror (arrOf st) _ _ _) _)
   rw[qXe z all,qXe z all]
   by_cases ja:j<n
   ·rw[all (lo+i) (by omega) (by omega),all (lo+j) (by omega) (by omega)];exact KeyOrd.kle_refl _
   ·have:j=n:=by omega
    subst this
    by_cases ij:i=j
    ·subst ij;exact KeyOrd.kle_refl _
    ·rw[all (lo+i) (by omega) (by omega)];exact KeyOrd.kle_of_klt lt
 ·rw[if_neg n1]
  have:n=1:=by omega
  subst this
  refine xXq K hm (by omega) (Nx.refl hB) (fun i j x y=>?_) h
  by_cases ij:i=j
  ·subst ij;exact KeyOrd.kle_refl _
  ·have e1:i=0:=by omega
   have e2:j=1:=by omega
   subst e1 e2
   exact KeyOrd.kle_of_klt lt
theorem xYa (K:AskS prog w A s key κ a₀){st:SortSt}{lo n ok:Nat}{Q:Bool→SortSt→Prop}(hn:lo+n≤a₀.size)(hok:ok≤n)(hB:SB κ a₀ st)(u:Up key (arrOf st) lo ok)
  (h:∀st',Nx κ a₀ lo st st'→Up key (arrOf st') lo n→Q true st'):wpS (model prog w) A E s (binarySort' lo n ok) Q st:=by
 rw[binarySort'_eq]
 refine wpS_bind (wpS_mono (wpS_forRange (I:=fun k c st'=>c=(none,())∧Nx κ a₀ lo st st'∧Up key (arrOf st') lo (min k n))
  (Q:=fun c st'=>c=(none,())∧Nx κ a₀ lo st st'∧Up key (arrOf st') lo n) ?step ?fin ?init) ?post)
 case post=>
  rintro c st' ⟨rfl,hB',u'⟩
  exact wpS_pure (h st' hB' u')
 case init=>
  refine⟨rfl,Nx.refl hB,fun i j hij hj=>?_⟩
  by_cases h1:ok=0
  ·have:i=j:=by omega
   subst this;exact KeyOrd.kle_refl _
  ·exact u i j hij (by omega)
 case fin=>
  rintro c st' ⟨hc,hB',u'⟩
  refine⟨hc,hB',?_⟩
  rwa [show min (max (max ok 1) n) n=n by omega] at u'
 case step=>
  rintro k c st' ak' kn ⟨rfl,hB',u'⟩
  rw[show min k n=k by omega] at u'
  refine wpS_bind (wpS_mono (wpS_forRange (I:=fun x c st''=>st''=st'∧∃l r,c=(none,l,r)∧l≤r∧r≤k∧r - l≤k - x∧
    (∀i,i<l→O.kle (ak key (arrOf st') (lo+i)) (ak key (arrOf st') (lo+k)))∧(∀i,r≤i→i<k→O.klt (ak key (arrOf st') (lo+k)) (ak key (arrOf st') (lo+i))))
   (Q:=fun c st''=>st''=st'∧∃l r,c=(none,l,r)∧l≤k∧
    (∀i,i<l→O.kle (ak key (arrOf st') (lo+i)) (ak key (arrOf st') (lo+k)))∧(∀i,l≤i→i<k→O.klt (ak key (arrOf st') (lo+k)) (ak key (arrOf st') (lo+i)))) ?istep ?ifin ?iinit) ?ipost)
  case iinit=>exact⟨rfl,0,k,rfl,by omega,by omega,by omega,fun i hi=>by omega,fun i h1 h2=>by omega⟩
  case ifin=>
   rintro c st'' ⟨rfl,l,r,rfl,lr,rk,hm,lo',hi'⟩
   have:l=r:=by omega
   subst this
   exact⟨rfl,l,l,rfl,rk,lo',hi'⟩
  case istep=>
   rintro x c st'' _ xk ⟨rfl,l,r,rfl,lr,rk,hm,lo',hi'⟩
   dsimp only
   by_cases ge:l≥r
   ·rw[if_pos ge]
    have:l=r:=by omega
    subst this
    exact wpS_pure ⟨rfl,l,l,rfl,rk,lo',hi'⟩
   ·rw[if_neg ge]
    refine wpS_bind (qYo K hB'.sb (by omega) (by omega) ?_)
    cases c:O.blt (ak key (arrOf st'') (lo+k)) (ak key (arrOf st'') (lo+(l+r) / 2)) with
    | true=>
     simp only[if_true]
     refine wpS_pure ⟨rfl,l,(l+r) / 2,rfl,by omega,by omega,by omega,lo',fun i h1 h2=>?_⟩
     exact KeyOrd.klt_of_klt_of_kle c (u' _ _ h1 h2)
    | false=>
     simp only[yZJ,if_false]
     refine wpS_pure ⟨rfl,(l+r) / 2+1,r,rfl,by omega,by omega,by omega,fun i h1=>?_,hi'⟩
     exact KeyOrd.kle_trans (u' i ((l+r) / 2) (by omega) (by omega)) c
  case ipost=>
   rintro c st'' ⟨rfl,l,r,rfl,lk,lo',hi'⟩
   show wpS _ _ _ _ (do moveDown' (lo+k) (lo+l);pure (ForInStep.yield (none,()))) _ _
   rw[moveDown'_eq]
   have z:lo+k<(arrOf st'').size:=by rw[hB'.sb.size];omega
   refine wpS_bind (wpS_modify (wpS_pure ⟨rfl,hB'.bub (by omega) (by omega),?_⟩))
   rw[show min (k+1) n=k+1 by omega]
   intro i j hij hj
   show O.kle (ak key (bubble (arrOf st'') (lo+k) (lo+k - (lo+l))) (lo+i)) (ak key (bubble (arrOf st'') (lo+k) (lo+k - (lo+l))) (lo+j))
   rw[qSw z (by omega),qSw z (by omega),show lo+k - (lo+k - (lo+l))=lo+l by omega]
   have m1:∀i,lo+i - 1=lo+(i - 1)∨i=0:=fun i=>by omega
   repeat' split
   all_goals first
    | (exfalso;omega)
    | exact KeyOrd.kle_refl _
    | exact lo' _ (by omega)
    | exact KeyOrd.kle_of_klt (hi' _ (by omega) (by omega))
    | exact u' _ _ (by omega) (by omega)
    | (rw[show lo+j - 1=lo+(j - 1) by omega];first | exact KeyOrd.kle_of_klt (hi' _ (by omega) (by omega)) | exact u' _ _ (by omega) (by omega) | (rw[show lo+i - 1=lo+(i - 1) by omega];exact u' _ _ (by omega) (by omega)))
    | (rw[show lo+i - 1=lo+(i - 1) by omega];exact u' _ _ (by omega) (by omega))
end
end TM

namespace TM
open PySem PyProof.Rows
def gal':Bool→Keyed→Array Keyed→Nat→Nat→Nat→StateT SortSt Sem (Option Nat):=sortPriv% PySem.Builtin.gallop
def mlo':Array Keyed→Array Keyed→StateT SortSt Sem (Array Keyed):=sortPriv% PySem.Builtin.mergeLo
def mhi':Array Keyed→Array Keyed→StateT SortSt Sem (Array Keyed):=sortPriv% PySem.Builtin.mergeHi
def bey (left:Bool)(x:Keyed)(arr:Array Keyed)(b0 i:Nat):StateT SortSt Sem (Option Bool):=do
 let y ← elem' arr (b0+i)
 if left then lt' y x else return(← lt' x y).map (!·)
def halve (left:Bool)(x:Keyed)(arr:Array Keyed)(b0 n lo hi:Nat):StateT SortSt Sem (Option Nat):=do
 let mut l:=lo
 let mut h:=hi
 for _ in [0:n] do
  if l≥h then break
  let m:=l+(h - l) / 2
  let some c ← bey left x arr b0 m | return none
  if c then l:=m+1 else h:=m
 return some h
theorem xZf (left:Bool)(x:Keyed)(arr:Array Keyed)(b0 n at0:Nat):gal' left x arr b0 n at0=(do
  let some r ← bey left x arr b0 at0 | return none
  if r then
   let mut la:=0
   let mut of:=1
   for _ in [0:n] do
    if of≥n - at0 then break
    let some c ← bey left x arr b0 (at0+of) | return none
    if !c then break
    la:=of
    of:=2 * of+1
   halve left x arr b0 n (at0+la+1) (at0+min of (n - at0))
  else
   let mut la:=0
   let mut of:=1
   for _ in [0:n] do
    if of≥at0+1 then break
    let some c ← bey left x arr b0 (at0 - of) | return none
    if c then break
    la:=of
    of:=2 * of+1
   halve left x arr b0 n (at0+1 - min of (at0+1)) (at0 - la)):=by
 unfold halve
 refine congrArg (bind (bey left x arr b0 at0)) (funext fun r=>?_)
 cases r with
 | none=>rfl
 | some r=>
  dsimp only
  cases r with
  | true=>
   simp only[if_true]
   refine congrArg (bind _) (funext fun z=>?_)
   obtain⟨q,la,of⟩:=z
   cases q with
   | some q=>rfl
   | none=>rfl
  | false=>
   simp only[yZJ,if_false]
   refine congrArg (bind _) (funext fun z=>?_)
   obtain⟨q,la,of⟩:=z
   cases q with
   | some q=>rfl
   | none=>rfl
section
variable {prog:Program}{w:World}{A:Around}{E:Value→Shared→Prop}{s:Shared}{O:KeyOrd}{key:Value→O.α}{κ:SortKind}{a₀:Array Keyed}
def By (prog:Program)(w:World)(A:Around)(E:Value→Shared→Prop)(s:Shared)(left:Bool)(x:Keyed)(arr:Array Keyed)(b0 n:Nat)(P:Nat→Bool)(st:SortSt):Prop:=
 ∀i,i<n→∀Q:Option Bool→SortSt→Prop,Q (some (P i)) st→wpS (model prog w) A E s (bey left x arr b0 i) Q st
theorem qFo {left:Bool}{x:Keyed}{arr:Array Keyed}{b0 n lo hi:Nat}{P:Nat→Bool}{st:SortSt}{Q:Option Nat→SortSt→Prop}(hb:By prog w A E s left x arr b0 n P st)(mono:∀i j,i≤j→j<n→P j=true→P i=true)
  (h1:lo≤hi) (h2:hi≤n) (t:∀i,i<lo→P i=true) (f:∀i,hi≤i→i<n→P i=false)
  (h:∀k,k≤n→(∀i,i<k→P i=true)→(∀i,k≤i→i<n→P i=false)→Q (some k) st):wpS (model prog w) A E s (halve left x arr b0 n lo hi) Q st:=by
 unfold halve
 refine wpS_bind (wpS_mono (wpS_forRange (I:=fun y c st'=>st'=st∧∃l u,c=(none,l,u)∧l≤u∧u≤n∧u - l≤n - y∧(∀i,i<l→P i=true)∧(∀i,u≤i→i<n→P i=false))
  (Q:=fun c st'=>st'=st∧∃l u,c=(none,l,u)∧u≤n∧(∀i,i<u→P i=true)∧(∀i,u≤i→i<n→P i=false)) ?step ?fin ⟨rfl,lo,hi,rfl,h1,h2,by omega,t,f⟩) ?post)
 case post=>
  rintro c st' ⟨rfl,l,u,rfl,a1,a2,a3⟩
  exact wpS_pure (h u a1 a2 a3)
 case fin=>
  rintro c st' ⟨rfl,l,u,rfl,a1,a2,a3,a4,a5⟩
  have:l=u:=by omega
  subst this
  exact⟨rfl,l,l,rfl,a2,a4,a5⟩
 case step=>
  rintro y c st' _ yn ⟨rfl,l,u,rfl,a1,a2,a3,a4,a5⟩
  dsimp only
  by_cases ge:l≥u
  ·rw[if_pos ge]
   have:l=u:=by omega
   subst this
   exact wpS_pure ⟨rfl,l,l,rfl,a2,a4,a5⟩
  ·rw[if_neg ge]
   refine wpS_bind (hb _ (by omega) _ ?_)
   dsimp only
   cases c:P (l+(u - l) / 2) with
   | true=>
    simp only[if_true]
    exact wpS_pure ⟨rfl,_,u,rfl,by omega,a2,by omega,fun i hi=>mono i _ (by omega) (by omega) c,a5⟩
   | false=>
    simp only[yZJ,if_false]
    refine wpS_pure ⟨rfl,l,_,rfl,by omega,by omega,by omega,a4,fun i x y=>?_⟩
    cases e:P i with
    | false=>rfl
    | true=>
     have:=mono _ i x y e
     rw[c] at this;cases this
theorem xQn {left:Bool}{x:Keyed}{arr:Array Keyed}{b0 n at0:Nat}{P:Nat→Bool}{st:SortSt}{Q:Option Nat→SortSt→Prop}(hb:By prog w A E s left x arr b0 n P st)(mono:∀i j,i≤j→j<n→P j=true→P i=true)(ha:at0<n)
  (h:∀k,k≤n→(∀i,i<k→P i=true)→(∀i,k≤i→i<n→P i=false)→Q (some k) st):wpS (model prog w) A E s (gal' left x arr b0 n at0) Q st:=by
 have no:∀i j,i≤j→j<n→P i=false→P j=false:=fun i j x y e=>by
  cases c:P j with
  | false=>rfl
  | true=>rw[mono i j x y c] at e;cases e
 rw[xZf]
 refine wpS_bind (hb _ ha _ ?_)
 dsimp only
 cases c:P at0 with
 | true=>
  simp only[if_true]
  refine wpS_bind (wpS_mono (wpS_forRange (I:=fun y c st'=>st'=st∧∃la of,c=(none,la,of)∧la<of∧y+1≤of∧at0+la<n∧P (at0+la)=true)
   (Q:=fun c st'=>st'=st∧∃la of,c=(none,la,of)∧la<of∧at0+la<n∧P (at0+la)=true∧(n - at0≤of∨P (at0+of)=false)) ?step ?fin ⟨rfl,0,1,rfl,by omega,by omega,by omega,c⟩) ?post)
  case post=>
   rintro c st' ⟨rfl,la,of,rfl,a1,a2,a3,a4⟩
   dsimp only
   refine qFo hb mono (by omega) (by omega) (fun i hi=>mono i (at0+la) (by omega) a2 a3) (fun i x y=>?_) h
   rcases a4 with a4 | a4
   ·omega
   ·by_cases z:of≤n - at0
    ·rw[Nat.min_eq_left z] at x;exact no _ i x y a4
    ·omega
  case fin=>
   rintro c st' ⟨rfl,la,of,rfl,a1,a2,a3,a4⟩
   exact⟨rfl,la,of,rfl,a1,a3,a4,.inl (by omega)⟩
  case step=>
   rintro y c st' _ yn ⟨rfl,la,of,rfl,a1,a2,a3,a4⟩
   dsimp only
   by_cases ge:of≥n - at0
   ·rw[if_pos ge]
    exact wpS_pure ⟨rfl,la,of,rfl,a1,a3,a4,.inl ge⟩
   ·rw[if_neg ge]
    refine wpS_bind (hb _ (by omega) _ ?_)
    dsimp only
    cases c2:P (at0+of) with
    | false=>
     simp only[Bool.not_false,if_true]
     exact wpS_pure ⟨rfl,la,of,rfl,a1,a3,a4,.inr c2⟩
    | true=>
     simp only[Bool.not_true,yZJ,if_false]
     exact wpS_pure ⟨rfl,of,_,rfl,by omega,by omega,by omega,c2⟩
 | false=>
  simp only[yZJ,if_false]
  refine wpS_bind (wpS_mono (wpS_forRange (I:=fun y c st'=>st'=st∧∃la of,c=(none,la,of)∧la<of∧y+1≤of∧la≤at0∧P (at0 - la)=false)
   (Q:=fun c st'=>st'=st∧∃la of,c=(none,la,of)∧la<of∧la≤at0∧P (at0 - la)=false∧(at0+1≤of∨P (at0 - of)=true)) ?step ?fin ⟨rfl,0,1,rfl,by omega,by omega,by omega,c⟩) ?post)
  case post=>
   rintro c st' ⟨rfl,la,of,rfl,a1,a2,a3,a4⟩
   dsimp only
   refine qFo hb mono (by omega) (by omega) (fun i hi=>?_) (fun i x y=>no (at0 - la) i x y a3) h
   rcases a4 with a4 | a4
   ·omega
   ·by_cases z:of≤at0+1
    ·rw[Nat.min_eq_left z] at hi;exact mono i (at0 - of) (by omega) (by omega) a4
    ·omega
  case fin=>
   rintro c st' ⟨rfl,la,of,rfl,a1,a2,a3,a4⟩
   exact⟨rfl,la,of,rfl,a1,a3,a4,.inl (by omega)⟩
  case step=>
   rintro y c st' _ yn ⟨rfl,la,of,rfl,a1,a2,a3,a4⟩
   dsimp only
   by_cases ge:of≥at0+1
   ·rw[if_pos ge]
    exact wpS_pure ⟨rfl,la,of,rfl,a1,a3,a4,.inl ge⟩
   ·rw[if_neg ge]
    refine wpS_bind (hb _ (by omega) _ ?_)
    dsimp only
    cases c2:P (at0 - of) with
    | true=>
     simp only[if_true]
     exact wpS_pure ⟨rfl,la,of,rfl,a1,a3,a4,.inr c2⟩
    | false=>
     simp only[yZJ,if_false]
     exact wpS_pure ⟨rfl,of,_,rfl,by omega,by omega,by omega,c2⟩
def le (key:Value→O.α)(x y:Keyed):Prop:=O.kle (key x.1) (key y.1)
theorem le.trans {x y z:Keyed}(a:le key x y)(b:le key y z):le key x z:=KeyOrd.kle_trans a b
theorem le.refl {x:Keyed}:le key x x:=KeyOrd.kle_refl _
theorem qRq (K:AskS prog w A s key κ a₀){st:SortSt}{x:Keyed}{arr:Array Keyed}{b0 n:Nat}{l:List Keyed}(hk:kindOf st=κ)(hx:x∈a₀.toList)(hl:∀y∈l,y∈a₀.toList)(hn:l.length=n)(e:∀i,i<n→arr[b0+i]? = l[i]?):
  By prog w A E s false x arr b0 n (fun i=>!O.blt (key x.1) (key (l[i]?.getD x).1)) st:=fun i hi Q h=>by
 have hi':i<l.length:=by omega
 have e1:l[i]? = some l[i]:=yYA hi'
 unfold bey
 refine wpS_bind (zK ((e i hi).trans e1) ?_)
 simp only[yZJ,if_false]
 refine wpS_bind (s_lt K hk hx (hl _ (List.getElem_mem hi')) ?_)
 dsimp only at h
 rw[e1] at h
 exact wpS_pure h
theorem qUe (K:AskS prog w A s key κ a₀){st:SortSt}{x:Keyed}{arr:Array Keyed}{b0 n:Nat}{l:List Keyed}(hk:kindOf st=κ)(hx:x∈a₀.toList)(hl:∀y∈l,y∈a₀.toList)(hn:l.length=n)(e:∀i,i<n→arr[b0+i]? = l[i]?):
  By prog w A E s true x arr b0 n (fun i=>O.blt (key (l[i]?.getD x).1) (key x.1)) st:=fun i hi Q h=>by
 have hi':i<l.length:=by omega
 have e1:l[i]? = some l[i]:=yYA hi'
 unfold bey
 refine wpS_bind (zK ((e i hi).trans e1) ?_)
 simp only[if_true]
 refine s_lt K hk (hl _ (List.getElem_mem hi')) hx ?_
 dsimp only at h
 rw[e1] at h
 exact h
theorem qBd {l:List Keyed}(h:l.Pairwise (le key)){i j:Nat}(hij:i≤j)(hj:j<l.length):le key (l[i]'(by omega)) l[j]:=by
 by_cases e:i=j
 ·subst e;exact le.refl
 ·exact List.pairwise_iff_getElem.mp h i j (by omega) hj (by omega)
theorem qGq (K:AskS prog w A s key κ a₀){st:SortSt}{x:Keyed}{arr:Array Keyed}{b0 n at0:Nat}{l:List Keyed}{Q:Option Nat→SortSt→Prop}(hk:kindOf st=κ)(hx:x∈a₀.toList)(hl:∀y∈l,y∈a₀.toList)(hn:l.length=n)
  (e:∀i,i<n→arr[b0+i]? = l[i]?) (so:l.Pairwise (le key)) (ha:at0<n)
  (h:∀k,k≤n→(∀y∈l.take k,le key y x)→(∀y∈l.drop k,O.klt (key x.1) (key y.1))→Q (some k) st):wpS (model prog w) A E s (gal' false x arr b0 n at0) Q st:=by
 have g:∀i (hi:i<l.length),(l[i]?.getD x)=l[i]:=fun i hi=>by rw[yYA hi];rfl
 refine xQn (qRq K hk hx hl hn e) (fun i j ij jn pj=>?_) ha fun k kn t f=>h k kn (fun y hy=>?_) fun y hy=>?_
 ·rw[g j (by omega),Bool.not_eq_true'] at pj
  rw[g i (by omega),Bool.not_eq_true']
  exact KeyOrd.kle_trans (qBd so ij (by omega)) pj
 ·obtain⟨i,hi,rfl⟩:=List.getElem_of_mem hy
  rw[yYF] at hi
  have:=t i (by omega)
  rw[g i (by omega),Bool.not_eq_true'] at this
  rw[List.getElem_take];exact this
 ·obtain⟨i,hi,rfl⟩:=List.getElem_of_mem hy
  rw[List.length_drop] at hi
  have:=f (k+i) (by omega) (by omega)
  rw[g (k+i) (by omega),Bool.not_eq_false'] at this
  rw[List.getElem_drop];exact this
theorem qGx (K:AskS prog w A s key κ a₀){st:SortSt}{x:Keyed}{arr:Array Keyed}{b0 n at0:Nat}{l:List Keyed}{Q:Option Nat→SortSt→Prop}(hk:kindOf st=κ)(hx:x∈a₀.toList)(hl:∀y∈l,y∈a₀.toList)(hn:l.length=n)
  (e:∀i,i<n→arr[b0+i]? = l[i]?) (so:l.Pairwise (le key)) (ha:at0<n)
  (h:∀k,k≤n→(∀y∈l.take k,O.klt (key y.1) (key x.1))→(∀y∈l.drop k,le key x y)→Q (some k) st):wpS (model prog w) A E s (gal' true x arr b0 n at0) Q st:=by
 have g:∀i (hi:i<l.length),(l[i]?.getD x)=l[i]:=fun i hi=>by rw[yYA hi];rfl
 refine xQn (qUe K hk hx hl hn e) (fun i j ij jn pj=>?_) ha fun k kn t f=>h k kn (fun y hy=>?_) fun y hy=>?_
 ·rw[g j (by omega)] at pj
  rw[g i (by omega)]
  exact KeyOrd.klt_of_kle_of_klt (qBd so ij (by omega)) pj
 ·obtain⟨i,hi,rfl⟩:=List.getElem_of_mem hy
  rw[yYF] at hi
  have:=t i (by omega)
  rw[g i (by omega)] at this
  rw[List.getElem_take];exact this
 ·obtain⟨i,hi,rfl⟩:=List.getElem_of_mem hy
  rw[List.length_drop] at hi
  have:=f (k+i) (by omega) (by omega)
  rw[g (k+i) (by omega)] at this
  rw[List.getElem_drop];exact this

structure MI (R:Keyed→Keyed→Prop)(L out A B:List Keyed):Prop where
 perm:(out++A++B).Perm L
 so:out.Pairwise R
 sA:A.Pairwise R
 sB:B.Pairwise R
 low:∀x∈out,∀y∈A++B,R x y
 top:∀z,A.getLast? = some z→∀y∈B,R y z
def MR (R:Keyed→Keyed→Prop)(L out:List Keyed):Prop:=out.Perm L∧out.Pairwise R
section
variable {R:Keyed→Keyed→Prop}{L out X A' B':List Keyed}
theorem MI.runA (m:MI R L out (X++A') B')(h:∀x∈X,∀y∈B',R x y):MI R L (out++X) A' B':=by
 have sA:=List.pairwise_append.mp m.sA
 refine⟨by rw[yYQ out X A'];exact m.perm,?_,sA.2.1,m.sB,fun x hx y hy=>?_,fun z hz y hy=>?_⟩
 ·exact List.pairwise_append.mpr ⟨m.so,sA.1,fun x hx y hy=>m.low x hx y (List.mem_append_left _ (List.mem_append_left _ hy))⟩
 ·rcases yYS.mp hx with hx | hx
  ·rcases yYS.mp hy with hy | hy
   ·exact m.low x hx y (List.mem_append_left _ (yYN _ hy))
   ·exact m.low x hx y (yYN _ hy)
  ·rcases yYS.mp hy with hy | hy
   ·exact sA.2.2 x hx y hy
   ·exact h x hx y hy
 ·refine m.top z ?_ y hy
  rw[List.getLast?_append,hz];rfl
theorem MI.runB (m:MI R L out A' (X++B'))(h:∀x∈X,∀y∈A',R x y):MI R L (out++X) A' B':=by
 have sB:=List.pairwise_append.mp m.sB
 refine⟨?_,?_,m.sA,sB.2.1,fun x hx y hy=>?_,fun z hz y hy=>m.top z hz y (yYN _ hy)⟩
 ·refine List.Perm.trans ?_ m.perm
  rw[yYQ,yYQ,yYQ]
  refine List.Perm.append_left _ ?_
  rw[← yYQ,← yYQ]
  exact List.Perm.append_right _ List.perm_append_comm
 ·exact List.pairwise_append.mpr ⟨m.so,sB.1,fun x hx y hy=>m.low x hx y (yYN _ (List.mem_append_left _ hy))⟩
 ·rcases yYS.mp hx with hx | hx
  ·rcases yYS.mp hy with hy | hy
   ·exact m.low x hx y (List.mem_append_left _ hy)
   ·exact m.low x hx y (yYN _ (yYN _ hy))
  ·rcases yYS.mp hy with hy | hy
   ·exact h x hx y hy
   ·exact sB.2.2 x hx y hy
theorem MI.end1 (m:MI R L out A' []):MR R L (out++A'):=
 ⟨by have:=m.perm;rwa [List.append_nil] at this,List.pairwise_append.mpr ⟨m.so,m.sA,fun x hx y hy=>m.low x hx y (List.mem_append_left _ hy)⟩⟩
theorem MI.end2 (m:MI R L out [] B'):MR R L (out++B'):=
 ⟨by have:=m.perm;rwa [List.append_nil] at this,List.pairwise_append.mpr ⟨m.so,m.sB,fun x hx y hy=>m.low x hx y (yYN _ hy)⟩⟩
theorem MI.end3 {z:Keyed}(m:MI R L out [z] B'):MR R L (out++B'++[z]):=by
 have m2:MI R L out [z] (B'++[]):=by rw[List.append_nil];exact m
 exact(m2.runB fun x hx y hy=>by
  rw[yYL.mp hy]
  exact m.top z rfl x hx).end1
end
end
end TM

namespace TM
open PySem PyProof.Rows
def sG':Nat→StateT SortSt Sem Unit:=sortPriv% PySem.Builtin.setMinGallop
abbrev setG (st:SortSt)(g:Nat):SortSt:=SortSt.mk' (kindOf st) (arrOf st) (pendingOf st) g (failedOf st)
theorem xYb (g:Nat):sG' g=modify fun st=>setG st g:=rfl
theorem xZz (a b:Array Keyed):mlo' a b=(do
  rule "list.sort.merge-lo"
  let mut o:Array Keyed:=#[← elem' b 0]
  let mut i:=0
  let mut j:=1
  if j == b.size then return o++a.extract i a.size++b.extract j b.size
  if i+1 == a.size then return o++b.extract j b.size++a.extract i a.size
  let mut g:=gallopOf (← get)
  for _ in [0:a.size+b.size] do
   let mut p:=0
   let mut q:=0
   for _ in [0:a.size+b.size] do
    let some c ← lt' (← elem' b j) (← elem' a i) | return o++a.extract i a.size++b.extract j b.size
    if c then
     o:=o.push (← elem' b j);j:=j+1;q:=q+1;p:=0
     if j == b.size then return o++a.extract i a.size++b.extract j b.size
     if q≥g then break
    else
     o:=o.push (← elem' a i);i:=i+1;p:=p+1;q:=0
     if i+1 == a.size then return o++b.extract j b.size++a.extract i a.size
     if p≥g then break
   rule "list.sort.gallop"
   g:=g+1
   for _ in [0:a.size+b.size] do
    if g>1 then g:=g - 1
    sG' g
    let some k ← gal' false (← elem' b j) a i (a.size - i) 0 | return o++a.extract i a.size++b.extract j b.size
    p:=k
    if k>0 then
     o:=o++a.extract i (i+k);i:=i+k
     if i+1 == a.size then return o++b.extract j b.size++a.extract i a.size
     if i == a.size then return o++a.extract i a.size++b.extract j b.size
    o:=o.push (← elem' b j);j:=j+1
    if j == b.size then return o++a.extract i a.size++b.extract j b.size
    let some k ← gal' true (← elem' a i) b j (b.size - j) 0 | return o++a.extract i a.size++b.extract j b.size
    q:=k
    if k>0 then
     o:=o++b.extract j (j+k);j:=j+k
     if j == b.size then return o++a.extract i a.size++b.extract j b.size
    o:=o.push (← elem' a i);i:=i+1
    if i+1 == a.size then return o++b.extract j b.size++a.extract i a.size
    if p<7 && q<7 then break
   g:=g+1
   sG' g
  unsupported "internal:list.sort.merge-bound"):=rfl
structure Gq (st st':SortSt):Prop where
 kind:kindOf st'=kindOf st
 arr:arrOf st'=arrOf st
 pend:pendingOf st'=pendingOf st
 fail:failedOf st'=failedOf st
theorem Gq.refl {st:SortSt}:Gq st st:=⟨rfl,rfl,rfl,rfl⟩
theorem Gq.set {st st':SortSt}(h:Gq st st')(g:Nat):Gq st (setG st' g):=⟨h.kind,h.arr,h.pend,h.fail⟩
section
variable {a b o:Array Keyed}{i j k:Nat}
theorem dropE (h:i<a.size):a.toList.drop i=a[i]::a.toList.drop (i+1):=by
 have h':i<a.toList.length:=by simpa using h
 rw[List.drop_eq_getElem_cons h',Array.getElem_toList]
theorem qIk (a:Array Keyed)(i:Nat):(a.extract i a.size).toList=a.toList.drop i:=by
 rw[Array.toList_extract,List.extract_eq_drop_take,List.take_of_length_le (by simp)]
theorem qSq (a:Array Keyed)(i k:Nat):(a.extract i (i+k)).toList=(a.toList.drop i).take k:=by
 rw[Array.toList_extract,List.extract_eq_drop_take,Nat.add_sub_cancel_left]
theorem qXj:(o++a.extract i a.size++b.extract j b.size).toList=o.toList++a.toList.drop i++b.toList.drop j:=by
 rw[Array.toList_append,Array.toList_append,qIk,qIk]
theorem vC (h:a.size≤i):a.toList.drop i=[]:=List.drop_eq_nil_of_le (by simpa using h)
theorem qIv (h:i+1=a.size):∃z,a.toList.drop i=[z]:=⟨a[i]'(by omega),by rw[dropE (by omega),vC (by omega)]⟩
theorem take_drop' (l:List Keyed)(i k:Nat):l.drop i=(l.drop i).take k++l.drop (i+k):=by
 rw[← List.drop_drop,List.take_append_drop]
theorem kQ (h:i<a.size):a[i]∈a.toList:=Array.getElem_mem_toList h
theorem qCw {x:Keyed}(h:x∈a.toList.drop i):x∈a.toList:=List.mem_of_mem_drop h
end
section
variable {prog:Program}{w:World}{A:Around}{E:Value→Shared→Prop}{s:Shared}{O:KeyOrd}{key:Value→O.α}{κ:SortKind}{a₀:Array Keyed}
theorem qJx {x:Keyed}{l:List Keyed}(h:(x::l).Pairwise (le key)):∀y∈l,le key x y:=(List.pairwise_cons.mp h).1
theorem qNw {st:SortSt}{g:Nat}{Q:Unit→SortSt→Prop}(h:Q () (setG st g)):wpS (model prog w) A E s (sG' g) Q st:=by rw[xYb];exact wpS_modify h
end
abbrev LS:Type:=Option (Array Keyed)×Array Keyed×Nat×Nat×Nat×Nat×Nat
def loF3 (a b o:Array Keyed)(i j g p q:Nat):StateT SortSt Sem (ForInStep LS):=do
 let x ← elem' a i
 if (i+1+1 == a.size)=true then pure (.done (some (o.push x++b.extract j b.size++a.extract (i+1) a.size),o.push x,i+1,j,g,p,q))
 else if (decide (p<7) && decide (q<7))=true then pure (.done (none,o.push x,i+1,j,g,p,q)) else pure (.yield (none,o.push x,i+1,j,g,p,q))
def loF2 (a b o:Array Keyed)(i j g p q:Nat):StateT SortSt Sem (ForInStep LS):=do
 let y ← elem' b j
 if (j+1 == b.size)=true then pure (.done (some (o.push y++a.extract i a.size++b.extract (j+1) b.size),o.push y,i,j+1,g,p,q))
 else do
  let x ← elem' a i
  let z ← gal' true x b (j+1) (b.size - (j+1)) 0
  match z with
  | some k=>
   if k>0 then
    if (j+1+k == b.size)=true then pure (.done (some (o.push y++b.extract (j+1) (j+1+k)++a.extract i a.size++b.extract (j+1+k) b.size),o.push y++b.extract (j+1) (j+1+k),i,j+1+k,g,p,k))
    else loF3 a b (o.push y++b.extract (j+1) (j+1+k)) i (j+1+k) g p k
   else loF3 a b (o.push y) i (j+1) g p k
  | _=>pure (.done (some (o.push y++a.extract i a.size++b.extract (j+1) b.size),o.push y,i,j+1,g,p,q))
def loF1 (a b o:Array Keyed)(i j g p q:Nat):StateT SortSt Sem (ForInStep LS):=do
 sG' g
 let y ← elem' b j
 let z ← gal' false y a i (a.size - i) 0
 match z with
 | some k=>
  if k>0 then
   if (i+k+1 == a.size)=true then pure (.done (some (o++a.extract i (i+k)++b.extract j b.size++a.extract (i+k) a.size),o++a.extract i (i+k),i+k,j,g,k,q))
   else if (i+k == a.size)=true then pure (.done (some (o++a.extract i (i+k)++a.extract (i+k) a.size++b.extract j b.size),o++a.extract i (i+k),i+k,j,g,k,q))
   else loF2 a b (o++a.extract i (i+k)) (i+k) j g k q
  else loF2 a b o i j g k q
 | _=>pure (.done (some (o++a.extract i a.size++b.extract j b.size),o,i,j,g,p,q))
section
variable {prog:Program}{w:World}{A:Around}{E:Value→Shared→Prop}{s:Shared}{O:KeyOrd}{key:Value→O.α}{κ:SortKind}{a₀:Array Keyed}
variable {st0 st:SortSt}{a b o:Array Keyed}{i j g p q x:Nat}{Q:ForInStep LS→SortSt→Prop}
theorem qIw (l:Array Keyed)(i t:Nat):l[i+t]? = (l.toList.drop i)[t]? := by rw[List.getElem?_drop,yZM]
theorem qCi (l:Array Keyed)(i:Nat):(l.toList.drop i).length=l.size - i:=by rw[List.length_drop,yZL]
abbrev Fin1 (key:Value→O.α)(a b:Array Keyed):Prop:=∀(o:Array Keyed) (i j:Nat),MI (le key) (a.toList++b.toList) o.toList (a.toList.drop i) (b.toList.drop j)→b.size≤j→MR (le key) (a.toList++b.toList) (o++a.extract i a.size++b.extract j b.size).toList
abbrev Fin2 (key:Value→O.α)(a b:Array Keyed):Prop:=∀(o:Array Keyed) (i j:Nat),MI (le key) (a.toList++b.toList) o.toList (a.toList.drop i) (b.toList.drop j)→a.size≤i→MR (le key) (a.toList++b.toList) (o++a.extract i a.size++b.extract j b.size).toList
abbrev Fin3 (key:Value→O.α)(a b:Array Keyed):Prop:=∀(o:Array Keyed) (i j:Nat),MI (le key) (a.toList++b.toList) o.toList (a.toList.drop i) (b.toList.drop j)→i+1=a.size→MR (le key) (a.toList++b.toList) (o++b.extract j b.size++a.extract i a.size).toList
abbrev HD (st0:SortSt)(key:Value→O.α)(a b:Array Keyed)(Q:ForInStep LS→SortSt→Prop):Prop:=∀r z st1,Gq st0 st1→MR (le key) (a.toList++b.toList) r.toList→Q (.done (some r,z)) st1
abbrev HN (st0:SortSt)(key:Value→O.α)(a b:Array Keyed)(x:Nat)(Q:ForInStep LS→SortSt→Prop):Prop:=∀o i j g p q st1,Gq st0 st1→MI (le key) (a.toList++b.toList) o.toList (a.toList.drop i) (b.toList.drop j)→i+1<a.size→j<b.size→x+1≤i+j→
 Q (.done (none,o,i,j,g,p,q)) st1∧Q (.yield (none,o,i,j,g,p,q)) st1
theorem s_F3 (G:Gq st0 st)(mi:MI (le key) (a.toList++b.toList) o.toList (a.toList.drop i) (b.toList.drop j))(h1:i+1<a.size)(h2:j<b.size)(h3:x≤i+j)(hle:∀y∈b.toList.drop j,le key (a[i]'(by omega)) y)
  (f3:Fin3 key a b) (hd:HD st0 key a b Q) (hn:HN st0 key a b x Q):wpS (model prog w) A E s (loF3 a b o i j g p q) Q st:=by
 unfold loF3
 refine wpS_bind (zK (getElem?_pos a i (by omega)) ?_)
 have mi2:MI (le key) (a.toList++b.toList) (o.push (a[i]'(by omega))).toList (a.toList.drop (i+1)) (b.toList.drop j):=by
  rw[Array.toList_push]
  rw[dropE (by omega:i<a.size)] at mi
  exact MI.runA (X:=[a[i]'(by omega)]) mi fun x hx=>by rw[yYL.mp hx];exact hle
 by_cases e:i+1+1=a.size
 ·rw[if_pos (by simp[e])]
  exact wpS_pure (hd _ _ _ G (f3 _ _ _ mi2 e))
 ·rw[if_neg (by simp[e])]
  split
  ·exact wpS_pure (hn _ _ _ _ _ _ _ G mi2 (by omega) h2 (by omega)).1
  ·exact wpS_pure (hn _ _ _ _ _ _ _ G mi2 (by omega) h2 (by omega)).2
theorem s_F2 (K:AskS prog w A s key κ a₀)(G:Gq st0 st)(hk:kindOf st0=κ)(ha:∀x∈a.toList,x∈a₀.toList)(hb:∀x∈b.toList,x∈a₀.toList)
  (mi:MI (le key) (a.toList++b.toList) o.toList (a.toList.drop i) (b.toList.drop j)) (h1:i+1<a.size) (h2:j<b.size) (h3:x+1≤i+j) (hle:∀y∈a.toList.drop i,le key b[j] y)
  (f1:Fin1 key a b) (f3:Fin3 key a b) (hd:HD st0 key a b Q) (hn:HN st0 key a b x Q):wpS (model prog w) A E s (loF2 a b o i j g p q) Q st:=by
 unfold loF2
 refine wpS_bind (zK (getElem?_pos b j h2) ?_)
 have mi2:MI (le key) (a.toList++b.toList) (o.push b[j]).toList (a.toList.drop i) (b.toList.drop (j+1)):=by
  rw[Array.toList_push]
  rw[dropE h2] at mi
  exact MI.runB (X:=[b[j]]) mi fun x hx=>by rw[yYL.mp hx];exact hle
 by_cases e:j+1=b.size
 ·rw[if_pos (by simp[e])]
  exact wpS_pure (hd _ _ _ G (f1 _ _ _ mi2 (by omega)))
 rw[if_neg (by simp[e])]
 refine wpS_bind (zK (getElem?_pos a i (by omega)) ?_)
 refine wpS_bind (qGx K (G.kind.trans hk) (ha _ (kQ (by omega))) (fun y hy=>hb y (qCw hy)) (qCi b (j+1)) (fun t _=>qIw b (j+1) t) mi2.sB (by omega) fun k kn tk dk=>?_)
 rw[List.drop_drop] at dk
 have mi3:MI (le key) (a.toList++b.toList) (o.push b[j]++b.extract (j+1) (j+1+k)).toList (a.toList.drop i) (b.toList.drop (j+1+k)):=by
  rw[Array.toList_append,qSq]
  refine MI.runB (by rw[← take_drop'];exact mi2) fun x hx y hy=>?_
  have sA:=mi.sA
  rw[dropE (by omega:i<a.size)] at sA hy
  have l1:le key x (a[i]'(by omega)):=KeyOrd.kle_of_klt (tk x hx)
  rcases yYK.mp hy with rfl | hy
  ·exact l1
  ·exact l1.trans (qJx sA y hy)
 dsimp only
 by_cases k0:k>0
 ·rw[if_pos k0]
  by_cases e2:j+1+k=b.size
  ·rw[if_pos (by simp[e2])]
   exact wpS_pure (hd _ _ _ G (f1 _ _ _ mi3 (by omega)))
  ·rw[if_neg (by simp[e2])]
   exact s_F3 G mi3 h1 (by omega) (x:=x) (by omega) dk f3 hd hn
 ·rw[if_neg k0]
  have:k=0:=by omega
  subst this
  exact s_F3 G mi2 h1 (by omega) (x:=x) (by omega) dk f3 hd hn
theorem s_F1 (K:AskS prog w A s key κ a₀)(G:Gq st0 st)(hk:kindOf st0=κ)(ha:∀x∈a.toList,x∈a₀.toList)(hb:∀x∈b.toList,x∈a₀.toList)
  (mi:MI (le key) (a.toList++b.toList) o.toList (a.toList.drop i) (b.toList.drop j)) (h1:i+1<a.size) (h2:j<b.size) (h3:x+1≤i+j)
  (f1:Fin1 key a b) (f2:Fin2 key a b) (f3:Fin3 key a b) (hd:HD st0 key a b Q) (hn:HN st0 key a b x Q):wpS (model prog w) A E s (loF1 a b o i j g p q) Q st:=by
 unfold loF1
 have ej:=getElem?_pos b j h2
 refine wpS_bind (qNw ?_)
 have G1:=G.set g
 refine wpS_bind (zK ej ?_)
 refine wpS_bind (qGq K (G1.kind.trans hk) (hb _ (kQ h2)) (fun y hy=>ha y (qCw hy)) (qCi a i) (fun t _=>qIw a i t) mi.sA (by omega) fun k kn tk dk=>?_)
 rw[List.drop_drop] at dk
 have mi2:MI (le key) (a.toList++b.toList) (o++a.extract i (i+k)).toList (a.toList.drop (i+k)) (b.toList.drop j):=by
  rw[Array.toList_append,qSq]
  refine MI.runA (by rw[← take_drop'];exact mi) fun x hx y hy=>?_
  have sB:=mi.sB
  rw[dropE h2] at sB hy
  have l1:le key x b[j]:=tk x hx
  rcases yYK.mp hy with rfl | hy
  ·exact l1
  ·exact l1.trans (qJx sB y hy)
 dsimp only
 by_cases k0:k>0
 ·rw[if_pos k0]
  by_cases e:i+k+1=a.size
  ·rw[if_pos (by simp[e])]
   exact wpS_pure (hd _ _ _ G1 (f3 _ _ _ mi2 e))
  rw[if_neg (by simp[e])]
  by_cases e2:i+k=a.size
  ·rw[if_pos (by simp[e2])]
   exact wpS_pure (hd _ _ _ G1 (f2 _ _ _ mi2 (by omega)))
  rw[if_neg (by simp[e2])]
  exact s_F2 K G1 hk ha hb mi2 (by omega) h2 (by omega) (fun y hy=>KeyOrd.kle_of_klt (dk y hy)) f1 f3 hd hn
 ·rw[if_neg k0]
  have:k=0:=by omega
  subst this
  exact s_F2 K G1 hk ha hb mi h1 h2 h3 (fun y hy=>KeyOrd.kle_of_klt (dk y hy)) f1 f3 hd hn
end
section
variable {prog:Program}{w:World}{A:Around}{E:Value→Shared→Prop}{s:Shared}{O:KeyOrd}{key:Value→O.α}{κ:SortKind}{a₀:Array Keyed}
theorem xYv (K:AskS prog w A s key κ a₀){st:SortSt}{a b:Array Keyed}{Q:Array Keyed→SortSt→Prop}(hk:kindOf st=κ)(ha:∀x∈a.toList,x∈a₀.toList)(hb:∀x∈b.toList,x∈a₀.toList)
  (a1:1≤a.size) (b1:1≤b.size) (m:MI (le key) (a.toList++b.toList) [] a.toList b.toList) (first:∀x∈a.toList,le key (b[0]'(by omega)) x)
  (h:∀out st',Gq st st'→MR (le key) (a.toList++b.toList) out.toList→Q out st'):wpS (model prog w) A E s (mlo' a b) Q st:=by
 rw[xZz]
 refine wpS_bind (wpS_lift (wpAny_rule ⟨rfl,?_⟩))
 refine wpS_bind (zK (getElem?_pos b 0 (by omega)) ?_)
 have m1:MI (le key) (a.toList++b.toList) (#[b[0]'(by omega)]:Array Keyed).toList (a.toList.drop 0) (b.toList.drop 1):=by
  have e:b.toList=[b[0]'(by omega)]++b.toList.drop 1:=by
   have:=dropE (a:=b) (i:=0) (by omega)
   rw[List.drop_zero] at this
   exact this
  rw[List.drop_zero]
  have m0:=m
  generalize a.toList++b.toList=L at m0 ⊢
  rw[e] at m0
  exact m0.runB fun x hx=>by rw[yYL.mp hx];exact first
 dsimp only
 have fin1:∀(o:Array Keyed) (i j:Nat),MI (le key) (a.toList++b.toList) o.toList (a.toList.drop i) (b.toList.drop j)→b.size≤j→MR (le key) (a.toList++b.toList) (o++a.extract i a.size++b.extract j b.size).toList:=fun o i j mi hj=>by
  rw[qXj,vC hj,List.append_nil]
  rw[vC hj] at mi
  exact mi.end1
 have fin2:∀(o:Array Keyed) (i j:Nat),MI (le key) (a.toList++b.toList) o.toList (a.toList.drop i) (b.toList.drop j)→a.size≤i→MR (le key) (a.toList++b.toList) (o++a.extract i a.size++b.extract j b.size).toList:=fun o i j mi hi=>by
  rw[qXj,vC hi,List.append_nil]
  rw[vC hi] at mi
  exact mi.end2
 have fin3:∀(o:Array Keyed) (i j:Nat),MI (le key) (a.toList++b.toList) o.toList (a.toList.drop i) (b.toList.drop j)→i+1=a.size→MR (le key) (a.toList++b.toList) (o++b.extract j b.size++a.extract i a.size).toList:=fun o i j mi hi=>by
  obtain⟨z,ez⟩:=qIv hi
  rw[qXj,ez]
  rw[ez] at mi
  exact mi.end3
 by_cases c1:b.size=1
 ·rw[if_pos (by simp[c1])]
  exact wpS_pure (h _ _ Gq.refl (fin1 _ _ _ m1 (by omega)))
 rw[if_neg (by simp;omega)]
 by_cases c2:a.size=1
 ·rw[if_pos (by simp[c2])]
  exact wpS_pure (h _ _ Gq.refl (fin3 _ _ _ m1 (by omega)))
 rw[if_neg (by simp;omega)]
 refine wpS_bind (wpS_get ?_)
 have stepB:∀(o:Array Keyed) (i j:Nat) (hj:j<b.size),MI (le key) (a.toList++b.toList) o.toList (a.toList.drop i) (b.toList.drop j)→(∀y∈a.toList.drop i,le key b[j] y)→
   MI (le key) (a.toList++b.toList) (o.push b[j]).toList (a.toList.drop i) (b.toList.drop (j+1)):=fun o i j hj mi hle=>by
  rw[Array.toList_push]
  rw[dropE hj] at mi
  exact MI.runB (X:=[b[j]]) mi fun x hx=>by rw[yYL.mp hx];exact hle
 have stepA:∀(o:Array Keyed) (i j:Nat) (hi:i<a.size),MI (le key) (a.toList++b.toList) o.toList (a.toList.drop i) (b.toList.drop j)→(∀y∈b.toList.drop j,le key a[i] y)→
   MI (le key) (a.toList++b.toList) (o.push a[i]).toList (a.toList.drop (i+1)) (b.toList.drop j):=fun o i j hi mi hle=>by
  rw[Array.toList_push]
  rw[dropE hi] at mi
  exact MI.runA (X:=[a[i]]) mi fun x hx=>by rw[yYL.mp hx];exact hle
 refine wpS_bind (wpS_mono (wpS_forRange (I:=fun x c st'=>∃o i j g,c=(none,o,i,j,g)∧Gq st st'∧MI (le key) (a.toList++b.toList) o.toList (a.toList.drop i) (b.toList.drop j)∧i+1<a.size∧j<b.size∧x≤i+j)
  (Q:=fun c st'=>∃r o i j g,c=(some r,o,i,j,g)∧Gq st st'∧MR (le key) (a.toList++b.toList) r.toList) ?step ?fin ⟨_,0,1,_,rfl,Gq.refl,m1,by omega,by omega,by omega⟩) ?post)
 case post=>
  rintro c st' ⟨r,o,i,j,g,rfl,G,mr⟩
  exact wpS_pure (h r st' G mr)
 case fin=>
  rintro c st' ⟨o,i,j,g,rfl,G,mi,h1,h2,h3⟩
  omega
 case step=>
  rintro x c st' _ xl ⟨o,i,j,g,rfl,G,mi,h1,h2,h3⟩
  dsimp only
  refine wpS_bind (wpS_mono (wpS_forRange (I:=fun y c st'=>∃o i j p q,c=(none,o,i,j,p,q)∧Gq st st'∧MI (le key) (a.toList++b.toList) o.toList (a.toList.drop i) (b.toList.drop j)∧i+1<a.size∧j<b.size∧x+min y 1≤i+j)
   (Q:=fun c st'=>(∃r o i j p q,c=(some r,o,i,j,p,q)∧Gq st st'∧MR (le key) (a.toList++b.toList) r.toList)∨
    (∃o i j p q,c=(none,o,i,j,p,q)∧Gq st st'∧MI (le key) (a.toList++b.toList) o.toList (a.toList.drop i) (b.toList.drop j)∧i+1<a.size∧j<b.size∧x+1≤i+j)) ?step1 ?fin1 ⟨o,i,j,0,0,rfl,G,mi,h1,h2,by omega⟩) ?post1)
  case fin1=>
   rintro c st' ⟨o,i,j,p,q,rfl,G,mi,h1,h2,h3⟩
   exact .inr ⟨o,i,j,p,q,rfl,G,mi,h1,h2,by omega⟩
  case step1=>
   rintro y c st' _ yl ⟨o,i,j,p,q,rfl,G,mi,h1,h2,h3⟩
   dsimp only
   have ej:b[j]? = some b[j]:=getElem?_pos b j h2
   have ei:a[i]? = some (a[i]'(by omega)):=getElem?_pos a i (by omega)
   refine wpS_bind (zK ej (wpS_bind (zK ei ?_)))
   refine wpS_bind (s_lt K (G.kind.trans hk) (hb _ (kQ h2)) (ha _ (kQ (by omega))) ?_)
   have sA:=mi.sA
   have sB:=mi.sB
   rw[dropE (by omega:i<a.size)] at sA
   rw[dropE h2] at sB
   dsimp only
   cases c:O.blt (key (b[j]).1) (key (a[i]'(by omega)).1) with
   | true=>
    simp only[if_true]
    refine wpS_bind (zK ej ?_)
    have mi2:=stepB o i j h2 mi (by
     rw[dropE (by omega:i<a.size)]
     intro y hy
     rcases yYK.mp hy with rfl | hy
     ·exact KeyOrd.kle_of_klt c
     ·exact le.trans (KeyOrd.kle_of_klt c) (qJx sA y hy))
    by_cases e:j+1=b.size
    ·rw[if_pos (by simp[e])]
     exact wpS_pure (.inl ⟨_,_,_,_,_,_,rfl,G,fin1 _ _ _ mi2 (by omega)⟩)
    ·rw[if_neg (by simp[e])]
     split
     ·exact wpS_pure (.inr ⟨_,_,_,_,_,rfl,G,mi2,h1,by omega,by omega⟩)
     ·exact wpS_pure ⟨_,_,_,_,_,rfl,G,mi2,h1,by omega,by omega⟩
   | false=>
    simp only[yZJ,if_false]
    refine wpS_bind (zK ei ?_)
    have mi2:=stepA o i j (by omega) mi (by
     rw[dropE h2]
     intro y hy
     rcases yYK.mp hy with rfl | hy
     ·exact c
     ·exact le.trans (show le key _ _ from c) (qJx sB y hy))
    by_cases e:i+1+1=a.size
    ·rw[if_pos (by simp[e])]
     exact wpS_pure (.inl ⟨_,_,_,_,_,_,rfl,G,fin3 _ _ _ mi2 (by omega)⟩)
    ·rw[if_neg (by simp[e])]
     split
     ·exact wpS_pure (.inr ⟨_,_,_,_,_,rfl,G,mi2,by omega,h2,by omega⟩)
     ·exact wpS_pure ⟨_,_,_,_,_,rfl,G,mi2,by omega,h2,by omega⟩
  case post1=>
   rintro c st' (⟨r,o,i,j,p,q,rfl,G,mr⟩ | ⟨o,i,j,p,q,rfl,G,mi,h1,h2,h3⟩)
   ·exact wpS_pure ⟨r,_,_,_,_,rfl,G,mr⟩
   dsimp only
   refine wpS_bind (wpS_lift (wpAny_rule ⟨rfl,?_⟩))
   refine wpS_bind (wpS_mono (wpS_forRange (I:=fun y c st'=>∃o i j g p q,c=(none,o,i,j,g,p,q)∧Gq st st'∧MI (le key) (a.toList++b.toList) o.toList (a.toList.drop i) (b.toList.drop j)∧i+1<a.size∧j<b.size∧x+1≤i+j)
    (Q:=fun c st'=>(∃r o i j g p q,c=(some r,o,i,j,g,p,q)∧Gq st st'∧MR (le key) (a.toList++b.toList) r.toList)∨
     (∃o i j g p q,c=(none,o,i,j,g,p,q)∧Gq st st'∧MI (le key) (a.toList++b.toList) o.toList (a.toList.drop i) (b.toList.drop j)∧i+1<a.size∧j<b.size∧x+1≤i+j)) ?step2 ?fin2 ⟨o,i,j,_,p,q,rfl,G,mi,h1,h2,h3⟩) ?post2)
   case fin2=>
    rintro c st' ⟨o,i,j,g,p,q,rfl,G,mi,h1,h2,h3⟩
    exact .inr ⟨o,i,j,g,p,q,rfl,G,mi,h1,h2,h3⟩
   case post2=>
    rintro c st' (⟨r,o,i,j,g,p,q,rfl,G,mr⟩ | ⟨o,i,j,g,p,q,rfl,G,mi,h1,h2,h3⟩)
    ·exact wpS_pure ⟨r,_,_,_,_,rfl,G,mr⟩
    ·dsimp only
     exact wpS_bind (qNw (wpS_pure ⟨o,i,j,_,rfl,G.set _,mi,h1,h2,by omega⟩))
   case step2=>
    rintro y c st' _ yl ⟨o,i,j,g0,p,q,rfl,G,mi,h1,h2,h3⟩
    dsimp only
    have ej:b[j]? = some b[j]:=getElem?_pos b j h2
    by_cases g1:g0>1
    ·rw[if_pos g1]
     exact s_F1 K G hk ha hb mi h1 h2 h3 fin1 fin2 fin3 (fun r z st1 G1 mr=>.inl ⟨r,_,_,_,_,_,_,rfl,G1,mr⟩) fun o i j g p q st1 G1 m1 u1 u2 u3=>⟨.inr ⟨_,_,_,_,_,_,rfl,G1,m1,u1,u2,u3⟩,⟨_,_,_,_,_,_,rfl,G1,m1,u1,u2,u3⟩⟩
    ·rw[if_neg g1]
     exact s_F1 K G hk ha hb mi h1 h2 h3 fin1 fin2 fin3 (fun r z st1 G1 mr=>.inl ⟨r,_,_,_,_,_,_,rfl,G1,mr⟩) fun o i j g p q st1 G1 m1 u1 u2 u3=>⟨.inr ⟨_,_,_,_,_,_,rfl,G1,m1,u1,u2,u3⟩,⟨_,_,_,_,_,_,rfl,G1,m1,u1,u2,u3⟩⟩
end
end TM

namespace TM
open PySem PyProof.Rows
theorem xZj (a b:Array Keyed):mhi' a b=(do
  rule "list.sort.merge-hi"
  let mut i:=a.size - 1
  let mut j:=b.size
  let mut o:Array Keyed:=#[← elem' a i]
  if i == 0 then return a.extract 0 i++b.extract 0 j++o.reverse
  if j == 1 then return b.extract 0 j++a.extract 0 i++o.reverse
  let mut g:=gallopOf (← get)
  for _ in [0:a.size+b.size] do
   let mut p:=0
   let mut q:=0
   for _ in [0:a.size+b.size] do
    let some c ← lt' (← elem' b (j - 1)) (← elem' a (i - 1)) | return a.extract 0 i++b.extract 0 j++o.reverse
    if c then
     i:=i - 1;o:=o.push (← elem' a i);p:=p+1;q:=0
     if i == 0 then return a.extract 0 i++b.extract 0 j++o.reverse
     if p≥g then break
    else
     j:=j - 1;o:=o.push (← elem' b j);q:=q+1;p:=0
     if j == 1 then return b.extract 0 j++a.extract 0 i++o.reverse
     if q≥g then break
   rule "list.sort.gallop"
   g:=g+1
   for _ in [0:a.size+b.size] do
    if g>1 then g:=g - 1
    sG' g
    let some t ← gal' false (← elem' b (j - 1)) a 0 i (i - 1) | return a.extract 0 i++b.extract 0 j++o.reverse
    let k:=i - t
    p:=k
    if k>0 then
     o:=o++(a.extract t i).reverse;i:=t
     if i == 0 then return a.extract 0 i++b.extract 0 j++o.reverse
    j:=j - 1;o:=o.push (← elem' b j)
    if j == 1 then return b.extract 0 j++a.extract 0 i++o.reverse
    let some t ← gal' true (← elem' a (i - 1)) b 0 j (j - 1) | return a.extract 0 i++b.extract 0 j++o.reverse
    let k:=j - t
    q:=k
    if k>0 then
     o:=o++(b.extract t j).reverse;j:=t
     if j == 1 then return b.extract 0 j++a.extract 0 i++o.reverse
     if j == 0 then return a.extract 0 i++b.extract 0 j++o.reverse
    i:=i - 1;o:=o.push (← elem' a i)
    if i == 0 then return a.extract 0 i++b.extract 0 j++o.reverse
    if p<7 && q<7 then break
   g:=g+1
   sG' g
  unsupported "internal:list.sort.merge-bound"):=rfl
abbrev HS:Type:=Option (Array Keyed)×Nat×Nat×Array Keyed×Nat×Nat×Nat
abbrev dn1 (a b o:Array Keyed)(i j:Nat):Array Keyed:=a.extract 0 i++b.extract 0 j++o.reverse
abbrev dn3 (a b o:Array Keyed)(i j:Nat):Array Keyed:=b.extract 0 j++a.extract 0 i++o.reverse
def hiF3 (a b o:Array Keyed)(i j g p q:Nat):StateT SortSt Sem (ForInStep HS):=do
 let x ← elem' a (i - 1)
 if (i - 1 == 0)=true then pure (.done (some (dn1 a b (o.push x) (i - 1) j),i - 1,j,o.push x,g,p,q))
 else if (decide (p<7) && decide (q<7))=true then pure (.done (none,i - 1,j,o.push x,g,p,q)) else pure (.yield (none,i - 1,j,o.push x,g,p,q))
def hiF2 (a b o:Array Keyed)(i j g p q:Nat):StateT SortSt Sem (ForInStep HS):=do
 let y ← elem' b (j - 1)
 if (j - 1 == 1)=true then pure (.done (some (dn3 a b (o.push y) i (j - 1)),i,j - 1,o.push y,g,p,q))
 else do
  let x ← elem' a (i - 1)
  let z ← gal' true x b 0 (j - 1) (j - 1 - 1)
  match z with
  | some t=>
   if j - 1 - t>0 then
    if (t == 1)=true then pure (.done (some (dn3 a b (o.push y++(b.extract t (j - 1)).reverse) i t),i,t,o.push y++(b.extract t (j - 1)).reverse,g,p,j - 1 - t))
    else if (t == 0)=true then pure (.done (some (dn1 a b (o.push y++(b.extract t (j - 1)).reverse) i t),i,t,o.push y++(b.extract t (j - 1)).reverse,g,p,j - 1 - t))
    else hiF3 a b (o.push y++(b.extract t (j - 1)).reverse) i t g p (j - 1 - t)
   else hiF3 a b (o.push y) i (j - 1) g p (j - 1 - t)
  | _=>pure (.done (some (dn1 a b (o.push y) i (j - 1)),i,j - 1,o.push y,g,p,q))
def hiF1 (a b o:Array Keyed)(i j g p q:Nat):StateT SortSt Sem (ForInStep HS):=do
 sG' g
 let y ← elem' b (j - 1)
 let z ← gal' false y a 0 i (i - 1)
 match z with
 | some t=>
  if i - t>0 then
   if (t == 0)=true then pure (.done (some (dn1 a b (o++(a.extract t i).reverse) t j),t,j,o++(a.extract t i).reverse,g,i - t,q))
   else hiF2 a b (o++(a.extract t i).reverse) t j g (i - t) q
  else hiF2 a b o i j g (i - t) q
 | _=>pure (.done (some (dn1 a b o i j),i,j,o,g,p,q))
section
variable {prog:Program}{w:World}{A:Around}{E:Value→Shared→Prop}{s:Shared}{O:KeyOrd}{key:Value→O.α}{κ:SortKind}{a₀:Array Keyed}
def ge (key:Value→O.α)(x y:Keyed):Prop:=le key y x
def bk (a:Array Keyed)(i:Nat):List Keyed:=(a.toList.take i).reverse
theorem qMb {a:Array Keyed}{i:Nat}(h:i<a.size):bk a (i+1)=a[i]::bk a i:=by
 unfold bk
 have h':i<a.toList.length:=by simpa using h
 rw[List.take_succ_eq_append_getElem h',List.reverse_append,Array.getElem_toList];rfl
theorem qAb {a:Array Keyed}{i:Nat}(h0:0<i)(h:i≤a.size):bk a i=a[i - 1]'(by omega)::bk a (i - 1):=by
 have:=qMb (a:=a) (i:=i - 1) (by omega)
 rwa [show i - 1+1=i by omega] at this
theorem qMc {a:Array Keyed}{t i:Nat}(h:t≤i):bk a i=((a.toList.take i).drop t).reverse++bk a t:=by
 unfold bk
 have e:a.toList.take t=(a.toList.take i).take t:=by rw[List.take_take,Nat.min_eq_left h]
 rw[e,← List.reverse_append,List.take_append_drop]
theorem wM (a:Array Keyed)(i:Nat):(a.extract 0 i).toList=a.toList.take i:=by
 rw[Array.toList_extract,List.extract_eq_drop_take,List.drop_zero,Nat.sub_zero]
theorem qSx (a:Array Keyed)(t i:Nat):((a.extract t i).reverse).toList=((a.toList.take i).drop t).reverse:=by
 rw[Array.toList_reverse,Array.toList_extract,List.extract_eq_drop_take,List.drop_take]
theorem MR.back {L l:List Keyed}(h:MR (ge key) L l):MR (le key) L l.reverse:=⟨(List.reverse_perm l).trans h.1,List.pairwise_reverse.mpr h.2⟩
variable {st0 st:SortSt}{a b o:Array Keyed}{i j g p q x:Nat}{Q:ForInStep HS→SortSt→Prop}
abbrev MH (key:Value→O.α)(a b o:Array Keyed)(i j:Nat):Prop:=MI (ge key) (a.toList++b.toList) o.toList (bk b j) (bk a i)
theorem qCl:(dn1 a b o i j).toList=a.toList.take i++b.toList.take j++o.toList.reverse:=by
 show(a.extract 0 i++b.extract 0 j++o.reverse).toList=_
 rw[Array.toList_append,Array.toList_append,wM,wM,Array.toList_reverse]
theorem fin1 (m:MH key a b o i j)(e:i=0):MR (le key) (a.toList++b.toList) (dn1 a b o i j).toList:=by
 subst e
 rw[qCl]
 have:=(MI.end1 m).back
 rw[List.reverse_append] at this
 unfold bk at this
 rw[List.reverse_reverse] at this
 exact this
theorem fin2 (m:MH key a b o i j)(e:j=0):MR (le key) (a.toList++b.toList) (dn1 a b o i j).toList:=by
 subst e
 rw[qCl]
 have:=(MI.end2 m).back
 rw[List.reverse_append] at this
 unfold bk at this
 rw[List.reverse_reverse] at this
 rw[List.take_zero,List.append_nil]
 exact this
theorem fin3 (b1:1≤b.size)(m:MH key a b o i j)(e:j=1):MR (le key) (a.toList++b.toList) (dn3 a b o i j).toList:=by
 subst e
 have e1:bk b 1=[b[0]'(by omega)]:=qMb (by omega)
 have e2:b.toList.take 1=[b[0]'(by omega)]:=by
  have:=congrArg List.reverse e1
  unfold bk at this
  rwa [List.reverse_reverse] at this
 show MR (le key) _ (b.extract 0 1++a.extract 0 i++o.reverse).toList
 rw[Array.toList_append,Array.toList_append,wM,wM,Array.toList_reverse,e2]
 unfold MH at m
 rw[e1] at m
 have:=(MI.end3 m).back
 rw[List.reverse_append,List.reverse_append] at this
 unfold bk at this
 rw[List.reverse_reverse] at this
 rw[yYQ]
 exact this
theorem takeA (h0:0<i)(h:i≤a.size)(m:MH key a b o i j)(hle:∀y∈bk b j,le key y (a[i - 1]'(by omega))):MH key a b (o.push (a[i - 1]'(by omega))) (i - 1) j:=by
 unfold MH at m ⊢
 rw[Array.toList_push]
 rw[qAb h0 h] at m
 exact MI.runB (X:=[a[i - 1]'(by omega)]) m fun x hx=>by rw[yYL.mp hx];exact hle
theorem takeB (h0:0<j)(h:j≤b.size)(m:MH key a b o i j)(hle:∀y∈bk a i,le key y (b[j - 1]'(by omega))):MH key a b (o.push (b[j - 1]'(by omega))) i (j - 1):=by
 unfold MH at m ⊢
 rw[Array.toList_push]
 rw[qAb h0 h] at m
 exact MI.runA (X:=[b[j - 1]'(by omega)]) m fun x hx=>by rw[yYL.mp hx];exact hle
theorem qDq (h0:0<i)(h:i≤a.size)(so:(bk a i).Pairwise (ge key)):∀y∈bk a i,le key y (a[i - 1]'(by omega)):=fun y hy=>by
 rw[qAb h0 h] at so hy
 rcases yYK.mp hy with rfl | hy
 ·exact le.refl
 ·exact(List.pairwise_cons.mp so).1 y hy
theorem xJb (so:(bk a i).Pairwise (ge key)):(a.toList.take i).Pairwise (le key):=by
 unfold bk at so
 exact List.pairwise_reverse.mp so
theorem qFk (l:Array Keyed)(n t:Nat)(h:t<n):l[0+t]? = (l.toList.take n)[t]? := by rw[Nat.zero_add,List.getElem?_take_of_lt h,yZM]
theorem take_len {l:Array Keyed}{n:Nat}(h:n≤l.size):(l.toList.take n).length=n:=by rw[yYF,yZL,Nat.min_eq_left h]
abbrev HDh (st0:SortSt)(key:Value→O.α)(a b:Array Keyed)(Q:ForInStep HS→SortSt→Prop):Prop:=∀r z st1,Gq st0 st1→MR (le key) (a.toList++b.toList) r.toList→Q (.done (some r,z)) st1
abbrev HNh (st0:SortSt)(key:Value→O.α)(a b:Array Keyed)(x:Nat)(Q:ForInStep HS→SortSt→Prop):Prop:=∀o i j g p q st1,Gq st0 st1→MH key a b o i j→0<i→i≤a.size→1<j→j≤b.size→x+1+i+j≤a.size+b.size→
 Q (.done (none,i,j,o,g,p,q)) st1∧Q (.yield (none,i,j,o,g,p,q)) st1
theorem s_H3 (G:Gq st0 st)(m:MH key a b o i j)(i0:0<i)(i1:i≤a.size)(j0:1<j)(j1:j≤b.size)(h3:x+i+j≤a.size+b.size)(hle:∀y∈bk b j,le key y (a[i - 1]'(by omega)))
  (hd:HDh st0 key a b Q) (hn:HNh st0 key a b x Q):wpS (model prog w) A E s (hiF3 a b o i j g p q) Q st:=by
 unfold hiF3
 refine wpS_bind (zK (getElem?_pos a (i - 1) (by omega)) ?_)
 have m2:=takeA i0 i1 m hle
 by_cases e:i - 1=0
 ·rw[if_pos (by simp[e])]
  exact wpS_pure (hd _ _ _ G (fin1 m2 e))
 ·rw[if_neg (by simpa using e)]
  split
  ·exact wpS_pure (hn _ _ _ _ _ _ _ G m2 (by omega) (by omega) j0 j1 (by omega)).1
  ·exact wpS_pure (hn _ _ _ _ _ _ _ G m2 (by omega) (by omega) j0 j1 (by omega)).2
theorem s_H2 (K:AskS prog w A s key κ a₀)(G:Gq st0 st)(hk:kindOf st0=κ)(ha:∀x∈a.toList,x∈a₀.toList)(hb:∀x∈b.toList,x∈a₀.toList)
  (m:MH key a b o i j) (i0:0<i) (i1:i≤a.size) (j0:1<j) (j1:j≤b.size) (h3:x+1+i+j≤a.size+b.size) (hle:∀y∈bk a i,le key y (b[j - 1]'(by omega)))
  (hd:HDh st0 key a b Q) (hn:HNh st0 key a b x Q):wpS (model prog w) A E s (hiF2 a b o i j g p q) Q st:=by
 unfold hiF2
 refine wpS_bind (zK (getElem?_pos b (j - 1) (by omega)) ?_)
 have m2:=takeB (by omega) j1 m hle
 by_cases e:j - 1=1
 ·rw[if_pos (by simp[e])]
  exact wpS_pure (hd _ _ _ G (fin3 (by omega) m2 e))
 rw[if_neg (by simpa using e)]
 refine wpS_bind (zK (getElem?_pos a (i - 1) (by omega)) ?_)
 refine wpS_bind (qGx K (G.kind.trans hk) (ha _ (kQ (by omega))) (fun y hy=>hb y (List.mem_of_mem_take hy)) (take_len (by omega)) (fun t ht=>qFk b (j - 1) t ht) (xJb m2.sA) (by omega) fun t tn tk dk=>?_)
 have m3:MH key a b (o.push (b[j - 1]'(by omega))++(b.extract t (j - 1)).reverse) i t:=by
  unfold MH
  rw[Array.toList_append,qSx]
  refine MI.runA (by rw[← qMc tn];exact m2) fun x hx y hy=>?_
  exact le.trans (qDq i0 i1 m.sB y hy) (dk x (List.mem_reverse.mp hx))
 have lt:∀y∈bk b t,le key y (a[i - 1]'(by omega)):=fun y hy=>by
  refine KeyOrd.kle_of_klt (tk y ?_)
  rw[List.take_take,Nat.min_eq_left tn]
  exact List.mem_reverse.mp hy
 dsimp only
 by_cases k0:j - 1 - t>0
 ·rw[if_pos k0]
  by_cases e2:t=1
  ·rw[if_pos (by simp[e2])]
   exact wpS_pure (hd _ _ _ G (fin3 (by omega) m3 e2))
  rw[if_neg (by simpa using e2)]
  by_cases e3:t=0
  ·rw[if_pos (by simp[e3])]
   exact wpS_pure (hd _ _ _ G (fin2 m3 e3))
  rw[if_neg (by simpa using e3)]
  exact s_H3 G m3 i0 i1 (by omega) (by omega) (x:=x) (by omega) lt hd hn
 ·rw[if_neg k0]
  have:t=j - 1:=by omega
  subst this
  exact s_H3 G m2 i0 i1 (by omega) (by omega) (x:=x) (by omega) lt hd hn
theorem s_H1 (K:AskS prog w A s key κ a₀)(G:Gq st0 st)(hk:kindOf st0=κ)(ha:∀x∈a.toList,x∈a₀.toList)(hb:∀x∈b.toList,x∈a₀.toList)
  (m:MH key a b o i j) (i0:0<i) (i1:i≤a.size) (j0:1<j) (j1:j≤b.size) (h3:x+1+i+j≤a.size+b.size)
  (hd:HDh st0 key a b Q) (hn:HNh st0 key a b x Q):wpS (model prog w) A E s (hiF1 a b o i j g p q) Q st:=by
 unfold hiF1
 refine wpS_bind (qNw ?_)
 have G1:=G.set g
 refine wpS_bind (zK (getElem?_pos b (j - 1) (by omega)) ?_)
 refine wpS_bind (qGq K (G1.kind.trans hk) (hb _ (kQ (by omega))) (fun y hy=>ha y (List.mem_of_mem_take hy)) (take_len i1) (fun t ht=>qFk a i t ht) (xJb m.sB) (by omega) fun t tn tk dk=>?_)
 have m2:MH key a b (o++(a.extract t i).reverse) t j:=by
  unfold MH
  rw[Array.toList_append,qSx]
  refine MI.runB (by rw[← qMc tn];exact m) fun x hx y hy=>?_
  exact le.trans (qDq (by omega) j1 m.sA y hy) (KeyOrd.kle_of_klt (dk x (List.mem_reverse.mp hx)))
 have lt:∀y∈bk a t,le key y (b[j - 1]'(by omega)):=fun y hy=>by
  refine tk y ?_
  rw[List.take_take,Nat.min_eq_left tn]
  exact List.mem_reverse.mp hy
 dsimp only
 by_cases k0:i - t>0
 ·rw[if_pos k0]
  by_cases e:t=0
  ·rw[if_pos (by simp[e])]
   exact wpS_pure (hd _ _ _ G1 (fin1 m2 e))
  rw[if_neg (by simpa using e)]
  exact s_H2 K G1 hk ha hb m2 (by omega) (by omega) j0 j1 (by omega) lt hd hn
 ·rw[if_neg k0]
  have:t=i:=by omega
  subst this
  exact s_H2 K G1 hk ha hb m i0 i1 j0 j1 h3 lt hd hn
theorem xYw (K:AskS prog w A s key κ a₀){st:SortSt}{a b:Array Keyed}{Q:Array Keyed→SortSt→Prop}(hk:kindOf st=κ)(ha:∀x∈a.toList,x∈a₀.toList)(hb:∀x∈b.toList,x∈a₀.toList)
  (a1:1≤a.size) (b1:1≤b.size) (m:MH key a b #[] a.size b.size) (last:∀y∈bk b b.size,le key y (a[a.size - 1]'(by omega)))
  (h:∀out st',Gq st st'→MR (le key) (a.toList++b.toList) out.toList→Q out st'):wpS (model prog w) A E s (mhi' a b) Q st:=by
 rw[xZj]
 refine wpS_bind (wpS_lift (wpAny_rule ⟨rfl,?_⟩))
 refine wpS_bind (zK (getElem?_pos a (a.size - 1) (by omega)) ?_)
 have m1:=takeA (by omega) (yZC _) m last
 rw[show(#[]:Array Keyed).push (a[a.size - 1]'(by omega))=#[a[a.size - 1]'(by omega)] from rfl] at m1
 by_cases c1:a.size - 1=0
 ·rw[if_pos (by simp[c1])]
  exact wpS_pure (h _ _ Gq.refl (fin1 m1 c1))
 rw[if_neg (by simpa using c1)]
 by_cases c2:b.size=1
 ·rw[if_pos (by simp[c2])]
  exact wpS_pure (h _ _ Gq.refl (fin3 b1 m1 c2))
 rw[if_neg (by simpa using c2)]
 refine wpS_bind (wpS_get ?_)
 refine wpS_bind (wpS_mono (wpS_forRange (I:=fun x c st'=>∃i j o g,c=(none,i,j,o,g)∧Gq st st'∧MH key a b o i j∧0<i∧i≤a.size∧1<j∧j≤b.size∧x+i+j≤a.size+b.size)
  (Q:=fun c st'=>∃r i j o g,c=(some r,i,j,o,g)∧Gq st st'∧MR (le key) (a.toList++b.toList) r.toList) ?step ?fin ⟨_,_,_,_,rfl,Gq.refl,m1,by omega,by omega,by omega,by omega,by omega⟩) ?post)
 case post=>
  rintro c st' ⟨r,i,j,o,g,rfl,G,mr⟩
  exact wpS_pure (h r st' G mr)
 case fin=>
  rintro c st' ⟨i,j,o,g,rfl,G,mi,h1,h2,h3,h4,h5⟩
  omega
 case step=>
  rintro x c st' _ xl ⟨i,j,o,g,rfl,G,mi,h1,h2,h3,h4,h5⟩
  dsimp only
  refine wpS_bind (wpS_mono (wpS_forRange (I:=fun y c st'=>∃i j o p q,c=(none,i,j,o,p,q)∧Gq st st'∧MH key a b o i j∧0<i∧i≤a.size∧1<j∧j≤b.size∧x+min y 1+i+j≤a.size+b.size)
   (Q:=fun c st'=>(∃r i j o p q,c=(some r,i,j,o,p,q)∧Gq st st'∧MR (le key) (a.toList++b.toList) r.toList)∨
    (∃i j o p q,c=(none,i,j,o,p,q)∧Gq st st'∧MH key a b o i j∧0<i∧i≤a.size∧1<j∧j≤b.size∧x+1+i+j≤a.size+b.size)) ?step1 ?fin1 ⟨i,j,o,0,0,rfl,G,mi,h1,h2,h3,h4,by omega⟩) ?post1)
  case fin1=>
   rintro c st' ⟨i,j,o,p,q,rfl,G,mi,h1,h2,h3,h4,h5⟩
   exact .inr ⟨i,j,o,p,q,rfl,G,mi,h1,h2,h3,h4,by omega⟩
  case step1=>
   rintro y c st' _ yl ⟨i,j,o,p,q,rfl,G,mi,h1,h2,h3,h4,h5⟩
   dsimp only
   have ej:b[j - 1]? = some (b[j - 1]'(by omega)):=getElem?_pos b (j - 1) (by omega)
   have ei:a[i - 1]? = some (a[i - 1]'(by omega)):=getElem?_pos a (i - 1) (by omega)
   refine wpS_bind (zK ej (wpS_bind (zK ei ?_)))
   refine wpS_bind (s_lt K (G.kind.trans hk) (hb _ (kQ (by omega))) (ha _ (kQ (by omega))) ?_)
   dsimp only
   cases c:O.blt (key (b[j - 1]'(by omega)).1) (key (a[i - 1]'(by omega)).1) with
   | true=>
    simp only[if_true]
    refine wpS_bind (zK ei ?_)
    have m2:=takeA h1 h2 mi fun y hy=>le.trans (qDq (by omega) h4 mi.sA y hy) (KeyOrd.kle_of_klt c)
    by_cases e:i - 1=0
    ·rw[if_pos (by simp[e])]
     exact wpS_pure (.inl ⟨_,_,_,_,_,_,rfl,G,fin1 m2 e⟩)
    ·rw[if_neg (by simpa using e)]
     split
     ·exact wpS_pure (.inr ⟨_,_,_,_,_,rfl,G,m2,by omega,by omega,h3,h4,by omega⟩)
     ·exact wpS_pure ⟨_,_,_,_,_,rfl,G,m2,by omega,by omega,h3,h4,by omega⟩
   | false=>
    simp only[yZJ,if_false]
    refine wpS_bind (zK ej ?_)
    have m2:=takeB (by omega) h4 mi fun y hy=>le.trans (qDq h1 h2 mi.sB y hy) (show le key _ _ from c)
    by_cases e:j - 1=1
    ·rw[if_pos (by simp[e])]
     exact wpS_pure (.inl ⟨_,_,_,_,_,_,rfl,G,fin3 b1 m2 e⟩)
    ·rw[if_neg (by simpa using e)]
     split
     ·exact wpS_pure (.inr ⟨_,_,_,_,_,rfl,G,m2,h1,h2,by omega,by omega,by omega⟩)
     ·exact wpS_pure ⟨_,_,_,_,_,rfl,G,m2,h1,h2,by omega,by omega,by omega⟩
  case post1=>
   rintro c st' (⟨r,i,j,o,p,q,rfl,G,mr⟩ | ⟨i,j,o,p,q,rfl,G,mi,h1,h2,h3,h4,h5⟩)
   ·exact wpS_pure ⟨r,_,_,_,_,rfl,G,mr⟩
   dsimp only
   refine wpS_bind (wpS_lift (wpAny_rule ⟨rfl,?_⟩))
   refine wpS_bind (wpS_mono (wpS_forRange (I:=fun y c st'=>∃i j o g p q,c=(none,i,j,o,g,p,q)∧Gq st st'∧MH key a b o i j∧0<i∧i≤a.size∧1<j∧j≤b.size∧x+1+i+j≤a.size+b.size)
    (Q:=fun c st'=>(∃r i j o g p q,c=(some r,i,j,o,g,p,q)∧Gq st st'∧MR (le key) (a.toList++b.toList) r.toList)∨
     (∃i j o g p q,c=(none,i,j,o,g,p,q)∧Gq st st'∧MH key a b o i j∧0<i∧i≤a.size∧1<j∧j≤b.size∧x+1+i+j≤a.size+b.size)) ?step2 ?fin2 ⟨i,j,o,_,p,q,rfl,G,mi,h1,h2,h3,h4,h5⟩) ?post2)
   case fin2=>
    rintro c st' ⟨i,j,o,g,p,q,rfl,G,mi,h1,h2,h3,h4,h5⟩
    exact .inr ⟨i,j,o,g,p,q,rfl,G,mi,h1,h2,h3,h4,h5⟩
   case post2=>
    rintro c st' (⟨r,i,j,o,g,p,q,rfl,G,mr⟩ | ⟨i,j,o,g,p,q,rfl,G,mi,h1,h2,h3,h4,h5⟩)
    ·exact wpS_pure ⟨r,_,_,_,_,rfl,G,mr⟩
    ·dsimp only
     exact wpS_bind (qNw (wpS_pure ⟨i,j,o,_,rfl,G.set _,mi,h1,h2,h3,h4,by omega⟩))
   case step2=>
    rintro y c st' _ yl ⟨i,j,o,g0,p,q,rfl,G,mi,h1,h2,h3,h4,h5⟩
    dsimp only
    by_cases g1:g0>1
    ·rw[if_pos g1]
     exact s_H1 K G hk ha hb mi h1 h2 h3 h4 h5 (fun r z st1 G1 mr=>.inl ⟨r,_,_,_,_,_,_,rfl,G1,mr⟩) fun o i j g p q st1 G1 m1 u1 u2 u3 u4 u5=>⟨.inr ⟨_,_,_,_,_,_,rfl,G1,m1,u1,u2,u3,u4,u5⟩,⟨_,_,_,_,_,_,rfl,G1,m1,u1,u2,u3,u4,u5⟩⟩
    ·rw[if_neg g1]
     exact s_H1 K G hk ha hb mi h1 h2 h3 h4 h5 (fun r z st1 G1 mr=>.inl ⟨r,_,_,_,_,_,_,rfl,G1,mr⟩) fun o i j g p q st1 G1 m1 u1 u2 u3 u4 u5=>⟨.inr ⟨_,_,_,_,_,_,rfl,G1,m1,u1,u2,u3,u4,u5⟩,⟨_,_,_,_,_,_,rfl,G1,m1,u1,u2,u3,u4,u5⟩⟩
end
end TM

namespace TM
open PySem PyProof.Rows
def mat2 (st:SortSt)(sa na sb nb:Nat)(t:Nat)(xa yb:Array Keyed):StateT SortSt Sem Bool:=do
 let merged ← if na≤t then mlo' xa yb else mhi' xa yb
 modify fun st=>setArr st (merged.toList.zipIdx.foldl (fun a (p,j)=>a.setIfInBounds (sa+j) p) (arrOf st))
 return(failedOf (← get)).isNone
theorem xZk (i:Nat):mergeAt' i=(do
  let st ← get
  match ((pendingOf st)[i]?,(pendingOf st)[i+1]?) with
  | (some (sa,na,pw),some (sb,nb,_))=>
   set (setPending st (((pendingOf st).setIfInBounds i (sa,na+nb,pw)).eraseIdxIfInBounds (i+1)))
   let some k ← gal' false (← elem' (arrOf st) sb) (arrOf st) sa na 0 | return false
   if na - k == 0 then return true
   let some t ← gal' true (← elem' (arrOf st) (sa+k+(na - k) - 1)) (arrOf st) sb nb (nb - 1) | return false
   if t == 0 then return true
   mat2 st (sa+k) (na - k) sb nb t ((arrOf st).extract (sa+k) sb) ((arrOf st).extract sb (sb+t))
  | _=>unsupported "internal:list.sort.pending"):=by
 refine congrArg (bind get) (funext fun st=>?_)
 show(match ((pendingOf st)[i]?,(pendingOf st)[i+1]?) with | (some (sa,na,pw),some (sb,nb,_))=>_ | _=>_)=_
 generalize (pendingOf st)[i]? = u
 generalize (pendingOf st)[i+1]? = v
 cases u with
 | none=>rfl
 | some u=>
  cases v with
  | none=>rfl
  | some v=>
  obtain⟨sa,na,pw⟩:=u
  obtain⟨sb,nb,x⟩:=v
  unfold mat2
  refine congrArg (bind _) (funext fun _=>?_)
  refine congrArg (bind _) (funext fun y=>?_)
  refine congrArg (bind _) (funext fun z=>?_)
  cases z with
  | none=>rfl
  | some k=>
   dsimp only
   split
   ·rfl
   ·refine congrArg (bind _) (funext fun y2=>?_)
    refine congrArg (bind _) (funext fun z2=>?_)
    cases z2 with
    | none=>rfl
    | some t=>
     dsimp only
     split
     ·rfl
     ·split
      ·rfl
      ·rfl
section
variable {prog:Program}{w:World}{A:Around}{E:Value→Shared→Prop}{s:Shared}{O:KeyOrd}{key:Value→O.α}{κ:SortKind}{a₀:Array Keyed}
def seg (xs:Array Keyed)(c n:Nat):List Keyed:=(xs.toList.drop c).take n
theorem qWq {xs:Array Keyed}{c n:Nat}(h:c+n≤xs.size):(seg xs c n).length=n:=by unfold seg;rw[yYF,List.length_drop,yZL];omega
theorem qBb {xs:Array Keyed}{c n i:Nat}(h:i<n):xs[c+i]? = (seg xs c n)[i]? := by unfold seg;rw[List.getElem?_take_of_lt h,List.getElem?_drop,yZM]
theorem qFg {xs:Array Keyed}{c n:Nat}{x:Keyed}(h:x∈seg xs c n):x∈xs.toList:=List.mem_of_mem_drop (List.mem_of_mem_take h)
theorem qFi (xs:Array Keyed)(c n m:Nat):seg xs c (n+m)=seg xs c n++seg xs (c+n) m:=by
 unfold seg
 rw[List.take_add,List.drop_drop]
theorem qFh {xs ys:Array Keyed}{m c n:Nat}(e:xs.toList.take m=ys.toList.take m)(h:c+n≤m):seg xs c n=seg ys c n:=by
 have f:∀l:List Keyed,(l.drop c).take n=((l.take m).drop c).take n:=fun l=>by
  rw[List.drop_take,List.take_take,Nat.min_eq_left (by omega)]
 unfold seg
 rw[f,f ys.toList,e]
theorem qBa {xs ys:Array Keyed}{m c n:Nat}(e:xs.toList.drop m=ys.toList.drop m)(h:m≤c):seg xs c n=seg ys c n:=by
 have f:∀l:List Keyed,l.drop c=(l.drop m).drop (c - m):=fun l=>by rw[List.drop_drop];congr 1;omega
 unfold seg
 rw[f,f ys.toList,e]
def Cov (key:Value→O.α)(xs:Array Keyed):List (Nat×Nat×Nat)→Nat→Nat→Prop
 | [],c,d=>c=d
 | (s,n,_)::r,c,d=>s=c∧1≤n∧(seg xs s n).Pairwise (le key)∧Cov key xs r (s+n) d
theorem Cov.le {xs:Array Keyed}:∀{r:List (Nat×Nat×Nat)} {c d:Nat},Cov key xs r c d→c+r.length≤d
 | [],c,d,h=>by cases h;exact yZC _
 | (s,n,_)::r,c,d,h=>by
  obtain⟨rfl,h1,_,h2⟩:=h
  have:=Cov.le h2
  rw[yYT];omega
theorem Cov.split {xs:Array Keyed}{r:List (Nat×Nat×Nat)}:∀{q:List (Nat×Nat×Nat)} {c d:Nat},Cov key xs (q++r) c d→∃m,Cov key xs q c m∧Cov key xs r m d
 | [],c,d,h=>⟨c,rfl,h⟩
 | (s,n,p)::q,c,d,h=>by
  obtain⟨rfl,h1,h2,h3⟩:=h
  obtain⟨m,a,b⟩:=Cov.split h3
  exact⟨m,⟨rfl,h1,h2,a⟩,b⟩
theorem Cov.join {xs:Array Keyed}{r:List (Nat×Nat×Nat)}:∀{q:List (Nat×Nat×Nat)} {c m d:Nat},Cov key xs q c m→Cov key xs r m d→Cov key xs (q++r) c d
 | [],c,m,d,h,k=>by cases h;exact k
 | (s,n,p)::q,c,m,d,h,k=>by
  obtain⟨rfl,h1,h2,h3⟩:=h
  exact⟨rfl,h1,h2,Cov.join h3 k⟩
theorem Cov.front {xs ys:Array Keyed}{m:Nat}(e:xs.toList.take m=ys.toList.take m):∀{r:List (Nat×Nat×Nat)} {c d:Nat},d≤m→Cov key xs r c d→Cov key ys r c d
 | [],c,d,_,h=>h
 | (s,n,p)::r,c,d,hd,h=>by
  obtain⟨rfl,h1,h2,h3⟩:=h
  have:=h3.le
  exact⟨rfl,h1,by rw[← qFh e (by omega)];exact h2,Cov.front e hd h3⟩
theorem Cov.back {xs ys:Array Keyed}{m:Nat}(e:xs.toList.drop m=ys.toList.drop m):∀{r:List (Nat×Nat×Nat)} {c d:Nat},m≤c→Cov key xs r c d→Cov key ys r c d
 | [],c,d,_,h=>h
 | (s,n,p)::r,c,d,hd,h=>by
  obtain⟨rfl,h1,h2,h3⟩:=h
  exact⟨rfl,h1,by rw[← qBa e hd];exact h2,Cov.back e (by omega) h3⟩
theorem qBf (c:Nat):∀(l:List Keyed) (t:Nat) (xs:Array Keyed) (X M Y:List Keyed),xs.toList=X++M++Y→X.length=c+t→M.length=l.length→
  ((l.zipIdx t).foldl (fun a (x:Keyed×Nat)=>match x with | (p,j)=>a.setIfInBounds (c+j) p) xs).toList=X++l++Y
 | [],t,xs,X,M,Y,e,_,hm=>by
  have:M=[]:=List.length_eq_zero_iff.mp hm
  subst this;exact e
 | p::l,t,xs,X,[],Y,_,_,hm=>by cases hm
 | p::l,t,xs,X,m::M,Y,e,hx,hm=>by
  rw[List.zipIdx_cons,List.foldl_cons]
  have e2:(xs.setIfInBounds (c+t) p).toList=(X++[p])++M++Y:=by
   rw[Array.toList_setIfInBounds,e,yYQ,List.set_append_right _ _ (by omega),← hx,Nat.sub_self]
   simp
  have:=qBf c l (t+1) (xs.setIfInBounds (c+t) p) (X++[p]) M Y e2 (by rw[yYI];show X.length+1=_;omega) (by simpa using hm)
  rw[this]
  simp
theorem qTq {l:List Keyed}(so:l.Pairwise (le key))(h:0<l.length):∀y∈l,le key y (l[l.length - 1]'(by omega)):=fun y hy=>by
 obtain⟨i,hi,rfl⟩:=List.getElem_of_mem hy
 exact qBd so (by omega) (by omega)
theorem xQm (K:AskS prog w A s key κ a₀){st:SortSt}{i d sa na pa sb nb pb:Nat}{pre post:List (Nat×Nat×Nat)}{Q:Bool→SortSt→Prop}(hB:SB κ a₀ st)(hp:(pendingOf st).toList=pre++(sa,na,pa)::(sb,nb,pb)::post)(hi:i=pre.length)
  (hc:Cov key (arrOf st) (pendingOf st).toList 0 d) (hd:d≤a₀.size)
  (h:∀st',SB κ a₀ st'→(pendingOf st').toList=pre++(sa,na+nb,pa)::post→Cov key (arrOf st') (pendingOf st').toList 0 d→(arrOf st').toList.drop d=(arrOf st).toList.drop d→Q true st'):wpS (model prog w) A E s (mergeAt' i) Q st:=by
 rw[xZk]
 refine wpS_bind (wpS_get ?_)
 have e1:(pendingOf st)[i]? = some (sa,na,pa):=by
  rw[← yZM,hp,hi,List.getElem?_append_right (yZC _),Nat.sub_self];rfl
 have e2:(pendingOf st)[i+1]? = some (sb,nb,pb):=by
  rw[← yZM,hp,hi,List.getElem?_append_right (Nat.le_succ _),show pre.length.succ - pre.length=1 by omega];rfl
 rw[e1,e2]
 dsimp only
 rw[hp] at hc
 obtain⟨c0,cp,⟨rfl,n1,soA,rfl,n2,soB,cq⟩⟩:=hc.split
 have ld:=cq.le
 generalize hst1:setPending st (((pendingOf st).setIfInBounds i (sa,na+nb,pa)).eraseIdxIfInBounds (i+1))=st1
 have ep:(pendingOf st1).toList=pre++(sa,na+nb,pa)::post:=by
  rw[← hst1]
  show(((pendingOf st).setIfInBounds i (sa,na+nb,pa)).eraseIdxIfInBounds (i+1)).toList=_
  rw[Array.toList_eraseIdxIfInBounds,Array.toList_setIfInBounds,hp,hi,List.set_append_right _ _ (yZC _),Nat.sub_self,List.eraseIdx_append_of_length_le (Nat.le_succ _),show pre.length.succ - pre.length=1 by omega]
  rfl
 have ea:arrOf st1=arrOf st:=by rw[← hst1]
 have B1:SB κ a₀ st1:=⟨by rw[ea];exact hB.perm,by rw[← hst1];exact hB.kind,by rw[← hst1];exact hB.failed⟩
 refine wpS_bind (wpS_modify (f:=fun _=>st1) ?_)
 have sz:=hB.size
 obtain⟨SA,eA⟩:∃l,seg (arrOf st) sa na=l:=⟨_,rfl⟩
 obtain⟨SB',eB⟩:∃l,seg (arrOf st) (sa+na) nb=l:=⟨_,rfl⟩
 have lenA:SA.length=na:=by rw[← eA];exact qWq (by omega)
 have lenB:SB'.length=nb:=by rw[← eB];exact qWq (by omega)
 have atA:∀t,t<na→(arrOf st)[sa+t]? = SA[t]? := fun t ht=>by rw[← eA];exact qBb ht
 have atB:∀t,t<nb→(arrOf st)[sa+na+t]? = SB'[t]? := fun t ht=>by rw[← eB];exact qBb ht
 have x0:(arrOf st)[sa+na]? = some (SB'[0]'(by omega)):=by
  have:=atB 0 (by omega)
  rw[Nat.add_zero] at this
  rw[this];exact yYA (by omega)
 have xl:(arrOf st)[sa+na - 1]? = some (SA[na - 1]'(by omega)):=by
  have:=atA (na - 1) (by omega)
  rw[show sa+(na - 1)=sa+na - 1 by omega] at this
  rw[this];exact yYA (by omega)
 have memA:∀y∈SA,y∈a₀.toList:=fun y hy=>hB.mem (qFg (by rw[eA];exact hy))
 have memB:∀y∈SB',y∈a₀.toList:=fun y hy=>hB.mem (qFg (by rw[eB];exact hy))
 have whole:(arrOf st).toList=(arrOf st).toList.take sa++(SA++SB')++(arrOf st).toList.drop (sa+na+nb):=by
  rw[← eA,← eB,← qFi]
  unfold seg
  rw[yYQ,show sa+na+nb=sa+(na+nb) by omega,← List.drop_drop,List.take_append_drop,List.take_append_drop]
 rw[eA] at soA
 rw[eB] at soB
 refine wpS_bind (zK x0 ?_)
 have exA:∀k,k≤na→((arrOf st).extract (sa+k) (sa+na)).toList=SA.drop k:=fun k hk=>by
  rw[← eA]
  unfold seg
  rw[Array.toList_extract,List.extract_eq_drop_take,List.drop_take,List.drop_drop];congr 1;omega
 have exB:∀t,t≤nb→((arrOf st).extract (sa+na) (sa+na+t)).toList=SB'.take t:=fun t ht=>by
  rw[← eB]
  unfold seg
  rw[Array.toList_extract,List.extract_eq_drop_take,List.take_take,Nat.min_eq_left ht,Nat.add_sub_cancel_left]
 have hx0:SB'[0]'(by omega)∈SB':=List.getElem_mem _
 have hxl:SA[na - 1]'(by omega)∈SA:=List.getElem_mem _
 have hB0:∀z∈SB',le key (SB'[0]'(by omega)) z:=fun z hz=>by
  obtain⟨j,hj,rfl⟩:=List.getElem_of_mem hz
  exact qBd soB (yZF _) hj
 refine wpS_bind (qGq K B1.kind (memB _ hx0) memA lenA atA soA (by omega) fun k kn tk dk=>?_)
 dsimp only
 by_cases c1:na - k=0
 ·rw[if_pos (by simp[c1])]
  have kk:k=na:=by omega
  subst kk
  rw[List.take_of_length_le (by omega)] at tk
  refine wpS_pure (h st1 B1 ep ?_ (by rw[ea]))
  rw[ep,ea]
  refine cp.join ⟨rfl,by omega,?_,by rw[← Nat.add_assoc];exact cq⟩
  rw[qFi,eA,eB]
  exact List.pairwise_append.mpr ⟨soA,soB,fun x hx y hy=>le.trans (tk x hx) (hB0 y hy)⟩
 rw[if_neg (by simpa using c1)]
 have xl':(arrOf st)[sa+k+(na - k) - 1]? = some (SA[na - 1]'(by omega)):=by rw[show sa+k+(na - k) - 1=sa+na - 1 by omega];exact xl
 refine wpS_bind (zK xl' ?_)
 refine wpS_bind (qGx K B1.kind (memA _ hxl) memB lenB atB soB (by omega) fun t tn tt dt=>?_)
 dsimp only
 have lastD:SA[na - 1]'(by omega)∈SA.drop k:=by
  rw[List.mem_iff_getElem]
  refine⟨na - 1 - k,by rw[List.length_drop];omega,?_⟩
  rw[List.getElem_drop];congr 1;omega
 by_cases c2:t=0
 ·exfalso
  subst c2
  rw[List.drop_zero] at dt
  have q1:=dk _ lastD
  have q2:=dt _ hx0
  unfold KeyOrd.klt at q1
  unfold TM.le KeyOrd.kle at q2
  rw[q2] at q1;cases q1
 rw[if_neg (by simpa using c2)]
 unfold mat2
 have eX:=exA k kn
 have eY:=exB t tn
 have sX:((arrOf st).extract (sa+k) (sa+na)).size=na - k:=by rw[← yZL,eX,List.length_drop];omega
 have sY:((arrOf st).extract (sa+na) (sa+na+t)).size=t:=by rw[← yZL,eY,yYF];omega
 generalize (arrOf st).extract (sa+k) (sa+na)=XA at eX sX ⊢
 generalize (arrOf st).extract (sa+na) (sa+na+t)=YB at eY sY ⊢
 have soX:XA.toList.Pairwise (le key):=by rw[eX];exact soA.sublist (List.drop_sublist _ _)
 have soY:YB.toList.Pairwise (le key):=by rw[eY];exact soB.sublist (List.take_sublist _ _)
 have mX:∀x∈XA.toList,x∈a₀.toList:=fun x hx=>by rw[eX] at hx;exact memA x (List.mem_of_mem_drop hx)
 have mY:∀x∈YB.toList,x∈a₀.toList:=fun x hx=>by rw[eY] at hx;exact memB x (List.mem_of_mem_take hx)
 have fin:∀(out:Array Keyed) st',Gq st1 st'→MR (le key) (XA.toList++YB.toList) out.toList→wpS (model prog w) A E s (do
   modify fun st=>setArr st (out.toList.zipIdx.foldl (fun a (p,j)=>a.setIfInBounds (sa+k+j) p) (arrOf st))
   return(failedOf (← get)).isNone) Q st':=fun out st' G mr=>by
  refine wpS_bind (wpS_modify (wpS_bind (wpS_get (wpS_pure ?_))))
  have ea':arrOf st'=arrOf st:=G.arr.trans ea
  have olen:out.toList.length=(SA.drop k++SB'.take t).length:=by rw[mr.1.length_eq,eX,eY]
  have putd:=qBf (sa+k) out.toList 0 (arrOf st') ((arrOf st).toList.take sa++SA.take k) (SA.drop k++SB'.take t) (SB'.drop t++(arrOf st).toList.drop (sa+na+nb)) (by
    rw[ea']
    refine whole.trans ?_
    simp only[yYQ]
    congr 1
    rw[← yYQ (SA.take k),List.take_append_drop,← yYQ (SB'.take t),List.take_append_drop])
   (by rw[yYI,yYF,yYF,yZL];omega) olen.symm
  generalize hst2:setArr st' (out.toList.zipIdx.foldl (fun a (x:Keyed×Nat)=>match x with | (p,j)=>a.setIfInBounds (sa+k+j) p) (arrOf st'))=st2
  have ea2:(arrOf st2).toList=((arrOf st).toList.take sa++SA.take k)++out.toList++(SB'.drop t++(arrOf st).toList.drop (sa+na+nb)):=by rw[← hst2];exact putd
  have ff:failedOf st2=none:=by rw[← hst2];exact G.fail.trans B1.failed
  have pp:(pendingOf st2).toList=pre++(sa,na+nb,pa)::post:=by rw[← hst2];exact(congrArg Array.toList G.pend).trans ep
  have pm:(arrOf st2).Perm a₀:=by
   refine Array.Perm.trans ?_ hB.perm
   refine Array.perm_iff_toList_perm.mpr ?_
   rw[ea2]
   refine List.Perm.trans ?_ (List.Perm.of_eq whole.symm)
   have p1:(SA.take k++(out.toList++SB'.drop t)).Perm (SA++SB'):=by
    have:SA++SB'=SA.take k++((SA.drop k++SB'.take t)++SB'.drop t):=by
     simp only[yYQ]
     rw[List.take_append_drop,← yYQ,List.take_append_drop]
    rw[this]
    refine List.Perm.append_left _ (List.Perm.append_right _ ?_)
    have:=mr.1
    rw[eX,eY] at this
    exact this
   simp only[yYQ]
   refine List.Perm.append_left _ ?_
   rw[← yYQ out.toList,← yYQ (SA.take k),← yYQ SA]
   exact List.Perm.append_right _ p1
  have B2:SB κ a₀ st2:=⟨pm,by rw[← hst2];exact G.kind.trans B1.kind,ff⟩
  have lmid:(SA.take k++(out.toList++SB'.drop t)).length=na+nb:=by
   rw[yYI,yYI,olen]
   simp only[yYI,yYF,List.length_drop];omega
  have e3:(arrOf st2).toList=(arrOf st).toList.take sa++(SA.take k++(out.toList++SB'.drop t))++(arrOf st).toList.drop (sa+na+nb):=by
   rw[ea2];simp only[yYQ]
  have lsa:((arrOf st).toList.take sa).length=sa:=by rw[yYF,yZL];omega
  have eseg:seg (arrOf st2) sa (na+nb)=SA.take k++(out.toList++SB'.drop t):=by
   unfold seg
   rw[e3,yYQ,List.drop_left' lsa,List.take_left' lmid]
  have efr:(arrOf st).toList.take sa=(arrOf st2).toList.take sa:=by
   refine Eq.symm ?_
   rw[e3,yYQ]
   exact List.take_left' lsa
  have ebk:(arrOf st).toList.drop (sa+na+nb)=(arrOf st2).toList.drop (sa+na+nb):=by
   refine Eq.symm ?_
   rw[e3]
   exact List.drop_left' (by rw[yYI,lsa,lmid];omega)
  rw[ff]
  refine h st2 B2 pp ?_ ?_
  ·rw[pp]
   refine(cp.front efr (yZC _)).join ⟨rfl,by omega,?_,?_⟩
   ·rw[eseg]
    have inOut:∀y∈out.toList,y∈SA.drop k∨y∈SB'.take t:=fun y hy=>by
     have:=mr.1.mem_iff.mp hy
     rw[eX,eY] at this
     exact yYS.mp this
    have pA:∀x∈SA.take k,∀y∈SA.drop k,le key x y:=by
     have:=soA
     rw[← List.take_append_drop k SA] at this
     exact(List.pairwise_append.mp this).2.2
    have pB:∀x∈SB'.take t,∀y∈SB'.drop t,le key x y:=by
     have:=soB
     rw[← List.take_append_drop t SB'] at this
     exact(List.pairwise_append.mp this).2.2
    have lastA:∀x∈SA,le key x (SA[na - 1]'(by omega)):=fun x hx=>by
     have:=qTq soA (by omega) x hx
     simpa only[lenA] using this
    refine List.pairwise_append.mpr ⟨soA.sublist (List.take_sublist _ _),List.pairwise_append.mpr ⟨mr.2,soB.sublist (List.drop_sublist _ _),fun x hx y hy=>?_⟩,fun x hx y hy=>?_⟩
    ·rcases inOut x hx with q | q
     ·exact le.trans (lastA x (List.mem_of_mem_drop q)) (dt y hy)
     ·exact pB x q y hy
    ·have toB:∀z∈SB',le key x z:=fun z hz=>le.trans (tk x hx) (hB0 z hz)
     rcases yYS.mp hy with hy | hy
     ·rcases inOut y hy with q | q
      ·exact pA x hx y q
      ·exact toB y (List.mem_of_mem_take q)
     ·exact toB y (List.mem_of_mem_drop hy)
   ·rw[← Nat.add_assoc]
    exact cq.back ebk (yZC _)
  ·have g:∀l:List Keyed,l.drop d=(l.drop (sa+na+nb)).drop (d - (sa+na+nb)):=fun l=>by rw[List.drop_drop];congr 1;omega
   rw[g,g (arrOf st).toList,ebk]
 have y0:YB[0]'(by omega)=SB'[0]'(by omega):=by
  have:YB.toList[0]? = SB'[0]? := by rw[eY,List.getElem?_take_of_lt (by omega)]
  rw[yZM,getElem?_pos YB 0 (by omega),yYA (by omega)] at this
  exact Option.some.inj this
 have xlast:XA[XA.size - 1]'(by omega)=SA[na - 1]'(by omega):=by
  have:XA.toList[XA.size - 1]? = SA[na - 1]? := by rw[eX,List.getElem?_drop,sX];congr 1;omega
  rw[yZM,getElem?_pos XA (XA.size - 1) (by omega),yYA (by omega)] at this
  exact Option.some.inj this
 have lastB:∀y∈YB.toList,le key y (SA[na - 1]'(by omega)):=fun y hy=>by rw[eY] at hy;exact KeyOrd.kle_of_klt (tt y hy)
 have lowA:∀x∈XA.toList,le key (SB'[0]'(by omega)) x:=fun x hx=>by rw[eX] at hx;exact KeyOrd.kle_of_klt (dk x hx)
 dsimp only
 by_cases c3:na - k≤t
 ·rw[if_pos c3]
  refine wpS_bind ?_
  refine xYv K B1.kind mX mY (by omega) (by omega) ⟨List.Perm.refl _,.nil,soX,soY,fun x hx=>absurd hx (by simp),fun z hz y hy=>?_⟩ (by rw[y0];exact lowA) fin
  have:XA.toList.getLast? = some (XA[XA.size - 1]'(by omega)):=by
   rw[List.getLast?_eq_getElem?,yZL,yZM,getElem?_pos XA (XA.size - 1) (by omega)]
  rw[this] at hz
  cases hz
  rw[xlast];exact lastB y hy
 ·rw[if_neg c3]
  refine wpS_bind ?_
  have bX:bk XA XA.size=XA.toList.reverse:=by unfold bk;rw[List.take_of_length_le (by simp)]
  have bY:bk YB YB.size=YB.toList.reverse:=by unfold bk;rw[List.take_of_length_le (by simp)]
  refine xYw K B1.kind mX mY (by omega) (by omega) ?_ ?_ fin
  ·unfold MH
   rw[bX,bY]
   refine⟨?_,.nil,List.pairwise_reverse.mpr soY,List.pairwise_reverse.mpr soX,fun x hx=>absurd hx (by simp),fun z hz y hy=>?_⟩
   ·show([]++YB.toList.reverse++XA.toList.reverse).Perm _
    rw[List.nil_append]
    exact((List.reverse_perm _).append (List.reverse_perm _)).trans List.perm_append_comm
   ·have:YB.toList.reverse.getLast? = some (YB[0]'(by omega)):=by
     rw[List.getLast?_reverse,List.head?_eq_getElem?,yZM,getElem?_pos YB 0 (by omega)]
    rw[this] at hz
    cases hz
    rw[y0]
    exact lowA y (List.mem_reverse.mp hy)
  ·rw[bY]
   intro y hy
   rw[xlast];exact lastB y (List.mem_reverse.mp hy)
end
end TM

namespace TM
open PySem PyProof.Rows
def pushN (lo n:Nat):StateT SortSt Sem (ForInStep (Option Unit×Nat)):=do
 modify fun st=>setPending st ((pendingOf st).push (lo,n,0))
 pure (.yield (none,lo+n))
def pushR (N lo n:Nat):StateT SortSt Sem (ForInStep (Option Unit×Nat)):=do
 let st ← get
 match (pendingOf st).back? with
 | some (s1,n1,_)=>
  let z ← forIn [0:N] ((none,()):Option Unit×Unit) fun _ _=>do
    let st ← get
    match (if (pendingOf st).size>1 then (pendingOf st)[(pendingOf st).size - 2]? else none) with
    | some (_,_,pw0)=>
     if pw0≤power' N (2 * s1+n1) (2 * s1+n1+n1+n) N then pure (.done (none,())) else do
      let c ← mergeAt' ((pendingOf st).size - 2)
      if (!c)=true then pure (.done (some (),())) else pure (.yield (none,()))
    | _=>pure (.done (none,()))
  match z.1 with
  | some r=>pure (.done (some r,lo))
  | none=>do
   modify fun st=>setPending st ((pendingOf st).modify ((pendingOf st).size - 1) fun(a,b,_)=>(a,b,power' N (2 * s1+n1) (2 * s1+n1+n1+n) N))
   pushN lo n
 | _=>pushN lo n
section
variable {prog:Program}{w:World}{A:Around}{E:Value→Shared→Prop}{s:Shared}{O:KeyOrd}{key:Value→O.α}{κ:SortKind}{a₀:Array Keyed}
theorem qRv {xs:Array Keyed}{lo n:Nat}(h:lo+n≤xs.size)(u:Up key xs lo n):(seg xs lo n).Pairwise (le key):=by
 refine List.pairwise_iff_getElem.mpr fun i j hi hj hij=>?_
 have l:=qWq h
 have e1:=qBb (xs:=xs) (c:=lo) (n:=n) (i:=i) (by omega)
 have e2:=qBb (xs:=xs) (c:=lo) (n:=n) (i:=j) (by omega)
 rw[yYA hi] at e1
 rw[yYA hj] at e2
 have:=u i j (by omega) (by omega)
 rw[qYj e1,qYj e2] at this
 exact this
theorem qKh {xs ys:Array Keyed}{lo:Nat}(h:∀i,i<lo→ys[i]? = xs[i]?):xs.toList.take lo=ys.toList.take lo:=by
 refine List.ext_getElem? fun i=>?_
 rw[List.getElem?_take,List.getElem?_take]
 split
 ·rename_i hi
  rw[yZM,yZM,h i hi]
 ·rfl
theorem Cov.same {xs:Array Keyed}:∀{l l':List (Nat×Nat×Nat)} {c d:Nat},l.map (fun x=>(x.1,x.2.1))=l'.map (fun x=>(x.1,x.2.1))→Cov key xs l c d→Cov key xs l' c d
 | [],[],_,_,_,h=>h
 | [],_::_,_,_,e,_=>by cases e
 | _::_,[],_,_,e,_=>by cases e
 | (s,n,p)::l,(s',n',p')::l',c,d,e,h=>by
  simp only[List.map_cons,List.cons.injEq,Prod.mk.injEq] at e
  obtain⟨⟨rfl,rfl⟩,e⟩:=e
  obtain⟨rfl,h1,h2,h3⟩:=h
  exact⟨rfl,h1,h2,Cov.same e h3⟩
theorem qRa {l:List (Nat×Nat×Nat)}{i:Nat}(h:i+1<l.length):l=l.take i++l[i]::l[i+1]::l.drop (i+2):=by
 rw[List.getElem_cons_drop,List.getElem_cons_drop,List.take_append_drop]
theorem qRb (K:AskS prog w A s key κ a₀){st:SortSt}{lo n:Nat}{Q:ForInStep (Option Unit×Nat)→SortSt→Prop}(hB:SB κ a₀ st)(hc:Cov key (arrOf st) (pendingOf st).toList 0 lo)(h1:1≤n)(hn:lo+n≤a₀.size)(so:(seg (arrOf st) lo n).Pairwise (le key))
  (h:∀st',SB κ a₀ st'→Cov key (arrOf st') (pendingOf st').toList 0 (lo+n)→Q (.yield (none,lo+n)) st'):wpS (model prog w) A E s (pushR a₀.size lo n) Q st:=by
 have fin:∀st',SB κ a₀ st'→Cov key (arrOf st') (pendingOf st').toList 0 lo→(arrOf st').toList.drop lo=(arrOf st).toList.drop lo→wpS (model prog w) A E s (pushN lo n) Q st':=fun st' B' c' e=>by
  unfold pushN
  refine wpS_bind (wpS_modify (wpS_pure (h _ ⟨B'.perm,B'.kind,B'.failed⟩ ?_)))
  show Cov key (arrOf st') ((pendingOf st').push (lo,n,0)).toList 0 (lo+n)
  rw[Array.toList_push]
  exact c'.join ⟨rfl,h1,by rw[qBa e (yZC _)];exact so,rfl⟩
 unfold pushR
 refine wpS_bind (wpS_get ?_)
 split
 ·rename_i s1 n1 p1 eb
  refine wpS_bind (wpS_mono (wpS_forRange (I:=fun _ c st'=>c=(none,())∧SB κ a₀ st'∧Cov key (arrOf st') (pendingOf st').toList 0 lo∧(arrOf st').toList.drop lo=(arrOf st).toList.drop lo)
   (Q:=fun c st'=>c=(none,())∧SB κ a₀ st'∧Cov key (arrOf st') (pendingOf st').toList 0 lo∧(arrOf st').toList.drop lo=(arrOf st).toList.drop lo) ?step (fun _ _ z=>z) ⟨rfl,hB,hc,rfl⟩) ?post)
  case post=>
   rintro c st' ⟨rfl,B',c',e'⟩
   dsimp only
   refine wpS_bind (wpS_modify (fin _ ⟨B'.perm,B'.kind,B'.failed⟩ ?_ e'))
   refine c'.same ?_
   show _=((pendingOf st').modify _ _).toList.map _
   refine List.ext_getElem? fun i=>?_
   rw[yYO,yYO,Array.toList_modify,List.getElem?_modify]
   split
   ·cases(pendingOf st').toList[i]? <;> rfl
   ·simp
  case step=>
   rintro x c st' _ _ ⟨rfl,B',c',e'⟩
   refine wpS_bind (wpS_get ?_)
   by_cases big:(pendingOf st').size>1
   ·rw[if_pos big]
    have lt:(pendingOf st').size - 2<(pendingOf st').size:=by omega
    rw[getElem?_pos (pendingOf st') _ lt]
    generalize hx:(pendingOf st')[(pendingOf st').size - 2]=x2
    obtain⟨a1,a2,a3⟩:=x2
    dsimp only
    split
    ·exact wpS_pure ⟨rfl,B',c',e'⟩
    ·have len:(pendingOf st').toList.length=(pendingOf st').size:=yZL
     have tw:=qRa (l:=(pendingOf st').toList) (i:=(pendingOf st').size - 2) (by omega)
     generalize hA:(pendingOf st').toList[(pendingOf st').size - 2]'(by omega)=ra at tw
     generalize hB2:(pendingOf st').toList[(pendingOf st').size - 2+1]'(by omega)=rb at tw
     obtain⟨b1,b2,b3⟩:=ra
     obtain⟨d1,d2,d3⟩:=rb
     refine wpS_bind (xQm K B' tw (by rw[yYF,len];omega) c' (by omega) fun st2 B2 p2 c2 e2=>?_)
     simp only[Bool.not_true,yZJ,if_false]
     exact wpS_pure ⟨rfl,B2,c2,e2.trans e'⟩
   ·rw[if_neg big]
    exact wpS_pure ⟨rfl,B',c',e'⟩
 ·exact fin st hB hc rfl
theorem qRj {α σ:Type}{M:Model}{m m':StateT σ Sem α}{Q:α→σ→Prop}{st:σ}(e:m=m')(h:wpS M A E s m' Q st):wpS M A E s m Q st:=e▸h
theorem xQl (K:AskS prog w A s key κ a₀){st:SortSt}{Q:Unit→SortSt→Prop}(hB:SB κ a₀ st)(hp:pendingOf st=#[])(h2:2≤a₀.size)
  (h:∀st',SB κ a₀ st'→(arrOf st').toList.Pairwise (le key)→Q () st'):wpS (model prog w) A E s sortRuns' Q st:=by
 rw[sortRuns'_eq]
 refine wpS_bind (wpS_get ?_)
 dsimp only
 simp only[hB.size]
 generalize minRun' a₀.size a₀.size 0=r
 refine wpS_bind (wpS_mono (wpS_forRange (I:=fun x c st'=>∃lo,c=(none,lo)∧SB κ a₀ st'∧Cov key (arrOf st') (pendingOf st').toList 0 lo∧x≤lo∧lo≤a₀.size)
  (Q:=fun c st'=>c=(none,a₀.size)∧SB κ a₀ st'∧Cov key (arrOf st') (pendingOf st').toList 0 a₀.size) ?step ?fin ⟨0,rfl,hB,by rw[hp];rfl,yZC _,yZF _⟩) ?post)
 case fin=>
  rintro c st' ⟨lo,rfl,B',c',h1,h2⟩
  have:lo=a₀.size:=by omega
  subst this
  exact⟨rfl,B',c'⟩
 case step=>
  rintro x c st' _ xl ⟨lo,rfl,B',c',h1,h2⟩
  dsimp only
  by_cases ge:lo≥a₀.size
  ·rw[if_pos ge]
   have:lo=a₀.size:=by omega
   subst this
   exact wpS_pure ⟨rfl,B',c'⟩
  rw[if_neg ge]
  refine wpS_bind (qSi K (m:=a₀.size - lo) (by omega) (by omega) B' fun m st2 N2 m1 m2 u=>?_)
  dsimp only
  have z2:=N2.sb.size
  have c2:Cov key (arrOf st2) (pendingOf st2).toList 0 lo:=by rw[N2.pend];exact c'.front (qKh N2.keep) (yZC _)
  by_cases lt:m<r
  ·rw[if_pos lt]
   refine wpS_bind (wpS_lift (wpAny_rule ⟨rfl,?_⟩))
   refine wpS_bind (xYa K (by omega) (by omega) N2.sb u fun st3 N3 u3=>?_)
   have z3:=N3.sb.size
   have c3:Cov key (arrOf st3) (pendingOf st3).toList 0 lo:=by rw[N3.pend];exact c2.front (qKh N3.keep) (yZC _)
   simp only[Bool.not_true,yZJ,if_false]
   refine qRj ?eq1 (qRb K N3.sb c3 (by omega) (by omega) (qRv (by omega) u3) fun st4 B4 c4=>⟨_,rfl,B4,c4,by omega,by omega⟩)
   case eq1=>
    unfold pushR pushN
    refine congrArg (bind get) (funext fun st=>?_)
    generalize (pendingOf st).back? = u
    cases u with
    | none=>rfl
    | some u=>
     obtain⟨s1,n1,p1⟩:=u
     dsimp only
     refine congrArg (bind _) (funext fun z=>?_)
     obtain⟨z1,z2⟩:=z
     cases z1 with
     | none=>rfl
     | some z1=>rfl
  ·rw[if_neg lt]
   refine qRj ?eq2 (qRb K N2.sb c2 (by omega) (by omega) (qRv (by omega) u) fun st4 B4 c4=>⟨_,rfl,B4,c4,by omega,by omega⟩)
   case eq2=>
    unfold pushR pushN
    refine congrArg (bind get) (funext fun st=>?_)
    generalize (pendingOf st).back? = u
    cases u with
    | none=>rfl
    | some u=>
     obtain⟨s1,n1,p1⟩:=u
     dsimp only
     refine congrArg (bind _) (funext fun z=>?_)
     obtain⟨z1,z2⟩:=z
     cases z1 with
     | none=>rfl
     | some z1=>rfl
 case post=>
  rintro c st' ⟨rfl,B',c'⟩
  dsimp only
  refine wpS_bind (wpS_mono (wpS_forRange (I:=fun x c st'=>c=(none,())∧SB κ a₀ st'∧Cov key (arrOf st') (pendingOf st').toList 0 a₀.size∧(pendingOf st').size≤max 1 (a₀.size - x))
   (Q:=fun c st'=>c=(none,())∧SB κ a₀ st'∧Cov key (arrOf st') (pendingOf st').toList 0 a₀.size∧(pendingOf st').size≤1) ?step2 ?fin2 ⟨rfl,B',c',?init2⟩) ?post2)
  case init2=>
   have:=c'.le
   rw[yZL] at this
   omega
  case fin2=>
   rintro c st' ⟨rfl,B',c',z⟩
   exact⟨rfl,B',c',by omega⟩
  case post2=>
   rintro c st' ⟨rfl,B',c',z⟩
   refine wpS_pure (h st' B' ?_)
   have zz:=B'.size
   have len:(pendingOf st').toList.length=(pendingOf st').size:=yZL
   generalize (pendingOf st').toList=l at c' len
   cases l with
   | nil=>
    have:(0:Nat)=a₀.size:=c'
    omega
   | cons p l=>
    obtain⟨s1,n1,p1⟩:=p
    have:l=[]:=by
     rw[yYT] at len
     exact List.length_eq_zero_iff.mp (by omega)
    subst this
    obtain⟨rfl,_,so,e⟩:=c'
    have e':0+n1=a₀.size:=e
    have:seg (arrOf st') 0 n1=(arrOf st').toList:=by
     unfold seg
     rw[List.drop_zero,List.take_of_length_le (by rw[yZL];omega)]
    rw[this] at so
    exact so
  case step2=>
   rintro x c st' _ xl ⟨rfl,B',c',z⟩
   refine wpS_bind (wpS_get ?_)
   by_cases le1:(pendingOf st').size≤1
   ·rw[if_pos le1]
    exact wpS_pure ⟨rfl,B',c',le1⟩
   rw[if_neg le1]
   have go:∀i,i+1<(pendingOf st').size→∀Qx:ForInStep (Option Unit×Unit)→SortSt→Prop,(∀st'',SB κ a₀ st''→Cov key (arrOf st'') (pendingOf st'').toList 0 a₀.size→(pendingOf st'').size≤max 1 (a₀.size - (x+1))→Qx (.yield (none,())) st'')→
     wpS (model prog w) A E s (do
      let c ← mergeAt' i
      if (!c)=true then pure (ForInStep.done (some (),())) else pure (ForInStep.yield (none,()))) Qx st':=fun i hi Qx hQ=>by
    have len:(pendingOf st').toList.length=(pendingOf st').size:=yZL
    have tw:=qRa (l:=(pendingOf st').toList) (i:=i) (by omega)
    generalize hA:(pendingOf st').toList[i]'(by omega)=ra at tw
    generalize hB2:(pendingOf st').toList[i+1]'(by omega)=rb at tw
    obtain⟨b1,b2,b3⟩:=ra
    obtain⟨d1,d2,d3⟩:=rb
    refine wpS_bind (xQm K B' tw (by rw[yYF,len];omega) c' (yZC _) fun st2 B2 p2 c2 e2=>?_)
    simp only[Bool.not_true,yZJ,if_false]
    refine wpS_pure (hQ _ B2 c2 ?_)
    have l2:(pendingOf st2).toList.length=(pendingOf st2).size:=yZL
    rw[p2,yYI,yYT,yYF,List.length_drop,len] at l2
    omega
   have ix:(if (Option.any (fun x=>decide (x<((pendingOf st')[(pendingOf st').size - 2+1]?.elim 0 fun x=>x.2.1))) (if (pendingOf st').size - 2>0 then (pendingOf st')[(pendingOf st').size - 2 - 1]?.map (fun x=>x.2.1) else none))=true then (pendingOf st').size - 2 - 1 else (pendingOf st').size - 2)+1<(pendingOf st').size:=by
    generalize (Option.any _ _)=b
    cases b <;> simp <;> omega
   exact go _ ix _ fun st2 B2 c2 z2=>⟨rfl,B2,c2,z2⟩
end
end TM

namespace TM
open PySem PyProof.Rows PySem.W
section
variable {prog:Program}{w:World}{A:Around}{E:Value→Shared→Prop}{s:Shared}{O:KeyOrd}{key:Value→O.α}{κ:SortKind}{vs:List Value}
structure Sorts (prog:Program)(w:World)(s:Shared)(key:Value→O.α)(κ:SortKind)(vs:List Value):Prop where
 kind:∀(A:Around) (E:Value→Shared→Prop) (h':Heap),(∀b o,s.heap.get? b=some o→h'.get? b=some o)→2≤vs.length→∀Q:SortKind→Shared→Prop,Q κ { s with heap:=h' }→wpAny (model prog w) A (keyKind' vs.toArray) Q E { s with heap:=h' }
 ask:∀(A:Around) (h':Heap),(∀b o,s.heap.get? b=some o→h'.get? b=some o)→AskS prog w A { s with heap:=h' } key κ (pairsOf vs)
theorem qKj {xs:Array Keyed}(hp:xs.Perm (pairsOf vs))(so:xs.toList.Pairwise (le key)):(xs.map (·.2)).toList.Perm vs∧(xs.map (·.2)).toList.Pairwise (fun x y=>O.kle (key x) (key y)):=by
 have pl:=Array.perm_iff_toList_perm.mp hp
 rw[pairsOf_toList] at pl
 have same:∀p∈xs.toList,p.1=p.2:=fun p hm=>by
  have:=pl.mem_iff.mp hm
  obtain⟨i,hi,e⟩:=List.getElem_of_mem this
  rw[List.getElem_zip] at e
  rw[← e]
 rw[Array.toList_map]
 refine⟨?_,?_⟩
 ·have:=pl.map (·.2)
  rw[List.map_snd_zip (by omega)] at this
  exact this
 ·rw[List.pairwise_map]
  refine List.Pairwise.imp_of_mem (fun{p q} hp hq h=>?_) so
  rw[← same p hp,← same q hq];exact h
theorem xZg {l:List Keyed}(h:l.length<2):l.Pairwise (le key):=by
 cases l with
 | nil=>exact .nil
 | cons x l=>
  cases l with
  | nil=>exact List.pairwise_singleton _ _
  | cons y l=>
   rw[yYT,yYT] at h
   omega
theorem qZn {a:Addr}{n:Nat}{h0:Heap}{P:PySem.Fin→Shared→Prop}(S:Sorts prog w { s with heap:=h0 } key κ vs)(hk:∀b o,h0.get? b=some o→s.heap.get? b=some o)(h0a:h0.get? a=none)(ho:s.heap.get? a=some (seqObj "list" vs.toArray n))(hz:vs.length≤sizeLine)
  (h:∀out:Array Value,out.toList.Perm vs→out.toList.Pairwise (fun x y=>O.kle (key x) (key y))→P (.done (.ret .none)) { s with heap:=sortedHeap s.heap a vs out }):
  wpAny (model prog w) A (Builtin.«list.sort» ⟨[.ref a],[]⟩) P E s:=by
 rw[list_sort_plain]
 have ha:a<s.heap.objs.size:=yYZ ho
 have z0:vs.toArray.size=vs.length:=by simp
 refine yYW (listItems_at ho rfl ?_)
 refine yYW (listUpdate_at ho rfl ?_ (by rw[z0];exact hz) (yZF _))
 obtain⟨e1,ho1⟩:∃e1,(s.heap.update a (Obj.mapSeq fun _=>#[])).get? a=some (seqObj "list" #[] e1):=⟨_,get?_update_seq ho (fun _=>#[])⟩
 refine yYW (seqEpoch_at ho1 rfl ?_)
 refine yYW (wpAny_newTuple ?_ (by show vs.length≤_;exact hz))
 refine yYW (wpAny_newList ?_ (yZF _))
 refine wpAny_holding ?_
 have ho6:(((s.heap.update a (Obj.mapSeq fun _=>#[])).push (seqObj "tuple" vs.toArray 0)).push (seqObj "list" #[] 0)).get? a=some (seqObj "list" #[] e1):=by
  rw[Heap.get?_push_ne _ _ _ (by rw[size_push',Heap.size_update];exact yZE (Nat.lt_succ_of_lt ha)),Heap.get?_push_ne _ _ _ (by rw[Heap.size_update];exact yZE ha)]
  exact ho1
 have keep:∀b o,h0.get? b=some o→(((s.heap.update a (Obj.mapSeq fun _=>#[])).push (seqObj "tuple" vs.toArray 0)).push (seqObj "list" #[] 0)).get? b=some o:=fun b o e=>by
  have e':=hk b o e
  have hlt:b<s.heap.objs.size:=yYZ e'
  have hne:b≠a:=fun z=>by rw[z,h0a] at e;cases e
  rw[Heap.get?_push_ne _ _ _ (by rw[size_push',Heap.size_update];exact yZE (Nat.lt_succ_of_lt hlt)),Heap.get?_push_ne _ _ _ (by rw[Heap.size_update];exact yZE hlt),Heap.get?_update_ne _ _ _ _ hne]
  exact e'
 show wpAny (model prog w) A _ P E { s with heap:=((s.heap.update a (Obj.mapSeq fun _=>#[])).push (seqObj "tuple" vs.toArray 0)).push (seqObj "list" #[] 0) }
 dsimp only
 by_cases h2:vs.toArray.size<2
 ·rw[if_pos h2,if_pos h2]
  refine yYW (yYX ?_)
  rw[StateT.run_pure]
  refine yYW (yYX ?_)
  dsimp only
  refine yYW (seqEpoch_at ho6 rfl ?_)
  have pz:((pairsOf vs).map (·.2)).size=vs.length:=by rw[Array.size_map,pairsOf_size]
  have out:=qKj (vs:=vs) (key:=key) (Array.Perm.refl (pairsOf vs)) (xZg (by rw[yZL,pairsOf_size];omega))
  refine yYW (listUpdate_at ho6 rfl ?_ (yZF _) (by show((pairsOf vs).map (·.2)).size≤sizeLine+1;rw[pz];omega))
  simp only[bne_self_eq_false,yZJ,if_false]
  exact yYX (h _ out.1 out.2)
 ·rw[if_neg h2,if_neg h2]
  refine yYW (S.kind A E _ keep (by omega) _ ?_)
  refine yYW (wpAny_mono (xQl (S.ask A _ keep) (st:=SortSt.mk' κ (vs.toArray.zip vs.toArray) #[] 7 none) (Q:=fun _ st'=>SB κ (pairsOf vs) st'∧(arrOf st').toList.Pairwise (le key))
   ⟨Array.Perm.refl _,rfl,rfl⟩ rfl (by rw[pairsOf_size];omega) fun st' a1 a2=>⟨a1,a2⟩) ?_ fun _ _ e=>e)
  rintro⟨⟨⟩,st'⟩ s' ⟨rfl,hB,so⟩
  dsimp only
  have out:=qKj hB.perm so
  refine yYW (seqEpoch_at ho6 rfl ?_)
  refine yYW (listUpdate_at ho6 rfl ?_ (yZF _) (by show((arrOf st').map (·.2)).size≤sizeLine+1;rw[Array.size_map,hB.size,pairsOf_size];omega))
  rw[hB.failed]
  simp only[bne_self_eq_false,yZJ,if_false]
  exact yYX (h _ out.1 out.2)
theorem qDb {l:Addr}{Q:Value→Shared→Prop}(S:Sorts prog w s key κ vs)(hl:s.heap.IsList l vs.toArray)(hz:vs.length≤sizeLine)
  (h:∀out:Array Value,out.toList.Perm vs→out.toList.Pairwise (fun x y=>O.kle (key x) (key y))→Q (.ref (s.heap.objs.size+1)) { s with heap:=sortedAll s.heap vs out }):
  wpAny (model prog w) A (call (.builtin "sorted") [.ref l]) Q E s:=by
 refine Calls.call_function_entry kind_sorted plain_sorted entry_sorted (args_sorted1 _) ?_
 unfold Builtin.«sorted»
 refine yYW (m:=checkCount "sorted" 1 1 _) (yYX ?_)
 refine yYW (collect_list hl ?_ hz)
 refine yYW (wpAny_newList ?_ hz)
 have hsz:((s.heap.push (seqObj "list" #[] 0)).update s.heap.objs.size (Obj.mapSeq (·++vs.toArray))).objs.size=s.heap.objs.size+1:=by
  rw[Heap.size_update,size_push']
 have hoL:(((s.heap.push (seqObj "list" #[] 0)).update s.heap.objs.size (Obj.mapSeq (·++vs.toArray))).push (seqObj "list" vs.toArray 0)).get? (s.heap.objs.size+1)=some (seqObj "list" vs.toArray 0):=by
  rw[← hsz];exact yZA _ rfl
 have keep:∀b o,s.heap.get? b=some o→(((s.heap.push (seqObj "list" #[] 0)).update s.heap.objs.size (Obj.mapSeq (·++vs.toArray))).push (seqObj "list" vs.toArray 0)).get? b=some o:=fun b o q=>by
  have hlt:b<s.heap.objs.size:=yYZ q
  rw[Heap.get?_push_ne _ _ _ (by rw[hsz];exact yZE (Nat.lt_succ_of_lt hlt)),Heap.get?_update_ne _ _ _ _ (yZE hlt),Heap.get?_push_ne _ _ _ (yZE hlt)]
  exact q
 show wpAny _ _ _ _ _ { s with heap:=((s.heap.push (seqObj "list" #[] 0)).update s.heap.objs.size (Obj.mapSeq (·++vs.toArray))).push (seqObj "list" vs.toArray 0) }
 rw[hsz]
 refine yYW (wpAny_holding (wpAny_call_entry slot_list_sort ⟨_,hoL,rfl⟩ entry_list_sort (qZn (h0:=s.heap) S keep (Heap.get?_none_of_le (Nat.le_succ _)) hoL hz fun out a1 a2=>⟨_,rfl,?_⟩) (args_list_sort _)))
 exact yYX ⟨_,rfl,h out a1 a2⟩
end

theorem lex_irrefl (a:List Int):HT.lexLt a a=false:=by
 induction a with
 | nil=>rfl
 | cons x a ih=>rw[HT.lexLt_cons,if_pos rfl];exact ih
theorem lex_trans (a b c:List Int)(h1:HT.lexLt a b=true)(h2:HT.lexLt b c=true):HT.lexLt a c=true:=by
 induction a generalizing b c with
 | nil=>
  cases c with
  | nil=>
   cases b with
   | nil=>cases h1
   | cons y b=>cases h2
  | cons z c=>rfl
 | cons x a ih=>
  cases b with
  | nil=>cases h1
  | cons y b=>
   cases c with
   | nil=>cases h2
   | cons z c=>
    rw[HT.lexLt_cons] at h1 h2 ⊢
    by_cases e1:x=y
    ·subst e1
     rw[if_pos rfl] at h1
     by_cases e2:x=z
     ·subst e2;rw[if_pos rfl] at h2 ⊢;exact ih b c h1 h2
     ·rw[if_neg e2] at h2 ⊢;exact h2
    ·rw[if_neg e1] at h1
     have l1:=of_decide_eq_true h1
     by_cases e2:y=z
     ·subst e2;rw[if_neg e1];exact h1
     ·rw[if_neg e2] at h2
      have l2:=of_decide_eq_true h2
      rw[if_neg (by omega)]
      exact decide_eq_true (by omega)
theorem qTm (a b c:List Int)(h:HT.lexLt a c=true):HT.lexLt a b=true∨HT.lexLt b c=true:=by
 induction a generalizing b c with
 | nil=>
  cases b with
  | nil=>exact .inr h
  | cons y b=>exact .inl rfl
 | cons x a ih=>
  cases c with
  | nil=>cases h
  | cons z c=>
   cases b with
   | nil=>exact .inr rfl
   | cons y b=>
    rw[HT.lexLt_cons] at h ⊢
    rw[HT.lexLt_cons]
    by_cases e1:x=y
    ·subst e1
     rw[if_pos rfl]
     by_cases e2:x=z
     ·subst e2;rw[if_pos rfl] at h ⊢;exact ih b c h
     ·rw[if_neg e2] at h ⊢;exact .inr h
    ·rw[if_neg e1]
     by_cases l:x<y
     ·exact .inl (decide_eq_true l)
     ·right
      by_cases e2:x=z
      ·subst e2;rw[if_neg (by omega)];exact decide_eq_true (by omega)
      ·rw[if_neg e2] at h
       have:=of_decide_eq_true h
       rw[if_neg (by omega)];exact decide_eq_true (by omega)
theorem lex_total (a b:List Int)(h1:HT.lexLt a b=false)(h2:HT.lexLt b a=false):a=b:=by
 induction a generalizing b with
 | nil=>
  cases b with
  | nil=>rfl
  | cons y b=>cases h1
 | cons x a ih=>
  cases b with
  | nil=>cases h2
  | cons y b=>
   rw[HT.lexLt_cons] at h1 h2
   by_cases e:x=y
   ·subst e
    rw[if_pos rfl] at h1 h2
    rw[ih b h1 h2]
   ·rw[if_neg e] at h1
    rw[if_neg (Ne.symm e)] at h2
    have l1:=of_decide_eq_false h1
    have l2:=of_decide_eq_false h2
    omega
def lexO:KeyOrd:=⟨List Int,HT.lexLt,lex_irrefl,lex_trans,qTm,lex_total⟩
def tupKey (h:Heap):Value→List Int
 | .ref a=>match h.get? a with
  | some o=>match o.data with
   | .seq items _=>items.toList.map numOf
   | _=>[]
  | none=>[]
 | _=>[]
section
variable {prog:Program}{w:World}{A:Around}{E:Value→Shared→Prop}{s:Shared}{vs:List Value}
theorem qOe {b:Bool}{Q:Bool→Shared→Prop}{xs ys:List Value}{ns ms:List Int}(i:Nat)(p:IntsAre xs ns)(q:IntsAre ys ms)(h:Q (HT.lexLt ns ms) s):KatLex prog w A b (decide (xs.length<ys.length)) Q (xs.zip ys) i s:=by
 induction p generalizing ys ms i with
 | nil=>
  cases q with
  | nil=>exact h
  | cons m u q=>
   show Q (decide (0<_+1)) s
   rw[decide_eq_true (Nat.succ_pos _)];exact h
 | @cons n t xs ns r ih=>
  cases q with
  | nil=>
   show Q (decide (_+1<0)) s
   rw[decide_eq_false (Nat.not_lt_zero _)];exact h
  | @cons m u ys ms q=>
   rw[List.zip_cons_cons]
   refine kat_cons (wpAny_eqBool_int ?_)
   rw[HT.lexLt_cons] at h
   have e:(decide ((Value.int n t::xs).length<(Value.int m u::ys).length))=decide (xs.length<ys.length):=by
    rw[yYT,yYT];exact decide_eq_decide.mpr (by omega)
   by_cases c:n=m
   ·subst c
    rw[if_pos rfl] at h
    rw[beq_self_eq_true,e]
    exact kat_yes (ih (i+1) q h)
   ·rw[if_neg c] at h
    rw[show(n == m)=false from beq_eq_false_iff_ne.mpr c]
    refine kat_no ?_
    cases(b && i == 0) with
    | true=>exact oneLt_int h
    | false=>exact kat_one _ _ (PyProof.Rows.lt_int h)
def IsTI (h:Heap)(v:Value)(ns:List Int):Prop:=∃a o xs n,v=.ref a∧h.get? a=some o∧o.cls=.type "tuple" ∧ o.data=.seq xs n∧IntsAre xs.toList ns∧ns≠[]
theorem IsTI.kept {h h':Heap}{v:Value}{ns:List Int}(t:IsTI h v ns)(k:∀b o,h.get? b=some o→h'.get? b=some o):IsTI h' v ns:=let ⟨a,o,xs,n,e1,e2,r⟩:=t;⟨a,o,xs,n,e1,k _ _ e2,r⟩
theorem IsTI.key {h:Heap}{v:Value}{ns:List Int}(t:IsTI h v ns):tupKey h v=ns:=by
 obtain⟨a,o,xs,n,rfl,e,_,d,i,_⟩:=t
 unfold tupKey
 dsimp only
 rw[e]
 dsimp only
 rw[d]
 exact i.nums
theorem vU (ht:∀v∈vs,∃ns,IsTI s.heap v ns):Sorts (O:=lexO) prog w s (tupKey s.heap) (tuples' (Value.type "int" != Value.type "tuple")) vs:=by
 refine⟨fun A E h' keep h2 Q hq=>?_,fun A h' keep x y hx hy E Q hq=>?_⟩
 ·have:∃fs:List Value,KatTups h' vs fs∧fs.length=vs.length∧∀f∈fs,∃n t,f=.int n t:=by
   clear h2 hq
   induction vs with
   | nil=>exact⟨[],.nil,rfl,fun f hf=>by cases hf⟩
   | cons v vs ih=>
    obtain⟨fs,k,l,hf⟩:=ih fun v hv=>ht v (yYH _ hv)
    obtain⟨ns,t⟩:=ht v yYG
    obtain⟨a,o,xs,n,rfl,e,c,d,i,ne⟩:=t.kept keep
    cases ns with
    | nil=>exact absurd rfl ne
    | cons m ns=>
     generalize hxs:xs.toList=xl at i
     cases i with
     | cons _ tk i=>
      have e0:xs[0]? = some (.int m tk):=by rw[← yZM,hxs];rfl
      exact⟨_::fs,KatTups.cons e c d e0 k,by rw[yYT,yYT,l],fun f hm=>by
       rcases yYK.mp hm with rfl | hm
       ·exact⟨_,_,rfl⟩
       ·exact hf f hm⟩
  obtain⟨fs,k,l,hf⟩:=this
  refine kat_kind (T:=.type "int") k (by omega) (fun v hv=>?_) rfl hq
  obtain⟨n,t,rfl⟩:=hf v hv
  exact .now
 ·have mem:∀p:Keyed,p∈(pairsOf vs).toList→p.1∈vs:=fun p hp=>by
   rw[pairsOf_toList] at hp
   exact(List.of_mem_zip hp).1
  obtain⟨ns,t1⟩:=ht _ (mem x hx)
  obtain⟨ms,t2⟩:=ht _ (mem y hy)
  have k1:=t1.key
  have k2:=t2.key
  obtain⟨a,o,xs,n,e1,e2,c,d,i,_⟩:=t1.kept keep
  obtain⟨a',o',xs',n',e1',e2',c',d',i',_⟩:=t2.kept keep
  rw[k1,k2] at hq
  rw[e1,e1']
  refine kat_lt e2 d e2' d' ?_
  have:=qOe (prog:=prog) (w:=w) (A:=A) (b:=(Value.type "int" != Value.type "tuple")) (Q:=Q) 0 i i' hq
  rw[yZL,yZL] at this
  exact this
end
end TM
namespace L2
open PySem PySem.Spec PyProof.Rows TM
def TIn (H:Hp)(ns:List Int)(u:V):Prop:=∃a,u=.ref a∧H a=some (.tup (ns.map V.int))
def rSortT (K:yZO):List V→Hp→VK→Prop:=fun xs H Q=>∃(l:Addr) (us:List V) (ss:List (List Int)),xs=[.ref l]∧SqL K H l us∧Paired (TIn H) ss us∧(∀x∈ss,x≠[])∧
 ∀(p:Addr) (ps:List (List Int×V)),H p=none→ps.Perm (ss.zip us)→ps.Pairwise (fun x y=>HT.lexLt y.1 x.1=false)→Q (.ref p) (upd H p (.lst (ps.map (·.2))))
theorem qJw {α β:Type}{f:α→β}:∀{L:List β} {Z:List α},L.Perm (Z.map f)→∃ps:List α,ps.Perm Z∧L=ps.map f:=by
 intro L Z h
 generalize hM:Z.map f=M at h
 induction h generalizing Z with
 | nil=>
  cases Z with
  | nil=>exact⟨[],List.Perm.nil,rfl⟩
  | cons a b=>cases hM
 | @cons x l1 l2 _ ih=>
  cases Z with
  | nil=>cases hM
  | cons a Z=>
   simp only[List.map_cons,List.cons.injEq] at hM
   obtain⟨rfl,hM⟩:=hM
   obtain⟨ps,p1,p2⟩:=ih hM
   exact⟨a::ps,p1.cons a,by rw[p2];rfl⟩
 | swap x y l=>
  cases Z with
  | nil=>cases hM
  | cons a Z=>
   cases Z with
   | nil=>simp at hM
   | cons b Z=>
    simp only[List.map_cons,List.cons.injEq] at hM
    obtain⟨rfl,rfl,rfl⟩:=hM
    exact⟨b::a::Z,.swap _ _ _,rfl⟩
 | @trans l1 l2 l3 _ _ ih1 ih2=>
  obtain⟨ps,p1,p2⟩:=ih2 hM
  obtain⟨ps2,p3,p4⟩:=ih1 p2.symm
  exact⟨ps2,p3.trans p1,p4⟩
section
variable {X:Cx}{K:yZO}
theorem qJg {ns:List Int}{its:List Value}(h:Vals (ns.map V.int) its):IntsAre its ns:=by
 induction ns generalizing its with
 | nil=>cases h;exact .nil
 | cons n ns ih=>
  cases h with
  | cons r t=>
   obtain⟨tk,rfl⟩:=r
   exact .cons n tk (ih t)
def refV:V→Value
 | .ref a=>.ref a
 | _=>.none
theorem qYa {H:Hp}{ss:List (List Int)}{us:List V}{its:List Value}(p:Paired (TIn H) ss us)(v:Vals us its):its=us.map refV:=by
 induction p generalizing its with
 | nil=>cases v;rfl
 | cons h t ih=>
  cases v with
  | cons r v=>
   obtain⟨a,rfl,_⟩:=h
   cases r
   rw[ih v];rfl
theorem qGz {us:List V}(h:∀u∈us,∃a,u=.ref a):Vals us (us.map refV):=by
 induction us with
 | nil=>exact .nil
 | cons u us ih=>
  obtain⟨a,rfl⟩:=h u yYG
  exact .cons rfl (ih fun u hu=>h u (yYH _ hu))
theorem qEb (hK:X.K=K:=by rfl):CallR X (.builtin "sorted") (rSortT K):=by
 subst hK
 intro pins s σ H xs us0 Q I r h
 obtain⟨l,us,ss,rfl,hl,hp,hne,q⟩:=h
 obtain⟨u,rfl,ru⟩:=vals1 r
 cases ru
 obtain⟨its,r1,p1,hz⟩:=I.list hl
 have len:=r1.length
 have eits:=qYa hp r1
 have each:∀(n:List Int) (u:V),(n,u)∈ss.zip us→IsTI s.heap (refV u) n∧∃a,u=.ref a:=fun n u hm=>by
  obtain⟨i,hi,e⟩:=List.getElem_of_mem hm
  rw[List.getElem_zip] at e
  have l1:=hp.length
  rw[List.length_zip] at hi
  have en:ss[i]? = some n:=by rw[yYA (by omega)];exact congrArg some (Prod.ext_iff.mp e).1
  have eu:us[i]? = some u:=by rw[yYA (by omega)];exact congrArg some (Prod.ext_iff.mp e).2
  obtain⟨a,rfl,ea⟩:=xK hp en eu
  obtain⟨its2,r2,⟨o,ho,hc,n2,hd⟩,_⟩:=I.tuple (SqT.of ea)
  exact⟨⟨a,o,its2.toArray,n2,rfl,ho,hc,hd,by simpa using qJg r2,hne n (yYE en)⟩,a,rfl⟩
 have zu:(ss.zip us).map (·.2)=us:=List.map_snd_zip (by rw[hp.length];exact yZC _)
 have vz:its=((ss.zip us).map (·.2)).map refV:=by rw[zu];exact eits
 have tis:∀v∈its,∃ns,IsTI s.heap v ns:=fun v hv=>by
  rw[vz,List.map_map] at hv
  obtain⟨⟨n,u⟩,hm,rfl⟩:=yYP.mp hv
  exact⟨n,(each n u hm).1⟩
 refine qDb (vU tis) p1.isList (by omega) fun out o1 o2=>?_
 obtain⟨ps,pp,pe⟩:∃ps:List (List Int×V),ps.Perm (ss.zip us)∧out.toList=ps.map (fun p=>refV p.2):=by
  have:its=(ss.zip us).map (fun p=>refV p.2):=by rw[vz,List.map_map];rfl
  rw[this] at o1
  clear this vz zu eits each tis q hne len r1 p1 o2
  generalize hL:out.toList=L at o1 ⊢
  clear hL
  generalize ss.zip us=Z at o1 ⊢
  exact qJw o1
 obtain⟨e,he⟩:=sortedAll_at s.heap its out
 have po:∀p∈ps,IsTI s.heap (refV p.2) p.1∧∃a,p.2=.ref a:=fun p hm=>each p.1 p.2 (pp.mem_iff.mp hm)
 have vps:Vals (ps.map (·.2)) out.toList:=by
  rw[pe]
  have:=qGz (us:=ps.map (·.2)) fun u hu=>by
   obtain⟨p,hm,rfl⟩:=yYP.mp hu
   exact(po p hm).2
  rw[List.map_map] at this
  exact this
 refine⟨.ref (s.heap.objs.size+1),_,I.laid (t':=s.toks) (o:=.lst (ps.map (·.2))) (fun b o=>sortedAll_old) (Nat.le_succ _) (show ObjOk X.prog X.w _ (sortedAll s.heap its out) _ (.lst (ps.map (·.2))) from⟨?_,out.toList,e,vps,by rw[Array.toArray_toList];exact he⟩),rfl,q _ ps (I.hok.fresh (Nat.le_succ _)) pp ?_⟩
 ·rw[yYC,pp.length_eq,List.length_zip,hp.length];omega
 ·rw[pe,List.pairwise_map] at o2
  refine List.Pairwise.imp_of_mem (fun{x y} hx hy h=>?_) o2
  have:=h
  unfold KeyOrd.kle at this
  rw[(po x hx).1.key,(po y hy).1.key] at this
  exact this
end
end L2

namespace SI
open PySem PyProof.Rows
def Ris (p:Array Nat):Prop:=p.toList.Pairwise (·<·)
theorem Ris.get {p:Array Nat}(h:Ris p){i j:Nat}(hij:i<j)(hj:j<p.size):p.getD i 0<p.getD j 0:=by
 have e:∀k (hk:k<p.size),p.getD k 0=p[k]:=fun k hk=>by simp[Array.getD,hk]
 rw[e i (by omega),e j hj]
 have:=List.pairwise_iff_getElem.mp h i j (by simp;omega) (by simp;exact hj) hij
 simpa using this
theorem qYx {p:Array Nat}(h:Ris p)(j:Nat):∀(f lo hi:Nat),lo≤hi→hi≤p.size→hi - lo≤f→(∀i,i<lo→p.getD i 0<j)→(∀i,hi≤i→i<p.size→j≤p.getD i 0)→
  SetTable.below.go p j f lo hi≤p.size∧(∀i,i<SetTable.below.go p j f lo hi→p.getD i 0<j)∧(∀i,SetTable.below.go p j f lo hi≤i→i<p.size→j≤p.getD i 0)
 | 0,lo,hi,a,b,c,d,e=>by
  have:lo=hi:=by omega
  subst this
  exact⟨b,d,e⟩
 | f+1,lo,hi,a,b,c,d,e=>by
  unfold SetTable.below.go
  by_cases lt:lo<hi
  ·rw[if_pos lt]
   dsimp only
   have hm:(lo+hi) / 2<p.size:=by omega
   have eg:p.getD ((lo+hi) / 2) j=p.getD ((lo+hi) / 2) 0:=by simp[Array.getD,hm]
   rw[eg]
   by_cases c2:p.getD ((lo+hi) / 2) 0<j
   ·rw[if_pos c2]
    refine qYx h j f _ hi (by omega) b (by omega) (fun i hi'=>?_) e
    by_cases x:i=(lo+hi) / 2
    ·rw[x];exact c2
    ·exact Nat.lt_trans (h.get (by omega) hm) c2
   ·rw[if_neg c2]
    refine qYx h j f lo _ (by omega) (by omega) (by omega) d fun i x y=>?_
    by_cases z:i=(lo+hi) / 2
    ·rw[z];omega
    ·have:=h.get (show(lo+hi) / 2<i by omega) y
     omega
  ·rw[if_neg lt]
   have:lo=hi:=by omega
   subst this
   exact⟨b,d,e⟩
theorem vN {p:Array Nat}(h:Ris p)(j:Nat):SetTable.below p j≤p.size∧(∀i,i<SetTable.below p j→p.getD i 0<j)∧(∀i,SetTable.below p j≤i→i<p.size→j≤p.getD i 0):=
 qYx h j _ 0 _ (yZF _) (yZC _) (by omega) (fun i hi=>by omega) (fun i a b=>by omega)
structure TOk (b:Bool)(t:SetTable):Prop where
 led:t.led=b
 dum:t.dummies=#[]
 ris:Ris t.place
theorem qCk {t:SetTable}(h:t.dummies=#[])(j:Nat):t.slot j≠.dummy:=fun e=>by
 unfold SetTable.slot at e
 dsimp only at e
 split at e
 ·cases e
 ·rw[h] at e
  unfold SetTable.has at e
  simp at e
theorem qTx {t:SetTable}(h:Ris t.place){j:Nat}(e:t.slot j=.empty):Ris (t.put j).1.place:=by
 show(SetTable.insertAt t.place (SetTable.below t.place j) j).toList.Pairwise (·<·)
 obtain⟨b1,b2,b3⟩:=vN h j
 have ne:t.place[SetTable.below t.place j]? ≠ some j:=fun z=>by
  unfold SetTable.slot at e
  dsimp only at e
  rw[if_pos (by rw[z];simp)] at e
  cases e
 generalize SetTable.below t.place j=p at b1 b2 b3 ne
 rw[SetTable.toList_insertAt]
 have g:∀k (hk:k<t.place.size),t.place.toList[k]'(by simpa using hk)=t.place.getD k 0:=fun k hk=>by simp[Array.getD,hk]
 have gt:∀k,p≤k→k<t.place.size→j<t.place.getD k 0:=fun k hk hs=>by
  have:=b3 k hk hs
  by_cases x:k=p
  ·subst x
   have e2:t.place[k]? = some (t.place.getD k 0):=by simp[Array.getD,hs]
   rw[e2] at ne
   have:t.place.getD k 0≠j:=fun z=>ne (by rw[z])
   omega
  ·have h1:=b3 p (yZC _) (by omega)
   have h2:=h.get (show p<k by omega) hs
   omega
 refine List.pairwise_append.mpr ⟨h.sublist (List.take_sublist _ _),List.pairwise_cons.mpr ⟨fun y hy=>?_,h.sublist (List.drop_sublist _ _)⟩,fun x hx y hy=>?_⟩
 ·obtain⟨k,hk,rfl⟩:=List.getElem_of_mem hy
  rw[List.length_drop,yZL] at hk
  rw[List.getElem_drop,g _ (by omega)]
  exact gt _ (by omega) (by omega)
 ·obtain⟨i,hi,rfl⟩:=List.getElem_of_mem hx
  rw[yYF,yZL] at hi
  have lx:t.place.getD i 0<j:=b2 i (by omega)
  rw[List.getElem_take,g _ (by omega)]
  rcases yYK.mp hy with rfl | hy
  ·exact lx
  ·obtain⟨k,hk,rfl⟩:=List.getElem_of_mem hy
   rw[List.length_drop,yZL] at hk
   rw[List.getElem_drop,g _ (by omega)]
   have:=gt (p+k) (by omega) (by omega)
   omega
theorem TOk.put {b:Bool}{t:SetTable}(h:TOk b t){j:Nat}(e:t.slot j=.empty):TOk b (t.put j).1:=by
 refine⟨h.led,?_,qTx h.ris e⟩
 show(if SetTable.has t.dummies j then _ else t.dummies)=_
 rw[h.dum]
 rw[if_neg (by unfold SetTable.has;simp)]
end SI

namespace SI
open PySem PyProof.Rows
section
variable {prog:Program}{w:World}{A:Around}{E:Value→Shared→Prop}{s:Shared}
end
section
variable {prog:Program}{w:World}{A:Around}{R:Result→Shared→Prop}{I:Addr}{fp wr:List Addr}{G:Array GenState→Array GenState→Prop}{n:Nat}{P:Nat→Value→Prop}{St:Nat→Shared→Prop}
end
end SI

namespace SI
open PySem PyProof.Rows
def byText (w:World):Bool:=w.params.followText "set-order"
section
variable {prog:Program}{w:World}{A:Around}{E:Value→Shared→Prop}{s:Shared}
theorem qTg (a:Value){Q₁:Value→Shared→Prop}(h:Q₁ (.ref s.heap.objs.size) { s with heap:=s.heap.push (setObj (!byText w)) }):
  codeAny (model prog w) A (.call (.builtin "set.__new__") ⟨[.type "set",a],[]⟩) (wants Q₁ E) s:=by
 refine codeAny_of_tree ?_
 show wpAny _ A.in1 (do checkBuiltinCall "set.__new__" ⟨[.type "set",a],[]⟩;again (.builtin "set.__new__" ⟨[.type "set",a],[]⟩)) _ _ s
 refine yYW (wpAny_of_eq (F.newCall_set_1 a) (yYX ⟨plainId_quiet F.plain_set_new _,codeAny_builtin F.entry_set_new ?_⟩))
 rw[Around.under_plainId F.plain_set_new _]
 unfold Builtin.«set.__new__» Builtin.Frozenset.newClass
 have hsub:=sub_set_self
 obtain⟨hp,g,d,tk,os⟩:=s
 dsimp only
 wp_walk
 refine wpAny_askSetting (yYX ?_)
 dsimp only
 simp only[newObj]
 refine yYW (wpAny_alloc (yYX ?_))
 exact yYX h
end
end SI

namespace SI
open PySem PyProof.Rows
theorem qXh:entryFor table "set.__iter__" = some Builtin.«frozenset.__iter__»:=entryFor_alias (id' := "frozenset.__iter__") (by kernel_rfl) rfl (by decide +kernel) (by kernel_rfl)
theorem xN:Slot "set_iterator" "__next__" "set_iterator.__next__" :=
 .of (owner := "set_iterator") (n := "__next__") (by rw[typeLookup_type,builtinLookup_eq_fast];kernel_rfl) (by decide +kernel) (by decide +kernel) (by decide +kernel)
  (by first | exact .inl (by decide +kernel) | exact .inr (by decide +kernel)) (by rw[isSubtype_type];kernel_rfl)
theorem jP:entryFor table "set_iterator.__next__" = some Builtin.«set_iterator.__next__»:=entryFor_of_tree (by kernel_rfl)
theorem yZ (a:Value):argsOk "set_iterator.__next__" ⟨[a],[]⟩:=by unfold argsOk;kernel_rfl
section
variable {M:Model}{A:Around}{E:Value→Shared→Prop}{s:Shared}
theorem wp_choose {src:Source}{n:Nat}{Q:Nat→Shared→Prop}(hn:n≠0)(h:∀i,i<n→Q i { s with drawn:=s.drawn.bump src }):wpAny M A (choose src n) Q E s:=fun Γ p hΓ=>by
 show Sem.wp M Γ (.choose src n .pure) _ _ p s
 rw[Sem.wp_choose]
 exact⟨hn,h _ (Nat.mod_lt _ (Nat.pos_of_ne_zero hn))⟩
theorem qZk {α:Type}{xs:List α}{i:Nat}{x:α}(h:xs[i]? = some x):(x::xs.eraseIdx i).Perm xs:=by
 obtain⟨hi,rfl⟩:=yYB.mp h
 rw[List.eraseIdx_eq_take_drop_succ]
 have e:xs=xs.take i++xs[i]::xs.drop (i+1):=by rw[List.getElem_cons_drop,List.take_append_drop]
 conv=>rhs;rw[e]
 exact List.perm_middle.symm
theorem qEk {α:Type}{Q:List α→Shared→Prop}:∀(n:Nat) (xs:List α) (s:Shared),xs.length=n→(∀ys d,ys.Perm xs→Q ys { s with drawn:=d })→wpAny M A (drawOrder n xs) Q E s:=by
 intro n
 induction n generalizing Q with
 | zero=>
  intro xs s hl h
  have:xs=[]:=List.length_eq_zero_iff.mp hl
  subst this
  unfold drawOrder
  exact yYX (by have:=h [] s.drawn .nil;cases s;exact this)
 | succ n ih=>
  intro xs s hl h
  cases xs with
  | nil=>cases hl
  | cons x0 xr=>
   unfold drawOrder
   refine yYW (wp_choose (by simp) fun i hi=>?_)
   have e:(x0::xr)[i]? = some ((x0::xr)[i]):=yYA hi
   rw[e]
   dsimp only
   refine yYW (ih (Q:=fun ys s'=>wpAny M A (pure ((x0::xr)[i]::ys)) Q E s') ((x0::xr).eraseIdx i) _ (by rw[List.length_eraseIdx_of_lt hi];simp only[yYT] at hl ⊢;omega) fun ys d p=>?_)
   exact yYX (h _ d ((p.cons _).trans (qZk e)))
end
theorem qTj {α:Type}(next:Nat→Nat):∀(f k:Nat) (left:List α) (out:Array α),f=left.length→(pickOrder.go next f k left out).toList.Perm (out.toList++left):=by
 intro f
 induction f with
 | zero=>
  intro k left out h
  have:left=[]:=List.length_eq_zero_iff.mp h.symm
  subst this
  unfold pickOrder.go
  rw[List.append_nil]
 | succ f ih=>
  intro k left out h
  have hi:next k % left.length<left.length:=Nat.mod_lt _ (by omega)
  have e:left[next k % left.length]? = some left[next k % left.length]:=yYA hi
  unfold pickOrder.go
  rw[e]
  dsimp only
  refine(ih (k+1) _ _ (by rw[List.length_eraseIdx_of_lt hi];omega)).trans ?_
  rw[Array.toList_push,yYQ]
  exact List.Perm.append_left _ (qZk e)
theorem qGe {α:Type}(next:Nat→Nat)(xs:Array α):(pickOrder next xs).toList.Perm xs.toList:=by
 have:=qTj next xs.size 0 xs.toList #[] (by simp)
 exact this
abbrev itObj (first:Value)(i:Nat)(a:Addr)(n ep:Nat):Obj:={ cls:=.type "set_iterator",data:=.fields #[first,.int i 0,.ref a,.int n 0,.int ep 0] }
structure Lies (h:Heap)(a:Addr)(o:Obj)(es:Array (Int×Value))(ep:Nat)(t:SetTable):Prop where
 at':h.get? a=some o
 ex:o.ExactSet
 data:o.data=.set es ep t
 fits:t.fits es.size=true
theorem Lies.kept {h h':Heap}{a:Addr}{o:Obj}{es:Array (Int×Value)}{ep:Nat}{t:SetTable}(x:Lies h a o es ep t)(k:∀o,h.get? a=some o→h'.get? a=some o):Lies h' a o es ep t:=⟨k _ x.at',x.ex,x.data,x.fits⟩
section
variable {prog:Program}{w:World}{A:Around}{E:Value→Shared→Prop}{s:Shared}{I a:Addr}{o:Obj}{es:Array (Int×Value)}{ep:Nat}{t:SetTable}{i:Nat}
theorem qKe {slot:Nat}{Q:Option Value→Shared→Prop}(hi:s.heap.get? I=some (itObj (.int slot 0) i a es.size ep))(L:Lies s.heap a o es ep t)
  {x:Value} {nx:Nat} (hn:∀(Q':Option (Value×Nat)→Shared→Prop) (A':Around) (E':Value→Shared→Prop),Q' (some (x,nx)) s→wpAny (model prog w) A' (setNext a slot i ep) Q' E' s)
  (h:∀h',h'.get? I=some (itObj (.int nx 0) (i+1) a es.size ep)→Heap.SameBut I s.heap h'→Q (some x) { s with heap:=h' }):wpAny (model prog w) A (pyNext (.ref I)) Q E s:=by
 have hT:s.TypeIs (.ref I) "set_iterator" := ⟨_,hi,rfl⟩
 unfold pyNext
 refine yYW (wpAny_attempt (wpAny_callSpecial?_slot (name:=Str.ofString "__next__") hT xN (wpAny_call_entry xN hT jP ?_ (yZ _))))
 unfold Builtin.«set_iterator.__next__» slotArgs
 simp only[List.isEmpty_nil,Bool.not_true,yZJ,↓reduceIte,bind_assoc,yYU,bne_self_eq_false]
 refine yYW (yYX ?_)
 refine yYW (wpAny_fieldsOf hi rfl ?_)
 dsimp only
 refine yYW (wpAny_setEntries_of L.at' L.data L.fits ?_)
 simp only[bne_self_eq_false,yZJ,↓reduceIte]
 rw[Int.toNat_natCast,Int.toNat_natCast,Int.toNat_natCast]
 refine yYW (hn _ _ _ ?_)
 dsimp only
 refine yYW (wpAny_setField hi rfl (by simp) ?_)
 have e1:(s.heap.update I (Obj.mapFields fun vs=>vs.setIfInBounds 0 (rawInt nx))).get? I=some (itObj (.int nx 0) i a es.size ep):=Heap.get?_update_self _ hi rfl
 refine yYW (wpAny_setField e1 rfl (by simp) ?_)
 refine yYX ⟨x,rfl,yYX (h _ ?_ ((Heap.SameBut.update ..).trans (Heap.SameBut.update ..)))⟩
 exact Heap.get?_update_self _ e1 rfl
theorem qOv {first:Value}{Q:Option Value→Shared→Prop}(hh:A.handled=none)(hi:s.heap.get? I=some (itObj first i a es.size ep))(L:Lies s.heap a o es ep t)
  (hn:∀slot:Nat,first=.int slot 0→∀(Q':Option (Value×Nat)→Shared→Prop) (A':Around) (E':Value→Shared→Prop),Q' none s→wpAny (model prog w) A' (setNext a slot i ep) Q' E' s)
  (hp:(∃slot:Nat,first=.int slot 0)∨∃p op ys n,first=.ref p∧s.heap.get? p=some op∧op.data=.seq ys n∧ys.size=i)
  (h:∀h',Heap.ExtBut I s.heap h'→Q none { s with heap:=h' }):wpAny (model prog w) A (pyNext (.ref I)) Q E s:=by
 have hT:s.TypeIs (.ref I) "set_iterator" := ⟨_,hi,rfl⟩
 have stop:∀h1 (f:Value),h1.get? I=some (itObj f i a es.size ep)→Heap.SameBut I s.heap h1→wpAny (model prog w) A.in1 (do
   setField (Value.ref I) 2 Value.none
   let e ← newExc (Value.type "StopIteration") []
   (raiseNew e:Sem PySem.Fin)) (fun fin s'=>∃v,fin=Fin.done (Flow.ret v)∧wpAny (model prog w) A (pure (some v)) Q E s')
   (fun e s'=>wpAny (model prog w) A (do
     let c ← isInstance e (Value.type "StopIteration")
     if c=true then pure none else throw e) Q E s') { s with heap:=h1 }:=fun h1 f e1 sb=>by
  refine yYW (wpAny_setField (s:={ s with heap:=h1 }) e1 rfl (by simp) ?_)
  refine yYW ?_
  simp only[newExc,newTuple]
  refine yYW (wpAny_newObj_type ?_ (by size_fits))
  refine yYW (m:=firstArgMember _ _) (wpAny_of_eq (a:=Value.none) (by first | rfl | (simp only[firstArgMember];rfl)) ?_)
  refine wpAny_newObj_type ?_ (by size_fits)
  simp only[raiseNew]
  refine yYW (wpAny_handled ?_)
  rw[show A.in1.handled=none from hh]
  refine yYW (yYX (wpAny_throw ?_))
  refine yYW (wpAny_isInstance (T := "StopIteration") (b:=true) ⟨_,yZA _ rfl,rfl⟩ isSubtype_stop ?_)
  exact yYX (h _ (((sb.trans (Heap.SameBut.update ..)).extBut.push _).push _))
 unfold pyNext
 refine yYW (wpAny_attempt (wpAny_callSpecial?_slot (name:=Str.ofString "__next__") hT xN (wpAny_call_entry xN hT jP ?_ (yZ _))))
 unfold Builtin.«set_iterator.__next__» slotArgs
 simp only[List.isEmpty_nil,Bool.not_true,yZJ,↓reduceIte,bind_assoc,yYU,bne_self_eq_false]
 refine yYW (yYX ?_)
 refine yYW (wpAny_fieldsOf hi rfl ?_)
 dsimp only
 refine yYW (wpAny_setEntries_of L.at' L.data L.fits ?_)
 simp only[bne_self_eq_false,yZJ,↓reduceIte]
 rcases hp with⟨slot,rfl⟩ | ⟨p,op,ys,n,rfl,e2,d2,z⟩
 ·dsimp only
  rw[Int.toNat_natCast,Int.toNat_natCast,Int.toNat_natCast]
  refine yYW (hn slot rfl _ _ _ ?_)
  dsimp only
  exact stop s.heap _ hi (Heap.SameBut.refl ..)
 ·dsimp only
  refine yYW (wpAny_seqItems e2 d2 ?_)
  dsimp only
  rw[Int.toNat_natCast,show ys[i]? = none by simp[z]]
  dsimp only
  refine yYW (wpAny_setField hi rfl (by simp) ?_)
  have e1:(s.heap.update I (Obj.mapFields fun vs=>vs.setIfInBounds 0 (rawInt 0))).get? I=some (itObj (.int 0 0) i a es.size ep):=Heap.get?_update_self _ hi rfl
  exact stop _ _ e1 (Heap.SameBut.update ..)
theorem qDh {p:Addr}{op:Obj}{ys:Array Value}{n:Nat}{pl:Nat}{x:Int×Value}{Q:Option Value→Shared→Prop}(hi:s.heap.get? I=some (itObj (.ref p) i a es.size ep))(L:Lies s.heap a o es ep t)
  (e2:s.heap.get? p=some op) (d2:op.data=.seq ys n) (ey:ys[i]? = some (.int pl 0)) (ex:es[pl]? = some x)
  (h:∀h',h'.get? I=some (itObj (.ref p) (i+1) a es.size ep)→Heap.SameBut I s.heap h'→Q (some x.2) { s with heap:=h' }):wpAny (model prog w) A (pyNext (.ref I)) Q E s:=by
 have hT:s.TypeIs (.ref I) "set_iterator" := ⟨_,hi,rfl⟩
 unfold pyNext
 refine yYW (wpAny_attempt (wpAny_callSpecial?_slot (name:=Str.ofString "__next__") hT xN (wpAny_call_entry xN hT jP ?_ (yZ _))))
 unfold Builtin.«set_iterator.__next__» slotArgs
 simp only[List.isEmpty_nil,Bool.not_true,yZJ,↓reduceIte,bind_assoc,yYU,bne_self_eq_false]
 refine yYW (yYX ?_)
 refine yYW (wpAny_fieldsOf hi rfl ?_)
 dsimp only
 refine yYW (wpAny_setEntries_of L.at' L.data L.fits ?_)
 simp only[bne_self_eq_false,yZJ,↓reduceIte]
 refine yYW (wpAny_seqItems e2 d2 ?_)
 dsimp only
 rw[Int.toNat_natCast,ey]
 dsimp only
 rw[Int.toNat_natCast,Int.toNat_natCast]
 refine yYW ?_
 unfold setNextDrawn
 refine yYW (wpAny_setState_of L.at' L.data L.fits ?_)
 dsimp only
 rw[if_neg (by simp),ex]
 refine yYX ?_
 refine yYW (wpAny_setField hi rfl (by simp) ?_)
 exact yYX ⟨_,rfl,yYX (h _ (Heap.get?_update_self _ hi rfl) (Heap.SameBut.update ..))⟩
end
end SI

namespace SI
open PySem PyProof.Rows
theorem kF:Slot "set_iterator" "__iter__" "set_iterator.__iter__" :=
 .of (owner := "set_iterator") (n := "__iter__") (by rw[typeLookup_type,builtinLookup_eq_fast];kernel_rfl) (by decide +kernel) (by decide +kernel) (by decide +kernel)
  (by first | exact .inl (by decide +kernel) | exact .inr (by decide +kernel)) (by rw[isSubtype_type];kernel_rfl)
theorem qXz:entryFor table "set_iterator.__iter__" = some Builtin.«dict_keyiterator.__iter__»:=entryFor_alias (id' := "dict_keyiterator.__iter__") (by kernel_rfl) rfl (by decide +kernel) (by kernel_rfl)
theorem qXl (a:Value):argsOk "set_iterator.__iter__" ⟨[a],[]⟩:=by unfold argsOk;kernel_rfl
section
variable {prog:Program}{w:World}{A:Around}{E:Value→Shared→Prop}{s:Shared}{I a:Addr}{o:Obj}{es:Array (Int×Value)}{ep:Nat}{t:SetTable}{i slot:Nat}
theorem qYq {Q:Bool→Shared→Prop}(h:Q (byText w) s):wpAny (model prog w) A setsByText Q E s:=by
 unfold setsByText
 exact yYW (wpAny_askSetting (yYX h))
theorem qFf (ht:byText w=true)(L:Lies s.heap a o es ep t){Q:Option (Value×Nat)→Shared→Prop}(h:Q ((pickOrder (w.params.setOrder a ep) es)[i]?.map fun e=>(e.2,slot)) s):wpAny (model prog w) A (setNext a slot i ep) Q E s:=by
 unfold setNext
 refine yYW (wpAny_setState_of L.at' L.data L.fits ?_)
 dsimp only
 refine yYW (qYq ?_)
 rw[ht]
 simp only[↓reduceIte,bne_self_eq_false,yZJ]
 refine yYW ?_
 unfold setWalk
 refine yYW (wpAny_setState_of L.at' L.data L.fits ?_)
 dsimp only
 refine yYW (qYq ?_)
 rw[ht]
 simp only[↓reduceIte]
 refine yYW (wpAny_askSetting (yYX ?_))
 exact yYX h
theorem qBj (hf:byText w=false)(nd:(!t.plain && decide (es.size>1))=false)(led:t.led=true)(L:Lies s.heap a o es ep t){Q:Option (Value×Nat)→Shared→Prop}
  (h:Q (match es[SetTable.below t.place slot]?,t.place[SetTable.below t.place slot]? with | some (_,x),some j=>some (x,j+1) | _,_=>none) s):wpAny (model prog w) A (setNext a slot i ep) Q E s:=by
 unfold setNext
 refine yYW (wpAny_setState_of L.at' L.data L.fits ?_)
 dsimp only
 refine yYW (qYq ?_)
 rw[hf]
 simp only[↓reduceIte,yZJ]
 show wpAny _ _ (if (!t.plain && decide (es.size>1))=true then _ else _) _ _ _
 rw[nd]
 simp only[↓reduceIte,yZJ]
 refine yYW (m:=if (!t.led && !es.isEmpty)=true then unsupported "set:maker-not-led" else pure ()) ?_
 rw[led]
 simp only[Bool.not_true,Bool.false_and,yZJ,↓reduceIte]
 exact yYX (yYX h)
inductive Way (w:World)(h:Heap)(a:Addr)(es:Array (Int×Value))(ep:Nat)(t:SetTable)(i:Nat):List (Int×Value)→Value→Prop
 | text (slot:Nat):byText w=true→Way w h a es ep t i (pickOrder (w.params.setOrder a ep) es).toList (.int slot 0)
 | place (slot:Nat):byText w=false→(!t.plain && decide (es.size>1))=false→t.led=true→Ris t.place→SetTable.below t.place slot=i→Way w h a es ep t i es.toList (.int slot 0)
 | drawn (p:Addr) (op:Obj) (ks:List Nat) (n:Nat):h.get? p=some op→op.data=.seq (ks.map fun k=>Value.int (k:Nat) 0).toArray n→ks.Perm (List.range es.size)→Way w h a es ep t i (ks.filterMap fun k=>es[k]?) (.ref p)
structure ItSt (w:World)(I a:Addr)(o:Obj)(es:Array (Int×Value))(ep:Nat)(t:SetTable)(ord:List (Int×Value))(fp:List Addr)(i:Nat)(s:Shared):Prop where
 lies:Lies s.heap a o es ep t
 it:∃first,s.heap.get? I=some (itObj first i a es.size ep)∧Way w s.heap a es ep t i ord first∧∀p,first=.ref p→p∈fp∧p≠I
theorem Way.kept {h h':Heap}{ord:List (Int×Value)}{first:Value}(x:Way w h a es ep t i ord first)(k:∀p o,first=.ref p→h.get? p=some o→h'.get? p=some o):Way w h' a es ep t i ord first:=by
 cases x with
 | text slot b=>exact .text slot b
 | place slot b c d e f=>exact .place slot b c d e f
 | drawn p op ks n e d pm=>exact .drawn p op ks n (k p op rfl e) d pm
theorem qOn {es:Array (Int×Value)}{ks:List Nat}(h:∀k∈ks,k<es.size)(i:Nat):(ks.filterMap fun k=>es[k]?)[i]? = ks[i]?.bind fun k=>es[k]? := by
 induction ks generalizing i with
 | nil=>rfl
 | cons k ks ih=>
  have hk:=h k yYG
  rw[List.filterMap_cons_some (b:=es[k]) (getElem?_pos es k hk)]
  cases i with
  | zero=>exact(getElem?_pos es k hk).symm
  | succ i=>
   rw[List.getElem?_cons_succ,List.getElem?_cons_succ]
   exact ih (fun k hk=>h k (yYH _ hk)) i
theorem qEg {p:Array Nat}(h:Ris p){i:Nat}(hi:i<p.size):SetTable.below p (p.getD i 0+1)=i+1:=by
 obtain⟨b1,b2,b3⟩:=vN h (p.getD i 0+1)
 have l1:i<SetTable.below p (p.getD i 0+1):=by
  by_cases c:i<SetTable.below p (p.getD i 0+1)
  ·exact c
  ·have:=b3 i (by omega) hi
   omega
 by_cases c:i+1<SetTable.below p (p.getD i 0+1)
 ·have h1:=b2 (i+1) c
  have h2:=h.get (show i<i+1 by omega) (show i+1<p.size by omega)
  omega
 ·omega
theorem qIz {t:SetTable}{n:Nat}(h:t.fits n=true):t.place.size=n:=by
 simp only[SetTable.fits,Bool.and_eq_true,beq_iff_eq] at h
 exact h.1
theorem qEm (hh:A.handled=none)(hne:a≠I){fp:List Addr}(hIf:I∈fp)(haf:a∈fp)(o:Obj)(es:Array (Int×Value))(ep:Nat)(t:SetTable)(ord:List (Int×Value))(lo:ord.length=es.size):
  WalksS prog w A I fp [I] (fun a b=>b=a) es.size (fun i v=>∃k,ord[i]? = some (k,v)) (ItSt w I a o es ep t ord fp) where
 sub:=fun b hb=>by rw[yYL.mp hb];exact hIf
 grefl:=fun _=>rfl
 gtrans:=fun _ _ _ x y=>y.trans x
 frame:=fun i s h' tk st _ hk=>by
  obtain⟨first,e,wy,hp⟩:=st.it
  exact⟨st.lies.kept fun o e=>hk a haf o e,first,hk I hIf _ e,wy.kept fun p o ep e=>hk p (hp p ep).1 o e,hp⟩
 item:=fun i s Q E hi st hQ=>by
  obtain⟨first,e,wy,hp⟩:=st.it
  have L:=st.lies
  have fin:∀(x:Int×Value) (f':Value) (h':Heap),ord[i]? = some x→h'.get? I=some (itObj f' (i+1) a es.size ep)→Heap.SameBut I s.heap h'→Way w h' a es ep t (i+1) ord f'→(∀p,f'=.ref p→p∈fp∧p≠I)→Q (some x.2) { s with heap:=h' }:=fun x f' h' ex e1 sb wy' hp'=>
   hQ x.2 _ ⟨x.1,ex⟩ ⟨L.kept fun o e=>(sb.2 a hne).trans e,f',e1,wy',hp'⟩ ⟨fun b o hb e=>(sb.2 b (fun z=>hb (by rw[z];exact yYL.mpr rfl))).trans e,rfl,rfl,rfl,yZC _⟩
  cases wy with
  | text slot b=>
   have ex:(pickOrder (w.params.setOrder a ep) es)[i]? = some ((pickOrder (w.params.setOrder a ep) es).toList[i]'(by omega)):=by rw[← yZM];exact yYA _
   refine qKe (x:=_) (nx:=slot) e L (fun Q' A' E' hq=>qFf b L (by rw[ex];exact hq)) fun h' e1 sb=>?_
   exact fin _ _ h' (yYA (by omega)) e1 sb (.text slot b) fun p z=>by cases z
  | place slot b c d ris bl=>
   have zp:=qIz L.fits
   have ex:es[i]? = some es[i]:=getElem?_pos es i hi
   have ep':t.place[i]? = some (t.place.getD i 0):=by simp[Array.getD,zp,hi]
   refine qKe (x:=es[i].2) (nx:=t.place.getD i 0+1) e L (fun Q' A' E' hq=>qBj b c d L (by rw[bl,ex,ep'];exact hq)) fun h' e1 sb=>?_
   exact fin es[i] _ h' (by rw[yZM];exact ex) e1 sb (.place _ b c d ris (qEg ris (by omega))) fun p z=>by cases z
  | drawn p op ks n e2 d2 pm=>
   have lk:ks.length=es.size:=by rw[pm.length_eq,List.length_range]
   have kb:∀k∈ks,k<es.size:=fun k hk=>List.mem_range.mp (pm.mem_iff.mp hk)
   have ek:ks[i]? = some (ks[i]'(by omega)):=yYA _
   have bk:=kb _ (List.getElem_mem (h:=(by omega:i<ks.length)))
   have ey:(ks.map fun k=>Value.int (k:Nat) 0).toArray[i]? = some (.int ((ks[i]'(by omega):Nat)) 0):=by
    rw[List.getElem?_toArray,yYO,ek];rfl
   refine qDh e L e2 d2 ey (getElem?_pos es _ bk) fun h' e1 sb=>?_
   refine fin _ _ h' (by rw[qOn kb,ek];exact getElem?_pos es _ bk) e1 sb (.drawn p op ks n ((sb.2 p (hp p rfl).2).trans e2) d2 pm) fun p' z=>by cases z;exact hp p rfl
 done:=fun s Q E st hQ=>by
  obtain⟨first,e,wy,hp⟩:=st.it
  have L:=st.lies
  refine qOv hh e L (fun slot ef Q' A' E' hq=>?_) ?_ fun h' x=>hQ _ ⟨fun b o hb e=>x b o (fun z=>hb (by rw[z];exact yYL.mpr rfl)) e,rfl,rfl,rfl,yZC _⟩
  ·cases wy with
   | text slot' b=>
    refine qFf b L ?_
    rw[← yZM,List.getElem?_eq_none (by omega)]
    exact hq
   | place slot' b c d ris bl=>
    cases ef
    refine qBj b c d L ?_
    rw[bl,Array.getElem?_eq_none (yZC _)]
    exact hq
   | drawn p op ks n e2 d2 pm=>cases ef
  ·cases wy with
   | text slot b=>exact .inl ⟨slot,rfl⟩
   | place slot b c d ris bl=>exact .inl ⟨slot,rfl⟩
   | drawn p op ks n e2 d2 pm=>exact .inr ⟨p,op,_,n,rfl,e2,d2,by rw[yYD,yYC,pm.length_eq,List.length_range]⟩
 self:=fun i s Q E st hQ=>by
  obtain⟨first,e,_,_⟩:=st.it
  have hT:s.TypeIs (.ref I) "set_iterator" := ⟨_,e,rfl⟩
  refine wpAny_pyIter_slot hT kF (wpAny_call_entry kF hT qXz ?_ (qXl _))
  show wpAny _ _ (ret (.ref I)) _ _ s
  exact yYX ⟨_,rfl,"set_iterator",_,hT,xN.lookup,hQ⟩
theorem qOg (L:Lies s.heap a o es ep t){Q:Bool→Shared→Prop}(h:Q (!byText w && (!t.plain && decide (es.size>1))) s):wpAny (model prog w) A (setDrawn a) Q E s:=by
 unfold setDrawn
 refine yYW (wpAny_setState_of L.at' L.data L.fits ?_)
 dsimp only
 refine yYW (qYq ?_)
 exact yYX h
theorem qOf (L:Lies s.heap a o es ep t)(ok:TOk (!byText w) t)(hz:es.size≤5000){Q:Value→Shared→Prop}
  (h:∀(I:Addr) (ord:List (Int×Value)) (fp:List Addr) (h':Heap) (d:Drawn),ord.Perm es.toList→s.heap.objs.size≤I→I∈fp→a∈fp→(∀b∈fp,b=a∨s.heap.objs.size≤b)→(∀b∈fp,b<h'.objs.size)→(∀b o,s.heap.get? b=some o→h'.get? b=some o)→
   ItSt w I a o es ep t ord fp 0 { s with heap:=h',drawn:=d }→Q (.ref I) { s with heap:=h',drawn:=d }):wpAny (model prog w) A (pyIter (.ref a)) Q E s:=by
 have hT:s.TypeIs (.ref a) "set" := ⟨o,L.at',L.ex.1⟩
 have la:a<s.heap.objs.size:=yYZ L.at'
 refine wpAny_pyIter_slot hT PySem.F.slot_set_iter (wpAny_call_entry PySem.F.slot_set_iter hT qXh ?_ (PySem.F.args_set_iter_1 _))
 unfold Builtin.«frozenset.__iter__» Builtin.Frozenset.slot0 slotArgs
 simp only[List.isEmpty_nil,Bool.not_true,yZJ,↓reduceIte,bind_assoc,yYU,bne_self_eq_false]
 unfold Builtin.Frozenset.addrOf Builtin.Frozenset.sizeOf
 refine yYW (yYX ?_)
 refine yYW (yYX ?_)
 refine yYW (yYW (wpAny_setEntries_of L.at' L.data L.fits (yYX ?_)))
 refine yYW (qOg L ?_)
 have fin:∀(first:Value) (h1:Heap) (d:Drawn) (ord:List (Int×Value)) (fp:List Addr),(∀b o,s.heap.get? b=some o→h1.get? b=some o)→s.heap.objs.size≤h1.objs.size→ord.Perm es.toList→Way w h1 a es ep t 0 ord first→(∀p,first=.ref p→p∈fp)→(∀b∈fp,s.heap.objs.size≤b∧b<h1.objs.size)→
   wpAny (model prog w) A.in1 (do
    let e ← setEpoch a
    let it ← newFields "set_iterator" [first,rawInt 0,.ref a,rawInt es.size,rawInt e]
    ret it) (fun fin s'=>∃v,fin=Fin.done (Flow.ret v)∧∃T' r,s'.TypeIs v T'∧typeLookup (.type T') "__next__" = pure (some r)∧Q v s') E { s with heap:=h1,drawn:=d }:=fun first h1 d ord fp kp hs pm wy hp hf=>by
  have L1:Lies h1 a o es ep t:=L.kept fun o e=>kp a o e
  refine yYW (wpAny_setEpoch_of (s:={ s with heap:=h1,drawn:=d }) L1.at' L1.data L1.fits ?_)
  refine yYW (wpAny_newObj_type ?_)
  have nI:∀b∈fp,b≠h1.objs.size:=fun b hb=>yZE (hf b hb).2
  refine yYX ⟨_,rfl,"set_iterator",_,⟨_,yZA _ rfl,rfl⟩,xN.lookup,?_⟩
  refine h h1.objs.size ord (h1.objs.size::a::fp) _ d pm hs yYG (yYH _ yYG) (fun b hb=>?_) (fun b hb=>?_) (fun b o e=>yYY _ (kp b o e)) ⟨L1.kept fun o e=>yYY _ e,first,yZA _ rfl,wy.kept fun p o _ e=>yYY _ e,fun p e=>⟨yYH _ (yYH _ (hp p e)),nI p (hp p e)⟩⟩
  ·rcases yYK.mp hb with rfl | hb
   ·exact .inr hs
   ·rcases yYK.mp hb with rfl | hb
    ·exact .inl rfl
    ·exact .inr (hf b hb).1
  ·rw[yZB]
   rcases yYK.mp hb with rfl | hb
   ·exact Nat.lt_succ_self _
   ·rcases yYK.mp hb with rfl | hb
    ·exact Nat.lt_succ_of_lt (yZD la hs)
    ·exact Nat.lt_succ_of_lt (hf b hb).2
 cases c:(!byText w && (!t.plain && decide (es.size>1))) with
 | true=>
  simp only[↓reduceIte]
  refine yYW (qEk es.size (List.range es.size) s (by rw[List.length_range]) fun ks d pm=>?_)
  refine yYW (wpAny_newTuple ?_ (by rw[yYC,pm.length_eq,List.length_range];rw[sizeLine_eq];omega))
  refine fin _ _ d _ [s.heap.objs.size] (fun b o e=>yYY _ e) (by rw[yZB];exact Nat.le_succ _) ?_ (.drawn s.heap.objs.size _ ks 0 (yZA _ rfl) rfl pm) (fun p e=>by cases e;exact yYL.mpr rfl) (fun b hb=>by rw[yYL.mp hb,yZB];exact⟨yZC _,Nat.lt_succ_self _⟩)
  have:=pm.filterMap fun k=>es[k]?
  rw[filterMap_getElem?_range] at this
  exact this
 | false=>
  simp only[yZJ,↓reduceIte]
  refine yYW (yYX ?_)
  cases b:byText w with
  | true=>
   have:=fin (.int (0:Nat) 0) s.heap s.drawn _ [] (fun _ _ e=>e) (yZC _) (qGe (w.params.setOrder a ep) es) (.text 0 b) (fun p e=>by cases e) (fun b hb=>by cases hb)
   cases s;exact this
  | false=>
   rw[b] at c ok
   have:=fin (.int (0:Nat) 0) s.heap s.drawn _ [] (fun _ _ e=>e) (yZC _) (List.Perm.refl _) (.place 0 b (by simpa using c) ok.led ok.ris (by
    obtain⟨_,b2,_⟩:=vN ok.ris 0
    by_cases z:SetTable.below t.place 0=0
    ·exact z
    ·exact absurd (b2 0 (by omega)) (Nat.not_lt_zero _))) (fun p e=>by cases e) (fun b hb=>by cases hb)
   cases s;exact this
end
end SI

namespace SI
open PySem PyProof.Rows
theorem qVl:isSubtype (.type "set") (.type "set")=pure true:=by rw[isSubtype_type];kernel_rfl
section
variable {prog:Program}{w:World}{A:Around}{E:Value→Shared→Prop}{s:Shared}{a:Addr}{o:Obj}{es:Array (Int×Value)}{ep:Nat}{t:SetTable}
theorem qOh (hT:s.TypeIs (.ref a) "set"){Q:Bool→Shared→Prop}(h:Q false s):wpAny (model prog w) A (Builtin.List.listLengthHint (.ref a)) Q E s:=by
 unfold Builtin.List.listLengthHint
 refine yYW (wpAny_specialOf hT PySem.F.slot_set_len.lookup ?_)
 dsimp only
 rw[show splitId "set.__len__" = some ("set","__len__") by decide +kernel]
 dsimp only
 refine yYW (wpAny_isInstance hT qVl ?_)
 simp only[Bool.not_true,yZJ,↓reduceIte]
 refine wpAny_ite_split (fun _=>?_) (fun hab=>absurd (by decide +kernel) hab)
 refine yYW (wpAny_typeOf hT ?_)
 exact yYX h
theorem qAk (hh:A.handled=none)(L:Lies s.heap a o es ep t)(ok:TOk (!byText w) t)(hz:es.size≤5000){Q:List Value→Shared→Prop}
  (h:∀(ord:List (Int×Value)) (s':Shared),ord.Perm es.toList→(∀b o,s.heap.get? b=some o→s'.heap.get? b=some o)→s'.gens=s.gens→s'.os=s.os→s.toks≤s'.toks→s.heap.objs.size≤s'.heap.objs.size→Q (ord.map (·.2)) s'):wpAny (model prog w) A (collect (.ref a)) Q E s:=by
 have la:a<s.heap.objs.size:=yYZ L.at'
 have hT:s.TypeIs (.ref a) "set" := ⟨o,L.at',L.ex.1⟩
 unfold collect
 refine yYW (wpAny_runValue (codeAny_builtin PySem.F.entry_proto_collect ?_))
 rw[Around.under_plainId PySem.F.plain_proto_collect _]
 show wpAny _ A.in1 (newList [] >>= fun l=>again (.builtin "list.__iadd__" ⟨[l,.ref a],[]⟩)) _ _ s
 refine yYW (wpAny_newObj_type ?_)
 refine yYX ⟨plainId_quiet PySem.F.plain_list_iadd _,codeAny_builtin PySem.F.entry_list_iadd ?_⟩
 rw[Around.under_plainId PySem.F.plain_list_iadd _]
 have L1:Lies (s.heap.push { cls:=.type "list",data:=.seq ([]:List Value).toArray }) a o es ep t:=L.kept fun o e=>yYY _ e
 have hS0:(s.heap.push { cls:=.type "list",data:=.seq ([]:List Value).toArray }).get? s.heap.objs.size=some { cls:=.type "list",data:=.seq ([]:List Value).toArray }:=yZA _ rfl
 have z0:(s.heap.push { cls:=.type "list",data:=.seq ([]:List Value).toArray }).objs.size=s.heap.objs.size+1:=yZB _ _
 have hk0:∀b o,s.heap.get? b=some o→(s.heap.push { cls:=.type "list",data:=.seq ([]:List Value).toArray }).get? b=some o:=fun b o e=>yYY _ e
 show wpAny _ A.in1 (Builtin.List.listExtendWith (.ref s.heap.objs.size) (.ref a) (.ref s.heap.objs.size)) _ _ { s with heap:=s.heap.push { cls:=.type "list",data:=.seq ([]:List Value).toArray } }
 generalize s.heap.push { cls:=.type "list",data:=.seq ([]:List Value).toArray }=h1 at L1 hS0 z0 hk0
 have hT1:Shared.TypeIs { s with heap:=h1 } (.ref a) "set" := ⟨o,L1.at',L.ex.1⟩
 unfold Builtin.List.listExtendWith
 refine yYW (wpAny_typeOf hT1 ?_)
 have e1:Builtin.List.listSameRef (.ref s.heap.objs.size) (.ref a)=false:=by
  have:s.heap.objs.size≠a:=yZG la
  simp[Builtin.List.listSameRef,this]
 have e2:(Value.type "set" == Value.type "list")=false:=by decide
 have e3:(Value.type "set" == Value.type "tuple")=false:=by decide
 simp only[e1,e2,e3,Bool.or_false,yZJ,if_false]
 refine yYW (qOf (s:={ s with heap:=h1 }) L1 ok hz fun I ord fp h2 d pm hI Ifp afp hnew hlt hk2 st=>?_)
 have hS2:=hk2 _ _ hS0
 refine yYW (wpAny_holding (qOh (s:={ s with heap:=h2,drawn:=d }) ⟨o,hk2 _ _ L1.at',L.ex.1⟩ ?_))
 have Sn:s.heap.objs.size∉fp:=fun hb=>by
  rcases hnew _ hb with z | z
  ·exact absurd z (yZG la)
  ·have z:h1.objs.size≤s.heap.objs.size:=z
   omega
 refine wpAny_ite_split (fun _=>?_) (fun hab=>absurd (by decide +kernel) hab)
 refine yYW (wpAny_rule ?_)
 refine yYW ?_
 show wpAny _ A.in1 (updateSeq s.heap.objs.size (·.push .none) >>= fun _=>updateSeq s.heap.objs.size (·.pop)) _ _ _
 refine yYW (wpAny_updateSeq hS2 rfl ?_)
 have hS3:=Heap.get?_update_self (Obj.mapSeq (·.push Value.none)) hS2 rfl
 refine wpAny_updateSeq hS3 rfl ?_
 have hS4:=Heap.get?_update_self (Obj.mapSeq (·.pop)) hS3 rfl
 have oth:∀b o,b≠s.heap.objs.size→h2.get? b=some o→((h2.update s.heap.objs.size (Obj.mapSeq (·.push Value.none))).update s.heap.objs.size (Obj.mapSeq (·.pop))).get? b=some o:=
  fun b o hb e=>(Heap.get?_update_other _ _ (Ne.symm hb)).trans ((Heap.get?_update_other _ _ (Ne.symm hb)).trans e)
 have lord:ord.length=es.size:=by rw[pm.length_eq,yZL]
 have hI':s.heap.objs.size≤I:=yZI (by omega:s.heap.objs.size≤h1.objs.size) hI
 have aI:a≠I:=yZE (yZD la hI')
 have W:=qEm (prog:=prog) (w:=w) (A:=A.in1) (by simp[hh]) aI Ifp afp o es ep t ord lord
 refine yYX ⟨plainId_quiet PySem.F.plain_extend_loop _,codeAny_extend_loopS W (by rw[sizeLine_eq];omega) _ Sn _ es.size 0 _ _ _ rfl (yZF _)
  (W.frame 0 ({ s with heap:=h2,drawn:=d }:Shared) _ s.toks st (yZC _) fun b hb o e=>oth b o (fun z=>Sn (z▸hb)) e) hS4 (ItemsOf.nil _) fun s' acc' c' hm hS' hacc=>?_⟩
 show wpAny _ A (load s.heap.objs.size >>= _) _ _ s'
 refine yYW (wpAny_load hS' ?_)
 have ea:acc'.toList=ord.map (·.2):=by
  refine List.ext_getElem? fun i=>?_
  rw[yYO,yZM]
  by_cases c:i<es.size
  ·have g:acc'[i]? = some (acc'[i]'(by rw[hacc.1];exact c)):=getElem?_pos acc' i (by rw[hacc.1];exact c)
   obtain⟨k,ek⟩:=hacc.2 i _ g
   rw[g,ek];rfl
  ·rw[Array.getElem?_eq_none (by rw[hacc.1];omega),List.getElem?_eq_none (by omega)];rfl
 refine yYX ?_
 rw[ea]
 have kk:∀b o,s.heap.get? b=some o→s'.heap.get? b=some o:=fun b o e=>by
  have lb:=yYZ e
  refine hm.heap b o (fun z=>?_) (oth b o (yZE lb) (hk2 _ _ (hk0 _ _ e)))
  rcases yYK.mp z with z | z
  ·exact absurd z (yZE lb)
  ·exact absurd (yYL.mp z) (yZE (yZD lb hI'))
 exact h ord s' pm kk hm.gens hm.os hm.toks (Nat.le_of_lt (yYZ hS'))
end
end SI

namespace SI
open PySem PyProof.Rows TM
section
variable {prog:Program}{w:World}{A:Around}{E:Value→Shared→Prop}{s:Shared}
end
end SI
namespace L2
open PySem PySem.Spec PyProof.Rows
section
variable {X:Cx}{pins:List (Addr×Obj)}{σ:St}{H H':Hp}{s:Shared}
theorem Inv.laidD {a:Addr}{o:HO}{s':Shared}(I:Inv X pins σ H s)(k:∀b u,s.heap.get? b=some u→s'.heap.get? b=some u)(hp:s.heap.objs.size≤a)(new:ObjOk X.prog X.w (upd H a o) s'.heap a o)(hg:s'.gens=s.gens)(hos:s'.os=s.os):
  Inv X pins σ (upd H a o) s':=by
 obtain⟨h',g',d',t',o'⟩:=s'
 have e1:g'=s.gens:=hg
 have e2:o'=s.os:=hos
 subst e1 e2
 have u:Un X.fs [] H (upd H a o) s.heap h':=Un.laid k hp (I.hok.fresh hp)
 obtain⟨m,⟨ol,es,ep,ho,r⟩,_⟩:=id I.loc
 obtain⟨sl,hL⟩:=u.any ho I.free (by simp)
 exact I.step (g':=s.gens) (d':=d') (ch:=[]) (fun _ z=>nomatch z) (fun b o _ hb _ e n=>u.keep b o e n hb (by simp)) (fun b o _ hb _ e n=>u.slot b o e n hb (by simp)) (fun b o _ e n=>u.free b o e n (by simp)) (fun b o _ e=>u.there b o e (by simp)) u.tups u.frzs u.tbls (fun m' hm=>by
  obtain⟨o',es',ep',ho',r'⟩:=hm
  rw[ho] at ho';cases ho'
  exact⟨_,es',ep',hL,r'⟩) (I.hok.laid k hp new) I.bare
end
section
variable {X:Cx}{P:Program}{w:World}{K:yZO}
end
end L2

namespace L2
open PySem PySem.Spec PyProof.Rows
section
variable {X:Cx}{pins:List (Addr×Obj)}{σ:St}{H:Hp}{s:Shared}
end
end L2
namespace SI
open PySem PyProof.Rows PySem.W TM
section
variable {prog:Program}{w:World}{A:Around}{E:Value→Shared→Prop}{s:Shared}
end
end SI
namespace L2
open PySem PySem.Spec PyProof.Rows
section
variable {X:Cx}{pins:List (Addr×Obj)}{σ:St}{H H':Hp}{s:Shared}
end
end L2
namespace L2
open PySem PySem.Spec PyProof.Rows
theorem qNc {a b c:Int}(ha:0≤a)(hc:0<c):(sliceRange a b c).Pairwise (·<·):=by
 unfold sliceRange
 rw[List.pairwise_map]
 refine List.Pairwise.imp (fun{i j} h=>?_) List.pairwise_lt_range
 have h1:c * (i:Int)<c * (j:Int):=Int.mul_lt_mul_of_pos_left (by omega) hc
 have h2:0≤c * (i:Int):=Int.mul_nonneg (Int.le_of_lt hc) (by omega)
 show(a+c * (i:Int)).toNat<(a+c * (j:Int)).toNat
 omega
theorem qEe {lo hi:Option Int}{n:Nat}{k:Int}(h:0<k):0≤(sliceBounds lo hi (some k) n).1:=by
 have h':k>0:=h
 cases lo with
 | none=>
  show 0≤(if k>0 then (0:Int) else _)
  rw[if_pos h']
  exact Int.le_refl _
 | some i=>
  show 0≤(if k>0 then max 0 _ else _)
  rw[if_pos h']
  exact Int.le_max_left ..
theorem qVc {i k:Int}{n:Nat}(h0:0≤i)(h1:i<n)(hk:0<k):i.toNat∈sliceRange (sliceBounds (some i) none (some k) n).1 (sliceBounds (some i) none (some k) n).2.1 (sliceBounds (some i) none (some k) n).2.2:=by
 have k':k>0:=hk
 have e1:(sliceBounds (some i) none (some k) n).1=i:=by
  show(if k>0 then max 0 (min (if i<0 then i+n else i) n) else _)=i
  rw[if_pos k',if_neg (by omega)]
  omega
 have e2:(sliceBounds (some i) none (some k) n).2.1=n:=by
  show(if k>0 then (n:Int) else -1)=n
  rw[if_pos k']
 rw[e1,e2]
 show i.toNat∈sliceRange i n k
 unfold sliceRange
 refine yYP.mpr ⟨0,List.mem_range.mpr ?_,by simp⟩
 rw[if_pos k',if_pos h1]
 have:1≤((n:Int) - i+k - 1) / k:=by
  refine(Int.le_ediv_iff_mul_le hk).mpr ?_
  omega
 omega
def tSl3U (K:yZO)(te:TE)(tl th:TO)(ts:TE):TE:=fun σ H Q=>te σ H fun x H1=>tl σ H1 fun l H2=>th σ H2 fun u H3=>ts σ H3 fun c H4=>
 ∃a xs k,x=.ref a∧c=.int k∧0<k∧SqL K H4 a xs∧∀(p:Addr) (idx:List Nat),H4 p=none→idx.Pairwise (·<·)→(∀i:Int,l=some i→u=none→0≤i→i<xs.length→i.toNat∈idx)→(idx.filterMap (xs[·]?)).length≤xs.length→Q (.ref p) (upd H4 p (.lst (idx.filterMap (xs[·]?))))
section
variable {X:Cx}{K:yZO}{e st:Expr}{te ts:TE}{lo hi:Option Expr}{tl th:TO}{pos p2:Pos}
theorem qZq (he:PE X e te)(hl:PO X lo tl)(hu:PO X hi th)(hst:PE X st ts)(hK:X.K=K:=by rfl):PE X (.Subscript e (.Slice lo hi (some st) p2) pos) (tSl3U K te tl th ts):=by
 subst hK
 intro pins s σ H Q I h
 refine Subscript_ (thn (he pins s σ H _ I h) fun v s1 ⟨x,H1,I1,r1,q1⟩=>?_)
 refine wpAny_Slice (thn (hl pins s1 σ H1 _ I1 q1) fun vl s2 ⟨l,H2,I2,pl,q2⟩=>thn (hu pins s2 σ H2 _ I2 q2) fun vu s3 ⟨u,H3,I3,pu,q3⟩=>?_)
 rw[evalPart_some]
 refine thn (hst pins s3 σ H3 _ I3 q3) fun vs s4 ⟨c,H4,I4,r4,q4⟩=>?_
 obtain⟨a,xs,k,rfl,rfl,k0,hx,q⟩:=q4
 cases r1
 obtain⟨t,rfl⟩:=r4
 have I5:Inv X pins σ H4 { s4 with heap:=s4.heap.push { cls:=.type "slice",data:=.fields #[vl,vu,.int k t] } }:=I4.kept (t':=s4.toks) fun b ob q=>yYY _ q
 obtain⟨its,r,ht,hz⟩:=I5.list hx
 have hlen:=r.length
 show wpAny (model X.prog X.w) X.A (subscriptTail e (.Slice lo hi (some st) p2) (.ref a) (.ref s4.heap.objs.size)) (EP X pins σ Q) X.xe { s4 with heap:=s4.heap.push { cls:=.type "slice",data:=.fields #[vl,vu,.int k t] } }
 refine tail_any (ops:=[.ref a,.ref s4.heap.objs.size]) ht.isList.typeIs slot_list_getitem.lookup ?_ (by with_unfolding_all rfl)
 refine wpAny_getItem_list_slice ht.isList (Heap.IsSliceOf.new ..) pl pu (.int k t) (fun z=>by have:=Option.some.inj z;omega) ?_ (by rw[yYD] <;> omega)
 have le:=slicePick_size_le its.toArray l u (some k)
 unfold slicePick at le ⊢
 have up:=qNc (b:=(sliceBounds l u (some k) its.toArray.size).2.1) (c:=(sliceBounds l u (some k) its.toArray.size).2.2) (qEe (hi:=u) (n:=its.toArray.size) (lo:=l) k0) k0
 have fst:∀i:Int,l=some i→u=none→0≤i→i<xs.length→i.toNat∈sliceRange (sliceBounds l u (some k) its.toArray.size).1 (sliceBounds l u (some k) its.toArray.size).2.1 (sliceBounds l u (some k) its.toArray.size).2.2:=fun i e1 e2 h0 h1=>by
  subst e1 e2
  exact qVc h0 (by rw[yYD,← hlen];exact h1) k0
 generalize sliceRange _ _ _=idx at le up fst ⊢
 rw[show idx.filterMap (fun x=>its.toArray[x]?)=idx.filterMap (its[·]?) by simp] at le ⊢
 have pk:=r.pick idx
 have pl':=pk.length
 rw[yYD,yYD] at le
 refine⟨.ref _,_,I5.laid (t':=s4.toks) (o:=.lst (idx.filterMap (xs[·]?))) (fun b ob q=>yYY _ q) (yZC _) ?_,rfl,q _ idx (I5.hok.fresh (yZC _)) up fst (by omega)⟩
 exact⟨by omega,_,0,pk,yZA _ rfl⟩
end
end L2

namespace ST
open PySem PyProof.Rows
open PySem.SetTable (runEnd leap bits turns)
def nx (N x:Nat):Nat:=(5 * x+1) % N
def orb (N x:Nat):Nat→Nat
 | 0=>x
 | k+1=>nx N (orb N x k)
theorem qQb (N x a:Nat):∀b,orb N x (a+b)=orb N (orb N x a) b
 | 0=>rfl
 | b+1=>by show nx N (orb N x (a+b))=nx N (orb N (orb N x a) b);rw[qQb N x a b]
theorem qCx (N x k:Nat):orb N x (k+1)=orb N (nx N x) k:=by
 rw[Nat.add_comm,qQb];rfl
def cyc (N:Nat):Nat→Nat→Nat→Nat×Nat
 | 0,x,acc=>(x,acc)
 | f+1,x,acc=>cyc N f (nx N x) (acc ||| 2 ^ x)
theorem qIo (N:Nat):∀f x acc,(cyc N f x acc).1=orb N x f
 | 0,x,acc=>rfl
 | f+1,x,acc=>by rw[qCx];exact qIo N f _ _
theorem qIn (N:Nat):∀f x acc j,(cyc N f x acc).2.testBit j=true→acc.testBit j=true∨∃k,k<f∧orb N x k=j
 | 0,x,acc,j,h=>.inl h
 | f+1,x,acc,j,h=>by
  rcases qIn N f _ _ j h with h | ⟨k,hk,e⟩
  ·rw[Nat.testBit_or,Bool.or_eq_true] at h
   rcases h with h | h
   ·exact .inl h
   ·refine .inr ⟨0,Nat.succ_pos _,?_⟩
    rw[Nat.testBit_two_pow] at h
    exact of_decide_eq_true h
  ·exact .inr ⟨k+1,by omega,by rw[qCx];exact e⟩
def Full (N:Nat):Prop:=(∀j,j<N→∃k,k<N∧orb N 0 k=j)∧orb N 0 N=0
theorem qJh {N:Nat}(h:cyc N N 0 0=(0,2 ^ N - 1)):Full N:=by
 refine⟨fun j hj=>?_,by rw[← qIo N N 0 0,h]⟩
 have t:(cyc N N 0 0).2.testBit j=true:=by
  rw[h]
  show(2 ^ N - 1).testBit j=true
  rw[Nat.testBit_two_pow_sub_one]
  exact decide_eq_true hj
 rcases qIn N N 0 0 j t with h | h
 ·simp at h
 ·exact h
theorem full8:Full 8:=qJh (by decide +kernel)
theorem full32:Full 32:=qJh (by decide +kernel)
theorem full128:Full 128:=qJh (by decide +kernel)
theorem full512:Full 512:=qJh (by decide +kernel)
theorem Full.from {N:Nat}(F:Full N){i j:Nat}(hi:i<N)(hj:j<N):∃d,d<N∧orb N i d=j:=by
 obtain⟨a,ha,ea⟩:=F.1 i hi
 obtain⟨b,hb,eb⟩:=F.1 j hj
 by_cases c:a≤b
 ·refine⟨b - a,by omega,?_⟩
  rw[← ea,← qQb,show a+(b - a)=b by omega]
  exact eb
 ·refine⟨N - a+b,by omega,?_⟩
  rw[← ea,← qQb,show a+(N - a+b)=N+b by omega,qQb,F.2]
  exact eb
def lp (mask:Nat)(h:Int):Nat→Nat×Nat
 | 0=>(bits h % (mask+1),bits h)
 | k+1=>leap mask (lp mask h k).1 (lp mask h k).2
theorem xZv (mask:Nat)(h:Int):∀k,(lp mask h k).1<mask+1
 | 0=>Nat.mod_lt _ (Nat.succ_pos _)
 | k+1=>Nat.mod_lt _ (Nat.succ_pos _)
theorem qRl (mask:Nat)(h:Int):∀k,(lp mask h k).2=bits h / 32 ^ k
 | 0=>by rw[Nat.pow_zero,Nat.div_one];rfl
 | k+1=>by
  show(lp mask h k).2 / 32=_
  rw[qRl mask h k,Nat.div_div_eq_div_mul,Nat.pow_succ]
theorem qUf (h:Int):bits h<2 ^ 64:=by
 unfold SetTable.bits
 have h1:=Int.emod_nonneg h (show(2 ^ 64:Int)≠0 by decide)
 have h2:=Int.emod_lt_of_pos h (show(0:Int)<2 ^ 64 by decide)
 omega
theorem qTi (mask:Nat)(h:Int){k:Nat}(hk:13≤k):(lp mask h k).2=0:=by
 rw[qRl]
 refine Nat.div_eq_of_lt (yZD (qUf h) ?_)
 exact yZI (show 2 ^ 64≤32 ^ 13 by decide) (Nat.pow_le_pow_right (by decide) hk)
theorem qRm (mask:Nat)(h:Int){k:Nat}(hk:13≤k):∀d,(lp mask h (k+d)).1=orb (mask+1) (lp mask h k).1 d
 | 0=>rfl
 | d+1=>by
  show((lp mask h (k+d)).1 * 5+1+(lp mask h (k+d)).2 / 32) % (mask+1)=nx (mask+1) (orb (mask+1) (lp mask h k).1 d)
  rw[qTi mask h (by omega),qRm mask h hk d]
  unfold nx
  rw[Nat.zero_div,Nat.add_zero,Nat.mul_comm]
theorem qRn {mask:Nat}(F:Full (mask+1))(h:Int)(k:Nat){j:Nat}(hj:j≤mask):∃d,d≤mask+13∧(lp mask h (k+d)).1=j:=by
 have hk:13≤k+13:=by omega
 obtain⟨d,hd,e⟩:=F.from (xZv mask h (k+13)) (show j<mask+1 by omega)
 refine⟨13+d,by omega,?_⟩
 rw[show k+(13+d)=k+13+d by omega,qRm mask h hk,e]
def run (mask i:Nat):Nat:=runEnd mask i - i
theorem qRc (mask i:Nat):run mask i≤9:=by
 unfold run SetTable.runEnd
 split <;> omega
theorem xXz {mask i:Nat}(h:i≤mask):i+run mask i≤mask:=by
 unfold run SetTable.runEnd
 split <;> omega
def pr (mask:Nat)(h:Int)(k m:Nat):SetTable.Probe:={ j:=(lp mask h k).1+m,more:=run mask (lp mask h k).1 - m,i:=(lp mask h k).1,perturb:=(lp mask h k).2,dummy:=none }
theorem xJd (t:SetTable){h:Int}{k m:Nat}(hm:m<run t.mask (lp t.mask h k).1):t.advance (pr t.mask h k m)=pr t.mask h k (m+1):=by
 unfold SetTable.advance pr
 dsimp only
 rw[if_pos (by omega)]
 congr 1
theorem qUg (t:SetTable){h:Int}{k m:Nat}(hm:run t.mask (lp t.mask h k).1≤m):t.advance (pr t.mask h k m)=pr t.mask h (k+1) 0:=by
 unfold SetTable.advance pr
 dsimp only
 rw[if_neg (by omega)]
 rfl
def wk (mask:Nat)(h:Int):Nat→Nat×Nat
 | 0=>(0,0)
 | n+1=>if (wk mask h n).2<run mask (lp mask h (wk mask h n).1).1 then ((wk mask h n).1,(wk mask h n).2+1) else ((wk mask h n).1+1,0)
def stp (mask:Nat)(h:Int)(n:Nat):SetTable.Probe:=pr mask h (wk mask h n).1 (wk mask h n).2
def pos (mask:Nat)(h:Int)(n:Nat):Nat:=(lp mask h (wk mask h n).1).1+(wk mask h n).2
theorem xJe (mask:Nat)(h:Int):∀n,(wk mask h n).2≤run mask (lp mask h (wk mask h n).1).1
 | 0=>yZF _
 | n+1=>by
  unfold wk
  split
  ·rename_i c;exact c
  ·exact yZF _
theorem qGa (mask:Nat)(h:Int)(n:Nat):pos mask h n≤mask:=by
 have h1:=xZv mask h (wk mask h n).1
 have h2:=xJe mask h n
 have h3:=xXz (mask:=mask) (i:=(lp mask h (wk mask h n).1).1) (by omega)
 unfold pos
 omega
theorem qMn (t:SetTable)(h:Int)(n:Nat):t.advance (stp t.mask h n)=stp t.mask h (n+1):=by
 have e:wk t.mask h (n+1)=if (wk t.mask h n).2<run t.mask (lp t.mask h (wk t.mask h n).1).1 then ((wk t.mask h n).1,(wk t.mask h n).2+1) else ((wk t.mask h n).1+1,0):=rfl
 unfold stp
 by_cases c:(wk t.mask h n).2<run t.mask (lp t.mask h (wk t.mask h n).1).1
 ·rw[e,if_pos c];exact xJd t c
 ·rw[e,if_neg c];exact qUg t (by omega)
theorem qAf (mask:Nat)(h:Int):∀(r n k m:Nat),wk mask h n=(k,m)→run mask (lp mask h k).1 - m=r→wk mask h (n+r+1)=(k+1,0)
 | 0,n,k,m,e,hr=>by
  show(if (wk mask h n).2<run mask (lp mask h (wk mask h n).1).1 then _ else _)=_
  rw[e]
  exact if_neg (by show¬m<run mask (lp mask h k).1;omega)
 | r+1,n,k,m,e,hr=>by
  have e1:wk mask h (n+1)=(k,m+1):=by
   show(if (wk mask h n).2<run mask (lp mask h (wk mask h n).1).1 then _ else _)=_
   rw[e]
   exact if_pos (by show m<run mask (lp mask h k).1;omega)
  have:=qAf mask h r (n+1) k (m+1) e1 (by omega)
  rw[show n+(r+1)+1=n+1+r+1 by omega]
  exact this
theorem qAg (mask:Nat)(h:Int){n k:Nat}(e:wk mask h n=(k,0)):∀d,∃s,s≤10 * d∧wk mask h (n+s)=(k+d,0)
 | 0=>⟨0,yZC _,e⟩
 | d+1=>by
  obtain⟨s,hs,es⟩:=qAg mask h e d
  have h9:=qRc mask (lp mask h (k+d)).1
  have:=qAf mask h _ (n+s) (k+d) 0 es rfl
  refine⟨s+run mask (lp mask h (k+d)).1+1,by omega,?_⟩
  rw[show n+(s+run mask (lp mask h (k+d)).1+1)=n+s+(run mask (lp mask h (k+d)).1 - 0)+1 by omega]
  exact this
theorem qGc {mask:Nat}(F:Full (mask+1))(h:Int)(n:Nat){j:Nat}(hj:j≤mask):∃s,s<10 * turns mask∧pos mask h (n+s)=j:=by
 have h9:=qRc mask (lp mask h (wk mask h n).1).1
 have e1:=qAf mask h _ n _ _ (show wk mask h n=((wk mask h n).1,(wk mask h n).2) from rfl) rfl
 obtain⟨d,hd,ed⟩:=qRn F h ((wk mask h n).1+1) hj
 obtain⟨s,hs,es⟩:=qAg mask h e1 d
 refine⟨run mask (lp mask h (wk mask h n).1).1 - (wk mask h n).2+1+s,?_,?_⟩
 ·show _<10 * (mask+15)
  omega
 ·unfold pos
  rw[show n+(run mask (lp mask h (wk mask h n).1).1 - (wk mask h n).2+1+s)=n+(run mask (lp mask h (wk mask h n).1).1 - (wk mask h n).2)+1+s by omega,es]
  exact ed
end ST

namespace ST
open PySem PyProof.Rows SI
open PySem.SetTable (runEnd leap bits turns)
theorem nd_le {α:Type}[DecidableEq α]:∀(l1 l2:List α),l1.Nodup→(∀x∈l1,x∈l2)→l1.length≤l2.length
 | [],_,_,_=>yZF _
 | x::l1,l2,nd,sub=>by
  have nd':=List.nodup_cons.mp nd
  have hx:=sub x yYG
  have h1:=nd_le l1 (l2.erase x) nd'.2 (fun y hy=>(List.mem_erase_of_ne (fun e:y=x=>nd'.1 (by rw[← e];exact hy))).mpr (sub y (yYH _ hy)))
  rw[List.length_erase_of_mem hx] at h1
  have h2:=List.length_pos_of_mem hx
  rw[yYT];omega
section
variable {t:SetTable}
theorem qQq {j i:Nat}(h:t.slot j=.live i):t.place[i]? = some j:=by
 unfold SetTable.slot at h
 dsimp only at h
 split at h
 ·rename_i c
  cases h
  exact eq_of_beq c
 ·split at h <;> cases h
theorem qBk (hr:Ris t.place){j:Nat}(h:j∈t.place.toList):∃i,t.slot j=.live i:=by
 obtain⟨i,hi,e⟩:=List.getElem_of_mem h
 rw[yZL] at hi
 have e':t.place.getD i 0=j:=by
  rw[← e];simp[Array.getD,hi]
 obtain⟨b1,b2,b3⟩:=vN hr j
 have ei:SetTable.below t.place j=i:=by
  rcases Nat.lt_trichotomy (SetTable.below t.place j) i with c | c | c
  ·have h1:=b3 _ (yZC _) (by omega)
   have h2:=hr.get c hi
   omega
  ·exact c
  ·have:=b2 i c
   omega
 refine⟨i,?_⟩
 unfold SetTable.slot
 dsimp only
 rw[ei,if_pos (by
  have:t.place[i]? = some j:=by rw[← e];simp[hi]
  rw[this];simp)]
theorem kY (hr:Ris t.place)(hd:t.dummies=#[])(j:Nat):t.slot j=.empty↔j∉t.place.toList:=by
 constructor
 ·intro h m
  obtain⟨i,e⟩:=qBk hr m
  rw[h] at e
  cases e
 ·intro h
  cases e:t.slot j with
  | empty=>rfl
  | dummy=>exact absurd e (qCk hd j)
  | live i=>
   have:=qQq e
   exact absurd (by
    have h1:=Array.mem_of_getElem? this
    exact Array.mem_toList_iff.mpr h1) h
end
structure Tab (t:SetTable)(es:Array (Int×Value)):Prop where
 dum:t.dummies=#[]
 ris:Ris t.place
 full:Full (t.mask+1)
 odd:t.gaveWay=false
 size:t.place.size=es.size
 inn:∀j∈t.place.toList,j≤t.mask
 room:es.size≤t.mask
 reach:∀(i j:Nat) (e:Int×Value),t.place[i]? = some j→es[i]? = some e→∃m,pos t.mask e.1 m=j∧∀l,l<m→t.slot (pos t.mask e.1 l)≠.empty
section
variable {t:SetTable}{es:Array (Int×Value)}
theorem Tab.free (T:Tab t es):∃j,j≤t.mask∧t.slot j=.empty:=by
 apply Classical.byContradiction
 intro h
 have all:∀j∈List.range (t.mask+1),j∈t.place.toList:=fun j hj=>Classical.byContradiction fun z=>h ⟨j,by have:=List.mem_range.mp hj;omega,(kY T.ris T.dum j).mpr z⟩
 have:=nd_le _ _ List.nodup_range all
 rw[List.length_range,yZL,T.size] at this
 have:=T.room
 omega
theorem qBi (hd:t.dummies=#[])(ha:Nat→Int)(h:Int):∀(f n:Nat),(∃s,s<f∧t.slot (pos t.mask h (n+s))=.empty)→
  ∃s,(∀l,l<s→t.slot (pos t.mask h (n+l))≠.empty∧∀i,t.slot (pos t.mask h (n+l))=.live i→ha i≠h)∧
   ((t.slot (pos t.mask h (n+s))=.empty∧SetTable.probe.go t ha h f (stp t.mask h n)=some (.empty (pos t.mask h (n+s)) none))∨
     ∃i,t.slot (pos t.mask h (n+s))=.live i∧ha i=h∧SetTable.probe.go t ha h f (stp t.mask h n)=some (.candidate (pos t.mask h (n+s)) i (stp t.mask h (n+s+1))))
 | 0,n,⟨s,hs,_⟩=>absurd hs (Nat.not_lt_zero _)
 | f+1,n,⟨s,hs,es⟩=>by
  have go:SetTable.probe.go t ha h (f+1) (stp t.mask h n)=(match t.slot (pos t.mask h n) with
    | .empty=>some (.empty (pos t.mask h n) none)
    | .dummy=>SetTable.probe.go t ha h f (t.advance { stp t.mask h n with dummy:=some (pos t.mask h n) })
    | .live i=>if ha i == h then some (.candidate (pos t.mask h n) i (t.advance (stp t.mask h n))) else SetTable.probe.go t ha h f (t.advance (stp t.mask h n))):=by
   rw[SetTable.probe.go]
   rfl
  cases c:t.slot (pos t.mask h n) with
  | empty=>
   refine⟨0,fun l hl=>absurd hl (Nat.not_lt_zero _),.inl ⟨c,?_⟩⟩
   rw[go,c]
   rfl
  | dummy=>exact absurd c (qCk hd _)
  | live i=>
   rw[c] at go
   dsimp only at go
   rw[qMn] at go
   by_cases e:ha i=h
   ·refine⟨0,fun l hl=>absurd hl (Nat.not_lt_zero _),.inr ⟨i,c,e,?_⟩⟩
    rw[go,if_pos (by rw[e];exact beq_self_eq_true h)]
    rfl
   ·rw[if_neg (by rw[beq_iff_eq];exact e)] at go
    have s0:s≠0:=fun z=>by rw[z,Nat.add_zero,c] at es;cases es
    obtain⟨s',h1,h2⟩:=qBi hd ha h f (n+1) ⟨s - 1,by omega,by rw[show n+1+(s - 1)=n+s by omega];exact es⟩
    rw[← go] at h2
    refine⟨s'+1,fun l hl=>?_,?_⟩
    ·cases l with
     | zero=>
      refine⟨(by rw[Nat.add_zero,c];exact fun z=>SetTable.Slot.noConfusion z),fun i' ei=>?_⟩
      rw[Nat.add_zero,c] at ei
      cases ei
      exact e
     | succ l=>
      have:=h1 l (by omega)
      rw[show n+1+l=n+(l+1) by omega] at this
      exact this
    ·rw[show n+1+s'=n+(s'+1) by omega] at h2
     exact h2
theorem Tab.probe (T:Tab t es)(ha:Nat→Int)(h:Int)(n:Nat):
  ∃s,(∀l,l<s→t.slot (pos t.mask h (n+l))≠.empty∧∀i,t.slot (pos t.mask h (n+l))=.live i→ha i≠h)∧
   ((t.slot (pos t.mask h (n+s))=.empty∧t.probe ha h (stp t.mask h n)=some (.empty (pos t.mask h (n+s)) none))∨
     ∃i,t.slot (pos t.mask h (n+s))=.live i∧ha i=h∧t.probe ha h (stp t.mask h n)=some (.candidate (pos t.mask h (n+s)) i (stp t.mask h (n+s+1)))):=by
 obtain⟨j,hj,ej⟩:=T.free
 obtain⟨s,hs,e⟩:=qGc T.full h n hj
 exact qBi T.dum ha h _ n ⟨s,hs,by rw[e];exact ej⟩
end
theorem ins_get {α:Type}(xs:Array α){p:Nat}(hp:p≤xs.size)(x:α)(i:Nat):(SetTable.insertAt xs p x)[i]? = if i<p then xs[i]? else if i=p then some x else xs[i - 1]? := by
 have e:(SetTable.insertAt xs p x)[i]? = (SetTable.insertAt xs p x).toList[i]? := by simp
 rw[e,SetTable.toList_insertAt]
 have lt:(xs.toList.take p).length=p:=by rw[yYF,yZL];omega
 by_cases c:i<p
 ·rw[if_pos c,List.getElem?_append_left (by omega),List.getElem?_take_of_lt c]
  simp
 ·rw[if_neg c,List.getElem?_append_right (by omega),lt]
  by_cases c2:i=p
  ·rw[if_pos c2,c2,Nat.sub_self];rfl
  ·rw[if_neg c2,show i - p=(i - p - 1)+1 by omega,List.getElem?_cons_succ,List.getElem?_drop,show p+(i - p - 1)=i - 1 by omega]
   simp
section
variable {t:SetTable}{es:Array (Int×Value)}
theorem qGk {j k:Nat}:k∈(t.put j).1.place.toList↔k=j∨k∈t.place.toList:=by
 have:=(SetTable.insertAt_perm t.place (SetTable.below t.place j) j).mem_iff (a:=k)
 show k∈(SetTable.insertAt t.place (SetTable.below t.place j) j).toList↔_
 rw[this,Array.toList_push,yYS,yYL]
 exact or_comm
theorem Tab.put (T:Tab t es){h:Int}{m:Nat}(he:t.slot (pos t.mask h m)=.empty)(bef:∀l,l<m→t.slot (pos t.mask h l)≠.empty)(hroom:es.size+1≤t.mask)(x:Value):
  Tab (t.put (pos t.mask h m)).1 (SetTable.insertAt es (t.put (pos t.mask h m)).2 (h,x)):=by
 have ok:TOk t.led t:=⟨rfl,T.dum,T.ris⟩
 have ok':=ok.put he
 have hp:(t.put (pos t.mask h m)).2≤t.place.size:=(vN T.ris _).1
 have hpe:(t.put (pos t.mask h m)).2≤es.size:=by rw[← T.size];exact hp
 have ne:∀k,t.slot k≠.empty→(t.put (pos t.mask h m)).1.slot k≠.empty:=fun k hk=>by
  rw[Ne,kY ok'.ris ok'.dum,Classical.not_not]
  rw[Ne,kY T.ris T.dum,Classical.not_not] at hk
  exact qGk.mpr (.inr hk)
 have sz:∀{α:Type} (xs:Array α) (p:Nat) (x:α),p≤xs.size→(SetTable.insertAt xs p x).size=xs.size+1:=fun xs p x hp=>by
  rw[← yZL,(SetTable.insertAt_perm xs p x).length_eq];simp
 refine⟨ok'.dum,ok'.ris,T.full,T.odd,?_,fun j hj=>?_,?_,fun i j e e1 e2=>?_⟩
 ·have e1:(t.put (pos t.mask h m)).1.place.size=t.place.size+1:=sz _ _ _ hp
  rw[e1,sz _ _ _ hpe,T.size]
 ·rcases qGk.mp hj with rfl | hj
  ·exact qGa _ _ _
  ·exact T.inn j hj
 ·rw[sz _ _ _ hpe];exact hroom
 ·have e1:(SetTable.insertAt t.place (t.put (pos t.mask h m)).2 (pos t.mask h m))[i]? = some j:=e1
  rw[ins_get _ hp] at e1
  rw[ins_get _ hpe] at e2
  by_cases c:i<(t.put (pos t.mask h m)).2
  ·rw[if_pos c] at e1 e2
   obtain⟨m',h1,h2⟩:=T.reach i j e e1 e2
   exact⟨m',h1,fun l hl=>ne _ (h2 l hl)⟩
  ·rw[if_neg c] at e1 e2
   by_cases c2:i=(t.put (pos t.mask h m)).2
   ·rw[if_pos c2] at e1 e2
    cases e1
    cases e2
    exact⟨m,rfl,fun l hl=>ne _ (bef l hl)⟩
   ·rw[if_neg c2] at e1 e2
    obtain⟨m',h1,h2⟩:=T.reach _ j e e1 e2
    exact⟨m',h1,fun l hl=>ne _ (h2 l hl)⟩
end
end ST

namespace ST
open PySem PyProof.Rows SI
open PySem.SetTable (runEnd leap bits turns)
theorem qUl (mask:Nat)(h:Int){n k:Nat}(e:wk mask h n=(k,0)):∀r,r≤run mask (lp mask h k).1→wk mask h (n+r)=(k,r)
 | 0,_=>e
 | r+1,hr=>by
  have ih:=qUl mask h e r (by omega)
  have e2:wk mask h (n+r+1)=if (wk mask h (n+r)).2<run mask (lp mask h (wk mask h (n+r)).1).1 then ((wk mask h (n+r)).1,(wk mask h (n+r)).2+1) else ((wk mask h (n+r)).1+1,0):=rfl
  rw[← Nat.add_assoc,e2,ih]
  exact if_pos (by show r<run mask (lp mask h k).1;omega)
theorem qGb (mask:Nat)(h:Int){n k:Nat}(e:wk mask h n=(k,0)){r:Nat}(hr:r≤run mask (lp mask h k).1):pos mask h (n+r)=(lp mask h k).1+r:=by
 unfold pos
 rw[qUl mask h e r hr]
def Fr (owner:Array (Option Nat))(j:Nat):Prop:=owner.getD j (some 0)=none
theorem qHo {mask:Nat}(owner:Array (Option Nat))(h:Int):∀(f n k:Nat),wk mask h n=(k,0)→(∀l,l<n→¬Fr owner (pos mask h l))→(∃d,d<f∧∃r,r≤run mask (lp mask h (k+d)).1∧Fr owner ((lp mask h (k+d)).1+r))→
  ∃m,SetTable.layClean.free mask owner f (lp mask h k).1 (lp mask h k).2=some (pos mask h m)∧Fr owner (pos mask h m)∧∀l,l<m→¬Fr owner (pos mask h l)
 | 0,n,k,_,_,⟨d,hd,_⟩=>absurd hd (Nat.not_lt_zero _)
 | f+1,n,k,e,bef,⟨d,hd,r,hr,fr⟩=>by
  have er:runEnd mask (lp mask h k).1+1 - (lp mask h k).1=run mask (lp mask h k).1+1:=by
   unfold run SetTable.runEnd
   split <;> omega
  rw[SetTable.layClean.free,er]
  cases c:(List.range (run mask (lp mask h k).1+1)).find? fun k'=>(owner.getD ((lp mask h k).1+k') (some 0)).isNone with
  | some r'=>
   have h1:=List.find?_some c
   have h2:=List.mem_range.mp (List.mem_of_find?_eq_some c)
   have ep:=qGb mask h e (r:=r') (by omega)
   refine⟨n+r',?_,?_,fun l hl=>?_⟩
   ·dsimp only;rw[ep]
   ·rw[ep];exact Option.isNone_iff_eq_none.mp h1
   ·by_cases hn:l<n
    ·exact bef l hn
    ·obtain⟨q,rfl⟩:∃q,l=n+q:=⟨l - n,by omega⟩
     rw[qGb mask h e (r:=q) (by omega)]
     intro z
     have:=(List.find?_range_eq_some.mp c).2.2 q (by omega)
     unfold Fr at z
     rw[z] at this
     cases this
  | none=>
   have h3:=List.find?_eq_none.mp c
   have d0:d≠0:=fun z=>by
    subst z
    have:=h3 r (List.mem_range.mpr (by rw[Nat.add_zero] at hr;omega))
    rw[Nat.add_zero] at fr
    unfold Fr at fr
    rw[fr] at this
    exact this rfl
   have e':=qAf mask h _ n k 0 e rfl
   have:=qHo owner h f (n+(run mask (lp mask h k).1 - 0)+1) (k+1) e' (fun l hl=>?_) ⟨d - 1,by omega,r,by rw[show k+1+(d - 1)=k+d by omega];exact hr,by rw[show k+1+(d - 1)=k+d by omega];exact fr⟩
   ·exact this
   ·by_cases hn:l<n
    ·exact bef l hn
    ·obtain⟨q,rfl⟩:∃q,l=n+q:=⟨l - n,by omega⟩
     rw[qGb mask h e (r:=q) (by omega)]
     intro z
     have:=h3 q (List.mem_range.mpr (by omega))
     unfold Fr at z
     rw[z] at this
     exact this rfl
structure Laid (mask:Nat)(hs:List Int)(owner:Array (Option Nat))(k:Nat):Prop where
 size:owner.size=mask+1
 lt:∀j i,owner.getD j (some 0)=some i→j≤mask→i<k
 at':∀i,i<k→∃j,j≤mask∧owner.getD j (some 0)=some i
 one:∀j j' i,j≤mask→j'≤mask→owner.getD j (some 0)=some i→owner.getD j' (some 0)=some i→j=j'
 reach:∀j i h,j≤mask→owner.getD j (some 0)=some i→hs[i]? = some h→∃m,pos mask h m=j∧∀l,l<m→¬Fr owner (pos mask h l)
theorem qHd {mask:Nat}{hs:List Int}{owner:Array (Option Nat)}{k:Nat}(L:Laid mask hs owner k)(hk:k≤mask):∃j,j≤mask∧Fr owner j:=by
 apply Classical.byContradiction
 intro z
 have all:∀j,j≤mask→∃i,owner.getD j (some 0)=some i:=fun j hj=>by
  cases c:owner.getD j (some 0) with
  | none=>exact absurd ⟨j,hj,c⟩ z
  | some i=>exact⟨i,rfl⟩
 have inj:((List.range (mask+1)).map fun j=>(owner.getD j (some 0)).getD 0).Nodup:=by
  refine List.pairwise_map.mpr (List.Pairwise.imp_of_mem ?_ List.nodup_range)
  intro a b ha hb ne e
  have ha:=List.mem_range.mp ha
  have hb:=List.mem_range.mp hb
  obtain⟨i,ei⟩:=all a (by omega)
  obtain⟨i',ei'⟩:=all b (by omega)
  rw[ei,ei'] at e
  have e:i=i':=e
  subst e
  exact ne (L.one a b i (by omega) (by omega) ei ei')
 have sub:∀x∈(List.range (mask+1)).map (fun j=>(owner.getD j (some 0)).getD 0),x∈List.range k:=fun x hx=>by
  obtain⟨j,hj,rfl⟩:=yYP.mp hx
  have hj:=List.mem_range.mp hj
  obtain⟨i,ei⟩:=all j (by omega)
  rw[ei]
  exact List.mem_range.mpr (L.lt j i ei (by omega))
 have:=nd_le _ _ inj sub
 rw[yYC,List.length_range,List.length_range] at this
 omega
theorem kB {owner:Array (Option Nat)}{j:Nat}(hj:j<owner.size)(v:Option Nat)(j':Nat):(owner.setIfInBounds j v).getD j' (some 0)=if j'=j then v else owner.getD j' (some 0):=by
 rw[Array.getD_eq_getD_getElem?,Array.getElem?_setIfInBounds,Array.getD_eq_getD_getElem?]
 by_cases c:j'=j
 ·subst c;rw[if_pos rfl,if_pos rfl,if_pos hj];rfl
 ·rw[if_neg c,if_neg (fun e=>c e.symm)]
theorem qOb {mask:Nat}(F:Full (mask+1)){hs:List Int}{owner:Array (Option Nat)}{k:Nat}(L:Laid mask hs owner k)(hk:k≤mask){h:Int}(eh:hs[k]? = some h):
  ∃j,SetTable.layClean.free mask owner (turns mask) (bits h % (mask+1)) (bits h)=some j∧Laid mask hs (owner.setIfInBounds j (some k)) (k+1):=by
 obtain⟨j0,hj0,fr0⟩:=qHd L hk
 have ex:∃d,d<turns mask∧∃r,r≤run mask (lp mask h (0+d)).1∧Fr owner ((lp mask h (0+d)).1+r):=by
  obtain⟨d,hd,e⟩:=qRn F h 0 hj0
  exact⟨d,by show d<mask+15;omega,0,yZF _,by rw[Nat.add_zero,e];exact fr0⟩
 obtain⟨m,e,fr,bef⟩:=qHo owner h (turns mask) 0 0 rfl (fun l hl=>absurd hl (Nat.not_lt_zero _)) ex
 refine⟨pos mask h m,e,?_⟩
 have hjm:=qGa mask h m
 have hlt:pos mask h m<owner.size:=by rw[L.size];omega
 have nf:∀j,¬Fr owner j→¬Fr (owner.setIfInBounds (pos mask h m) (some k)) j:=fun j hj z=>by
  unfold Fr at z hj
  rw[kB hlt] at z
  by_cases c:j=pos mask h m
  ·rw[if_pos c] at z;cases z
  ·rw[if_neg c] at z;exact hj z
 refine⟨by rw[Array.size_setIfInBounds];exact L.size,fun j i ei hj=>?_,fun i hi=>?_,fun j j' i hj hj' e1 e2=>?_,fun j i h' hj e1 e2=>?_⟩
 ·rw[kB hlt] at ei
  by_cases c:j=pos mask h m
  ·rw[if_pos c] at ei;cases ei;omega
  ·rw[if_neg c] at ei;have:=L.lt j i ei hj;omega
 ·by_cases c:i=k
  ·exact⟨pos mask h m,hjm,by rw[kB hlt,if_pos rfl,c]⟩
  ·obtain⟨j,hj,ej⟩:=L.at' i (by omega)
   refine⟨j,hj,?_⟩
   rw[kB hlt,if_neg (fun z=>by subst z;unfold Fr at fr;rw[fr] at ej;cases ej)]
   exact ej
 ·rw[kB hlt] at e1 e2
  by_cases c:j=pos mask h m
  ·rw[if_pos c] at e1
   cases e1
   by_cases c':j'=pos mask h m
   ·rw[c,c']
   ·rw[if_neg c'] at e2
    have:=L.lt j' _ e2 hj'
    omega
  ·rw[if_neg c] at e1
   by_cases c':j'=pos mask h m
   ·rw[if_pos c'] at e2
    cases e2
    have:=L.lt j _ e1 hj
    omega
   ·rw[if_neg c'] at e2
    exact L.one j j' i hj hj' e1 e2
 ·rw[kB hlt] at e1
  by_cases c:j=pos mask h m
  ·rw[if_pos c] at e1
   cases e1
   rw[eh] at e2
   cases e2
   exact⟨m,c.symm,fun l hl=>nf _ (bef l hl)⟩
  ·rw[if_neg c] at e1
   obtain⟨m',h1,h2⟩:=L.reach j i h' hj e1 e2
   exact⟨m',h1,fun l hl=>nf _ (h2 l hl)⟩
theorem qHc (mask:Nat)(hs:List Int):Laid mask hs (Array.replicate (mask+1) none) 0:=by
 have g:∀j,j≤mask→(Array.replicate (mask+1) (none:Option Nat)).getD j (some 0)=none:=fun j hj=>by
  rw[Array.getD_eq_getD_getElem?,Array.getElem?_replicate,if_pos (by omega)];rfl
 refine⟨Array.size_replicate,fun j i e hj=>?_,fun i hi=>absurd hi (Nat.not_lt_zero _),fun j j' i hj hj' e=>?_,fun j i h hj e=>?_⟩
 ·rw[g j hj] at e;cases e
 ·rw[g j hj] at e;cases e
 ·rw[g j hj] at e;cases e
theorem qCd {mask:Nat}(F:Full (mask+1))(hs:List Int)(hn:hs.length≤mask+1):∀(rest:List Int) (k:Nat) (owner:Array (Option Nat)),hs.drop k=rest→k≤hs.length→Laid mask hs owner k→
  ∃owner',rest.foldl (fun acc h=>do
   let (owner,k) ← acc
   let j ← SetTable.layClean.free mask owner (turns mask) (bits h % (mask+1)) (bits h)
   pure (owner.setIfInBounds j (some k),k+1)) (some (owner,k))=some (owner',hs.length)∧Laid mask hs owner' hs.length
 | [],k,owner,e,hk,L=>by
  have:hs.length≤k:=by
   have:=congrArg List.length e
   rw[List.length_drop,yYU] at this
   omega
  obtain rfl:k=hs.length:=by omega
  exact⟨owner,rfl,L⟩
 | h::rest,k,owner,e,hk,L=>by
  have hk':k<hs.length:=by
   have:=congrArg List.length e
   rw[List.length_drop,yYT] at this
   omega
  have eh:hs[k]? = some h:=by
   have h0:(hs.drop k)[0]? = some h:=by rw[e];rfl
   rw[List.getElem?_drop] at h0
   exact h0
  obtain⟨j,ej,L'⟩:=qOb F L (by omega) eh
  have ih:=qCd F hs hn rest (k+1) _ (by rw[← List.drop_drop,e];rfl) (by omega) L'
  obtain⟨o',e1,e2⟩:=ih
  refine⟨o',?_,e2⟩
  rw[List.foldl_cons]
  have:(do
   let (owner,k) ← some (owner,k)
   let j ← SetTable.layClean.free mask owner (turns mask) (bits h % (mask+1)) (bits h)
   pure (owner.setIfInBounds j (some k),k+1))=some (owner.setIfInBounds j (some k),k+1):=by
   show(SetTable.layClean.free mask owner (turns mask) (bits h % (mask+1)) (bits h)).bind _=_
   rw[ej];rfl
  rw[this]
  exact e1
theorem qWg {mask:Nat}(F:Full (mask+1))(hs:Array Int)(hn:hs.size≤mask+1):∃owner,SetTable.layClean mask hs=some owner∧Laid mask hs.toList owner hs.size:=by
 obtain⟨o,e,L⟩:=qCd F hs.toList (by rw[yZL];exact hn) hs.toList 0 _ rfl (yZF _) (qHc mask _)
 rw[yZL] at e L
 refine⟨o,?_,L⟩
 unfold SetTable.layClean
 rw[← Array.foldl_toList]
 rw[e]
 rfl
def live (mask:Nat)(owner:Array (Option Nat)):List (Nat×Nat):=(List.range (mask+1)).filterMap fun j=>(owner.getD j none).map (j,·)
theorem qCh {owner:Array (Option Nat)}{j:Nat}(hj:j<owner.size):owner.getD j none=owner.getD j (some 0):=by
 rw[Array.getD_eq_getD_getElem?,Array.getD_eq_getD_getElem?,Array.getElem?_eq_getElem hj];rfl
section
variable {mask:Nat}{hs:List Int}{owner:Array (Option Nat)}{k:Nat}
theorem yE (L:Laid mask hs owner k){j i:Nat}:(j,i)∈live mask owner↔j≤mask∧owner.getD j (some 0)=some i:=by
 unfold live
 rw[List.mem_filterMap]
 constructor
 ·rintro⟨j',hj',e⟩
  have hj':=List.mem_range.mp hj'
  rw[qCh (by rw[L.size];exact hj')] at e
  obtain⟨i',ei,e2⟩:=Option.map_eq_some_iff.mp e
  cases e2
  exact⟨by omega,ei⟩
 ·rintro⟨hj,e⟩
  exact⟨j,List.mem_range.mpr (by omega),by rw[qCh (by rw[L.size];omega),e];rfl⟩
theorem qJi (f:Nat→Option Nat):∀l:List Nat,(l.filterMap fun j=>(f j).map (j,·)).map (·.1)=l.filter fun j=>(f j).isSome
 | []=>rfl
 | j::l=>by
  rw[List.filterMap_cons,List.filter_cons]
  cases c:f j with
  | none=>exact qJi f l
  | some i=>
   show j::_=if true=true then _ else _
   rw[if_pos rfl,← qJi f l]
theorem qCb (mask:Nat)(owner:Array (Option Nat)):((live mask owner).map (·.1)).Pairwise (·<·):=by
 unfold live
 rw[qJi]
 exact List.Pairwise.filter _ List.pairwise_lt_range
theorem qTl (L:Laid mask hs owner k):((live mask owner).map (·.2)).Nodup:=by
 have nd:(live mask owner).Nodup:=by
  have:=qCb mask owner
  exact List.Pairwise.imp (fun h e=>by rw[e] at h;exact absurd h (Nat.lt_irrefl _)) (List.pairwise_map.mp this)
 refine List.pairwise_map.mpr (List.Pairwise.imp_of_mem ?_ nd)
 rintro⟨j,i⟩ ⟨j',i'⟩ ha hb ne e
 have e:i=i':=e
 subst e
 obtain⟨h1,h2⟩:=(yE L).mp ha
 obtain⟨h3,h4⟩:=(yE L).mp hb
 exact ne (by rw[L.one j j' i h1 h3 h2 h4])
theorem qQn (L:Laid mask hs owner k):((live mask owner).map (·.2)).Perm (List.range k):=by
 refine(List.perm_ext_iff_of_nodup (qTl L) List.nodup_range).mpr fun i=>?_
 rw[yYP,List.mem_range]
 constructor
 ·rintro⟨⟨j,i'⟩,h,rfl⟩
  obtain⟨h1,h2⟩:=(yE L).mp h
  exact L.lt j i' h2 h1
 ·intro hi
  obtain⟨j,hj,e⟩:=L.at' i hi
  exact⟨(j,i),(yE L).mpr ⟨hj,e⟩,rfl⟩
end
theorem qJl {α:Type}{es:Array α}:∀{l:List Nat},(∀i∈l,i<es.size)→∀q:Nat,(l.filterMap fun i=>es[i]?)[q]? = l[q]?.bind fun i=>es[i]?
 | [],_,q=>rfl
 | i::l,h,q=>by
  have hi:=h i yYG
  rw[List.filterMap_cons,Array.getElem?_eq_getElem hi]
  cases q with
  | zero=>show some _=(some i).bind _;show _=es[i]?;rw[Array.getElem?_eq_getElem hi]
  | succ q=>exact qJl (fun i hi=>h i (yYH _ hi)) q
theorem qEz {α:Type}(es:Array α):(List.range es.size).filterMap (fun i=>es[i]?)=es.toList:=by
 refine List.ext_getElem? fun q=>?_
 rw[qJl (l:=List.range es.size) (fun i hi=>List.mem_range.mp hi) q]
 by_cases c:q<es.size
 ·have e:(List.range es.size)[q]? = some q:=List.getElem?_range c
  rw[e,yZM];rfl
 ·have e:(List.range es.size)[q]? = none:=List.getElem?_eq_none (by rw[List.length_range];omega)
  rw[e,yZM,Array.getElem?_eq_none (by omega)];rfl
theorem qTn {mask finger moves:Nat}{led plain:Bool}{es:Array (Int×Value)}(F:Full (mask+1))(hodd:mask % 2≠0)(hn:es.size≤mask):
  ∃t' order,SetTable.laid mask finger moves led plain (es.map (·.1))=some (t',order)∧(order.filterMap (es[·]?)).toList.Perm es.toList∧Tab t' (order.filterMap (es[·]?))∧t'.led=led∧t'.mask=mask:=by
 obtain⟨owner,eo,L⟩:=qWg F (es.map (·.1)) (by rw[Array.size_map];omega)
 rw[Array.size_map] at L
 have ef:(((live mask owner).map (·.2)).toArray.filterMap (es[·]?)).toList=((live mask owner).map (·.2)).filterMap fun i=>es[i]? := by rw[Array.toList_filterMap]
 have ords:∀i∈(live mask owner).map (·.2),i<es.size:=fun i hi=>by
  have:=(qQn L).mem_iff.mp hi
  exact List.mem_range.mp this
 have perm:(((live mask owner).map (·.2)).toArray.filterMap (es[·]?)).toList.Perm es.toList:=by
  rw[ef,← qEz es]
  exact(qQn L).filterMap _
 have sz:(((live mask owner).map (·.2)).toArray.filterMap (es[·]?)).size=es.size:=by
  rw[← yZL,perm.length_eq,yZL]
 refine⟨{ mask:=mask,place:=((live mask owner).map (·.1)).toArray,dummies:=#[],finger:=finger,led:=led,moves:=moves,plain:=plain },((live mask owner).map (·.2)).toArray,?_,perm,?_,rfl,rfl⟩
 ·unfold SetTable.laid
  rw[eo]
  rfl
 ·have ris:Ris ((live mask owner).map (·.1)).toArray:=qCb mask owner
  have psz:((live mask owner).map (·.1)).toArray.size=es.size:=by
   have h1:=(qQn L).length_eq
   rw[yYC,List.length_range] at h1
   rw[yYD,yYC,h1]
  refine⟨rfl,ris,F,?_,by rw[sz];exact psz,fun j hj=>?_,by rw[sz];exact hn,fun q j e e1 e2=>?_⟩
  ·show(mask % 2 == 0)=false
   exact beq_eq_false_iff_ne.mpr hodd
  ·have hj:j∈(live mask owner).map (·.1):=hj
   obtain⟨⟨j',i⟩,hm,rfl⟩:=yYP.mp hj
   exact((yE L).mp hm).1
  ·have e1:((live mask owner).map (·.1)).toArray[q]? = some j:=e1
   have e1:((live mask owner).map (·.1))[q]? = some j:=by simpa using e1
   have e2:(((live mask owner).map (·.2)).filterMap fun i=>es[i]?)[q]? = some e:=by rw[← ef,yZM];exact e2
   rw[qJl ords q] at e2
   rw[yYO] at e1 e2
   obtain⟨⟨j',i⟩,ez,rfl⟩:=Option.map_eq_some_iff.mp e1
   rw[ez] at e2
   have e2:es[i]? = some e:=e2
   obtain⟨h1,h2⟩:=(yE L).mp (yYE ez)
   obtain⟨m,h3,h4⟩:=L.reach j' i e.1 h1 h2 (by rw[yZM,Array.getElem?_map,e2];rfl)
   refine⟨m,h3,fun l hl z=>h4 l hl ?_⟩
   have z:=(kY (t:={ mask:=mask,place:=((live mask owner).map (·.1)).toArray,dummies:=#[],finger:=finger,led:=led,moves:=moves,plain:=plain }) ris rfl _).mp z
   unfold Fr
   cases c:owner.getD (pos mask e.1 l) (some 0) with
   | none=>rfl
   | some i'=>exact absurd (yYP.mpr ⟨(_,i'),(yE L).mpr ⟨qGa mask e.1 l,c⟩,rfl⟩) z
end ST

namespace ST
open PySem PyProof.Rows SI L2
open PySem.SetTable (runEnd leap bits turns)
section
variable {t:SetTable}{es:Array (Int×Value)}
theorem Tab.fits (T:Tab t es):t.fits es.size=true:=by
 unfold SetTable.fits SetTable.fill
 rw[T.size,T.dum,Bool.and_eq_true,decide_eq_true_eq]
 exact⟨beq_self_eq_true _,T.room⟩
theorem Tab.live (T:Tab t es){j i:Nat}(h:t.slot j=.live i):i<es.size:=by
 have:=qQq h
 rw[← T.size]
 exact(Array.getElem?_eq_some_iff.mp this).1
theorem qRi (T:Tab t es)(ha:Nat→Int)(hha:∀i e,es[i]? = some e→ha i=e.1)(h:Int)(n:Nat):
  ∃s,(∀l,l<s→t.slot (pos t.mask h (n+l))≠.empty∧∀i e,t.slot (pos t.mask h (n+l))=.live i→es[i]? = some e→e.1≠h)∧
   ((t.slot (pos t.mask h (n+s))=.empty∧t.probe ha h (stp t.mask h n)=some (.empty (pos t.mask h (n+s)) none))∨
     ∃i e,t.slot (pos t.mask h (n+s))=.live i∧es[i]? = some e∧e.1=h∧t.probe ha h (stp t.mask h n)=some (.candidate (pos t.mask h (n+s)) i (stp t.mask h (n+s+1)))):=by
 obtain⟨s,h1,h2⟩:=T.probe ha h n
 refine⟨s,fun l hl=>⟨(h1 l hl).1,fun i e es1 es2 z=>(h1 l hl).2 i es1 (by rw[hha i e es2];exact z)⟩,?_⟩
 rcases h2 with h2 | ⟨i,a,b,c⟩
 ·exact .inl h2
 ·have hi:=T.live a
  refine .inr ⟨i,es[i],a,Array.getElem?_eq_getElem hi,?_,c⟩
  rw[← b]
  exact(hha i _ (Array.getElem?_eq_getElem hi)).symm
end
section
variable {prog:Program}{w:World}{A:Around}{E:Value→Shared→Prop}{s:Shared}
abbrev IsK (prog:Program)(w:World)(h:Heap)(ks:List Key)(a:Addr):Prop:=IsTupleKey (xS prog w) h ks a
abbrev hK (prog:Program)(w:World)(ks:List Key):Int:=tupleKeyHash (xS prog w) ks
def ent (prog:Program)(w:World)(x:List Key×Addr):Int×Value:=(hK prog w x.1,.ref x.2)
structure TS (prog:Program)(w:World)(h:Heap)(a:Addr)(b:Bool)(xs:List (List Key×Addr))(o:Obj)(es:Array (Int×Value))(ep:Nat)(t:SetTable):Prop where
 at':h.get? a=some o
 ex:o.ExactSet
 data:o.data=.set es ep t
 ents:es.toList=xs.map (ent prog w)
 nd:(xs.map (·.1)).Nodup
 tab:Tab t es
 led:t.led=b
 len:xs.length≤300
 mask:t.mask=7∨t.mask=31∨t.mask=127∨t.mask=511
 full:t.fill * 5<t.mask * 3
section
variable {h:Heap}{a:Addr}{b:Bool}{xs:List (List Key×Addr)}{o:Obj}{es:Array (Int×Value)}{ep:Nat}{t:SetTable}
theorem TS.size (x:TS prog w h a b xs o es ep t):es.size=xs.length:=by rw[← yZL,x.ents,yYC]
theorem TS.get (x:TS prog w h a b xs o es ep t){i:Nat}{e:Int×Value}(h:es[i]? = some e):∃y,xs[i]? = some y∧e=ent prog w y:=by
 rw[← yZM,x.ents,yYO] at h
 obtain⟨y,h1,h2⟩:=Option.map_eq_some_iff.mp h
 exact⟨y,h1,h2.symm⟩
end
theorem qCv {ks:List Key}{c:Addr}{Q:Bool→Shared→Prop}(hk:IsK prog w s.heap ks c)(h:Q false s):wpAny (model prog w) A (ofAClassStatement 8 (.ref c)) Q E s:=by
 have hT:=hk.typeIs
 obtain⟨o,items,n,ho,_,hd,hi⟩:=hk
 unfold ofAClassStatement
 refine yYW (wpAny_typeOf hT ?_)
 dsimp only
 rw[if_pos (show("tuple" == "tuple")=true from rfl)]
 refine yYW (yYX ?_)
 simp only[Bool.not_true,yZJ,if_false]
 refine yYW (wpAny_seqItems ho hd ?_)
 dsimp only
 refine yYW ?_
 rw[← Array.forIn_toList]
 refine wpAny_forIn_list _ (fun rest r s'=>r.1=none∧s'=s∧∀v∈rest,carriedByValue v=true) _ ?_ ?_ _ _ ⟨rfl,rfl,hi.byValue⟩
 ·rintro v rest r s' ⟨hr,rfl,hall⟩
  have hv:=hall v yYG
  have e:ofAClassStatement 7 v=pure false:=by
   cases v with
   | ref a=>simp[carriedByValue] at hv
   | _=>first | rfl | simp[ofAClassStatement] | (unfold ofAClassStatement;rfl)
  rw[e]
  refine yYW (yYX ?_)
  simp only[yZJ,if_false]
  exact yYX ⟨rfl,rfl,fun u hu'=>hall u (yYH _ hu')⟩
 ·rintro⟨r1,r2⟩ s' ⟨hr,rfl,_⟩
  simp only at hr
  subst hr
  exact yYX h
theorem qPo {ks:List Key}{c:Addr}{Q:Bool→Shared→Prop}(hk:IsK prog w s.heap ks c)(h:∀v,Q v s):wpAny (model prog w) A (hashByValue 8 (.ref c)) Q E s:=by
 have hT:=hk.typeIs
 obtain⟨o,items,n,ho,_,hd,hi⟩:=hk
 unfold hashByValue
 refine yYW (wpAny_specialOf hT F.slot_tuple_hash.lookup ?_)
 show wpAny _ _ (seqItems? (.ref c) >>= _) Q E s
 refine yYW (wpAny_seqItems ho hd ?_)
 dsimp only[Option.getD_some]
 refine yYW ?_
 rw[← Array.forIn_toList]
 refine wpAny_forIn_list _ (fun rest r s'=>(r.1=none∨∃v,r.1=some v)∧s'=s∧∀v∈rest,carriedByValue v=true) _ ?_ ?_ _ _ ⟨.inl rfl,rfl,hi.byValue⟩
 ·rintro v rest r s' ⟨hr,rfl,hall⟩
  have hv:=hall v yYG
  have e:∃b,hashByValue 7 v=pure b:=by
   cases v with
   | ref a=>simp[carriedByValue] at hv
   | _=>first | exact⟨_,rfl⟩ | (unfold hashByValue;exact⟨_,rfl⟩)
  obtain⟨b,e⟩:=e
  rw[e]
  refine yYW (yYX ?_)
  cases b with
  | true=>
   simp only[Bool.not_true,yZJ,if_false]
   exact yYX ⟨.inl rfl,rfl,fun u hu'=>hall u (yYH _ hu')⟩
  | false=>
   simp only[Bool.not_false,if_true]
   exact yYX (show wpAny (model prog w) A (pure false) Q E _ from yYX (h false))
 ·rintro⟨r1,r2⟩ s' ⟨hr,rfl,_⟩
  cases r1 with
  | none=>exact yYX (h true)
  | some v=>exact yYX (h v)
theorem qOj {ks:List Key}{c:Addr}{ys:List (List Key×Addr)}{Q:Bool→Shared→Prop}(hk:IsK prog w s.heap ks c)(hy:∀y∈ys,IsK prog w s.heap y.1 y.2)(h:Q false s):
  wpAny (model prog w) A (searchCouldBeSeen (.ref c) (ys.map fun y=>Value.ref y.2)) Q E s:=by
 unfold searchCouldBeSeen
 refine yYW ?_
 refine wpAny_forIn_list _ (fun rest r s'=>r.1=none∧s'=s∧∃zs:List (List Key×Addr),rest=zs.map (fun y=>Value.ref y.2)∧∀y∈zs,IsK prog w s.heap y.1 y.2) _ ?_ ?_ _ _ ⟨rfl,rfl,ys,rfl,hy⟩
 ·rintro v rest r s' ⟨hr,rfl,zs,hz,hall⟩
  cases zs with
  | nil=>cases hz
  | cons z zs=>
   rw[List.map_cons] at hz
   obtain⟨rfl,rfl⟩:=List.cons.inj hz
   have nx:∀{B:Prop},(⟨none,()⟩:MProd (Option Bool) PUnit).1=none∧s'=s'∧∃zs':List (List Key×Addr),zs.map (fun y=>Value.ref y.2)=zs'.map (fun y=>Value.ref y.2)∧∀y∈zs',IsK prog w s'.heap y.1 y.2:=⟨rfl,rfl,zs,rfl,fun y hy=>hall y (yYH _ hy)⟩
   dsimp only
   split
   ·exact yYX (nx (B:=True))
   ·refine yYW (wpAny_eqIsQuiet_tuple hk ?_)
    simp only[Bool.not_true,yZJ,if_false]
    refine yYW (wpAny_eqIsQuiet_tuple (hall z yYG) ?_)
    simp only[Bool.not_true,yZJ,if_false]
    refine yYW (qCv hk ?_)
    simp only[yZJ,if_false]
    refine yYW (qCv (hall z yYG) ?_)
    simp only[yZJ,if_false]
    exact yYX (nx (B:=True))
 ·rintro⟨r1,r2⟩ s' ⟨hr,rfl,_⟩
  simp only at hr
  subst hr
  exact yYX h
theorem qYn {a:Addr}{b:Bool}{xs:List (List Key×Addr)}{o:Obj}{es:Array (Int×Value)}{ep:Nat}{t:SetTable}(X:TS prog w s.heap a b xs o es ep t)(room:A.units<cLine){ks:List Key}{c:Addr}(hk:IsK prog w s.heap ks c)
  (hx:∀y∈xs,IsK prog w s.heap y.1 y.2) {Q:SetFound→Shared→Prop} (q1:ks∈xs.map (·.1)→Q (.there none) s)
  (q2:∀m,ks∉xs.map (·.1)→t.slot (pos t.mask (hK prog w ks) m)=.empty→(∀l,l<m→t.slot (pos t.mask (hK prog w ks) l)≠.empty)→Q (.free (pos t.mask (hK prog w ks) m) false) s)
  {e0:Nat} (he0:t.slot (pos t.mask (hK prog w ks) e0)=.empty):∀(f n:Nat) (stand:Option SetTable.Probe),stand.getD (t.probeStart (hK prog w ks))=stp t.mask (hK prog w ks) n→n≤e0→e0<n+f→
   (∀l,l<n→t.slot (pos t.mask (hK prog w ks) l)≠.empty∧∀i y,t.slot (pos t.mask (hK prog w ks) l)=.live i→xs[i]? = some y→y.1≠ks)→
   wpAny (model prog w) A (setSearchFrom a (.ref c) (hK prog w ks) true f stand) Q E s
 | 0,n,stand,est,hn,hf,bef=>absurd hf (by omega)
 | f+1,n,stand,est,hn,hf,bef=>by
  have T:=X.tab
  unfold setSearchFrom
  refine yYW (wpAny_setState_of X.at' X.data T.fits ?_)
  dsimp only
  rw[T.odd,est]
  simp only[yZJ,if_false]
  have hk1:∀i e (ha:Nat→Int),(ha=fun i=>(es[i]?.map (·.1)).getD 0)→es[i]? = some e→ha i=e.1:=fun i e ha h1 h2=>by rw[h1];dsimp only;rw[h2];rfl
  split
  ·rename_i met hq
   refine(fun ha (hha:ha=fun i=>(es[i]?.map (·.1)).getD 0) (hq:t.probe ha (hK prog w ks) (stp t.mask (hK prog w ks) n)=some met)=>?_) _ ?_ hq
   ·obtain⟨st,h1,h2⟩:=qRi T ha (fun i e h=>hk1 i e ha hha h) (hK prog w ks) n
    have bef2:∀l,l<n+st→t.slot (pos t.mask (hK prog w ks) l)≠.empty∧∀i y,t.slot (pos t.mask (hK prog w ks) l)=.live i→xs[i]? = some y→y.1≠ks:=fun l hl=>by
     by_cases c:l<n
     ·exact bef l c
     ·obtain⟨q,rfl⟩:∃q,l=n+q:=⟨l - n,by omega⟩
      refine⟨(h1 q (by omega)).1,fun i y e1 e2 z=>?_⟩
      have e3:es[i]? = some (ent prog w y):=by rw[← yZM,X.ents,yYO,e2];rfl
      exact(h1 q (by omega)).2 i _ e1 e3 (by rw[← z];rfl)
    rcases h2 with⟨h2,h3⟩ | ⟨i,e,h2,h3,h4,h5⟩
    ·rw[hq] at h3
     cases h3
     dsimp only
     refine yYX (q2 _ ?_ h2 fun l hl=>(bef2 l hl).1)
     intro hm
     obtain⟨y,hy,ey⟩:=yYP.mp hm
     obtain⟨i,hi⟩:=List.mem_iff_getElem?.mp hy
     have e3:es[i]? = some (ent prog w y):=by rw[← yZM,X.ents,yYO,hi];rfl
     have hpi:i<t.place.size:=by rw[T.size];exact(Array.getElem?_eq_some_iff.mp e3).1
     obtain⟨m,hm1,hm2⟩:=T.reach i _ _ (Array.getElem?_eq_getElem hpi) e3
     have e4:(ent prog w y).1=hK prog w ks:=by rw[← ey];rfl
     rw[e4] at hm1 hm2
     have live:t.slot (pos t.mask (hK prog w ks) m)=.live i:=by
      have hmem:pos t.mask (hK prog w ks) m∈t.place.toList:=by rw[hm1];exact Array.getElem_mem_toList hpi
      obtain⟨i',ei⟩:=qBk T.ris hmem
      have e5:=qQq ei
      rw[hm1] at e5
      have:i'=i:=by
       rcases Nat.lt_trichotomy i' i with c | c | c
       ·have h6:=T.ris.get c hpi
        have h7:=(Array.getElem?_eq_some_iff.mp e5)
        rw[Array.getD_eq_getD_getElem?,Array.getD_eq_getD_getElem?,e5,Array.getElem?_eq_getElem hpi] at h6
        exact absurd h6 (Nat.lt_irrefl _)
       ·exact c
       ·have h7:=(Array.getElem?_eq_some_iff.mp e5).1
        have h6:=T.ris.get c h7
        rw[Array.getD_eq_getD_getElem?,Array.getD_eq_getD_getElem?,e5,Array.getElem?_eq_getElem hpi] at h6
        exact absurd h6 (Nat.lt_irrefl _)
      rw[ei,this]
     rcases Nat.lt_trichotomy m (n+st) with c | c | c
     ·exact(bef2 m c).2 i y live hi ey
     ·rw[c,h2] at live;cases live
     ·exact hm2 (n+st) c h2
    ·rw[hq] at h5
     cases h5
     obtain⟨y,hy,rfl⟩:=X.get h3
     have hky:=hx y (yYE hy)
     have lt:n+st<e0:=by
      rcases Nat.lt_trichotomy (n+st) e0 with c | c | c
      ·exact c
      ·rw[c,he0] at h2;cases h2
      ·exact absurd he0 (bef2 e0 c).1
     dsimp only
     have h3':es[i]? = some (hK prog w y.1,Value.ref y.2):=h3
     have ef:List.map (fun x=>x.snd) (Array.filter (fun x=>x.fst == hK prog w ks) es).toList=(xs.filter fun y=>(ent prog w y).1 == hK prog w ks).map fun y=>Value.ref y.2:=by
      rw[Array.toList_filter,X.ents,List.filter_map,List.map_map];rfl
     have sm:t.sameMemory t.moves t.mask=some true:=by
      unfold SetTable.sameMemory
      rw[if_pos (beq_self_eq_true _)]
     cases c0:t.led
     case' true=>simp only[Bool.not_true,yZJ,if_false]
     case' false=>
      simp only[Bool.not_false,if_true]
      refine yYW ?_
      rw[ef]
      refine qOj hk (fun y hy=>hx y (yYR.mp hy).1) ?_
      simp only[yZJ,if_false]
     all_goals
      rw[h3']
      dsimp only
      refine yYW (wpAny_holding (wpAny_eqBool_tuple room hky hk ?_))
      refine yYW (wpAny_setState_of X.at' X.data T.fits ?_)
      dsimp only
      by_cases ek:y.1=ks
      ·rw[decide_eq_true ek]
       simp only[Bool.and_self,if_true]
       exact yYX (q1 (yYP.mpr ⟨y,yYE hy,ek⟩))
      ·rw[decide_eq_false ek]
       simp only[Bool.and_false,yZJ,if_false]
       rw[sm]
       simp only[if_true]
       rw[h2]
       dsimp only
       rw[h3']
       dsimp only
       refine yYW (wpAny_isSame_ref_self ?_)
       simp only[if_true]
       refine yYW (yYX ?_)
       dsimp only
       refine qYn X room hk hx q1 q2 he0 f (n+st+1) (some _) rfl (by omega) (by omega) fun l hl=>?_
       by_cases c1:l<n+st
       ·exact bef2 l c1
       ·obtain rfl:l=n+st:=by omega
        refine⟨by rw[h2];exact fun z=>SetTable.Slot.noConfusion z,fun i' y' e1 e2=>?_⟩
        rw[h2] at e1
        cases e1
        rw[hy] at e2
        cases e2
        exact ek
   ·rfl
  ·rename_i hq
   refine(fun ha (hha:ha=fun i=>(es[i]?.map (·.1)).getD 0) (hq:∀met,t.probe ha (hK prog w ks) (stp t.mask (hK prog w ks) n)=some met→False)=>?_) _ ?_ hq
   ·obtain⟨st,h1,h2⟩:=qRi T ha (fun i e h=>hk1 i e ha hha h) (hK prog w ks) n
    rcases h2 with⟨h2,h3⟩ | ⟨i,e,h2,h3,h4,h5⟩
    ·exact(hq _ h3).elim
    ·exact(hq _ h5).elim
   ·rfl
end
end ST

namespace ST
open PySem PyProof.Rows SI L2
open PySem.SetTable (runEnd leap bits turns)
theorem vY {α β:Type}{f:α→β}{l m:List β}(p:l.Perm m):∀xs:List α,m=xs.map f→∃ys:List α,ys.Perm xs∧l=ys.map f:=by
 induction p with
 | nil=>
  intro xs e
  exact⟨[],by rw[List.map_eq_nil_iff.mp e.symm],rfl⟩
 | cons x _ ih=>
  intro xs e
  obtain⟨y,ys,rfl,e1,e2⟩:=List.map_eq_cons_iff.mp e.symm
  obtain⟨zs,p1,e3⟩:=ih ys e2.symm
  exact⟨y::zs,p1.cons y,by rw[List.map_cons,e3,e1]⟩
 | swap x y l=>
  intro xs e
  obtain⟨a,ys,rfl,e1,e2⟩:=List.map_eq_cons_iff.mp e.symm
  obtain⟨b,zs,rfl,e3,e4⟩:=List.map_eq_cons_iff.mp e2
  exact⟨b::a::zs,.swap a b zs,by rw[List.map_cons,List.map_cons,e1,e3,e4]⟩
 | trans _ _ ih1 ih2=>
  intro xs e
  obtain⟨ys,p1,e1⟩:=ih2 xs e
  obtain⟨zs,p2,e2⟩:=ih1 ys e1
  exact⟨zs,p2.trans p1,e2⟩
theorem Tab.off {t:SetTable}{es:Array (Int×Value)}(T:Tab t es):Tab { t with plain:=false } es:=⟨T.dum,T.ris,T.full,T.odd,T.size,T.inn,T.room,T.reach⟩
section
variable {prog:Program}{w:World}{A:Around}{E:Value→Shared→Prop}{s:Shared}
theorem qJf {h h':Heap}{ks:List Key}{c:Addr}(x:IsK prog w h ks c)(k:∀o,h.get? c=some o→h'.get? c=some o):IsK prog w h' ks c:=let ⟨o,i,n,e,r⟩:=x;⟨o,i,n,k o e,r⟩
theorem masks {m:Nat}(h:m=7∨m=31∨m=127∨m=511):Full (m+1)∧m % 2≠0∧m≤511:=by
 rcases h with rfl | rfl | rfl | rfl
 ·exact⟨full8,by decide,by decide⟩
 ·exact⟨full32,by decide,by decide⟩
 ·exact⟨full128,by decide,by decide⟩
 ·exact⟨full512,by decide,by decide⟩
theorem grows {m n:Nat}(h:m=7∨m=31∨m=127∨m=511)(h1:n * 5<m * 3)(h2:m * 3≤(n+1) * 5)(h3:n+1≤300):
  ∃m',(m'=31∨m'=127∨m'=511)∧SetTable.sizeAbove (SetTable.grown (n+1)) - 1=m'∧n+1≤m'∧(n+1) * 5<m' * 3∧¬(SetTable.sizeAbove (SetTable.grown (n+1))>sizeLine):=by
 rcases h with rfl | rfl | rfl | rfl
 ·obtain rfl:n=4:=by omega
  exact⟨31,.inl rfl,by decide,by decide,by decide,by decide⟩
 ·obtain rfl:n=18:=by omega
  exact⟨127,.inr (.inl rfl),by decide,by decide,by decide,by decide⟩
 ·obtain rfl:n=76:=by omega
  exact⟨511,.inr (.inr rfl),by decide,by decide,by decide,by decide⟩
 ·omega
theorem qBg {h:Heap}{a:Addr}{o:Obj}{es:Array (Int×Value)}{ep:Nat}{t:SetTable}(ho:h.get? a=some o)(hd:o.data=.set es ep t)(es':Array (Int×Value))(t':SetTable):
  (h.update a (Obj.putSet es' t')).get? a=some { o with data:=.set es' (ep+1) t' }:=by
 have:=Heap.get?_update_self (Obj.putSet es' t') ho (by rw[putSet_of es' t' hd];rfl)
 rw[putSet_of es' t' hd] at this;exact this
theorem qUh {a:Addr}{b:Bool}{xs:List (List Key×Addr)}{o:Obj}{es:Array (Int×Value)}{ep:Nat}{t:SetTable}(X:TS prog w s.heap a b xs o es ep t)(room:A.units<cLine){ks:List Key}{c:Addr}(hk:IsK prog w s.heap ks c)
  (hx:∀y∈xs,IsK prog w s.heap y.1 y.2) (hn:xs.length+1≤300) {Q:Bool→Shared→Prop} (q1:ks∈xs.map (·.1)→Q false s)
  (q2:∀(h':Heap) (xs':List (List Key×Addr)) (o':Obj) (es':Array (Int×Value)) (ep':Nat) (t':SetTable),ks∉xs.map (·.1)→Heap.SameBut a s.heap h'→xs'.Perm ((ks,c)::xs)→TS prog w h' a b xs' o' es' ep' t'→Q true { s with heap:=h' }):
  wpAny (model prog w) A (setAddHashed a (.ref c) (hK prog w ks)) Q E s:=by
 have T:=X.tab
 obtain⟨F,hodd,hm⟩:=masks X.mask
 obtain⟨j0,hj0,ej0⟩:=T.free
 obtain⟨e0,he0,ep0⟩:=qGc F (hK prog w ks) 0 hj0
 rw[Nat.zero_add] at ep0
 rw[← ep0] at ej0
 have fuel:e0<0+100000:=by
  have:turns t.mask=t.mask+15:=rfl
  omega
 unfold setAddHashed setAddHashedIn
 refine wpAny_holding (yYW (wpAny_setState_of X.at' X.data T.fits ?_))
 dsimp only
 have bs:byScan (.ref c) es=false:=rfl
 rw[bs]
 simp only[yZJ,if_false]
 unfold setSearch
 refine yYW (qYn X room hk hx (fun hm=>?_) (fun m hm em bef=>?_) ej0 100000 0 none rfl (yZF _) fuel fun l hl=>absurd hl (Nat.not_lt_zero _))
 ·dsimp only
  exact yYX (q1 hm)
 dsimp only
 refine yYW (wpAny_setState_of X.at' X.data T.fits ?_)
 dsimp only
 have sz:=X.size
 have hfull:=X.full
 have hfill:t.fill=xs.length:=by
  show t.place.size+t.dummies.size=_
  rw[T.size,T.dum,sz];rfl
 rw[hfill] at hfull
 have roomT:es.size+1≤t.mask:=by rcases X.mask with h | h | h | h <;> omega
 have T1:=T.put em bef roomT (.ref c)
 have hp1:(SetTable.insertAt es (t.put (pos t.mask (hK prog w ks) m)).2 (hK prog w ks,Value.ref c)).toList.Perm (((ks,c)::xs).map (ent prog w)):=by
  refine(SetTable.insertAt_perm _ _ _).trans ?_
  rw[Array.toList_push,X.ents]
  exact List.perm_append_comm
 obtain⟨xs1,px1,ex1⟩:=vY hp1 _ rfl
 have nd1:(xs1.map (·.1)).Nodup:=by
  refine(px1.map (·.1)).nodup_iff.mpr ?_
  rw[List.map_cons]
  exact List.nodup_cons.mpr ⟨hm,X.nd⟩
 have l1:xs1.length=xs.length+1:=by rw[px1.length_eq];rfl
 have led1:(t.put (pos t.mask (hK prog w ks) m)).1.led=t.led:=rfl
 have mask1:(t.put (pos t.mask (hK prog w ks) m)).1.mask=t.mask:=rfl
 generalize e1:(t.put (pos t.mask (hK prog w ks) m)).1=t1 at T1 led1 mask1 ⊢
 generalize e2:SetTable.insertAt es (t.put (pos t.mask (hK prog w ks) m)).2 (hK prog w ks,Value.ref c)=es1 at T1 hp1 ex1 ⊢
 have sz1:es1.size=xs.length+1:=by rw[← yZL,ex1,yYC,l1]
 have tail:∀t2:SetTable,Tab t2 es1→t2.led=t.led→t2.mask=t.mask→wpAny (model prog w) A (do
   storeSet a es1 t2
   if (!false && t2.tooFull)=true then do
     setRelay a (SetTable.grown (es.size+1))
     pure true
    else pure true) Q E s:=by
  intro t2 T2 led2 mask2
  have fill2:t2.fill=xs.length+1:=by
   show t2.place.size+t2.dummies.size=_
   rw[T2.size,T2.dum,sz1];rfl
  have sl:∀{n:Nat},n≤1000→n≤sizeLine:=fun{n} h=>by rw[sizeLine_eq];omega
  refine yYW (wpAny_storeSet_of X.at' X.data ?_ (sl (by omega)))
  have hg1:=qBg X.at' X.data es1 t2
  have sb1:=Heap.SameBut.update s.heap a (Obj.putSet es1 t2)
  generalize s.heap.update a (Obj.putSet es1 t2)=h1 at hg1 sb1 ⊢
  simp only[Bool.not_false,Bool.true_and]
  by_cases c:t2.tooFull=true
  ·rw[if_pos c]
   have c':t2.mask * 3≤t2.fill * 5:=of_decide_eq_true c
   rw[fill2,mask2] at c'
   obtain⟨m',hm',em',hm1,hm2,hm3⟩:=grows X.mask hfull c' hn
   obtain⟨F',hodd',_⟩:=masks (m:=m') (by rcases hm' with h | h | h;exact .inr (.inl h);exact .inr (.inr (.inl h));exact .inr (.inr (.inr h)))
   unfold setRelay
   refine yYW ?_
   refine yYW (wpAny_setState_of (s:={ s with heap:=h1 }) hg1 rfl T2.fits ?_)
   dsimp only
   rw[sz,if_neg hm3]
   obtain⟨t3,order,el,pm,T3,led3,mask3⟩:=qTn (finger:=t2.finger) (moves:=t2.movedTo m') (led:=t2.led) (plain:=t2.plain) (es:=es1) F' hodd' (by omega)
   have er:t2.relaid (Array.map (fun x=>x.fst) es1) (SetTable.grown (xs.length+1))=some (t3,order):=by
    unfold SetTable.relaid
    rw[em']
    exact el
   rw[er]
   refine yYW ?_
   have sz3:(order.filterMap (es1[·]?)).size=es1.size:=by rw[← yZL,pm.length_eq,yZL]
   have nb:¬(((order.filterMap (es1[·]?)).size != es1.size)=true):=by rw[sz3];simp
   show wpAny (model prog w) A (if ((order.filterMap (es1[·]?)).size != es1.size)=true then _ else pure (order.filterMap (es1[·]?),t3)) _ E _
   rw[if_neg nb]
   refine yYX ?_
   dsimp only
   obtain⟨xs3,px3,ex3⟩:=vY pm xs1 ex1
   generalize order.filterMap (es1[·]?)=es3 at T3 sz3 ex3 ⊢
   refine wpAny_storeSet_of (s:={ s with heap:=h1 }) hg1 rfl ?_ (sl (by omega))
   have hg3:=qBg hg1 rfl es3 t3
   have sb3:=Heap.SameBut.update h1 a (Obj.putSet es3 t3)
   refine yYX (q2 _ xs3 _ es3 _ t3 hm (sb1.trans sb3) (px3.trans px1) ⟨hg3,X.ex,rfl,ex3,(px3.map (·.1)).nodup_iff.mpr nd1,T3,led3.trans (led2.trans X.led),by rw[px3.length_eq];omega,by rw[mask3];rcases hm' with h | h | h;exact .inr (.inl h);exact .inr (.inr (.inl h));exact .inr (.inr (.inr h)),?_⟩)
   show(t3.place.size+t3.dummies.size) * 5<t3.mask * 3
   rw[T3.size,T3.dum,sz3,sz1,mask3]
   exact hm2
  ·rw[if_neg c]
   have c':¬(t2.mask * 3≤t2.fill * 5):=fun z=>c (decide_eq_true z)
   exact yYX (q2 h1 xs1 _ es1 (ep+1) t2 hm sb1 px1 ⟨hg1,X.ex,rfl,ex1,nd1,T2,led2.trans X.led,by omega,by rw[mask2];exact X.mask,by omega⟩)
 split
 ·refine yYW (qPo hk fun v=>?_)
  cases v with
  | true=>exact tail t1 T1 led1 mask1
  | false=>exact tail { t1 with plain:=false } T1.off led1 mask1
 ·refine yYW (yYX ?_)
  exact tail t1 T1 led1 mask1
end
end ST

namespace ST
open PySem PyProof.Rows SI L2
def Made (its:List (List Key×Addr))(i:Nat)(xs:List (List Key×Addr)):Prop:=(∀x∈xs,x∈its.take i)∧∀y∈its.take i,y.1∈xs.map (·.1)
section
variable {prog:Program}{w:World}{A:Around}{R:Result→Shared→Prop}{I:Addr}{fp wr:List Addr}{G:Array GenState→Array GenState→Prop}{n:Nat}{P:Nat→Value→Prop}{St:Nat→Shared→Prop}
theorem qOo (W:WalksS prog w A.in1 I fp wr G n P St)(T:Addr)(hT:T∉fp)(its:List (List Key×Addr))(hval:∀i v,P i v→∃y,its[i]? = some y∧v=.ref y.2)(hap:∀y∈its,y.2∉fp∧y.2≠T)(hn:n=its.length){N:Nat}(hN:∀ys:List (List Key),ys.Nodup→(∀k∈ys,k∈its.map (·.1))→ys.length≤N)(hN3:N≤299)(room:A.units+8<cLine){b:Bool}:
  ∀(k i:Nat) (s:Shared),n - i=k→i≤n→St i s→(∀y∈its,IsK prog w s.heap y.1 y.2)→(∃xs o es ep t,TS prog w s.heap T b xs o es ep t∧Made its i xs)→
   (∀s',Moved (T::wr) G s s'→(∃xs o es ep t,TS prog w s'.heap T b xs o es ep t∧Made its n xs)→R (.ok (.ret .none)) s')→
   codeAny (model prog w) A (.builtin "set.update.loop" ⟨[.ref T,.ref I],[]⟩) R s:=by
 have hTw:T∉wr:=fun z=>hT (W.sub _ z)
 have up:∀b∈wr,b∈T::wr:=fun b z=>yYH _ z
 have kept:∀{h h':Heap} {xs o es ep t},TS prog w h T b xs o es ep t→(∀o,h.get? T=some o→h'.get? T=some o)→TS prog w h' T b xs o es ep t:=fun x k=>⟨k _ x.at',x.ex,x.data,x.ents,x.nd,x.tab,x.led,x.len,x.mask,x.full⟩
 intro k
 induction k with
 | zero=>
  intro i s hk hi st hIs hS hR
  obtain rfl:i=n:=by omega
  refine codeAny_builtin PyProof.Rows.F.entry_set_update_loop ?_
  rw[Around.under_plainId PyProof.Rows.F.plain_set_update_loop _]
  refine yYW (m:=pyNext (.ref I)) (W.done s _ _ st fun s' mv=>?_)
  obtain⟨xs,o,es,ep,t,X,M⟩:=hS
  exact yYX (hR s' (mv.mono up) ⟨xs,o,es,ep,t,kept X fun o e=>mv.heap T _ hTw e,M⟩)
 | succ k ih=>
  intro i s hk hi st hIs hS hR
  have lt:i<n:=by omega
  refine codeAny_builtin PyProof.Rows.F.entry_set_update_loop ?_
  rw[Around.under_plainId PyProof.Rows.F.plain_set_update_loop _]
  refine yYW (m:=pyNext (.ref I)) (W.item i s _ _ lt st fun v s' hP st' mv=>?_)
  obtain⟨y,ey,rfl⟩:=hval i v hP
  have hym:=yYE ey
  obtain⟨xs,o,es,ep,t,X,M⟩:=hS
  have X1:=kept (h':=s'.heap) X fun o e=>mv.heap T _ hTw e
  have hIs1:∀y∈its,IsK prog w s'.heap y.1 y.2:=fun y hy=>qJf (hIs y hy) fun o e=>mv.heap _ _ (fun z=>(hap y hy).1 (W.sub _ z)) e
  have mem:∀x∈xs,x∈its:=fun x hx=>List.mem_of_mem_take (M.1 x hx)
  have lx:xs.length≤N:=by
   have:=hN (xs.map (·.1)) X.nd fun k hk=>by
    obtain⟨x,hx,rfl⟩:=yYP.mp hk
    exact yYP.mpr ⟨x,mem x hx,rfl⟩
   rw[yYC] at this
   exact this
  have et:its.take (i+1)=its.take i++[y]:=by rw[yYM,ey];rfl
  refine yYW (m:=holding [Value.ref y.2] (setAdd T (.ref y.2))) (wpAny_holding ?_)
  unfold setAdd
  have rm:(A.in1).units<cLine:=by simp only[units_in1];omega
  refine wpAny_holding (yYW (wpAny_pyHash_tuple rm (hIs1 y hym) ?_))
  have go:∀(h':Heap) (xs':List (List Key×Addr)) (o':Obj) (es':Array (Int×Value)) (ep':Nat) (t':SetTable) (tk:Nat),s'.toks≤tk→Heap.SameBut T s'.heap h'→TS prog w h' T b xs' o' es' ep' t'→Made its (i+1) xs'→
    codeAny (model prog w) A (.builtin "set.update.loop" ⟨[.ref T,.ref I],[]⟩) R { s' with heap:=h',toks:=tk }:=fun h' xs' o' es' ep' t' tk htk sb X' M'=>by
   refine ih (i+1) _ (by omega) lt (W.frame _ s' _ _ st' htk fun b hb' o e=>?_) (fun y hy=>qJf (hIs1 y hy) fun o e=>?_) ⟨xs',o',es',ep',t',X',M'⟩ fun s'' mv2 hS4=>?_
   ·rw[sb.2 b (fun z=>hT (z▸hb'))];exact e
   ·rw[sb.2 _ (hap y hy).2];exact e
   ·refine hR s'' (Moved.trans W.gtrans ((mv.mono up).then_heap htk fun b o hb' e=>?_) mv2) hS4
    rw[sb.2 b (fun z=>hb' (z▸yYG))];exact e
  refine qUh (s:={ s' with toks:=s'.toks+(y.1.length+1) }) X1 rm (hIs1 y hym) (fun x hx=>hIs1 x (mem x hx)) (by omega) (fun hm=>?_) (fun h' xs' o' es' ep' t' hm sb pm X'=>?_)
  ·exact yYX ⟨plainId_quiet PyProof.Rows.F.plain_set_update_loop _,go s'.heap xs o es ep t _ (show s'.toks≤s'.toks+(y.1.length+1) by omega) (Heap.SameBut.refl T s'.heap) X1 ⟨fun x hx=>by rw[et];exact List.mem_append_left _ (M.1 x hx),fun z hz=>by
    rw[et] at hz
    rcases yYS.mp hz with hz | hz
    ·exact M.2 z hz
    ·rw[yYL.mp hz];exact hm⟩⟩
  ·exact yYX ⟨plainId_quiet PyProof.Rows.F.plain_set_update_loop _,go h' xs' o' es' ep' t' _ (show s'.toks≤s'.toks+(y.1.length+1) by omega) sb X' ⟨fun x hx=>by
    rw[et]
    rcases yYK.mp (pm.mem_iff.mp hx) with rfl | hx
    ·exact yYN _ yYG
    ·exact List.mem_append_left _ (M.1 x hx),fun z hz=>by
    refine(pm.map (·.1)).mem_iff.mpr ?_
    rw[List.map_cons]
    rw[et] at hz
    rcases yYS.mp hz with hz | hz
    ·exact yYH _ (M.2 z hz)
    ·rw[yYL.mp hz];exact yYG⟩⟩
end
section
variable {prog:Program}{w:World}{A:Around}{E:Value→Shared→Prop}{s:Shared}
theorem call_set_tuples {l:Addr}{items:Array Value}{its:List (List Key×Addr)}{Q:Value→Shared→Prop}(hh:A.handled=none)(hu:A.units+32<cLine)(hl:s.heap.IsList l items)(hI:items.toList=its.map fun y=>Value.ref y.2)(hKs:∀y∈its,IsK prog w s.heap y.1 y.2){N:Nat}(hN:∀ys:List (List Key),ys.Nodup→(∀k∈ys,k∈its.map (·.1))→ys.length≤N)(hN3:N≤299)
  (fin:∀(h':Heap) (tk:Nat),(∃xs o' es' ep' t',TS prog w h' s.heap.objs.size (!byText w) xs o' es' ep' t'∧Made its its.length xs)→(∀b o,s.heap.get? b=some o→h'.get? b=some o)→Q (.ref s.heap.objs.size) { s with heap:=h',toks:=tk }):
  wpAny (model prog w) A (call (.type "set") [.ref l]) Q E s:=by
 have len:items.size=its.length:=by rw[← yZL,hI,yYC]
 obtain⟨c0,tl0,m0⟩:=F.called_set.mro
 have m1:=F.called_set.made
 have m2:=F.called_set.sub
 refine wpAny_call (codeAny_of_tree ?_)
 show wpAny _ _ (callAny (.type "set") _) _ _ _
 refine yYX ⟨Code.quiet_builtin _ (by decide +kernel),codeAny_builtin F.entry_type_call ?_⟩
 rw[Around.under_plain (weight_type_call_type "set" [.ref l] []) rfl]
 have m3:=F.called_set.notType
 have m4:=F.called_set.canCreate
 have m5:=F.typeCall_set_1 (.ref l)
 repeat (any_goals (first | assumption | wp_step))
 refine codeAny_mono (qTg (.ref l) (E:=E) (Q₁:=fun obj s₁=>obj=.ref s.heap.objs.size∧s₁={ s with heap:=s.heap.push (setObj (!byText w)) }) ⟨rfl,rfl⟩) fun r s₁ hr=>?_
 cases r with
 | error e=>exact hr
 | ok fl=>
 cases fl with
 | ret obj=>
  obtain⟨rfl,rfl⟩:=hr
  have at0:(s.heap.push (setObj (!byText w))).get? s.heap.objs.size=some (setObj (!byText w)):=yZA _ rfl
  have ty0:Shared.TypeIs { s with heap:=s.heap.push (setObj (!byText w)) } (.ref s.heap.objs.size) "set" := ⟨_,at0,rfl⟩
  have m6:=F.called_set.init.lookup
  have m7:=F.called_set.init.bind (.ref s.heap.objs.size)
  repeat (any_goals (first | assumption | wp_step))
  refine codeAny_mono (codeAny_call_builtin (R:=wants (fun r s₂=>r=.none∧∃h' tk,s₂={ s with heap:=h',toks:=tk }∧(∃xs o' es' ep' t',TS prog w h' s.heap.objs.size (!byText w) xs o' es' ep' t'∧Made its its.length xs)∧(∀b o,s.heap.get? b=some o→h'.get? b=some o)) E)
   F.called_set.init.plain F.entry_set_init (check_set_init_1 ty0 ?_)) fun r₂ s₂ hr₂=>?_
  ·obtain⟨⟨oc,od,oda,osl⟩,g,kc,nl,kd⟩:=hl
   simp only at kc kd
   subst kc kd
   have g1:(s.heap.push (setObj (!byText w))).get? l=some { cls:=.type "list",dict:=od,data:=.seq items nl,slots:=osl }:=yYY _ g
   have n1:=F.sub_list_set
   have n2:=F.sub_list_frozenset
   have n3:(Value.type "list" == Value.type "dict")=false:=by decide
   have l1:(s.heap.push (setObj (!byText w))).IsList l items:=⟨_,g1,rfl,nl,rfl⟩
   unfold Builtin.«set.__init__» noKeywords Builtin.Frozenset.updateFrom
   generalize hPI:pyIter=PI
   wp_walk
   subst hPI
   refine wpAny_pyIter_list l1 (yYW (wpAny_runValue ?_))
   have lt:l<s.heap.objs.size:=yYZ g
   have sz:(s.heap.push (setObj (!byText w))).objs.size=s.heap.objs.size+1:=yZB _ _
   have ne1:l≠(s.heap.push (setObj (!byText w))).objs.size:=by rw[sz];exact yZE (Nat.lt_succ_of_lt lt)
   have out:s.heap.objs.size∉[(s.heap.push (setObj (!byText w))).objs.size,l]:=by
    rw[sz]
    intro z
    simp only[yYK,List.not_mem_nil,or_false] at z
    rcases z with z | z
    ·exact absurd z (yZE (Nat.lt_succ_self _))
    ·exact absurd z (yZG lt)
   have apart:∀y∈its,y.2∉[(s.heap.push (setObj (!byText w))).objs.size,l]∧y.2≠s.heap.objs.size:=fun y hy=>by
    have hy':=hKs y hy
    obtain⟨o',i',n',e',c',d',_⟩:=hy'
    have lt':=yYZ e'
    refine⟨fun z=>?_,yZE lt'⟩
    rw[sz] at z
    simp only[yYK,List.not_mem_nil,or_false] at z
    rcases z with z | z
    ·exact absurd z (yZE (Nat.lt_succ_of_lt lt'))
    ·rw[z,g] at e'
     cases e'
     exact absurd (Value.type.inj c') (by decide)
   refine qOo (b:=!byText w) ((Walks.list (by simp[hh]) _ l ne1 items).toS) s.heap.objs.size out its (fun i v hv=>?val) apart (by rw[len]) hN hN3 ?room (items.size - 0) 0 _ (by omega) (yZF _) ⟨⟨_,yZA _ rfl,rfl,rfl⟩,(l1.push _)⟩ (fun y hy=>qJf (hKs y hy) fun o e=>yYY _ (yYY _ e)) ?start ?done
   case val=>
    have e:items.toList[i]? = some v:=by rw[yZM];exact hv
    rw[hI,yYO] at e
    obtain⟨y,ey,rfl⟩:=Option.map_eq_some_iff.mp e
    exact⟨y,ey,rfl⟩
   case room=>
    simp only[units_in1,units_deeper,Around.mark_units,units_caller]
    omega
   case start=>
    refine⟨[],setObj (!byText w),#[],0,.fresh 0 0 (!byText w),⟨yYY _ at0,⟨rfl,rfl,rfl⟩,rfl,rfl,.nil,⟨rfl,.nil,full8,(by show(7 % 2 == 0)=false;decide),rfl,(fun j hj=>by cases hj),yZF _,(fun i j e h1=>by cases h1)⟩,rfl,yZF _,.inl rfl,(by show 0 * 5<7 * 3;decide)⟩,⟨fun x hx=>(by cases hx),fun y hy=>by cases hy⟩⟩
   case done=>
    intro s' mv hS'
    obtain⟨h',g',d',tk',os'⟩:=s'
    obtain rfl:g'=s.gens:=mv.gens
    obtain rfl:d'=s.drawn:=mv.drawn
    obtain rfl:os'=s.os:=mv.os
    refine yYX ?_
    rw[len] at hS'
    refine yYX ⟨rfl,h',tk',rfl,hS',fun b o e=>?_⟩
    have lb:=yYZ e
    refine mv.heap b o (fun z=>?_) (yYY _ (yYY _ e))
    simp only[yYK,List.not_mem_nil,or_false] at z
    rcases z with z | z
    ·exact absurd z (yZE lb)
    ·exact absurd z (by rw[sz];exact yZE (Nat.lt_succ_of_lt lb))
  ·cases r₂ with
   | error e=>exact hr₂
   | ok fl₂=>
   cases fl₂ with
   | ret r=>
    obtain⟨rfl,h',tk,rfl,hS',keep⟩:=hr₂
    repeat (any_goals (first | assumption | wp_step))
    exact fin _ _ hS' keep
   | _=>exact hr₂.elim
 | _=>exact hr.elim
end
end ST

namespace ST
open PySem PyProof.Rows SI L2 TM
def ik (ns:List Int):List Key:=ns.map Sum.inl
theorem ik_inj {a b:List Int}(h:ik a=ik b):a=b:=by
 unfold ik at h
 exact(List.map_inj_right (fun x y e=>Sum.inl.inj e)).mp h
theorem ik_kV (ns:List Int):(ik ns).map kV=ns.map V.int:=by
 unfold ik
 rw[List.map_map];rfl
def kx (x:List Int×Addr):List Key×Addr:=(ik x.1,x.2)
section
variable {prog:Program}{w:World}{A:Around}{E:Value→Shared→Prop}{s:Shared}
theorem sorted_setT (hh:A.handled=none){a:Addr}{xs:List (List Int×Addr)}{o:Obj}{es:Array (Int×Value)}{ep:Nat}{t:SetTable}(X:TS prog w s.heap a (!byText w) (xs.map kx) o es ep t)(hx:∀x∈xs,IsTI s.heap (.ref x.2) x.1){Q:Value→Shared→Prop}
  (h:∀(p:Addr) (ms:List (List Int×Addr)) (e:Nat) (s':Shared),ms.Perm xs→(ms.map (·.1)).Pairwise (fun a b=>HT.lexLt b a=false)→s.heap.objs.size≤p→s'.heap.get? p=some (seqObj "list" (ms.map fun x=>Value.ref x.2).toArray e)→(∀b o,s.heap.get? b=some o→s'.heap.get? b=some o)→s'.gens=s.gens→s'.os=s.os→Q (.ref p) s'):
  wpAny (model prog w) A (call (.builtin "sorted") [.ref a]) Q E s:=by
 have T:=X.tab
 have len:=X.len
 rw[yYC] at len
 have size:=X.size
 rw[yYC] at size
 have ents:=X.ents
 rw[List.map_map] at ents
 refine Calls.call_function_entry kind_sorted plain_sorted entry_sorted (args_sorted1 _) ?_
 unfold Builtin.«sorted»
 refine yYW (m:=checkCount "sorted" 1 1 _) (yYX ?_)
 refine yYW (qAk (A:=A.in1) (by simp[hh]) ⟨X.at',X.ex,X.data,T.fits⟩ ⟨X.led,T.dum,T.ris⟩ (by omega) fun ord s1 pm kp hg hos _ hsz=>?_)
 rw[ents] at pm
 obtain⟨ys,py,ey⟩:=vY pm xs rfl
 subst ey
 have ev:(ys.map (ent prog w∘kx)).map (·.2)=ys.map fun x=>Value.ref x.2:=by rw[List.map_map];rfl
 rw[ev]
 have lord:(ys.map fun x=>Value.ref x.2).length=xs.length:=by rw[yYC,py.length_eq]
 have z1:(ys.map fun x=>Value.ref x.2).length≤sizeLine:=by rw[lord,sizeLine_eq];omega
 have tis:∀v∈ys.map (fun x=>Value.ref x.2),∃ns,IsTI s1.heap v ns:=fun v hv=>by
  obtain⟨x,hm,rfl⟩:=yYP.mp hv
  exact⟨x.1,(hx x (py.mem_iff.mp hm)).kept kp⟩
 refine yYW (wpAny_newList ?_ z1)
 have hoL:(s1.heap.push (seqObj "list" (ys.map fun x=>Value.ref x.2).toArray 0)).get? s1.heap.objs.size=some (seqObj "list" (ys.map fun x=>Value.ref x.2).toArray 0):=yZA _ rfl
 refine yYW (wpAny_holding (wpAny_call_entry slot_list_sort ⟨_,hoL,rfl⟩ entry_list_sort (qZn (s:={ s1 with heap:=s1.heap.push (seqObj "list" (ys.map fun x=>Value.ref x.2).toArray 0) }) (h0:=s1.heap) (vU (s:=s1) tis) (fun b o e=>yYY _ e) (Heap.get?_none_of_le (yZC _)) hoL z1 fun out a1 a2=>⟨_,rfl,?_⟩) (args_list_sort _)))
 refine yYX ⟨_,rfl,?_⟩
 obtain⟨e,he⟩:=sortedHeap_at (out:=out) hoL
 obtain⟨ms,pm2,em⟩:=vY a1 ys rfl
 have pm3:=pm2.trans py
 refine h s1.heap.objs.size ms e _ pm3 ?_ hsz (by rw[← em,Array.toArray_toList];exact he) (fun b o q=>?_) hg hos
 ·rw[em] at a2
  rw[List.pairwise_map] at a2 ⊢
  refine List.Pairwise.imp_of_mem ?_ a2
  intro x y hxm hym hxy
  have k1:=((hx x (pm3.mem_iff.mp hxm)).kept kp).key
  have k2:=((hx y (pm3.mem_iff.mp hym)).kept kp).key
  have hxy:HT.lexLt (tupKey s1.heap (.ref y.2)) (tupKey s1.heap (.ref x.2))=false:=hxy
  rw[k1,k2] at hxy
  exact hxy
 ·have q1:=kp b o q
  have lb:=yYZ q1
  show(sortedHeap _ _ _ _).get? b=some o
  rw[sortedHeap_old (yZE lb) (by rw[yZB];exact Nat.lt_succ_of_lt lb)]
  exact yYY _ q1
end
end ST
namespace L2
open PySem PySem.Spec PyProof.Rows
def SetT (P:Program)(w:World)(a:Addr)(xs:List (List Int×Addr)):HO:=.ext fun h=>∃o es ep t,ST.TS P w h a (!SI.byText w) (xs.map ST.kx) o es ep t
def rSetT (P:Program)(w:World)(K:yZO):List V→Hp→VK→Prop:=fun vs H Q=>∃(l:Addr) (us:List V) (ss:List (List Int)),vs=[.ref l]∧SqL K H l us∧Paired (TIn H) ss us∧(∀ys:List (List Int),ys.Nodup→(∀k∈ys,k∈ss)→ys.length≤299)∧
 ∀(p:Addr) (xs:List (List Int×Addr)),H p=none→(xs.map (·.1)).Nodup→(∀x∈xs,x.1∈ss∧H x.2=some (.tup (x.1.map V.int)))→(∀k∈ss,k∈xs.map (·.1))→Q (.ref p) (upd H p (SetT P w p xs))
def rSortS (P:Program)(w:World):List V→Hp→VK→Prop:=fun vs H Q=>∃(p:Addr) (xs:List (List Int×Addr)),vs=[.ref p]∧H p=some (SetT P w p xs)∧(∀x∈xs,x.1≠[]∧H x.2=some (.tup (x.1.map V.int)))∧
 ∀(l:Addr) (ms:List (List Int×Addr)),H l=none→ms.Perm xs→(ms.map (·.1)).Pairwise (fun a b=>HT.lexLt b a=false)→Q (.ref l) (upd H l (.lst (ms.map fun x=>V.ref x.2)))
section
variable {X:Cx}{P:Program}{w:World}{K:yZO}
theorem qMk (hc:X.calm=true)(hu:X.A.units+64<cLine)(hP:X.prog=P:=by rfl)(hw:X.w=w:=by rfl)(hK:X.K=K:=by rfl):CallR X (.type "set") (rSetT P w K):=by
 subst hK hP hw
 intro pins s σ H xs us0 Q I r h
 obtain⟨l,us,ss,rfl,hl,hp,hN,q⟩:=h
 obtain⟨u,rfl,ru⟩:=vals1 r
 cases ru
 obtain⟨its,r1,p1,_⟩:=I.list hl
 have l1:=hp.length
 have eits:=qYa hp r1
 obtain⟨zs,ez1,ez2,ez3⟩:∃zs:List (List Int×Addr),zs.map (·.1)=ss∧its=zs.map (fun y=>Value.ref y.2)∧∀y∈zs,H y.2=some (.tup (y.1.map V.int)):=by
  subst eits
  clear r1 p1 hl hN q l1
  rename_i hle
  clear hle
  induction hp with
  | nil=>exact⟨[],rfl,rfl,fun y hy=>by cases hy⟩
  | cons h _ ih=>
   obtain⟨a,rfl,ea⟩:=h
   obtain⟨zs,h1,h2,h3⟩:=ih
   exact⟨(_,a)::zs,by rw[List.map_cons,h1],by rw[List.map_cons,List.map_cons,h2];rfl,fun y hy=>by
    rcases yYK.mp hy with rfl | hy
    ·exact ea
    ·exact h3 y hy⟩
 have isk:∀y∈zs.map ST.kx,ST.IsK X.prog X.w s.heap y.1 y.2:=fun y hy=>by
  obtain⟨z,hz,rfl⟩:=yYP.mp hy
  exact qCf I.hok (by rw[show(ST.kx z).1=ST.ik z.1 from rfl,ST.ik_kV];exact ez3 z hz)
 refine ST.call_set_tuples (its:=zs.map ST.kx) (N:=299) (I.ok.hd hc) (by omega) p1.isList (by rw[List.map_map];show its=_;rw[ez2];rfl) isk (fun ys nd sub=>?_) (yZC _) fun h' tk hS keep=>?_
 ·have lift:∀ys:List (List Key),(∀k∈ys,k∈(zs.map ST.kx).map (·.1))→∃ms:List (List Int),ys=ms.map ST.ik∧∀k∈ms,k∈ss:=by
   intro ys
   induction ys with
   | nil=>exact fun _=>⟨[],rfl,fun k hk=>by cases hk⟩
   | cons y ys ih=>
    intro sub
    obtain⟨ms,e1,e2⟩:=ih fun k hk=>sub k (yYH _ hk)
    have:=sub y yYG
    rw[List.map_map] at this
    obtain⟨z,hz,rfl⟩:=yYP.mp this
    refine⟨z.1::ms,by rw[List.map_cons,e1];rfl,fun k hk=>?_⟩
    rcases yYK.mp hk with rfl | hk
    ·rw[← ez1];exact yYP.mpr ⟨z,hz,rfl⟩
    ·exact e2 k hk
  obtain⟨ms,e1,e2⟩:=lift ys sub
  rw[e1,yYC]
  refine hN ms ?_ e2
  rw[e1] at nd
  exact List.Pairwise.imp (fun h e=>h (by rw[e])) (List.pairwise_map.mp nd)
 ·obtain⟨xk,o',es',ep',t',TS',M⟩:=hS
  unfold ST.Made at M
  rw[List.take_of_length_le (yZC _)] at M
  obtain⟨xs,ex,exm⟩:∃xs:List (List Int×Addr),xk=xs.map ST.kx∧∀x∈xs,x∈zs:=by
   have m1:=M.1
   clear M TS'
   induction xk with
   | nil=>exact⟨[],rfl,fun x hx=>by cases hx⟩
   | cons y ys ih=>
    obtain⟨xs,e1,e2⟩:=ih fun k hk=>m1 k (yYH _ hk)
    obtain⟨z,hz,rfl⟩:=yYP.mp (m1 y yYG)
    refine⟨z::xs,by rw[List.map_cons,e1],fun x hx=>?_⟩
    rcases yYK.mp hx with rfl | hx
    ·exact hz
    ·exact e2 x hx
  subst ex
  have nd:(xs.map (·.1)).Nodup:=by
   have:=TS'.nd
   rw[List.map_map] at this
   exact List.pairwise_map.mpr (List.Pairwise.imp (fun h e=>h (by show ST.ik _=ST.ik _;rw[e])) (List.pairwise_map.mp this))
  refine⟨.ref s.heap.objs.size,_,I.laid (t':=tk) (o:=SetT X.prog X.w s.heap.objs.size xs) keep (yZC _) ⟨⟨o',es',ep',t',TS'⟩,⟨o',TS'.at'⟩,?_⟩,rfl,q _ xs (I.hok.fresh (yZC _)) nd (fun x hx=>⟨?_,ez3 x (exm x hx)⟩) fun k hk=>?_⟩
  ·rintro h1 h2 ⟨o,es,ep,t,x⟩ k
   exact⟨o,es,ep,t,k _ x.at',x.ex,x.data,x.ents,x.nd,x.tab,x.led,x.len,x.mask,x.full⟩
  ·rw[← ez1];exact yYP.mpr ⟨x,exm x hx,rfl⟩
  ·rw[← ez1] at hk
   obtain⟨z,hz,rfl⟩:=yYP.mp hk
   have:=M.2 (ST.kx z) (yYP.mpr ⟨z,hz,rfl⟩)
   rw[List.map_map] at this
   obtain⟨x,hx,e⟩:=yYP.mp this
   have e:ST.ik x.1=ST.ik z.1:=e
   exact yYP.mpr ⟨x,hx,ST.ik_inj e⟩
theorem qEc (hc:X.calm=true)(hP:X.prog=P:=by rfl)(hw:X.w=w:=by rfl):CallR X (.builtin "sorted") (rSortS P w):=by
 subst hP hw
 intro pins s σ H xs us Q I r h
 obtain⟨p,xs,rfl,hp,hx,q⟩:=h
 obtain⟨u,rfl,ru⟩:=vals1 r
 cases ru
 obtain⟨⟨o,es,ep,t,x⟩,_⟩:=I.hok p _ hp
 have len:=x.len
 rw[yYC] at len
 refine ST.sorted_setT (I.ok.hd hc) x (fun y hy=>?_) fun l ms e s' pm so hsz he kp hg hos=>?_
 ·obtain⟨its2,r2,⟨o,ho,hcl,n2,hd⟩,_⟩:=I.tuple (SqT.of (hx y hy).2)
  exact⟨y.2,o,its2.toArray,n2,rfl,ho,hcl,hd,by simpa using qJg r2,(hx y hy).1⟩
 have vv:Vals (ms.map fun x=>V.ref x.2) (ms.map fun x=>Value.ref x.2):=by
  clear he so pm
  induction ms with
  | nil=>exact .nil
  | cons m ms ih=>exact .cons rfl ih
 refine⟨.ref l,_,I.laidD (o:=.lst (ms.map fun x=>V.ref x.2)) kp hsz (show ObjOk X.prog X.w _ s'.heap _ (.lst (ms.map fun x=>V.ref x.2)) from⟨?_,_,e,vv,he⟩) hg hos,rfl,q l ms (I.hok.fresh hsz) pm so⟩
 rw[yYC,pm.length_eq,sizeLine_eq];omega
end
end L2

namespace L2
open PySem PySem.Spec PyProof.Rows
def insAt {α:Type}(xs:List α)(k:Nat)(y:α):List α:=xs.take k++y::xs.drop k
theorem qKm {α:Type}(xs:List α)(k:Nat)(y:α):(insAt xs k y).length=xs.length+1:=by
 unfold insAt
 rw[yYI,yYT,yYF,List.length_drop]
 omega
def qSm:V→List V→Hp→VK→Prop:=fun x vs H Q=>∃l xs k y,x=.ref l∧vs=[.int k,y]∧H l=some (.lst xs)∧0≤k∧k≤xs.length∧xs.length<1000000∧Q .non (upd H l (.lst (insAt xs k.toNat y)))
theorem qEi {xs:List V}{its:List Value}{y:V}{u:Value}(r:Vals xs its)(k:Nat)(ru:RelV y u):Vals (insAt xs k y) (insAt its k u):=by
 unfold insAt
 induction r generalizing k with
 | nil=>rw[List.take_nil,List.take_nil,List.drop_nil,List.drop_nil];exact .cons ru .nil
 | cons h t ih=>
  cases k with
  | zero=>exact .cons ru (.cons h t)
  | succ k=>exact .cons h (ih k)
variable {X:Cx}
theorem qHj:MtM X "list.insert" qSm:=by
 intro pins s σ H x vs v us Q I rx rv h
 obtain⟨l,xs,k,y,rfl,rfl,hH,h0,h1,hz,q⟩:=h
 cases rx
 obtain⟨u1,u2,rfl,ru1,ru2⟩:=vals2 rv
 obtain⟨t,rfl⟩:=ru1
 obtain⟨z,its,n,r,hl,e⟩:=I.lstM hH
 have sl:sizeLine=16777216:=by decide
 refine call_meets PySem.F.slot_list_insert ⟨_,e,rfl⟩ PySem.F.entry_list_insert (PySem.F.args_list_insert_3 _ _ _)
  (PySem.AutoSeq1.list_insert_list_int_val_1 l its.toArray n k t u2 (by rw[fitsIndex_both (by omega) (by omega)];decide) (by rw[yYD];omega)) ⟨e,?_⟩
 refine⟨.non,_,I.lset (its':=insAt its k.toNat u2) hH e ?_ (qEi r k.toNat ru2) ?_,rfl,q⟩
 ·show((its.toArray.extract 0 (if k<0 then _ else min k.toNat its.toArray.size)).push u2++its.toArray.extract (if k<0 then _ else min k.toNat its.toArray.size))=(insAt its k.toNat u2).toArray
  rw[if_neg (by omega),yYD,Nat.min_eq_left (by omega)]
  unfold insAt
  simp
  exact List.take_of_length_le (by rw[List.length_drop];exact yZC _)
 ·rw[qKm]
  omega
end L2

namespace DT
open PySem PyProof.Rows
structure At (h:Heap)(d:Addr)(o:Obj)(es:Array DictEntry)(ep:Nat):Prop where
 at':h.get? d=some o
 ex:o.ExactDict
 data:o.data=.dict es ep
theorem At.kept {h h':Heap}{d:Addr}{o:Obj}{es:Array DictEntry}{ep:Nat}(x:At h d o es ep)(e:∀o,h.get? d=some o→h'.get? d=some o):At h' d o es ep:=⟨e _ x.at',x.ex,x.data⟩
section
variable {prog:Program}{w:World}{A:Around}{E:Value→Shared→Prop}{s:Shared}{d I:Addr}{o:Obj}{es:Array DictEntry}{ep:Nat}
theorem iter (hd:(d == sysModules)=false)(D:At s.heap d o es ep){Q:Value→Shared→Prop}
  (h:∀h',h'.IsKeyIter s.heap.objs.size d 0 es.size ep→(∀b o,s.heap.get? b=some o→h'.get? b=some o)→Q (.ref s.heap.objs.size) { s with heap:=h' }):wpAny (model prog w) A (pyIter (.ref d)) Q E s:=by
 have hT:s.TypeIs (.ref d) "dict" := ⟨o,D.at',D.ex.1⟩
 refine wpAny_pyIter_slot hT F.slot_dict_iter (wpAny_call_entry F.slot_dict_iter hT F.entry_dict_iter ?_ (F.args_dict_iter_1 _))
 unfold Builtin.«dict.__iter__» Builtin.Dict.dictSlotNone
 refine yYW (yYW (wpAny_notOrdered_dict hT (yYX ?_)))
 show wpAny _ _ (Builtin.Dict.showsAll d >>= _) _ _ s
 unfold Builtin.Dict.showsAll
 rw[hd]
 refine yYW (yYX (yYW (wpAny_dictEntries D.at' D.data (yYW (wpAny_dictEpoch D.at' D.data (yYW (wpAny_newObj_type (yYX ⟨_,rfl,"dict_keyiterator",_,⟨_,yZA _ rfl,rfl⟩,F.slot_dict_keyiterator_next.lookup,?_⟩))))))))
 exact h _ ⟨_,yZA _ rfl,rfl,by simp[rawInt]⟩ fun b o e=>yYY _ e
theorem next {i:Nat}(hit:s.heap.IsKeyIter I d i es.size ep)(D:At s.heap d o es ep)(hi:i<es.size){Q:Option Value→Shared→Prop}
  (h:∀h',h'.IsKeyIter I d (i+1) es.size ep→Heap.SameBut I s.heap h'→Q (some es[i].key) { s with heap:=h' }):wpAny (model prog w) A (pyNext (.ref I)) Q E s:=by
 obtain⟨oi,e1,e2,e3⟩:=id hit
 have T:=hit.typeIs
 unfold pyNext
 refine yYW (wpAny_attempt (wpAny_callSpecial?_slot (name:=Str.ofString "__next__") T F.slot_dict_keyiterator_next (wpAny_call_entry F.slot_dict_keyiterator_next T F.entry_dict_keyiterator_next ?_ (F.args_dict_keyiterator_next_1 _))))
 refine yYW (yYX (yYW (yYW (yYW ?_))))
 refine wpAny_typeNameOfWhole_keyiter T (yYX (yYW (wpAny_fieldsOf e1 e3 ?_)))
 rw[show Builtin.Dict_items.ownsTuple "dict_keyiterator" = false by decide]
 simp only[yZJ,if_false]
 show wpAny _ _ (if (Value.ref d == Value.none)=true then _ else _) _ _ s
 refine wpAny_ite_split (fun z=>absurd z yZK) fun _=>?_
 refine yYW (yYX (yYW (wpAny_dictEntries D.at' D.data ?_)))
 refine wpAny_ite_split (fun z=>absurd z (by simp)) fun _=>?_
 refine yYW (yYX (yYW (wpAny_dictEpoch D.at' D.data ?_)))
 refine wpAny_ite_split (fun z=>absurd z (by simp)) fun _=>?_
 refine yYX ?_
 simp only[show¬((i:Int)<0) from by omega,if_false,Int.toNat_natCast,Array.getElem?_eq_getElem hi]
 refine yYW (yYW (wpAny_typeNameOfWhole_keyiter T (yYX (yYW (wpAny_isOneOf_keyiter T ?_)))))
 show wpAny _ _ (setField (.ref I) 1 (rawInt ((i:Int)+1)) >>= _) _ _ s
 refine yYW (wpAny_setField e1 e3 (by simp) ?_)
 have hit':(s.heap.update I (Obj.mapFields (·.setIfInBounds 1 (rawInt ((i:Int)+1))))).IsKeyIter I d (i+1) es.size ep:=
  ⟨_,Heap.get?_update_self _ e1 (Obj.isFreed_of_fields (Obj.data_mapFields e3 _)),(Obj.cls_mapFields ..).trans e2,by rw[Obj.data_mapFields e3];simp[rawInt]⟩
 refine yYW (wpAny_holding (yYW (wpAny_isOneOf_keyiter (s:={ s with heap:=s.heap.update I (Obj.mapFields (·.setIfInBounds 1 (rawInt ((i:Int)+1)))) }) hit'.typeIs ?_)))
 exact yYX (yYX ⟨_,rfl,yYX (h _ hit' (Heap.SameBut.update ..))⟩)
theorem stop (hh:A.handled=none)(hit:s.heap.IsKeyIter I d es.size es.size ep)(D:At s.heap d o es ep){Q:Option Value→Shared→Prop}
  (h:∀h',Heap.ExtBut I s.heap h'→Q none { s with heap:=h' }):wpAny (model prog w) A (pyNext (.ref I)) Q E s:=by
 obtain⟨oi,e1,e2,e3⟩:=id hit
 have T:=hit.typeIs
 unfold pyNext
 refine yYW (wpAny_attempt (wpAny_callSpecial?_slot (name:=Str.ofString "__next__") T F.slot_dict_keyiterator_next (wpAny_call_entry F.slot_dict_keyiterator_next T F.entry_dict_keyiterator_next ?_ (F.args_dict_keyiterator_next_1 _))))
 refine yYW (yYX (yYW (yYW (yYW ?_))))
 refine wpAny_typeNameOfWhole_keyiter T (yYX (yYW (wpAny_fieldsOf e1 e3 ?_)))
 rw[show Builtin.Dict_items.ownsTuple "dict_keyiterator" = false by decide]
 simp only[yZJ,if_false]
 show wpAny _ _ (if (Value.ref d == Value.none)=true then _ else _) _ _ s
 refine wpAny_ite_split (fun z=>absurd z yZK) fun _=>?_
 refine yYW (yYX (yYW (wpAny_dictEntries D.at' D.data ?_)))
 refine wpAny_ite_split (fun z=>absurd z (by simp)) fun _=>?_
 refine yYW (yYX (yYW (wpAny_dictEpoch D.at' D.data ?_)))
 refine wpAny_ite_split (fun z=>absurd z (by simp)) fun _=>?_
 refine yYX ?_
 simp only[show¬((es.size:Int)<0) from by omega,if_false,Int.toNat_natCast,Array.getElem?_eq_none (yZC es.size)]
 refine yYW (yYW (wpAny_typeNameOfWhole_keyiter T (yYX ?_)))
 show wpAny _ _ (setField (.ref I) 0 .none >>= _) _ _ s
 refine yYW (wpAny_setField e1 e3 (by simp) ?_)
 show wpAny _ _ (newExc (.type "StopIteration") [] >>= _) _ _ _
 refine yYW ?_
 simp only[newExc,newTuple]
 refine yYW (wpAny_newObj_type ?_ (by size_fits))
 refine yYW (m:=firstArgMember _ _) (wpAny_of_eq (a:=Value.none) (by first | rfl | (simp only[firstArgMember];rfl)) ?_)
 refine wpAny_newObj_type ?_ (by size_fits)
 simp only[raiseNew]
 refine yYW (wpAny_handled ?_)
 rw[show A.in1.handled=none from hh]
 refine yYW (yYX (wpAny_throw ?_))
 refine yYW (wpAny_isInstance (T := "StopIteration") (b:=true) ⟨_,yZA _ rfl,rfl⟩ isSubtype_stop ?_)
 exact yYX (h _ (((Heap.SameBut.update ..).extBut.push _).push _))
theorem walks (hh:A.handled=none)(hne:d≠I)(o:Obj)(es:Array DictEntry)(ep:Nat):
  WalksS prog w A I [I,d] [I] (fun a b=>b=a) es.size (fun i v=>∃e,es[i]? = some e∧v=e.key) (fun i s=>s.heap.IsKeyIter I d i es.size ep∧At s.heap d o es ep) where
 sub:=fun b hb=>by rw[yYL.mp hb];exact yYG
 grefl:=fun _=>rfl
 gtrans:=fun _ _ _ x y=>y.trans x
 frame:=fun i s h' tk st _ hk=>⟨st.1.at fun o e=>hk I yYG o e,st.2.kept fun o e=>hk d (yYH _ yYG) o e⟩
 item:=fun i s Q E hi st hQ=>next st.1 st.2 hi fun h' i' sb=>
  hQ _ _ ⟨es[i],getElem?_pos es i hi,rfl⟩ ⟨i',st.2.kept fun o e=>(sb.2 d hne).trans e⟩ ⟨fun b o hb e=>(sb.2 b (fun z=>hb (by rw[z];exact yYL.mpr rfl))).trans e,rfl,rfl,rfl,yZC _⟩
 done:=fun s Q E st hQ=>stop hh st.1 st.2 fun h' x=>hQ _ ⟨fun b o hb e=>x b o (fun z=>hb (by rw[z];exact yYL.mpr rfl)) e,rfl,rfl,rfl,yZC _⟩
 self:=fun _ _ _ _ st hQ=>wpAny_pyIter_keyiter st.1 hQ
theorem qZh:isSubtype (.type "dict") (.type "dict")=pure true:=by rw[isSubtype_type];kernel_rfl
theorem hint (hT:s.TypeIs (.ref d) "dict"){Q:Bool→Shared→Prop}(h:Q false s):wpAny (model prog w) A (Builtin.List.listLengthHint (.ref d)) Q E s:=by
 unfold Builtin.List.listLengthHint
 refine yYW (wpAny_specialOf hT PySem.F.slot_dict_len.lookup ?_)
 dsimp only
 rw[show splitId "dict.__len__" = some ("dict","__len__") by decide +kernel]
 dsimp only
 refine yYW (wpAny_isInstance hT qZh ?_)
 simp only[Bool.not_true,yZJ,↓reduceIte]
 refine wpAny_ite_split (fun _=>?_) (fun hab=>absurd (by decide +kernel) hab)
 refine yYW (wpAny_typeOf hT ?_)
 exact yYX h
theorem collect (hh:A.handled=none)(hd:(d == sysModules)=false)(D:At s.heap d o es ep)(hz:es.size≤5000){Q:List Value→Shared→Prop}
  (h:∀s':Shared,(∀b o,s.heap.get? b=some o→s'.heap.get? b=some o)→s'.gens=s.gens→s'.os=s.os→s.toks≤s'.toks→s.heap.objs.size≤s'.heap.objs.size→Q (es.toList.map DictEntry.key) s'):wpAny (model prog w) A (PySem.collect (.ref d)) Q E s:=by
 have la:d<s.heap.objs.size:=yYZ D.at'
 unfold PySem.collect
 refine yYW (wpAny_runValue (codeAny_builtin PySem.F.entry_proto_collect ?_))
 rw[Around.under_plainId PySem.F.plain_proto_collect _]
 show wpAny _ A.in1 (newList [] >>= fun l=>again (.builtin "list.__iadd__" ⟨[l,.ref d],[]⟩)) _ _ s
 refine yYW (wpAny_newObj_type ?_)
 refine yYX ⟨plainId_quiet PySem.F.plain_list_iadd _,codeAny_builtin PySem.F.entry_list_iadd ?_⟩
 rw[Around.under_plainId PySem.F.plain_list_iadd _]
 have hk0:∀b o,s.heap.get? b=some o→(s.heap.push { cls:=.type "list",data:=.seq ([]:List Value).toArray }).get? b=some o:=fun b o e=>yYY _ e
 have D1:=D.kept (hk0 d)
 have hS0:(s.heap.push { cls:=.type "list",data:=.seq ([]:List Value).toArray }).get? s.heap.objs.size=some { cls:=.type "list",data:=.seq ([]:List Value).toArray }:=yZA _ rfl
 have z0:(s.heap.push { cls:=.type "list",data:=.seq ([]:List Value).toArray }).objs.size=s.heap.objs.size+1:=yZB _ _
 show wpAny _ A.in1 (Builtin.List.listExtendWith (.ref s.heap.objs.size) (.ref d) (.ref s.heap.objs.size)) _ _ { s with heap:=s.heap.push { cls:=.type "list",data:=.seq ([]:List Value).toArray } }
 generalize s.heap.push { cls:=.type "list",data:=.seq ([]:List Value).toArray }=h1 at D1 hS0 z0 hk0
 have hT1:Shared.TypeIs { s with heap:=h1 } (.ref d) "dict" := ⟨o,D1.at',D.ex.1⟩
 unfold Builtin.List.listExtendWith
 refine yYW (wpAny_typeOf hT1 ?_)
 have e1:Builtin.List.listSameRef (.ref s.heap.objs.size) (.ref d)=false:=by
  have:s.heap.objs.size≠d:=yZG la
  simp[Builtin.List.listSameRef,this]
 have e2:(Value.type "dict" == Value.type "list")=false:=by decide
 have e3:(Value.type "dict" == Value.type "tuple")=false:=by decide
 simp only[e1,e2,e3,Bool.or_false,yZJ,if_false]
 refine yYW (iter (s:={ s with heap:=h1 }) hd D1 fun h2 hit hk2=>?_)
 have hS2:=hk2 _ _ hS0
 refine yYW (wpAny_holding (hint (s:={ s with heap:=h2 }) ⟨o,hk2 _ _ D1.at',D.ex.1⟩ ?_))
 have dI:d≠h1.objs.size:=yZE (yZD la (by omega))
 have Sn:s.heap.objs.size∉[h1.objs.size,d]:=fun hb=>by
  rcases yYK.mp hb with z | z
  ·omega
  ·exact absurd (yYL.mp z) (yZG la)
 refine wpAny_ite_split (fun _=>?_) (fun hab=>absurd (by decide +kernel) hab)
 refine yYW (wpAny_rule ?_)
 refine yYW ?_
 show wpAny _ A.in1 (updateSeq s.heap.objs.size (·.push .none) >>= fun _=>updateSeq s.heap.objs.size (·.pop)) _ _ _
 refine yYW (wpAny_updateSeq hS2 rfl ?_)
 have hS3:=Heap.get?_update_self (Obj.mapSeq (·.push Value.none)) hS2 rfl
 refine wpAny_updateSeq hS3 rfl ?_
 have hS4:=Heap.get?_update_self (Obj.mapSeq (·.pop)) hS3 rfl
 have oth:∀b o,b≠s.heap.objs.size→h2.get? b=some o→((h2.update s.heap.objs.size (Obj.mapSeq (·.push Value.none))).update s.heap.objs.size (Obj.mapSeq (·.pop))).get? b=some o:=
  fun b o hb e=>(Heap.get?_update_other _ _ (Ne.symm hb)).trans ((Heap.get?_update_other _ _ (Ne.symm hb)).trans e)
 have W:=walks (prog:=prog) (w:=w) (A:=A.in1) (by simp[hh]) dI o es ep
 refine yYX ⟨plainId_quiet PySem.F.plain_extend_loop _,codeAny_extend_loopS W (by rw[sizeLine_eq];omega) _ Sn _ es.size 0 _ _ _ rfl (yZF _)
  (W.frame 0 ({ s with heap:=h2 }:Shared) _ s.toks ⟨hit,D1.kept (hk2 d)⟩ (yZC _) fun b hb o e=>oth b o (fun z=>Sn (z▸hb)) e) hS4 (ItemsOf.nil _) fun s' acc' c' hm hS' hacc=>?_⟩
 show wpAny _ A (load s.heap.objs.size >>= _) _ _ s'
 refine yYW (wpAny_load hS' ?_)
 have ea:acc'.toList=es.toList.map DictEntry.key:=by
  refine List.ext_getElem? fun i=>?_
  rw[yYO,yZM,yZM]
  by_cases c:i<es.size
  ·have g:acc'[i]? = some (acc'[i]'(by rw[hacc.1];exact c)):=getElem?_pos acc' i (by rw[hacc.1];exact c)
   obtain⟨e,ee,ek⟩:=hacc.2 i _ g
   rw[g,ek,ee];rfl
  ·rw[Array.getElem?_eq_none (by rw[hacc.1];omega),Array.getElem?_eq_none (by omega)];rfl
 refine yYX ?_
 rw[ea]
 have kk:∀b o,s.heap.get? b=some o→s'.heap.get? b=some o:=fun b o e=>by
  have lb:=yYZ e
  refine hm.heap b o (fun z=>?_) (oth b o (yZE lb) (hk2 _ _ (hk0 _ _ e)))
  rcases yYK.mp z with z | z
  ·exact absurd z (yZE lb)
  ·exact absurd (yYL.mp z) (yZE (yZD lb (by omega)))
 exact h s' kk hm.gens hm.os hm.toks (Nat.le_of_lt (yYZ hS'))
open TM ST in
theorem sorted_dictT (hh:A.handled=none)(hd:(d == sysModules)=false)(D:At s.heap d o es ep)(hz:es.size≤5000){xs:List (List Int×Addr)}(hk:es.toList.map DictEntry.key=xs.map fun x=>Value.ref x.2)(hx:∀x∈xs,IsTI s.heap (.ref x.2) x.1){Q:Value→Shared→Prop}
  (h:∀(p:Addr) (ms:List (List Int×Addr)) (e:Nat) (s':Shared),ms.Perm xs→(ms.map (·.1)).Pairwise (fun a b=>HT.lexLt b a=false)→s.heap.objs.size≤p→s'.heap.get? p=some (seqObj "list" (ms.map fun x=>Value.ref x.2).toArray e)→(∀b o,s.heap.get? b=some o→s'.heap.get? b=some o)→s'.gens=s.gens→s'.os=s.os→Q (.ref p) s'):
  wpAny (model prog w) A (call (.builtin "sorted") [.ref d]) Q E s:=by
 refine Calls.call_function_entry kind_sorted plain_sorted entry_sorted (args_sorted1 _) ?_
 unfold Builtin.«sorted»
 refine yYW (m:=checkCount "sorted" 1 1 _) (yYX ?_)
 refine yYW (collect (A:=A.in1) (by simp[hh]) hd D hz fun s1 kp hg hos _ hsz=>?_)
 rw[hk]
 have lx:xs.length=es.size:=by
  have:=congrArg List.length hk
  rw[yYC,yYC,yZL] at this
  exact this.symm
 have z1:(xs.map fun x=>Value.ref x.2).length≤sizeLine:=by rw[yYC,lx,sizeLine_eq];omega
 have tis:∀v∈xs.map (fun x=>Value.ref x.2),∃ns,IsTI s1.heap v ns:=fun v hv=>by
  obtain⟨x,hm,rfl⟩:=yYP.mp hv
  exact⟨x.1,(hx x hm).kept kp⟩
 refine yYW (wpAny_newList ?_ z1)
 have hoL:(s1.heap.push (seqObj "list" (xs.map fun x=>Value.ref x.2).toArray 0)).get? s1.heap.objs.size=some (seqObj "list" (xs.map fun x=>Value.ref x.2).toArray 0):=yZA _ rfl
 refine yYW (wpAny_holding (wpAny_call_entry slot_list_sort ⟨_,hoL,rfl⟩ entry_list_sort (qZn (s:={ s1 with heap:=s1.heap.push (seqObj "list" (xs.map fun x=>Value.ref x.2).toArray 0) }) (h0:=s1.heap) (vU (s:=s1) tis) (fun b o e=>yYY _ e) (Heap.get?_none_of_le (yZC _)) hoL z1 fun out a1 a2=>⟨_,rfl,?_⟩) (args_list_sort _)))
 refine yYX ⟨_,rfl,?_⟩
 obtain⟨e,he⟩:=sortedHeap_at (out:=out) hoL
 obtain⟨ms,pm,em⟩:=vY a1 xs rfl
 refine h s1.heap.objs.size ms e _ pm ?_ hsz (by rw[← em,Array.toArray_toList];exact he) (fun b o q=>?_) hg hos
 ·rw[em] at a2
  rw[List.pairwise_map] at a2 ⊢
  refine List.Pairwise.imp_of_mem ?_ a2
  intro x y hxm hym hxy
  have k1:=((hx x (pm.mem_iff.mp hxm)).kept kp).key
  have k2:=((hx y (pm.mem_iff.mp hym)).kept kp).key
  have hxy:HT.lexLt (tupKey s1.heap (.ref y.2)) (tupKey s1.heap (.ref x.2))=false:=hxy
  rw[k1,k2] at hxy
  exact hxy
 ·have q1:=kp b o q
  have lb:=yYZ q1
  show(sortedHeap _ _ _ _).get? b=some o
  rw[sortedHeap_old (yZE lb) (by rw[yZB];exact Nat.lt_succ_of_lt lb)]
  exact yYY _ q1
end
end DT
namespace L2
open PySem PySem.Spec PyProof.Rows
def rSortD:List V→Hp→VK→Prop:=fun vs H Q=>∃(d:Addr) (kvs:List (List Key×V)) (rows:List (List Int)),vs=[.ref d]∧H d=some (.dT kvs)∧kvs.map (·.1)=rows.map ST.ik∧(∀r∈rows,r≠[])∧rows.length≤5000∧
 ∀(l:Addr) (ms:List (List Int×Addr)),H l=none→(ms.map (·.1)).Perm rows→(ms.map (·.1)).Pairwise (fun a b=>HT.lexLt b a=false)→(∀x∈ms,H x.2=some (.tup (x.1.map V.int)))→Q (.ref l) (upd H l (.lst (ms.map fun x=>V.ref x.2)))
theorem qOd {H:Hp}:∀{kvs:List (List Key×V)} {xs:List (List Key×Addr×Value)} {rows:List (List Int)},KT H kvs xs→kvs.map (·.1)=rows.map ST.ik→
  ∃zs:List (List Int×Addr),zs.map (·.1)=rows∧xs.map (fun x=>Value.ref x.2.1)=zs.map (fun z=>Value.ref z.2)∧∀z∈zs,H z.2=some (.tup (z.1.map V.int)):=by
 intro kvs xs rows r e
 induction r generalizing rows with
 | nil=>
  cases rows with
  | nil=>exact⟨[],rfl,rfl,fun z h=>by cases h⟩
  | cons _ _=>cases e
 | cons h t ih=>
  cases rows with
  | nil=>cases e
  | cons row rows=>
   rw[List.map_cons,List.map_cons] at e
   injection e with e1 e2
   obtain⟨zs,q1,q2,q3⟩:=ih e2
   refine⟨(row,_)::zs,by rw[List.map_cons,q1],by rw[List.map_cons,List.map_cons,q2],fun z hz=>?_⟩
   rcases yYK.mp hz with rfl | hz
   ·have:=h.2.1
    rw[e1,ST.ik_kV] at this
    exact this
   ·exact q3 z hz
theorem qZc {X:Cx}(hc:X.calm=true):CallR X (.builtin "sorted") rSortD:=by
 intro pins s σ H vs us Q I r h
 obtain⟨d,kvs,rows,rfl,hd,ek,ne,h5,q⟩:=h
 obtain⟨u,rfl,ru⟩:=vals1 r
 cases ru
 obtain⟨_,nsys,xs,kt,o,es,ep,e1,e2,e3,e4,_,_⟩:=xZi I.hok hd
 obtain⟨zs,z1,z2,z3⟩:=qOd kt ek
 have ke:es.toList.map DictEntry.key=zs.map fun x=>Value.ref x.2:=by
  rw[e4,List.map_map,← z2];rfl
 have lz:zs.length=rows.length:=by rw[← z1,yYC]
 have sz:es.size=rows.length:=by
  have:=congrArg List.length ke
  rw[yYC,yYC,yZL] at this
  omega
 refine DT.sorted_dictT (I.ok.hd hc) nsys ⟨e1,e2,e3⟩ (by omega) ke (fun y hy=>?_) fun l ms e s' pm so hsz he kp hg hos=>?_
 ·obtain⟨its2,r2,⟨o,ho,hcl,n2,hd⟩,_⟩:=I.tuple (SqT.of (z3 y hy))
  exact⟨y.2,o,its2.toArray,n2,rfl,ho,hcl,hd,by simpa using qJg r2,ne y.1 (by rw[← z1];exact yYP.mpr ⟨y,hy,rfl⟩)⟩
 have vv:Vals (ms.map fun x=>V.ref x.2) (ms.map fun x=>Value.ref x.2):=by
  clear he so pm
  induction ms with
  | nil=>exact .nil
  | cons m ms ih=>exact .cons rfl ih
 refine⟨.ref l,_,I.laidD (o:=.lst (ms.map fun x=>V.ref x.2)) kp hsz (show ObjOk X.prog X.w _ s'.heap _ (.lst (ms.map fun x=>V.ref x.2)) from⟨?_,_,e,vv,he⟩) hg hos,rfl,q l ms (I.hok.fresh hsz) (by rw[← z1];exact pm.map _) so fun x hx=>z3 x (pm.mem_iff.mp hx)⟩
 rw[yYC,pm.length_eq,sizeLine_eq];omega
end L2

namespace L2
open PySem PySem.Spec PyProof.Rows
theorem qZb:∀(l:List (Str×NameKind)) (n:Nat) (acc:List (Str×Addr)) (h:Heap),(l.filter fun y=>y.2 == .cell)=[]→cellsFrom n l acc=acc∧pushCells h l=h
 | [],_,_,_,_=>⟨rfl,rfl⟩
 | (a,k)::l,n,acc,h,e=>by
  cases c:k == NameKind.cell with
  | true=>rw[List.filter_cons,if_pos (show((a,k).2 == NameKind.cell)=true from c)] at e;cases e
  | false=>
   rw[List.filter_cons,if_neg (show¬((a,k).2 == NameKind.cell)=true by rw[show((a,k).2 == NameKind.cell)=false from c];exact yZK)] at e
   obtain⟨h1,h2⟩:=qZb l n acc h e
   unfold cellsFrom pushCells
   rw[c,if_neg yZK,if_neg yZK]
   exact⟨h1,h2⟩
theorem qVj {x:Str}:∀(l:List (Str×NameKind)) (n:Nat) (acc:List (Str×Addr)) (h:Heap),(l.filter fun y=>y.2 == .cell)=[(x,.cell)]→cellsFrom n l acc=(x,n)::acc∧pushCells h l=h.push { cls:=.type "cell",data:=.cell none }
 | [],_,_,_,e=>by cases e
 | (a,k)::l,n,acc,h,e=>by
  cases c:k == NameKind.cell with
  | true=>
   rw[List.filter_cons,if_pos (show((a,k).2 == NameKind.cell)=true from c)] at e
   injection e with e1 e2
   injection e1 with e3 _
   subst e3
   obtain⟨h1,h2⟩:=qZb l (n+1) ((a,n)::acc) (h.push { cls:=.type "cell",data:=.cell none }) e2
   unfold cellsFrom pushCells
   rw[c,if_pos rfl,if_pos rfl]
   exact⟨h1,h2⟩
  | false=>
   rw[List.filter_cons,if_neg (show¬((a,k).2 == NameKind.cell)=true by rw[show((a,k).2 == NameKind.cell)=false from c];exact yZK)] at e
   obtain⟨h1,h2⟩:=qVj l n acc h e
   unfold cellsFrom pushCells
   rw[c,if_neg yZK,if_neg yZK]
   exact⟨h1,h2⟩
theorem qWc {M:Model}{A:Around}{E:Value→Shared→Prop}{s:Shared}{scope:Scope}{gl:Addr}{cl:List (Str×Addr)}{qual:Str}{env:Env}{x:Str}{Q:Env→Shared→Prop}(one:(scope.names.filter fun y=>y.2 == .cell)=[(x,.cell)])
  (h:∀h',h'.Ns s.heap.objs.size (fun _=>none)→h'.IsCell (s.heap.objs.size+1) none→(∀b o,s.heap.get? b=some o→h'.get? b=some o)→Q (newEnv scope s.heap.objs.size gl ((x,s.heap.objs.size+1)::cl) qual none .none (some env) builtinsNs) { s with heap:=h' }):
  wpAny M A (newFunctionEnv scope gl cl [] qual none .none (some env)) Q E s:=by
 simp only[newFunctionEnv,Option.isSome_some,if_true]
 refine yYW (wpAny_alloc ?_)
 refine yYW (wpAny_layCells _ (fun name kind cells=>by cases hkc:kind == NameKind.cell <;> simp[hkc]) _ _ _ _ ?_)
 obtain⟨h1,h2⟩:=qVj scope.names (s.heap.push { cls:=.type "dict",data:=.dict #[] }).objs.size cl (s.heap.push { cls:=.type "dict",data:=.dict #[] }) one
 show wpAny M A (do forIn _ _ _;pure _) Q E { s with heap:=pushCells (s.heap.push { cls:=.type "dict",data:=.dict #[] }) scope.names }
 rw[h2]
 dsimp only
 rw[h1,List.forIn_nil]
 refine yYW (yYX (yYX ?_))
 have z:(s.heap.push { cls:=.type "dict",data:=.dict #[] }).objs.size=s.heap.objs.size+1:=yZB _ _
 rw[z]
 refine h _ ((Heap.Ns.new s.heap (.type "dict")).keeps fun b o e=>yYY _ e) ?_ fun b o e=>yYY _ (yYY _ e)
 rw[← z]
 exact⟨_,yZA _ rfl,rfl⟩
def vD (scope:Scope)(cl:List (Str×Addr))(x:Str)(C:Addr)(env:Env):Env:={ compEnvC scope cl C env with cells:=(x,C+1)::cl }
def cxD (X:Cx)(scope:Scope)(cl:List (Str×Addr))(x:Str)(N:List Str)(fp:List Addr)(s:Shared)(H:Hp):Cx:={ cxC X scope cl N fp s H with env:=vD scope cl x s.heap.objs.size X.env,fn:=fun y=>y == x }
structure qYk (sc:Scope)(N0:List Str)(scope:Scope)(N:List Str)(k:Nat)(js:List Nat)(x:Str):Prop where
 kind:scope.kind=.function
 one:(scope.names.filter fun y=>y.2 == .cell)=[(x,.cell)]
 own:scope.names.lookup x=some .cell
 names:∀y∈scope.names,y.2=.local→scope.names.lookup y.1=some .local
 free:∀p∈scope.names,p.2=.free→sc.names.lookup p.1=some .cell∨sc.names.lookup p.1=some .free
 fn:∀x∈N.drop k,scope.names.lookup x=some .free
 at':js.map (fun j=>N0[j]?)=(N.drop k).map some
 le:k≤N.length
 nd:N.Nodup
theorem jY {x y:Str}{L c:Addr}{cl:List (Str×Addr)}(e:List.lookup y ((x,L)::cl)=some c):(y=x∧c=L)∨(y≠x∧cl.lookup y=some c):=by
 by_cases h:y=x
 ·subst h
  rw[jC] at e
  exact .inl ⟨rfl,(Option.some.inj e).symm⟩
 ·rw[zG _ _ (by simpa using h)] at e
  exact .inr ⟨h,e⟩
section
variable {X:Cx}{elt tg iter:Expr}{ifs:List Expr}{scope:Scope}{cpos:Pos}{N:List Str}{k:Nat}{js:List Nat}{cl:List (Str×Addr)}{x:Str}{g:TG}{tt:TT}{te:TE}
theorem qDo {pins:List (Addr×Obj)}{σ:St}{H:Hp}{s:Shared}{fp:List Addr}{h₁:Heap}{t':Nat}{m:Str→Option Value}(C:qYk X.env.scope X.N scope N k js x)
  (hcl1:∀y c,cl.lookup y=some c→X.env.cells.lookup y=some c) (hcl2:∀p∈scope.names,p.2=.free→∃c,cl.lookup p.1=some c)
  (I:Inv X pins σ H s) (f2:∀b∈fp,FpOk X pins H b) (flt:∀b∈fp,b<s.heap.objs.size) (hns:h₁.Ns s.heap.objs.size m) (hcl₁:h₁.IsCell (s.heap.objs.size+1) none) (keep:∀b o,s.heap.get? b=some o→h₁.get? b=some o):
  Inv (cxD X scope cl x N fp s H) [] (stC k js σ) H { s with heap:=h₁,toks:=t' }:=by
 have relk:∀y,(cxD X scope cl x N fp s H).env.kindOf y=(scope.names.lookup y).map fun k=>if (k == NameKind.free && X.env.scope.kind == .function && X.env.kindOf y == some .cell) then NameKind.cell else k:=fun y=>jU scope.names
 have wasfree:∀y,((cxD X scope cl x N fp s H).env.kindOf y=some .cell∨(cxD X scope cl x N fp s H).env.kindOf y=some .free)→y=x∨scope.names.lookup y=some .free:=fun y hx=>by
  rw[relk y] at hx
  cases e:scope.names.lookup y with
  | none=>rw[e] at hx;rcases hx with hx | hx <;> cases hx
  | some kd=>
   rw[e] at hx
   by_cases hk:kd=.free
   ·exact .inr (by rw[hk])
   ·have hk':(kd == NameKind.free)=false:=by simpa using hk
    rw[yZN,hk',Bool.false_and,Bool.false_and,if_neg yZK] at hx
    rcases hx with hx | hx
    ·have hc:kd=.cell:=Option.some.inj hx
     subst hc
     have hm:(y,NameKind.cell)∈scope.names.filter (fun y=>y.2 == .cell):=yYR.mpr ⟨zW e,rfl⟩
     rw[C.one] at hm
     exact .inl (congrArg Prod.fst (yYL.mp hm))
    ·exact absurd (Option.some.inj hx) hk
 have clt:∀x c,cl.lookup x=some c→c<s.heap.objs.size:=fun x c e=>by
  obtain⟨v,z⟩:=I.cell x c (hcl1 x c e)
  exact z.lt
 have ok:(cxD X scope cl x N fp s H).Ok:=
  {mod:=I.ok.mod
   kind:=by show(relabel scope X.env).kind=_;exact C.kind
   glob:=I.ok.glob
   blt:=I.ok.blt
   above:=yZC _
   inj:=fun y z c e1 e2=>by
    rcases jY e1 with⟨p1,q1⟩ | ⟨p1,q1⟩ <;> rcases jY e2 with⟨p2,q2⟩ | ⟨p2,q2⟩
    ·rw[p1,p2]
    ·have:=clt z c q2
     rw[q1] at this
     exact absurd this (Nat.not_lt_of_le (Nat.le_succ _))
    ·have:=clt y c q1
     rw[q2] at this
     exact absurd this (Nat.not_lt_of_le (Nat.le_succ _))
    ·exact I.ok.inj y z c (hcl1 y c q1) (hcl1 z c q2)
   has:=fun y hy=>by
    by_cases c:y=x
    ·exact⟨s.heap.objs.size+1,by rw[c];exact jC _ _ _⟩
    ·rcases wasfree y hy with z | z
     ·exact absurd z c
     ·obtain⟨d,hd⟩:=hcl2 (y,.free) (zW z) rfl
      exact⟨d,by show List.lookup y ((x,s.heap.objs.size+1)::cl)=_;rw[zG _ _ (by simpa using c)];exact hd⟩
   cab:=fun y c z e=>by
    have z:(y == x)=true:=z
    rcases jY e with⟨_,q⟩ | ⟨p,_⟩
    ·rw[q];exact Nat.le_succ _
    ·exact absurd (eq_of_beq z) p
   hd:=I.ok.hd
   frames:=I.ok.frames
   stk:=.inl rfl
   exf:=fun b hb=>⟨yZE (flt b hb),fun y c e=>by
    rcases jY e with⟨_,q⟩ | ⟨_,q⟩
    ·rw[q];exact yZG (Nat.lt_succ_of_lt (flt b hb))
    ·exact(f2 b hb).2.2.2.2.1 y c (hcl1 y c q)⟩
   bs:=fun b o e=>I.bs b o e
   bsz:=yZI I.ok.bsz I.sz
   noex:=fun b o e hb=>by
    rcases(f2 b hb).2.2.2.1 with z | z
    ·exact I.ok.noex b o e z
    ·exact absurd (yZD (yYZ (I.ok.bs b o e).1) z) (Nat.lt_irrefl _)
   exfs:=fun b hb z=>by
    rcases yYK.mp (I.stkSub b z) with q | q
    ·exact(f2 b hb).2.1 q
    ·exact(f2 b hb).2.2.1 q
   funs:=I.stack
   frf:=I.stkFree }
 have hlen:(stC k js σ).length=N.length:=by
  have q:=congrArg List.length C.at'
  rw[yYC,yYC,List.length_drop] at q
  have:=C.le
  show(List.replicate k none++frees js σ).length=N.length
  rw[yYI,List.length_replicate,frees,yYC]
  omega
 refine⟨ok,rfl,I.bare,Un.kept keep,⟨m,hns,fun i y v e1 e2 e3=>?_⟩,fun y c e=>?_,I.hok.fresh (yZC _),fun y c e=>?_,fun p hp=>absurd (show p∈([]:List (Addr×Obj)) from hp) (by simp),I.hok.kept keep,hlen⟩
 ·have e1:N[i]? = some y:=e1
  have hik:k≤i:=by
   by_cases hik:k≤i
   ·exact hik
   ·have e2':(List.replicate k (none:Option V)++frees js σ)[i]? = some (some v):=e2
    rw[List.getElem?_append_left (by rw[List.length_replicate];omega),List.getElem?_replicate] at e2'
    split at e2' <;> cases e2'
  obtain⟨d,rfl⟩:∃d,i=k+d:=⟨i - k,by omega⟩
  have e2':(List.replicate k (none:Option V)++frees js σ)[k+d]? = some (some v):=e2
  rw[List.getElem?_append_right (by rw[List.length_replicate];omega),List.length_replicate,Nat.add_sub_cancel_left,frees,yYO] at e2'
  have ed:(N.drop k)[d]? = some y:=by rw[List.getElem?_drop];exact e1
  cases ej:js[d]? with
  | none=>rw[ej] at e2';cases e2'
  | some j=>
   rw[ej] at e2'
   have ev:σ.getD j none=some v:=Option.some.inj e2'
   have ej2:X.N[j]? = some y:=by
    have q:=congrArg (fun l=>l[d]?) C.at'
    simp only[yYO,ej,ed,yZN] at q
    exact Option.some.inj q
   have eσ:σ[j]? = some (some v):=by
    rw[List.getD_eq_getElem?_getD] at ev
    cases z:σ[j]? with
    | none=>rw[z] at ev;cases ev
    | some w=>rw[z] at ev;exact congrArg some ev
   have hfx:scope.names.lookup y=some .free:=C.fn y (yYE ed)
   have hX:X.env.scope.names.lookup y=some .cell∨X.env.scope.names.lookup y=some .free:=C.free (y,.free) (zW hfx) rfl
   have nyx:y≠x:=fun z=>by rw[z,C.own] at hfx;cases hfx
   obtain⟨mX,_,lX⟩:=I.loc
   obtain⟨u,ru,lu⟩:=lX j y v ej2 eσ (hX.elim (fun z=>.inr (.inl z)) fun z=>.inr (.inr z))
   refine⟨u,ru,.inr ⟨?_,?_⟩⟩
   ·rw[relk y,hfx]
    show some (if _ then _ else _)=_∨some (if _ then _ else _)=_
    split
    ·exact .inl rfl
    ·exact .inr rfl
   ·rcases lu with⟨z,_⟩ | ⟨_,c,ec,ic⟩
    ·have z:X.env.scope.names.lookup y=some .local:=z
     rcases hX with q | q <;> rw[q] at z <;> cases z
    ·obtain⟨c',ec'⟩:=hcl2 (y,.free) (zW hfx) rfl
     have:c'=c:=Option.some.inj ((hcl1 y c' ec').symm.trans ec)
     subst this
     obtain⟨o,ho,hd⟩:=ic
     exact⟨c',by show List.lookup y ((x,s.heap.objs.size+1)::cl)=_;rw[zG _ _ (by simpa using nyx)];exact ec',o,keep _ _ ho,hd⟩
 ·rcases jY e with⟨_,q⟩ | ⟨_,q⟩
  ·rw[q];exact⟨none,hcl₁⟩
  ·obtain⟨v,o,ho,hd⟩:=I.cell y c (hcl1 y c q)
   exact⟨v,o,keep _ _ ho,hd⟩
 ·rcases jY e with⟨_,q⟩ | ⟨_,q⟩
  ·rw[q];exact I.hok.fresh (Nat.le_succ _)
  ·exact I.freeC y c (hcl1 y c q)

theorem qMq {pins:List (Addr×Obj)}{σ:St}{H2:Hp}{s2:Shared}{E:Value→Shared→Prop}{it:Addr}{fp:List Addr}{tn:Nat→Heap→Prop}{J:It}{Q:VK}{RR:Value→Addr→Result→Shared→Prop}
  (hc:X.calm=true) (C:qYk X.env.scope X.N scope N k js x) (hcl1:∀y c,cl.lookup y=some c→X.env.cells.lookup y=some c) (hcl2:∀p∈scope.names,p.2=.free→∃c,cl.lookup p.1=some c)
  (hg:∀fp s H,PG (cxD X scope cl x N fp s H) tg g) (ht:∀fp s H,PTs (cxD X scope cl x N fp s H) ifs tt) (he:∀fp s H,PE (cxD X scope cl x N fp s H) elt te)
  (I:Inv X pins σ H2 s2) (T:Turn X.prog X.w X.K tg J fp it tn) (st:tn 0 s2.heap) (f2:∀b∈fp,FpOk X pins H2 b) (rd:rdC k js g tt te J σ H2 Q)
  (fin:∀D L H' s',Inv X pins σ H' s'→FpOk X pins H' L→(∃m,s'.heap.Ns L m)→Q (.ref D) H'→RR (.ref D) L (.ok .next) s'):
  wpAny (model X.prog X.w) X.A (newList []) (fun acc s₃=>wpAny (model X.prog X.w) X.A (newFunctionEnv scope X.env.globals cl [] X.env.qual none .none (some X.env)) (fun cenv s₄=>
   codeAny (model X.prog X.w) X.A (.compStart (.ListComp elt [⟨tg,iter,ifs,0⟩] scope cpos) 0 (.ref it) acc { cenv with scope:=relabel scope X.env }) (RR acc cenv.locals) s₄) E s₃) E s2:=by
 refine wpAny_newObj_type (qWc C.one fun h₁ hns₁ hc₁ keep=>?_)
 dsimp only at hns₁ hc₁ keep ⊢
 have hD:H2 s2.heap.objs.size=none:=I.hok.fresh (yZC _)
 have Id:Inv X pins σ (upd H2 s2.heap.objs.size (.lst [])) { s2 with heap:=s2.heap.push { cls:=.type "list",dict:=none,data:=.seq ([]:List Value).toArray } }:=
  I.laid (t':=s2.toks) (fun b u e=>yYY _ e) (yZC _) ⟨yZF _,[],0,.nil,yZA _ rfl⟩
 have kD:∀b o,s2.heap.get? b=some o→(s2.heap.push { cls:=.type "list",dict:=none,data:=.seq ([]:List Value).toArray }).get? b=some o:=fun b o e=>yYY _ e
 generalize hHd:s2.heap.push { cls:=.type "list",dict:=none,data:=.seq ([]:List Value).toArray }=Hd at hns₁ hc₁ keep Id kD ⊢
 have szd:Hd.objs.size=s2.heap.objs.size+1:=by rw[← hHd,yZB]
 have flt2:∀b∈fp,b<s2.heap.objs.size:=fun b hb=>by
  obtain⟨o,e,_⟩:=T.obj _ _ st b hb
  exact yYZ e
 have fd:∀b∈fp,FpOk X pins (upd H2 s2.heap.objs.size (.lst [])) b:=fun b hb=>
  ⟨by rw[qA (yZE (flt2 b hb))];exact(f2 b hb).1,(f2 b hb).2⟩
 obtain⟨W,⟨m0,w0⟩,turn⟩:=rd _ hD
 generalize hY:cxD X scope cl x N fp { s2 with heap:=Hd } (upd H2 s2.heap.objs.size (.lst []))=Y
 have hg:=hg fp { s2 with heap:=Hd } (upd H2 s2.heap.objs.size (.lst []))
 have ht:=ht fp { s2 with heap:=Hd } (upd H2 s2.heap.objs.size (.lst []))
 have he:=he fp { s2 with heap:=Hd } (upd H2 s2.heap.objs.size (.lst []))
 have loop:∀s₃:Shared,s₃={ s2 with heap:=h₁,toks:=s2.toks }→
   codeAny (model X.prog X.w) X.A (.compLoop (.ListComp elt [⟨tg,iter,ifs,0⟩] scope cpos) 0 (.ref it) (.ref s2.heap.objs.size) (vD scope cl x Hd.objs.size X.env))
    (RR (.ref s2.heap.objs.size) Hd.objs.size) s₃:=by
  rintro s₃ rfl
  have IY:Inv Y [] (stC k js σ) (upd H2 s2.heap.objs.size (.lst [])) { s2 with heap:=h₁,toks:=s2.toks }:=by
   rw[← hY]
   exact qDo (t':=s2.toks) C hcl1 hcl2 Id fd (fun b hb=>yZD (flt2 b hb) (by show s2.heap.objs.size≤Hd.objs.size;omega)) hns₁ hc₁ keep
  rw[hY] at hg ht he
  have yprog:Y.prog=X.prog:=by rw[← hY];rfl
  have yw:Y.w=X.w:=by rw[← hY];rfl
  have yK:Y.K=X.K:=by rw[← hY];rfl
  have yA:Y.A=X.A:=by rw[← hY];rfl
  have yc:Y.calm=true:=by rw[← hY];exact hc
  have yenv:Y.env=vD scope cl x Hd.objs.size X.env:=by rw[← hY];rfl
  have yxe:Y.xe=fun _ _=>False:=by rw[← hY];rfl
  have ybase:∀{pn σ' H' s'},Inv Y pn σ' H' s'→Un (frs X.stack) fp (upd H2 s2.heap.objs.size (.lst [])) H' Hd s'.heap∧s'.os=s2.os:=fun{pn σ' H' s'} J=>by
   have u:=J.base
   have o:=J.os
   rw[← hY] at u o
   exact⟨u,o⟩
  have statY:∀{H':Hp},(∀b∈fp,H' b=none)→∀b∈fp,FpOk Y [] H' b:=fun{H'} hn b hb=>by
   rw[← hY]
   refine⟨hn b hb,yZE (yZD (flt2 b hb) (by show s2.heap.objs.size≤Hd.objs.size;omega)),?_,.inl hb,fun y c e=>?_,fun p hp=>absurd (show p∈([]:List (Addr×Obj)) from hp) (by simp)⟩
   rotate_left
   ·rcases jY e with⟨_,rfl⟩ | ⟨_,e⟩
    ·have:=flt2 b hb
     exact yZG (yZD this (by show s2.heap.objs.size≤Hd.objs.size+1;omega))
    ·exact(f2 b hb).2.2.2.2.1 y c (hcl1 y c e)
   intro z
   rcases yYK.mp (I.stkSub b z) with q | q
   ·exact(f2 b hb).2.1 q
   ·exact(f2 b hb).2.2.1 q
  have st₁:tn 0 h₁:=T.keep _ _ _ st fun b hb o e=>keep b o (kD b o e)
  refine codeAny_loop rfl (fun n s'=>∃i ys H',Inv Y [] (stC k js σ) H' s'∧tn i s'.heap∧(∀b∈fp,H' b=none)∧W i n ys H') ?_ m0 ⟨0,[],_,IY,st₁,fun b hb=>(fd b hb).1,w0⟩
  rintro n s3 ⟨i,ys,H3,I3,st3,fr3,w3⟩
  show wpAny _ X.A ((compTurn (.ListComp elt [⟨tg,iter,ifs,0⟩] scope cpos) 0 (.ref it) (.ref s2.heap.objs.size) (vD scope cl x Hd.objs.size X.env)).onRaise (fun xe=>do noteFrame xe (vD scope cl x Hd.objs.size X.env);theTreesLotGoes xe)) _ _ s3
  refine wpAny_noted ?_
  rw[compTurn_list]
  obtain⟨hDs,tr⟩:=turn i n ys H3 w3
  have hPE:∀{α:Type} {t:Sem α} {R R':α→Shared→Prop} {E':Value→Shared→Prop} {s:Shared},wpAny (model Y.prog Y.w) Y.A t R Y.xe s→(∀a s,R a s→R' a s)→wpAny (model X.prog X.w) X.A t R' E' s:=fun{α t R R' E' s} h hQ=>by
   rw[yprog,yw,yA,yxe] at h
   exact wpAny_mono h hQ fun _ _ z=>z.elim
  rcases tr with⟨stop,qn⟩ | ⟨go,step⟩
  ·refine yYW (wpAny_standAt (yYW ?_))
   have dn:=T.done Y yprog yw yK yc i [] s3 (stC k js σ) H3 (fun _ _=>False) I3 (statY fr3) st3 stop
   rw[yA] at dn
   refine wpAny_mono dn (fun r s4 ⟨hr,I4⟩=>?_) fun _ _ z=>z.elim
   subst hr
   obtain⟨u4,o4⟩:=ybase I4
   refine yYX (fin _ _ H3 s4 ?_ ?_ ?_ qn)
   ·refine I.call' (ch:=fp) o4 ((Un.laid (fun b o e=>kD b o e) (yZC _) hD).trans u4) (by have:=I4.hok;rw[yprog,yw] at this;exact this) I4.bare fun b hb=>?_
    obtain⟨_,q1,q2,q3,q4,q5⟩:=f2 b hb
    exact⟨q3,q1,q4,q5⟩
   ·refine I.fpOk (by show s2.heap.objs.size≤Hd.objs.size;omega) ?_
    have:=I4.free
    rw[yenv] at this
    exact this
   ·obtain⟨m,hn,_⟩:=I4.loc
    rw[yenv] at hn
    exact⟨m,hn⟩
  ·refine yYW (wpAny_standAt (yYW ?_))
   have itm:=T.item Y yprog yw yK yc i [] s3 (stC k js σ) H3 (fun _ _=>False) I3 (statY fr3) st3 go
   rw[yA] at itm
   refine wpAny_mono itm (fun r s4 ⟨u,hr,h4⟩=>?_) fun _ _ z=>z.elim
   subst hr
   refine yYW (wpAny_mono h4 (fun _ s5 ⟨x,H5,I5,r5,y5,st5,fr5⟩=>?_) fun _ _ z=>z.elim)
   have I5':=I5.pinned (statY fr5) (T.obj _ _ st5)
   have as:=hg _ s5 (stC k js σ) H5 x u _ I5' r5 (step x H5 y5)
   rw[yenv] at as
   refine yYW (hPE as fun _ s6 ⟨σ6,H6,I6,⟨ow,eow,e6⟩,q6⟩=>?_)
   have again:∀{H7:Hp} {s7:Shared} {zs:List V},Inv Y ([]++pinsAt fp s5.heap) σ6 H7 s7→(∃m',m'<n∧W (i+1) m' zs H7)→
     ∃m,m<n∧∃i ys H',Inv Y [] (stC k js σ) H' s7∧tn i s7.heap∧(∀b∈fp,H' b=none)∧W i m ys H':=fun{H7 s7 zs} I7 ⟨m',hm,w7⟩=>by
    have J7:Inv Y ([]++pinsAt fp s5.heap) (stC k js σ) H7 s7:=by
     refine I7.weak ?_ fun j v e=>?_
     ·rw[e6]
      show(List.replicate k none++frees js σ).length=_
      rw[yYI,yYI,List.length_replicate,eow]
     ·have e:(List.replicate k (none:Option V)++frees js σ)[j]? = some (some v):=e
      rw[e6]
      by_cases hj:j<k
      ·rw[List.getElem?_append_left (by rw[List.length_replicate];exact hj),List.getElem?_replicate] at e
       split at e <;> cases e
      ·rw[List.getElem?_append_right (by rw[List.length_replicate];omega),List.length_replicate] at e
       rw[List.getElem?_append_right (by omega),eow]
       exact e
    refine⟨m',hm,i+1,zs,H7,J7.unpinned,T.keep _ _ _ st5 fun b hb o e=>(I7.pin (b,o) (yYN _ (yYN _ (jI hb e)))).1,fun b hb=>?_,w7⟩
    obtain⟨o,e,d⟩:=T.obj _ _ st5 b hb
    exact(I7.pin (b,o) (yYN _ (yYN _ (jI hb e)))).2.1
   have tst:=ht _ s6 σ6 H6 _ I6 q6
   rw[yenv] at tst
   refine yYW (hPE tst fun b s7 ⟨H7,I7,q7⟩=>?_)
   cases b with
   | false=>exact yYX ⟨rfl,again I7 q7⟩
   | true=>
    have ev:=he _ s7 σ6 H7 _ I7 q7
    rw[yenv] at ev
    refine yYW (yYW (hPE ev fun v s8 ⟨y,H8,I8,r8,q8,z8,w8⟩=>?_))
    refine yYW (hPE (jO (X:=Y) _ s8 σ6 H8 (.ref s2.heap.objs.size) [y] (.ref s2.heap.objs.size) [v] (fun _ H9=>H9=upd H8 s2.heap.objs.size (.lst (ys++[y]))) I8 rfl (.cons r8 .nil) ⟨_,ys,y,rfl,rfl,q8,z8,rfl⟩) fun _ s9 ⟨_,H9,I9,_,e9⟩=>?_)
    subst e9
    exact yYX (yYX ⟨rfl,again I9 w8⟩)
 exact codeAny_compStart_list (loop _ rfl) (T.self _ 0 _ _ _ (T.keep _ _ _ st fun b hb o e=>keep b o (kD b o e)) (loop _ rfl))

theorem qNo {wi:TI}{sc:Scope}{N0:List Str}(hc:X.calm=true)(C:qYk sc N0 scope N k js x)(hi:PI X tg iter wi)
  (hg:∀cl fp s H,PG (cxD X scope cl x N fp s H) tg g) (ht:∀cl fp s H,PTs (cxD X scope cl x N fp s H) ifs tt) (he:∀cl fp s H,PE (cxD X scope cl x N fp s H) elt te)
  (hs:∀v,foldedSetIterable iter X.env v=pure v:=by intro _;rfl) (hsc:X.env.scope=sc:=by rfl) (hN0:X.N=N0:=by rfl):PE X (.ListComp elt [⟨tg,iter,ifs,0⟩] scope cpos) (tComp k js wi g tt te):=by
 subst hsc hN0
 intro pins s σ H Q I h
 obtain⟨cl,e,h1,h2⟩:=wJ (fun p hp hf=>I.ok.has p.1 (C.free p hp hf))
 rw[eval_ListComp]
 refine wpAny_comprehension_free (use:=none) rfl hs e C.kind C.names (thn (hi pins s σ H _ I h) fun v s1 q=>thn q fun itv s2 q2=>?_)
 obtain⟨it,fp,tn,J,H2,rfl,I2,T,st,f2,rd⟩:=q2
 refine qMq (RR:=fun acc L=>compPost (model X.prog X.w) X.A X.xe none (EP X pins σ Q) acc L) hc C h1 h2 (hg cl) (ht cl) (he cl) I2 T st f2 rd ?_
 intro D L H' s' I' ⟨f0,f1,_,f3,f4,f5⟩ ⟨m,hn⟩ q
 refine⟨m,hn,fun h' sb=>⟨.ref D,H',?_,rfl,q⟩⟩
 exact I'.turned (t':=s'.toks) (fun b o hb e=>(sb.2 b hb).trans e) f0 f1 f3 f4 f5

end
end L2

local macro_rules | `(tactic| wtm_at "zh")=>`(tactic| first | assumption | exact L2.qW | (refine L2.qV (by assumption) _ _ _ ?_;wtm_at "zh") | (refine(show L2.Same _ _ by assumption) _ _ ?_;wtm_at "zh"))
local macro_rules | `(tactic| wtm_at "zs")=>`(tactic| first | assumption | exact L2.SqT.of (by wtm_at "zh") | exact L2.SqL.of (by wtm_at "zh") | (refine L2.Same.seq (by assumption) ?_;wtm_at "zs"))
local macro_rules | `(tactic| wtm_at "zo")=>`(tactic| first | exact Or.inl rfl | exact Or.inr rfl)
local macro_rules | `(tactic| wtm_at "zat")=>`(tactic| first | rfl | assumption | exact L2.qYz _ _ | exact FP.at_int (by assumption) | exact L2.qAc (by assumption))
local macro_rules | `(tactic| wtm_at "zw")=>`(tactic| repeat first
 | (with_reducible first | apply L2.xJg | apply L2.xYk | apply L2.w_c | apply L2.xQj | apply L2.w_op | apply L2.w_I0 | apply L2.qUn | apply L2.w_B | apply L2.w_bl | apply L2.xYz | apply L2.w_not | apply L2.w_and | apply L2.w_or | apply L2.xQh | apply L2.xQx | apply L2.w_if | apply L2.xJo | apply L2.xQc | apply L2.xJh | apply L2.xQz | apply L2.xQf | apply L2.xJi | apply L2.xQg | apply L2.w_cb | apply L2.xJf | apply L2.xJl | apply L2.xYj | apply L2.w_bm | apply L2.w_sl | apply L2.qMi | apply L2.xQq | apply L2.xQw | apply L2.qSc | apply L2.qSb | apply L2.xQk | apply L2.qUo | apply L2.xQe | apply L2.xQd)
 | ((with_reducible show L2.tVar _ _ _ _);refine L2.w_var rfl ?_)
 | ((with_reducible show L2.rEq _ _ _ _);refine L2.w_eq rfl ?_)
 | ((with_reducible show L2.rNe _ _ _ _);refine L2.w_ne rfl ?_)
 | ((with_reducible show L2.rIxT _ _ _ _ _);refine L2.xJm (by wtm_at "zs") (by wtm_at "zat") ?_)
 | ((with_reducible show L2.rIxL _ _ _ _ _);refine L2.xJn (by wtm_at "zs") (by wtm_at "zat") ?_)
 | ((with_reducible show L2.gTup _ _ _ _ _ _ _);refine L2.xQv (by wtm_at "zs") rfl ?_)
 | ((with_reducible show L2.rLen _ _ _ _);refine L2.w_len (by first | exact .inl (by wtm_at "zs") | exact .inr (by wtm_at "zs")) ?_)
 | apply L2.qUm (FP.zC _)
 | refine L2.yP (FP.xV (by assumption)) ?_
 | refine L2.yP (FP.xV (by decide +kernel)) ?_
 | (with_reducible first | apply L2.iteT | apply L2.iteF | apply L2.iteNT | apply L2.iteNF))
local macro_rules | `(tactic| wtm_at "zf")=>`(tactic| wtm_at "zw";(with_reducible first | apply L2.xYq | apply L2.qRk);wtm_at "zw")
set_option tactic.hygienic false
namespace FP
open PySem L2
structure Bl (mg:Str→Option Value):Prop where
 len':mg "len" = none
 range':mg "range" = none
 min':mg "min" = none
 isinstance':mg "isinstance" = none
 list':mg "list" = none
 reversed':mg "reversed" = none
 tuple':mg "tuple" = none
 int':mg "int" = none
 bool':mg "bool" = none
 dict':mg "dict" = none
 zip':mg "zip" = none
structure FunE (K:yZO)(mg:Str→Option Value)(x:Str)(f:Addr)(fd:FuncData)(ps:List Str):Prop where
 mg:mg x=some (.ref f)
 kp:PySem.W.keepIn K (.ref f)=true
 bd:Binds K fd ps []
section
seal L2.PE L2.PA L2.PS L2.PSs
variable {P:Program}{w:World}{K:yZO}{mg:Str→Option Value}{base:Heap}

theorem xZq {n:Int}{B:Nat}(h0:0≤n)(h:n<(B:Int)):n.natAbs<B:=by omega
theorem big (n:Int)(h0:0≤n)(h:n<10 ^ 200):n.natAbs<2 ^ 1000:=xZq h0 (Int.lt_of_lt_of_le h (by decide +kernel))
theorem qTw {t u:TT}{σ:St}{H:Hp}{b1 b2:Bool}(h1:∀K:Bool→Hp→Prop,K b1 H→t σ H K)(h2:∀K:Bool→Hp→Prop,K b2 H→u σ H K):∀K:Bool→Hp→Prop,K (b1 || b2) H→tOr t u σ H K:=fun K h=>by
 refine h1 _ ?_
 cases b1 with
 | true=>rw[if_pos rfl];rw[Bool.true_or] at h;exact h
 | false=>rw[if_neg yZK];rw[Bool.false_or] at h;exact h2 _ h

theorem qDx {t u:TT}{σ:St}{H:Hp}{b1 b2:Bool}(h1:∀K:Bool→Hp→Prop,K b1 H→t σ H K)(h2:∀K:Bool→Hp→Prop,K b2 H→u σ H K):∀K:Bool→Hp→Prop,K (b1 && b2) H→tAnd t u σ H K:=fun K h=>by
 refine h1 _ ?_
 cases b1 with
 | true=>rw[if_pos rfl];rw[Bool.true_and] at h;exact h2 _ h
 | false=>rw[if_neg yZK];rw[Bool.false_and] at h;exact h
theorem xH {K:yZO}{a:Addr}{xs:List V}{g:TG}{tb:TS}{D:Ends}{σ:St}{H:Hp}(Pv:Nat→St→Hp→Prop)(h0:Pv 0 σ H)(hl:∀i σ H,i≤xs.length→Pv i σ H→SqL K H a xs)
  (hs:∀(N:St→Hp→Prop) (rt:VK) (bk:St→Hp→Prop) i x σ H,xs[i]? = some x→Pv i σ H→(∀σ H,Pv (i+1) σ H→N σ H)→g x σ H fun σ2 H2=>tb ⟨N,rt,bk,N⟩ σ2 H2) (hd:∀σ H,Pv xs.length σ H→D.nx σ H):
  ∃W:Nat→Nat→St→Hp→Prop,(∃m,W 0 m σ H)∧∀i m σ H,W i m σ H→
   ((Itl K a).stop i H∧D.nx σ H)∨((Itl K a).go i H∧∃N:St→Hp→Prop,(∀σ' H',N σ' H'→∃m',m'<m∧W (i+1) m' σ' H')∧∀x H',(Itl K a).yld i H x H'→g x σ H' fun σ2 H2=>tb { D with nx:=N,ct:=N,bk:=D.nx } σ2 H2):=
 vB Pv h0 hl (fun i x σ H e p=>hs _ _ _ i x σ H e p fun _ _ z=>z) hd
theorem qZj {lo:Int}{n:Nat}{g:TG}{tb:TS}{D:Ends}{σ:St}{H:Hp}(Pv:Nat→St→Hp→Prop)(h0:Pv 0 σ H)
  (hs:∀(N:St→Hp→Prop) (rt:VK) (bk:St→Hp→Prop) i σ H,i<n→Pv i σ H→(∀σ H,Pv (i+1) σ H→N σ H)→g (.int (lo+i)) σ H fun σ2 H2=>tb ⟨N,rt,bk,N⟩ σ2 H2) (hd:∀σ H,Pv n σ H→D.nx σ H):
  ∃W:Nat→Nat→St→Hp→Prop,(∃m,W 0 m σ H)∧∀i m σ H,W i m σ H→
   ((Itr lo n).stop i H∧D.nx σ H)∨((Itr lo n).go i H∧∃N:St→Hp→Prop,(∀σ' H',N σ' H'→∃m',m'<m∧W (i+1) m' σ' H')∧∀x H',(Itr lo n).yld i H x H'→g x σ H' fun σ2 H2=>tb { D with nx:=N,ct:=N,bk:=D.nx } σ2 H2):=
 qIq Pv h0 (fun i σ H e p=>hs _ _ _ i σ H e p fun _ _ z=>z) hd

def cwords:List Str:=["not","and","yes"]
def BoxIn (H:Hp)(b:Str×Int)(u:V):Prop:=∃a,u=.ref a∧H a=some (.tup [.str b.1,.int b.2])
structure Named (ws:List Str):Prop where
 nd:ws.Nodup
 no:∀x∈ws,x∉cwords
theorem BoxIn.mono {H H':Hp}(h:Tups H H'){b:Str×Int}{u:V}(x:BoxIn H b u):BoxIn H' b u:=let ⟨a,e,q⟩:=x;⟨a,e,h _ _ q⟩
theorem xY {H H':Hp}(h:Tups H H'){bs:List (Str×Int)}{us:List V}(p:Paired (BoxIn H) bs us):Paired (BoxIn H') bs us:=Paired.mapP p fun _ _ x=>x.mono h
def Expr' (ws:List Str):Th→Prop
 | .num n=>0≤n∧n<10
 | .box x=>x∈ws
 | .nul _=>False
 | .un _ _=>False
 | .bin k a b=>(k = "plus" ∨ k = "less")∧Expr' ws a∧Expr' ws b
theorem qQc:Th.Op "plus" := ⟨by decide +kernel,by decide +kernel⟩
theorem qQf:Th.Op "less" := ⟨by decide +kernel,by decide +kernel⟩
theorem Expr'.ok {ws:List Str}:∀{t:Th},Expr' ws t→t.Ok
 | .num _,_=>trivial
 | .box _,_=>trivial
 | .nul _,h=>h.elim
 | .un _ _,h=>h.elim
 | .bin k a b,⟨h,ha,hb⟩=>⟨by rcases h with rfl | rfl;exact qQc;exact qQf,Expr'.ok ha,Expr'.ok hb⟩
def Cond' (ws:List Str):Th→Prop
 | .num _=>False
 | .box _=>False
 | .nul k=>k = "yes"
 | .un k a=>k = "not" ∧ Cond' ws a
 | .bin k a b=>((k = "same" ∨ k = "under")∧Expr' ws a∧Expr' ws b)∨(k = "both" ∧ Cond' ws a∧Cond' ws b)
theorem qTa:Th.Op "same" := ⟨by decide +kernel,by decide +kernel⟩
theorem qOq:Th.Op "under" := ⟨by decide +kernel,by decide +kernel⟩
theorem qTe:Th.Op "both" := ⟨by decide +kernel,by decide +kernel⟩
theorem xXe:Th.Op "not" := ⟨by decide +kernel,by decide +kernel⟩
theorem xXd:Th.Op "yes" := ⟨by decide +kernel,by decide +kernel⟩
theorem Cond'.ok {ws:List Str}:∀{t:Th},Cond' ws t→t.Ok
 | .num _,h=>h.elim
 | .box _,h=>h.elim
 | .nul k,h=>by cases(show k = "yes" from h);exact xXd
 | .un k a,⟨h,ha⟩=>⟨by cases h;exact xXe,Cond'.ok ha⟩
 | .bin k a b,h=>by
  rcases h with⟨h,ha,hb⟩ | ⟨h,ha,hb⟩
  ·exact⟨by rcases h with rfl | rfl;exact qTa;exact qOq,ha.ok,hb.ok⟩
  ·exact⟨by cases h;exact qTe,Cond'.ok ha,Cond'.ok hb⟩

structure Dq (H:Hp)(dk na:Addr):Prop where
 ex:∃(ms:List Int) (d:Int),H dk=some (.lst [.ref na,.int d])∧H na=some (.lst (intsV ms))
def Bq (dk na:Addr)(H H':Hp):Prop:=∀b o,b≠dk→b≠na→H b=some o→H' b=some o
section
variable {H H' H2:Hp}{dk na:Addr}
theorem Dq.ne (D:Dq H dk na):dk≠na:=fun e=>by
 obtain⟨ms,d,h1,h2⟩:=D.ex
 subst e
 rw[h1] at h2
 have h3:[V.ref dk,.int d]=intsV ms:=HO.lst.inj (Option.some.inj h2)
 cases ms with
 | nil=>cases h3
 | cons m ms=>
  have:V.ref dk=V.int m:=(List.cons.inj h3).1
  cases this
theorem Dq.same (D:Dq H dk na)(s:Same H H'):Dq H' dk na:=let ⟨ms,d,h1,h2⟩:=D.ex;⟨ms,d,s _ _ h1,s _ _ h2⟩
theorem Bq.refl:Bq dk na H H:=fun _ _ _ _ e=>e
theorem Bq.trans (a:Bq dk na H H')(b:Bq dk na H' H2):Bq dk na H H2:=fun c o n1 n2 e=>b c o n1 n2 (a c o n1 n2 e)
theorem Bq.of (s:Same H H'):Bq dk na H H':=fun _ _ _ _ e=>s _ _ e
theorem Bq.tups (b:Bq dk na H H')(D:Dq H dk na):Tups H H':=fun c xs e=>by
 obtain⟨ms,d,h1,h2⟩:=D.ex
 exact b _ _ (jZ e h1 (by intro z;cases z)) (jZ e h2 (by intro z;cases z)) e
end
theorem qQj:xE ["deck","many","taken"] ["deck","many"] (xA (top 34)):=⟨rfl,rfl,rfl,by decide +kernel,rfl,by decide +kernel,by decide +kernel⟩
def spTake:Sp:=fun vs H Q _=>∃(dk na:Addr) (m:Int),vs=[.ref dk,.int m]∧Dq H dk na∧0<m∧m.natAbs<2 ^ 1000∧∀(x:Int) (H':Hp),0≤x→x<m→Bq dk na H H'→Dq H' dk na→Q (.int x) H'
theorem qUv (F:Fd K mg "_law_take" (top 34) ["deck","many"]):Dn P w K mg base "_law_take" 1 ["deck","many"] spTake:=by
 refine F.ok qQj (fun vs H Q E h=>?_) (fun f cdv A outer s H vs Q E hr h=>?_)
 ·obtain⟨_,_,_,rfl,_⟩:=h
  rfl
 obtain⟨dk,na,m,rfl,D,h0,h1,q⟩:=h
 refine⟨_,(qK (zV (PW.pt (qBe (qR jB (xG (qT (K:=K)) (pv 0) qE (fun _ _=>rfl)) qE (xD _)) (qJz (qR (qWa (K:=K) hr.units) (xG (qT (K:=K)) (pv 0) qE (fun _ _=>rfl)) (xU qX) (xD _))))) (qJ (qO (qGl (K:=K) PySem.F.plainAttrs_list PySem.F.slot_list_pop PySem.F.type_list_pop xZx (xG (qT (K:=K)) (pv 0) qE (fun _ _=>rfl))) (qRe (pv 0) qE qBv))) qY)
  (qZ (qM (i:=2) qQj.nd rfl (by wtm_at "zo") (xQ qQe (xG (qT (K:=K)) (pv 0) qE (fun _ _=>rfl)) (pv 1)))
  (qZ (qO (xQ qOx (xG (qT (K:=K)) (pv 0) qE (fun _ _=>rfl)) (pv 1)) (qRe (pv 0) qE qBv))
  (qJ (qN (pv 2)))))),?_⟩
 refine⟨fun σ' H'=>σ'=[some (.ref dk),some (.int m),none]∧Bq dk na H H'∧Dq H' dk na,?_,?_⟩
 ·obtain⟨ms,d,e1,e2⟩:=D.ex
  wtm_at "zw"
  refine ite2 (fun c=>?_) (fun c=>?_)
  ·wtm_at "zw"
   refine⟨(by show 0≤sizeLine;decide),fun l hl=>?_⟩
   have f1:=qV hl (.lst []) _ _ e1
   have f2:=qV hl (.lst []) _ _ e2
   have S1:Same H (upd H l (.lst [])):=qV hl _
   refine⟨na,l,_,rfl,rfl,SqL.of f2,SqL.of qW,w_bl ?_⟩
   generalize upd H l (.lst [])=H1 at f1 f2 S1
   cases ms with
   | nil=>
    refine iteF ?_
    exact⟨rfl,Bq.of S1,⟨[],d,f1,f2⟩⟩
   | cons m0 ms0=>
    refine iteT ?_
    obtain⟨y,ey⟩:∃y:Int,(intsV (m0::ms0))[(intsV (m0::ms0)).length - 1]? = some (.int y):=by
     have hl:(m0::ms0).length - 1<(m0::ms0).length:=Nat.sub_lt (Nat.succ_pos _) Nat.one_pos
     exact⟨(m0::ms0)[(m0::ms0).length - 1],by rw[zU,yYO,yYA hl];rfl⟩
    have ed:(intsV (m0::ms0)).dropLast=intsV (m0::ms0).dropLast:=(List.map_dropLast ..).symm
    have nn:=D.ne
    wtm_at "zw"
    refine⟨.inl ⟨rfl,_,SqL.of f2⟩,na,_,_,rfl,rfl,f2,ey,?_⟩
    rw[ed]
    have g1:upd H1 na (.lst (intsV (m0::ms0).dropLast)) dk=some (.lst [.ref na,.int d]):=by rw[qA nn];exact f1
    refine⟨_,rfl,dk,[.ref na,.int d],1,1,rfl,rfl,g1,rfl,?_⟩
    refine⟨rfl,fun b o n1 n2 e=>?_,⟨(m0::ms0).dropLast,y,qW,?_⟩⟩
    ·rw[qA n1,qA n2];exact S1 _ _ e
    ·rw[qA (Ne.symm nn)];exact qW
  ·wtm_at "zw"
   exact⟨rfl,Bq.refl,D⟩
 ·rintro σ' H' ⟨rfl,B1,D1⟩
  obtain⟨ms,d,e1,e2⟩:=D1.ex
  have nn:=D1.ne
  wtm_at "zw"
  refine w_I h0 ?_
  wtm_at "zw"
  refine w_I ⟨h0,h1⟩ ?_
  refine⟨_,rfl,dk,[.ref na,.int d],1,1,rfl,rfl,e1,rfl,?_⟩
  wtm_at "zw"
  refine q _ _ (Int.emod_nonneg _ (by omega)) (Int.emod_lt_of_pos _ h0) (B1.trans fun b o n1 _ e=>?_) ⟨ms,_,qW,?_⟩
  ·rw[qA n1];exact e
  ·rw[qA (Ne.symm nn)];exact e2
theorem zX:xE ["script","numbers","k","cell","number","turn","one"] ["script"] (xA (top 33)):=⟨rfl,rfl,rfl,by decide +kernel,rfl,by decide +kernel,by decide +kernel⟩
def spDeck (K:yZO):Sp:=fun vs H Q _=>∃(a:Addr) (ns:List Int),vs=[.ref a]∧SqL K H a (ns.map V.int)∧ns.length≤63∧∀(dk na:Addr) (H':Hp),Same H H'→H dk=none→H na=none→Dq H' dk na→Q (.ref dk) H'
theorem grow {n x:Int}{k:Nat}(h0:0≤n)(h1:n<10 ^ (18+19 * k))(x0:0≤x)(x1:x<2305843009213693951):0≤n * 2305843009213693951+x∧n * 2305843009213693951+x<10 ^ (18+19 * (k+1)):=by
 have e:(10:Int) ^ (18+19 * (k+1))=10 ^ (18+19 * k) * 10 ^ 19:=by rw[← Int.pow_add];congr 1
 have e2:(10:Int) ^ 19=10000000000000000000:=by decide +kernel
 rw[e,e2]
 generalize (10:Int) ^ (18+19 * k)=z at *
 omega
theorem qOl {n:Int}{k:Nat}(hk:k≤5)(h0:0≤n)(h1:n<10 ^ (18+19 * k)):n.natAbs<2 ^ 1000:=
 big _ h0 (Int.lt_of_lt_of_le h1 (by
  have:k=0∨k=1∨k=2∨k=3∨k=4∨k=5:=by omega
  rcases this with rfl | rfl | rfl | rfl | rfl | rfl <;> decide +kernel))
theorem cutI (ns:List Int)(lo hi:Option Int):∀x∈cutV (ns.map V.int) lo hi,∃c:Int,x=.int c:=fun x hx=>by
 obtain⟨c,_,e⟩:=yYP.mp (List.mem_of_mem_drop (List.mem_of_mem_take hx))
 exact⟨c,e.symm⟩
theorem qEn {Q:VK}{H:Hp}{i:Int}(q:∀o:Int,0≤o→o<2305843009213693951→Q (.int o) H):rI (fun _ j=>0<j) (fun i j=>.int (i % j)) (.int i) (.int 2305843009213693951) H Q:=
 w_I (by decide) (q _ (Int.emod_nonneg _ (by decide)) (Int.emod_lt_of_pos _ (by decide)))
theorem xQb {σ:St}{H:Hp}{W:It→Hp→Prop}{ts:TA}(q:ts σ H fun vs H1=>∃l xs,vs=[.ref l]∧SqL K H1 l xs∧W (Ite K l) H1):iEnum K ts σ H W:=q
theorem qUb (F:Fd K mg "_law_deck" (top 33) ["script"])(B:Bl mg)(B_enumerate:mg "enumerate" = none)(B_abs:mg "abs" = none):Dn P w K mg base "_law_deck" 1 ["script"] (spDeck K):=by
 refine F.ok zX (fun vs H Q E h=>?_) (fun f cdv A outer s H vs Q E hr h=>?_)
 ·obtain⟨_,_,rfl,_⟩:=h
  rfl
 obtain⟨a,ns,rfl,hS,h63,q⟩:=h
 have pw:∀i j:Int,0≤j→j≤1000→i.natAbs<2 ^ 64→CPow i j:=fun i j x y z=>⟨x,by omega,z⟩
 refine⟨_,(qZ (qM (i:=1) zX.nd rfl (by wtm_at "zo") (xU qX))
  (qZ (xT PassesOwn.never rfl (qNl (K:=K) rfl B_enumerate (qQ (vK (wH (K:=K)) (pv 0) kM (kI qE)) qX)) (zF (K:=K) (n:=2) rfl (qH (qG (i:=2) zX.nd rfl (by wtm_at "zo")) (qH (qG (i:=3) zX.nd rfl (by wtm_at "zo")) qI))) (qZ (qM (i:=4) zX.nd rfl (by wtm_at "zo") (xZ qPn rfl B_abs xJw (qQ (pv 3) qX)))
  (qK (zV (qR qKb (pv 4) (xQ qRf qE qE) (xD _)) (qJ (xT PassesOwn.never rfl (vJ rfl B.range' (qQ qE qX)) (qG (i:=5) zX.nd rfl (by wtm_at "zo")) (qZ (qM (i:=6) zX.nd rfl (by wtm_at "zo") (xQ qQe (xQ yV (xQ yV (xQ yV (pv 4) (xQ qQd qE (pv 2))) (pv 5)) qE) qE))
  (qZ (qM (i:=6) zX.nd rfl (by wtm_at "zo") (xQ qQe (xQ qQd (pv 6) (pv 6)) qE))
  (qJ (qM (i:=4) zX.nd rfl (by wtm_at "zo") (xQ yV (xQ qQd (pv 4) qE) (xQ qQe (xQ qQd (pv 6) qE) qE)))))))) qY)
  (qJ (qP (vV (K:=K) PySem.F.plainAttrs_list PySem.F.slot_list_append PySem.F.type_list_append jO (pv 1) (qQ (pv 4) qX)))))))
  (qZ (qP (qGl (K:=K) PySem.F.plainAttrs_list PySem.F.slot_list_reverse PySem.F.type_list_reverse qDl (pv 1)))
  (qJ (qN (xU (qQ (pv 1) (qQ qE qX)))))))),?_⟩
 wtm_at "zw"
 refine⟨(by show 0≤sizeLine;decide),fun nm hnm=>?_⟩
 wtm_at "zf"
 refine xQb ?_
 wtm_at "zw"
 refine⟨a,_,rfl,(qV hnm _).seq hS,fun sl hsl=>?_⟩
 have nsl:sl≠nm:=Ne.symm (qB qW hsl)
 have cl:=kR (ns.map V.int) none (some 63)
 rw[yYC] at cl
 have ci:=cutI ns none (some 63)
 generalize cutV (ns.map V.int) none (some 63)=cs at cl ci
 have S0:Same H (upd (upd H nm (.lst [])) sl (.lst cs)):=(qV hnm _).trans (qV hsl _)
 wtm_at "zw"
 refine⟨sl,cs,rfl,SqL.of qW,?_⟩
 refine qOm (xs:=cs) (fun i σ' H'=>∃(xs:List Int) (z2 z3 z4 z5 z6:Option V),σ'=[some (.ref a),some (.ref nm),z2,z3,z4,z5,z6]∧Same H H'∧H' nm=some (.lst (intsV xs))∧xs.length=i∧H' sl=some (.lst cs))
  ⟨[],none,none,none,none,none,rfl,S0,qV hsl _ _ _ qW,rfl,qW⟩ (fun i σ' H' _ hP=>?_) (fun N rt bk i x T σ' H' ex hT hP hN=>?_) (fun σ' H' hP=>?_)
 ·obtain⟨xs,z2,z3,z4,z5,z6,rfl,_,_,_,esl⟩:=hP
  exact SqL.of esl
 ·obtain⟨xs,z2,z3,z4,z5,z6,rfl,S1,enm,lx,esl⟩:=hP
  obtain⟨c,rfl⟩:=ci x (yYE ex)
  have i63:i<63:=by have:=(yYB.mp ex).1;omega
  wtm_at "zw"
  refine⟨c,rfl,?_⟩
  have n0:0≤(if c<0 then -c else c):=by split <;> omega
  generalize (if c<0 then -c else c)=n at n0
  have S2:Same H' (upd H' T (.tup [.int (i:Int),.int c])):=qV hT _
  generalize upd H' T (.tup [.int (i:Int),.int c])=H1 at S2
  wtm_at "zw"
  refine⟨fun σ'' H''=>∃(n':Int) (z5 z6:Option V),σ''=[some (.ref a),some (.ref nm),some (.int (i:Int)),some (.int c),some (.int n'),z5,z6]∧H''=H1,?_,?_⟩
  ·wtm_at "zw"
   refine w_I (pw 10 18 (by decide) (by decide) (by decide)) ?_
   wtm_at "zw"
   refine ite2 (fun c'=>?_) (fun c'=>?_)
   ·have n1:n<10 ^ (18+19 * 0):=of_decide_eq_true c'
    wtm_at "zf"
    refine xYx (by decide) (by decide) ?_
    refine qZj (fun j σ'' H''=>∃(n':Int) (z5 z6:Option V),σ''=[some (.ref a),some (.ref nm),some (.int (i:Int)),some (.int c),some (.int n'),z5,z6]∧H''=H1∧0≤n'∧n'<10 ^ (18+19 * j))
     ⟨n,_,_,rfl,rfl,n0,n1⟩ (fun N2 rt2 bk2 j σ'' H'' hj hP hN2=>?_) (fun σ'' H'' hP=>?_)
    ·obtain⟨n',z5,z6,rfl,rfl,m0,m1⟩:=hP
     have hj6:j<6:=hj
     wtm_at "zw"
     refine w_I ⟨by decide +kernel,big _ (by omega) (Int.lt_of_lt_of_le (b:=100) (by omega) (by decide +kernel))⟩ ?_
     wtm_at "zw"
     refine qEn fun o1 a1 b1=>?_
     have bo1:o1.natAbs<2 ^ 1000:=big _ a1 (Int.lt_trans b1 (by decide +kernel))
     wtm_at "zw"
     refine w_I ⟨bo1,bo1⟩ ?_
     wtm_at "zw"
     refine qEn fun o2 a2 b2=>?_
     wtm_at "zw"
     refine w_I ⟨qOl (by omega) m0 m1,by decide +kernel⟩ ?_
     wtm_at "zw"
     refine w_I ⟨big _ a2 (Int.lt_trans b2 (by decide +kernel)),by decide +kernel⟩ ?_
     wtm_at "zw"
     refine qEn fun o3 a3 b3=>?_
     have g:=grow m0 m1 a3 b3
     wtm_at "zw"
     exact hN2 _ _ ⟨_,_,_,rfl,rfl,g.1,g.2⟩
    ·obtain⟨n',z5,z6,rfl,rfl,m0,m1⟩:=hP
     wtm_at "zw"
     exact⟨n',_,_,rfl,rfl⟩
   ·wtm_at "zw"
    exact⟨n,_,_,rfl,rfl⟩
  ·rintro σ'' H'' ⟨n',z5,z6,rfl,rfl⟩
   have enm2:=S2 _ _ enm
   wtm_at "zw"
   refine⟨.inl ⟨rfl,_,SqL.of enm2⟩,?_⟩
   wtm_at "zw"
   refine⟨nm,_,_,rfl,rfl,enm2,by rw[zU];exact small (by omega),?_⟩
   refine hN _ _ ⟨xs++[n'],_,_,_,_,_,rfl,fun b o e=>?_,by rw[qW,kA],by rw[yYI,lx];rfl,?_⟩
   ·rw[qA (qB e hnm)];exact S2 _ _ (S1 _ _ e)
   ·rw[qA nsl];exact S2 _ _ esl
 ·obtain⟨xs,z2,z3,z4,z5,z6,rfl,S1,enm,lx,esl⟩:=hP
  wtm_at "zw"
  refine⟨.inl ⟨rfl,_,SqL.of enm⟩,nm,_,rfl,rfl,enm,?_⟩
  have er:(intsV xs).reverse=intsV xs.reverse:=(List.map_reverse ..).symm
  rw[er]
  wtm_at "zw"
  refine⟨(by show 2≤sizeLine;decide),fun dk hdk=>?_⟩
  have nd:dk≠nm:=Ne.symm (qB qW hdk)
  have hH:H dk=none:=by
   cases e:H dk with
   | none=>rfl
   | some o=>
    have z:=S1 _ _ e
    rw[qA nd,z] at hdk
    cases hdk
  refine q dk nm _ (fun b o e=>?_) hH hnm ⟨xs.reverse,0,qW,?_⟩
  ·rw[qA (qB e hH),qA (qB e hnm)];exact S1 _ _ e
  ·rw[qA (Ne.symm nd)];exact qW

theorem jX:xE ["deck","boxes","deep","kind","one"] ["deck","boxes","deep"] (xA (top 35)):=⟨rfl,rfl,rfl,by decide +kernel,rfl,by decide +kernel,by decide +kernel⟩
structure Bk (H:Hp)(dk na bx:Addr)(bs:List (Str×Int)):Prop where
 deck:Dq H dk na
 boxes:∃us,H bx=some (.lst us)∧Paired (BoxIn H) bs us
 n1:bx≠dk
 n2:bx≠na
 ne:bs≠[]
 le:bs.length≤100
theorem Bk.next {H H':Hp}{dk na bx:Addr}{bs:List (Str×Int)}(k:Bk H dk na bx bs)(b:Bq dk na H H')(D:Dq H' dk na):Bk H' dk na bx bs:=by
 obtain⟨us,e,p⟩:=k.boxes
 exact⟨D,⟨us,b _ _ k.n1 k.n2 e,xY (b.tups k.deck) p⟩,k.n1,k.n2,k.ne,k.le⟩
theorem Bk.same {H H':Hp}{dk na bx:Addr}{bs:List (Str×Int)}(k:Bk H dk na bx bs)(s:Same H H'):Bk H' dk na bx bs:=k.next (Bq.of s) (k.deck.same s)
def spExpr (n:Nat):Sp:=fun vs H Q _=>∃(dk na bx:Addr) (bs:List (Str×Int)) (dp:Int),vs=[.ref dk,.ref bx,.int dp]∧Bk H dk na bx bs∧0≤dp∧dp<n∧
 ∀(t:Th) (v:V) (H':Hp),Bq dk na H H'→Dq H' dk na→t.At H' v→Expr' (bs.map (·.1)) t→t.dep≤dp.toNat+1→Q v H'
theorem xJa {H:Hp}{bs:List (Str×Int)}{us:List V}(p:Paired (BoxIn H) bs us){i:Int}(h0:0≤i)(h1:i<us.length):∃(b:Str×Int) (a:Addr),b.1∈bs.map (·.1)∧atI us i=some (.ref a)∧H a=some (.tup [.str b.1,.int b.2]):=by
 have e:i=((i.toNat:Nat):Int):=by omega
 have hk:i.toNat<us.length:=by omega
 have hk2:i.toNat<bs.length:=by rw[p.length];exact hk
 obtain⟨a,ea,ha⟩:=xK p (yYA hk2) (yYA hk)
 refine⟨bs[i.toNat],a,yYP.mpr ⟨_,List.getElem_mem hk2,rfl⟩,?_,ha⟩
 rw[e]
 exact qAc (by rw[yYA hk,ea])
theorem xXc {k:Int}(h0:0≤k)(h1:k<2):∃op:Str,(op = "plus" ∨ op = "less")∧atI [V.str "plus",V.str "less"] k=some (.str op):=by
 have:k=0∨k=1:=by omega
 rcases this with e | e
 ·exact⟨"plus",.inl rfl,by rw[e];rfl⟩
 ·exact⟨"less",.inr rfl,by rw[e];rfl⟩
theorem qPa {n:Nat}(F:Fd K mg "_law_expression" (top 35) ["deck","boxes","deep"])(B:Bl mg)(D_law_expression:Dn P w K mg base "_law_expression" (n+1) ["deck","boxes","deep"] (spExpr n))(D_law_take:Dn P w K mg base "_law_take" 1 ["deck","many"] spTake):
  Dn P w K mg base "_law_expression" (n+2) ["deck","boxes","deep"] (spExpr (n+1)):=by
 refine F.ok jX (fun vs H Q E h=>?_) (fun f cdv A outer s H vs Q E hr h=>?_)
 ·obtain⟨_,_,_,_,_,rfl,_⟩:=h
  rfl
 obtain⟨dk,na,bx,bs,dp,rfl,k0,h0,h1,q⟩:=h
 refine⟨_,(qZ (qM (i:=3) jX.nd rfl (by wtm_at "zo") (qD D_law_take hr (qQ (pv 0) (qQ qE qX))))
  (qZ (zV (qR qKb (pv 3) qE (xD _)) (qJ (qN (jA (qQ qF (qQ (qD D_law_take hr (qQ (pv 0) (qQ qE qX))) qX))))) qY)
  (qZ (zV (PW.pt (qKx (qR qKb (pv 3) qE (xD _)) (qKq (qR jB (pv 2) qE (xD _))))) (qJ (qN (jA (qQ qF (qQ (xG (qS (K:=K)) (xG (qT (K:=K)) (pv 1) (qD D_law_take hr (qQ (pv 0) (qQ (xZ (yW (K:=K)) rfl B.len' qXw (qQ (pv 1) qX)) qX))) (fun _ _=>rfl)) qE (fun _ _=>rfl)) qX))))) qY)
  (qZ (qM (i:=4) jX.nd rfl (by wtm_at "zo") (qD D_law_expression hr (qQ (pv 0) (qQ (pv 1) (qQ (xQ wV (pv 2) qE) qX)))))
  (qJ (qN (jA (qQ (xG (qT (K:=K)) (xU (qQ qF (qQ qF qX))) (xQ wV (pv 3) qE) (fun _ _=>rfl)) (qQ (pv 4) (qQ (qD D_law_expression hr (qQ (pv 0) (qQ (pv 1) (qQ (xQ wV (pv 2) qE) qX)))) qX)))))))))),?_⟩
 wtm_at "zw"
 refine⟨dk,na,_,rfl,k0.deck,by decide,by decide +kernel,fun kd H1 hk0 hk1 B1 D1=>?_⟩
 have k1:=k0.next B1 D1
 wtm_at "zw"
 refine ite2 (fun _=>?_) (fun c0=>?_)
 ·wtm_at "zw"
  refine⟨dk,na,10,rfl,D1,by decide,by decide +kernel,fun x H2 hx0 hx1 B2 D2=>?_⟩
  wtm_at "zw"
  refine⟨(by show 2≤sizeLine;decide),fun t ht=>?_⟩
  exact q (.num x) (.ref t) _ (B1.trans (B2.trans (Bq.of (qV ht _)))) (D2.same (qV ht _)) ⟨t,rfl,qW⟩ ⟨hx0,hx1⟩ (by show 1≤_;omega)
 show tOr (tTest (tOp (rI0 fun i j=>.bl (decide (i<j))) (tVar 3) (tC (.int 4)))) (tTest (tOp rEq (tVar 2) (tC (.int 0)))) _ _ _
 refine qTw (b1:=decide (kd<4)) (b2:=decide (V.int dp=V.int 0)) (fun K h=>⟨_,rfl,_,_,rfl,rfl,_,rfl,h⟩) (fun K h=>⟨_,rfl,rfl,_,rfl,h⟩) _ ?_
 refine ite2 (fun _=>?_) (fun c=>?_)
 ·obtain⟨us,eu,pu⟩:=k1.boxes
  have ul:=pu.length
  have bl:=List.length_pos_iff.mpr k1.ne
  have ble:=k1.le
  wtm_at "zw"
  refine⟨dk,na,_,rfl,D1,by omega,big _ (by omega) (Int.lt_of_le_of_lt (b:=100) (by omega) (by decide +kernel)),fun x H2 hx0 hx1 B2 D2=>?_⟩
  obtain⟨us2,eu2,pu2⟩:=(k1.next B2 D2).boxes
  have e12:us2=us:=by
   have:=B2 _ _ k1.n1 k1.n2 eu
   rw[eu2] at this
   exact HO.lst.inj (Option.some.inj this)
  subst e12
  obtain⟨b,ba,hb,ea,hba⟩:=xJa pu2 hx0 hx1
  wtm_at "zw"
  refine⟨(by show 2≤sizeLine;decide),fun t ht=>?_⟩
  exact q (.box b.1) (.ref t) _ (B1.trans (B2.trans (Bq.of (qV ht _)))) (D2.same (qV ht _)) ⟨t,rfl,qW⟩ hb (by show 1≤_;omega)
 have c1:¬(V.int dp=V.int 0):=fun z=>c (by rw[decide_eq_true z,Bool.or_true])
 have c2:¬kd<4:=fun z=>c (by rw[decide_eq_true z];rfl)
 have dp1:dp≠0:=fun z=>c1 (by rw[z])
 wtm_at "zw"
 refine⟨dk,na,bx,bs,dp - 1,rfl,k1,by omega,by omega,fun t1 v1 H2 B2 D2 a1 x1 d1=>?_⟩
 have k2:=k1.next B2 D2
 wtm_at "zw"
 refine⟨(by show 2≤sizeLine;decide),fun l hl=>?_⟩
 have S3:Same H2 (upd H2 l (.lst [.str "plus",.str "less"])):=qV hl _
 obtain⟨op,hop,eop⟩:=xXc (k:=kd - 4) (by omega) (by omega)
 wtm_at "zw"
 generalize upd H2 l (.lst [.str "plus",.str "less"])=H3 at S3
 refine⟨dk,na,bx,bs,dp - 1,rfl,k2.same S3,by omega,by omega,fun t2 v2 H4 B4 D4 a2 x2 d2=>?_⟩
 wtm_at "zw"
 refine⟨(by show 3≤sizeLine;decide),fun t ht=>?_⟩
 have B24:Bq dk na H2 (upd H4 t (.tup [.str op,v1,v2])):=(Bq.of S3).trans (B4.trans (Bq.of (qV ht _)))
 refine q (.bin op t1 t2) (.ref t) _ (B1.trans (B2.trans B24)) (D4.same (qV ht _)) ⟨t,v1,v2,rfl,qW,a1.mono (B24.tups D2),a2.mono (qC (qV ht _))⟩ ⟨hop,x1,x2⟩ ?_
 show max t1.dep t2.dep+1≤_
 omega
theorem qAz (F:Fd K mg "_law_expression" (top 35) ["deck","boxes","deep"])(B:Bl mg)(D_law_take:Dn P w K mg base "_law_take" 1 ["deck","many"] spTake):∀n:Nat,Dn P w K mg base "_law_expression" (n+1) ["deck","boxes","deep"] (spExpr n)
 | 0=>F.never fun vs H Q E h=>by
  obtain⟨_,_,_,_,dp,_,_,h1,h2,_⟩:=h
  omega
 | n+1=>qPa F B (qAz F B D_law_take n) D_law_take

theorem zH:xE ["deck","boxes","deep","kind","one"] ["deck","boxes","deep"] (xA (top 36)):=⟨rfl,rfl,rfl,by decide +kernel,rfl,by decide +kernel,by decide +kernel⟩
def spCond (n:Nat):Sp:=fun vs H Q _=>∃(dk na bx:Addr) (bs:List (Str×Int)) (dp:Int),vs=[.ref dk,.ref bx,.int dp]∧Bk H dk na bx bs∧0≤dp∧dp<n∧
 ∀(t:Th) (v:V) (H':Hp),Bq dk na H H'→Dq H' dk na→t.At H' v→Cond' (bs.map (·.1)) t→t.dep≤dp.toNat+3→Q v H'
theorem xXk {k:Int}(h0:0≤k)(h1:k<2):∃op:Str,(op = "same" ∨ op = "under")∧atI [V.str "same",V.str "under"] k=some (.str op):=by
 have:k=0∨k=1:=by omega
 rcases this with e | e
 ·exact⟨"same",.inl rfl,by rw[e];rfl⟩
 ·exact⟨"under",.inr rfl,by rw[e];rfl⟩
theorem qPc {n:Nat}(F:Fd K mg "_law_condition" (top 36) ["deck","boxes","deep"])(B:Bl mg)(D_law_condition:Dn P w K mg base "_law_condition" (n+3) ["deck","boxes","deep"] (spCond n))(D_law_expression:Dn P w K mg base "_law_expression" 3 ["deck","boxes","deep"] (spExpr 2))
  (D_law_take:Dn P w K mg base "_law_take" 1 ["deck","many"] spTake):Dn P w K mg base "_law_condition" (n+4) ["deck","boxes","deep"] (spCond (n+1)):=by
 refine F.ok zH (fun vs H Q E h=>?_) (fun f cdv A outer s H vs Q E hr h=>?_)
 ·obtain⟨_,_,_,_,_,rfl,_⟩:=h
  rfl
 obtain⟨dk,na,bx,bs,dp,rfl,k0,h0,h1,q⟩:=h
 refine⟨_,(qZ (qM (i:=3) zH.nd rfl (by wtm_at "zo") (qD D_law_take hr (qQ (pv 0) (qQ qE qX))))
  (qZ (zV (qR jB (pv 3) qE (xD _)) (qJ (qN (jA (qQ qF qX)))) qY)
  (qZ (zV (PW.pt (qBe (qR jB (pv 3) qE (xD _)) (qJz (qR qTb (pv 2) qE (xD _))))) (qJ (qN (jA (qQ qF (qQ (qD D_law_condition hr (qQ (pv 0) (qQ (pv 1) (qQ (xQ wV (pv 2) qE) qX)))) qX))))) qY)
  (qZ (zV (PW.pt (qBe (qR jB (pv 3) qE (xD _)) (qJz (qR qTb (pv 2) qE (xD _))))) (qZ (qM (i:=4) zH.nd rfl (by wtm_at "zo") (qD D_law_condition hr (qQ (pv 0) (qQ (pv 1) (qQ (xQ wV (pv 2) qE) qX)))))
  (qJ (qN (jA (qQ qF (qQ (pv 4) (qQ (qD D_law_condition hr (qQ (pv 0) (qQ (pv 1) (qQ (xQ wV (pv 2) qE) qX)))) qX))))))) qY)
  (qZ (qM (i:=4) zH.nd rfl (by wtm_at "zo") (qD D_law_expression hr (qQ (pv 0) (qQ (pv 1) (qQ qE qX)))))
  (qJ (qN (jA (qQ (xG (qT (K:=K)) (xU (qQ qF (qQ qF qX))) (xQ qQe (pv 3) qE) (fun _ _=>rfl)) (qQ (pv 4) (qQ (qD D_law_expression hr (qQ (pv 0) (qQ (pv 1) (qQ qE qX)))) qX))))))))))),?_⟩
 wtm_at "zw"
 refine⟨dk,na,_,rfl,k0.deck,by decide,by decide +kernel,fun kd H1 hk0 hk1 B1 D1=>?_⟩
 have k1:=k0.next B1 D1
 wtm_at "zw"
 refine ite2 (fun _=>?_) (fun c0=>?_)
 ·wtm_at "zw"
  refine⟨(by show 1≤sizeLine;decide),fun t ht=>?_⟩
  exact q (.nul "yes") (.ref t) _ (B1.trans (Bq.of (qV ht _))) (D1.same (qV ht _)) ⟨t,rfl,qW⟩ rfl (by show 1≤_;omega)
 show tAnd (tTest (tOp rEq (tVar 3) (tC (.int 1)))) (tTest (tOp (rI0 fun i j=>.bl (decide (i>j))) (tVar 2) (tC (.int 0)))) _ _ _
 refine qDx (b1:=decide (V.int kd=V.int 1)) (b2:=decide (dp>0)) (fun K h=>⟨_,rfl,rfl,_,rfl,h⟩) (fun K h=>⟨_,rfl,_,_,rfl,rfl,_,rfl,h⟩) _ ?_
 refine ite2 (fun c=>?_) (fun c1=>?_)
 ·have c2:dp>0:=of_decide_eq_true (Bool.and_eq_true_iff.mp c).2
  wtm_at "zw"
  refine⟨dk,na,bx,bs,dp - 1,rfl,k1,by omega,by omega,fun t1 v1 H2 B2 D2 a1 x1 d1=>?_⟩
  wtm_at "zw"
  refine⟨(by show 2≤sizeLine;decide),fun t ht=>?_⟩
  refine q (.un "not" t1) (.ref t) _ (B1.trans (B2.trans (Bq.of (qV ht _)))) (D2.same (qV ht _)) ⟨t,v1,rfl,qW,a1.mono (qC (qV ht _))⟩ ⟨rfl,x1⟩ ?_
  show t1.dep+1≤_
  omega
 show tAnd (tTest (tOp rEq (tVar 3) (tC (.int 2)))) (tTest (tOp (rI0 fun i j=>.bl (decide (i>j))) (tVar 2) (tC (.int 0)))) _ _ _
 refine qDx (b1:=decide (V.int kd=V.int 2)) (b2:=decide (dp>0)) (fun K h=>⟨_,rfl,rfl,_,rfl,h⟩) (fun K h=>⟨_,rfl,_,_,rfl,rfl,_,rfl,h⟩) _ ?_
 refine ite2 (fun c=>?_) (fun c1=>?_)
 ·have c2:dp>0:=of_decide_eq_true (Bool.and_eq_true_iff.mp c).2
  wtm_at "zw"
  refine⟨dk,na,bx,bs,dp - 1,rfl,k1,by omega,by omega,fun t1 v1 H2 B2 D2 a1 x1 d1=>?_⟩
  wtm_at "zw"
  refine⟨dk,na,bx,bs,dp - 1,rfl,k1.next B2 D2,by omega,by omega,fun t2 v2 H3 B3 D3 a2 x2 d2=>?_⟩
  wtm_at "zw"
  refine⟨(by show 3≤sizeLine;decide),fun t ht=>?_⟩
  have B23:Bq dk na H2 (upd H3 t (.tup [.str "both",v1,v2])):=B3.trans (Bq.of (qV ht _))
  refine q (.bin "both" t1 t2) (.ref t) _ (B1.trans (B2.trans B23)) (D3.same (qV ht _)) ⟨t,v1,v2,rfl,qW,a1.mono (B23.tups D2),a2.mono (qC (qV ht _))⟩ (.inr ⟨rfl,x1,x2⟩) ?_
  show max t1.dep t2.dep+1≤_
  omega
 wtm_at "zw"
 refine⟨dk,na,bx,bs,1,rfl,k1,by decide,by decide,fun t1 v1 H2 B2 D2 a1 x1 d1=>?_⟩
 have k2:=k1.next B2 D2
 have d1':t1.dep≤2:=d1
 wtm_at "zw"
 refine⟨(by show 2≤sizeLine;decide),fun l hl=>?_⟩
 have S3:Same H2 (upd H2 l (.lst [.str "same",.str "under"])):=qV hl _
 obtain⟨op,hop,eop⟩:=xXk (k:=kd % 2) (by omega) (by omega)
 wtm_at "zw"
 refine w_I (by decide) ?_
 refine⟨l,_,_,.str op,rfl,rfl,SqL.of qW,eop,?_⟩
 generalize upd H2 l (.lst [.str "same",.str "under"])=H3 at S3
 wtm_at "zw"
 refine⟨dk,na,bx,bs,1,rfl,k2.same S3,by decide,by decide,fun t2 v2 H4 B4 D4 a2 x2 d2=>?_⟩
 have d2':t2.dep≤2:=d2
 wtm_at "zw"
 refine⟨(by show 3≤sizeLine;decide),fun t ht=>?_⟩
 have B24:Bq dk na H2 (upd H4 t (.tup [.str op,v1,v2])):=(Bq.of S3).trans (B4.trans (Bq.of (qV ht _)))
 refine q (.bin op t1 t2) (.ref t) _ (B1.trans (B2.trans B24)) (D4.same (qV ht _)) ⟨t,v1,v2,rfl,qW,a1.mono (B24.tups D2),a2.mono (qC (qV ht _))⟩ (.inl ⟨hop,x1,x2⟩) ?_
 show max t1.dep t2.dep+1≤_
 omega
theorem qId (F:Fd K mg "_law_condition" (top 36) ["deck","boxes","deep"])(B:Bl mg)(D_law_expression:Dn P w K mg base "_law_expression" 3 ["deck","boxes","deep"] (spExpr 2))(D_law_take:Dn P w K mg base "_law_take" 1 ["deck","many"] spTake):
  ∀n:Nat,Dn P w K mg base "_law_condition" (n+3) ["deck","boxes","deep"] (spCond n)
 | 0=>F.never fun vs H Q E h=>by
  obtain⟨_,_,_,_,dp,_,_,h1,h2,_⟩:=h
  omega
 | n+1=>qPc F B (qId F B D_law_expression D_law_take n) D_law_expression D_law_take

def Th.worth (ρ:Str→Int):Th→Int
 | .num n=>n
 | .box x=>ρ x
 | .nul _=>0
 | .un _ _=>0
 | .bin k a b=>if k = "plus" then a.worth ρ+b.worth ρ else a.worth ρ - b.worth ρ
theorem xXn:("less" : Str) ≠ "plus" := by decide +kernel
def Env' (kvs:List (Key×V))(ws:List Str)(ρ:Str→Int):Prop:=∀x∈ws,valV kvs (Sum.inr x)=some (.int (ρ x))∧0≤ρ x∧ρ x<10

theorem yB:xE ["expression","values","kind","one","other"] ["expression","values"] (xA (top 4)):=⟨rfl,rfl,rfl,by decide +kernel,rfl,by decide +kernel,by decide +kernel⟩
def jW (n:Nat):Sp:=fun vs H Q _=>∃(t:Th) (v:V) (d:Addr) (kvs:List (Key×V)) (ws:List Str) (ρ:Str→Int),vs=[v,.ref d]∧t.At H v∧Expr' ws t∧t.dep≤n∧H d=some (.dK kvs)∧Env' kvs ws ρ∧Q (.int (t.worth ρ)) H
theorem qKd {f:Addr}{fd:FuncData}:FnOk P w K mg base CX0 1 f fd ["expression","values"] (jW 0):=by
 have no:∀vs H Q E,¬jW 0 vs H Q E:=fun vs H Q E h=>by
  obtain⟨t,_,_,_,_,_,_,_,_,h1,_⟩:=h
  have:=t.dep_pos
  omega
 exact⟨fun vs H Q E h=>absurd h (no vs H Q E),fun A outer s H args us vs Q E _ _ _ _ h=>absurd h (no vs H Q E)⟩
theorem qKc {n:Nat}{f:Addr}{fd:FuncData}(F:Fun K "worth_by" "worth_by" (top 4) f fd)(G_worth_by:FnOk P w K mg base CX0 (n+1) f fd ["expression","values"] (jW n))(E_worth_by:FunE K mg "worth_by" f fd ["expression","values"]):
  FnOk P w K mg base CX0 (n+2) f fd ["expression","values"] (jW (n+1)):=by
 refine F.ok yB (fun vs H Q E h=>?_) (fun cdv A outer s H vs Q E hr h=>?_)
 ·obtain⟨_,_,_,_,_,_,rfl,_⟩:=h
  rfl
 obtain⟨t,v,d,kvs,ws,ρ,rfl,at',ex,hn,hd,env,q⟩:=h
 have hu:=qWm hr
 refine⟨_,(qZ (qM (i:=2) yB.nd rfl (by wtm_at "zo") (xG (qS (K:=K)) (pv 0) qE (fun _ _=>rfl)))
  (qZ (zV (qR jB (pv 2) qF (xD _)) (qJ (qN (xG (qS (K:=K)) (pv 0) qE (fun _ _=>rfl)))) qY)
  (qZ (zV (qR jB (pv 2) qF (xD _)) (qJ (qN (kN hu (pv 1) (xG (qS (K:=K)) (pv 0) qE (fun _ _=>rfl)) (fun _ _=>rfl)))) qY)
  (qZ (qM (i:=3) yB.nd rfl (by wtm_at "zo") (qJa G_worth_by hr rfl E_worth_by.mg E_worth_by.kp E_worth_by.bd .nil pass0 (qQ (xG (qS (K:=K)) (pv 0) qE (fun _ _=>rfl)) (qQ (pv 1) qX))))
  (qZ (qM (i:=4) yB.nd rfl (by wtm_at "zo") (qJa G_worth_by hr rfl E_worth_by.mg E_worth_by.kp E_worth_by.bd .nil pass0 (qQ (xG (qS (K:=K)) (pv 0) qE (fun _ _=>rfl)) (qQ (pv 1) qX))))
  (qJ (qN (qBn (qR jB (pv 2) qF (xD _)) (xQ yV (pv 3) (pv 4)) (xQ wV (pv 3) (pv 4)))))))))),?_⟩
 cases t with
 | nul _=>exact False.elim ex
 | un _ _=>exact False.elim ex
 | num n=>
  obtain⟨a,ev,ea⟩:=at'
  subst ev
  refine⟨_,rfl,a,_,0,.str "number",rfl,rfl,SqT.of ea,rfl,?_⟩
  refine⟨_,rfl,rfl,_,rfl,?_⟩
  rw[zC]
  refine iteT ?_
  exact⟨_,rfl,a,_,1,.int n,rfl,rfl,SqT.of ea,rfl,q⟩
 | box x=>
  obtain⟨a,ev,ea⟩:=at'
  subst ev
  refine⟨_,rfl,a,_,0,.str "box",rfl,rfl,SqT.of ea,rfl,?_⟩
  refine⟨_,rfl,rfl,_,rfl,?_⟩
  rw[xV (Ne.symm xXo)]
  refine iteF ?_
  refine⟨_,rfl,rfl,_,rfl,?_⟩
  rw[zC]
  refine iteT ?_
  refine⟨_,rfl,_,rfl,a,_,1,.str x,rfl,rfl,SqT.of ea,rfl,d,.int (ρ x),rfl,?_,q⟩
  rw[← (env x ex).1]
  exact DGet.k (k:=Sum.inr x) hd
 | bin k t1 t2=>
  obtain⟨a,u1,u2,ev,ea,a1,a2⟩:=at'
  obtain⟨hk,x1,x2⟩:=ex
  subst ev
  have hn':max t1.dep t2.dep+1≤n+1:=hn
  have k1:k ≠ "number" := by rcases hk with rfl | rfl;exact qQc.2;exact qQf.2
  have k2:k ≠ "box" := by rcases hk with rfl | rfl;exact qQc.1;exact qQf.1
  refine⟨_,rfl,a,_,0,.str k,rfl,rfl,SqT.of ea,rfl,?_⟩
  refine⟨_,rfl,rfl,_,rfl,?_⟩
  rw[xV k1]
  refine iteF ?_
  refine⟨_,rfl,rfl,_,rfl,?_⟩
  rw[xV k2]
  refine iteF ?_
  refine⟨_,rfl,a,_,1,u1,rfl,rfl,SqT.of ea,rfl,_,rfl,t1,u1,d,kvs,ws,ρ,rfl,a1,x1,by omega,hd,env,?_⟩
  refine⟨_,rfl,a,_,2,u2,rfl,rfl,SqT.of ea,rfl,_,rfl,t2,u2,d,kvs,ws,ρ,rfl,a2,x2,by omega,hd,env,?_⟩
  refine⟨_,rfl,rfl,_,rfl,?_⟩
  have q':Q (.int (if k = "plus" then t1.worth ρ+t2.worth ρ else t1.worth ρ - t2.worth ρ)) H:=q
  refine ite2 (fun c=>?_) (fun c=>?_)
  ·have c':k = "plus" := by
    have z:=of_decide_eq_true c
    cases z
    rfl
   rw[if_pos c'] at q'
   exact⟨_,rfl,_,rfl,_,_,rfl,rfl,q'⟩
  ·have c':k ≠ "plus" := fun z=>c (by rw[z,zC])
   rw[if_neg c'] at q'
   exact⟨_,rfl,_,rfl,_,_,rfl,rfl,q'⟩
theorem qQg {f:Addr}{fd:FuncData}(F:Fun K "worth_by" "worth_by" (top 4) f fd)(E_worth_by:FunE K mg "worth_by" f fd ["expression","values"]):∀n:Nat,FnOk P w K mg base CX0 (n+1) f fd ["expression","values"] (jW n)
 | 0=>qKd
 | n+1=>qKc F (qQg F E_worth_by n) E_worth_by

theorem qZz {x:Str}:∀(kvs:List (Str×V)) (acc:List (Key×V)),((valV acc (Sum.inr x)).isSome=true∨x∈kvs.map (·.1))→(valV (mergeK acc (pairK kvs)) (Sum.inr x)).isSome=true
 | [],acc,h=>by rcases h with h | h;exact h;cases h
 | (n,v)::kvs,acc,h=>by
  show(valV (mergeK (putK acc (Sum.inr n) v) (pairK kvs)) (Sum.inr x)).isSome=true
  refine qZz kvs _ ?_
  rw[kJ]
  by_cases e:x=n
  ·left;subst e;rw[if_pos rfl];rfl
  ·rw[if_neg (fun z=>e (Sum.inr.inj z))]
   rcases h with h | h
   ·exact .inl h
   ·rcases yYK.mp h with h | h
    ·exact absurd h e
    ·exact .inr h
theorem qKf {Pr:V→Prop}:∀(kvs:List (Str×V)) (acc:List (Key×V)),(∀kv∈kvs,Pr kv.2)→(∀k v,valV acc k=some v→Pr v)→∀k v,valV (mergeK acc (pairK kvs)) k=some v→Pr v
 | [],acc,_,h=>h
 | (n,v)::kvs,acc,hk,h=>by
  show∀k v',valV (mergeK (putK acc (Sum.inr n) v) (pairK kvs)) k=some v'→Pr v'
  refine qKf kvs _ (fun kv hkv=>hk kv (yYH _ hkv)) fun k v' e=>?_
  rw[kJ] at e
  by_cases c:k=Sum.inr n
  ·rw[if_pos c] at e;cases e;exact hk (n,v) yYG
  ·rw[if_neg c] at e;exact h k v' e
def envOf (kvs:List (Key×V))(x:Str):Int:=match valV kvs (Sum.inr x) with
 | some (.int i)=>i
 | _=>0
abbrev kvsOf (bs:List (Str×Int))(vals:List Int):List (Key×V):=mergeK [] (zipK (bs.map (·.1)) (intsV vals))
def Stands (bs:List (Str×Int))(vals:List Int):Prop:=vals.length=bs.length∧∀v∈vals,0≤v∧v<10
theorem qKo {bs:List (Str×Int)}{vals:List Int}(h:Stands bs vals):Env' (kvsOf bs vals) (bs.map (·.1)) (envOf (kvsOf bs vals)):=fun x hx=>by
 have s1:(valV (kvsOf bs vals) (Sum.inr x)).isSome=true:=qZz (x:=x) ((bs.map (fun b:Str×Int=>b.1)).zip (intsV vals)) [] (.inr (by
  rw[List.map_fst_zip]
  ·exact hx
  ·rw[yYC,zU,h.1];exact yZC _))
 have s2:=qKf (Pr:=fun v=>∃i:Int,v=.int i∧0≤i∧i<10) ((bs.map (fun b:Str×Int=>b.1)).zip (intsV vals)) [] (fun kv hkv=>by
  obtain⟨a,b⟩:=kv
  obtain⟨i,hi,e⟩:=yYP.mp (List.of_mem_zip hkv).2
  exact⟨i,e.symm,h.2 i hi⟩) (fun k v e=>by cases e) (Sum.inr x)
 cases e:valV (kvsOf bs vals) (Sum.inr x) with
 | none=>rw[e] at s1;cases s1
 | some v=>
  obtain⟨i,rfl,h0,h1⟩:=s2 v e
  have e2:envOf (kvsOf bs vals) x=i:=by unfold envOf;rw[e]
  rw[e2]
  exact⟨rfl,h0,h1⟩

theorem qZx {σ:St}{H:Hp}{Q:VK}{bx:Addr}{us:List V}{bs:List (Str×Int)}(e1:H bx=some (.lst us))(p1:Paired (BoxIn H) bs us)(hl:bs.length≤1000)
  (q:∀(D:Addr) (H':Hp),Same H H'→H' D=some (.lst (strsV (bs.map (·.1))))→Q (.ref D) H'):
  rdC 2 [] (gTup K 2 (gCons (gName 0) (gCons (gName 1) gNil))) tYes (tVar 0) (Itl K bx) σ H Q:=by
 have lb:us.length=bs.length:=p1.length.symm
 refine zJ (xs:=us) (fun D i ys H'=>ys=strsV ((bs.take i).map (·.1))∧∀b o,H b=some o→H' b=some o) (fun D hD=>⟨rfl,qV hD _⟩)
  (fun D i ys H' _ hP=>(show Same H H' from hP.2).seq (SqL.of e1)) (fun D i x ys H' N hD hDy ex hP hN=>?_) (fun wd ys H2 hD hDy hP=>?_)
 ·obtain⟨rfl,hk⟩:=hP
  obtain⟨b,eb⟩:∃b,bs[i]? = some b:=⟨_,yYA (by rw[← lb];exact(yYB.mp ex).1)⟩
  obtain⟨ba,rfl,hba⟩:=xK p1 eb ex
  refine⟨ba,_,rfl,SqT.of (hk _ _ hba),rfl,_,_,rfl,_,_,rfl,rfl,⟨[some (.str b.1),some (.int b.2)],rfl,rfl⟩,?_⟩
  refine⟨_,rfl,hDy,?_,hN _ _ qW ⟨?_,fun b o e=>?_⟩⟩
  ·rw[xW,yYC,yYF];exact small (by omega)
  ·rw[yYM,eb,yYV,yJ];rfl
  ·rw[qA (qB e hD)];exact hk _ _ e
 obtain⟨rfl,hk2⟩:=hP
 rw[lb,yYJ] at hDy
 exact q wd H2 hk2 hDy
def Fits (bs:List (Str×Int))(vals:List Int):Prop:=vals.length=bs.length∧∀(i:Nat) b v,bs[i]? = some b→vals[i]? = some v→0≤v∧v<b.2
theorem Fits.stands {bs:List (Str×Int)}{vals:List Int}(f:Fits bs vals)(h25:∀b∈bs,2≤b.2∧b.2≤5):Stands bs vals:=⟨f.1,fun v hv=>by
 obtain⟨i,hi⟩:=List.mem_iff_getElem?.mp hv
 have hl:i<bs.length:=by rw[← f.1];exact(yYB.mp hi).1
 have:=f.2 i _ v (yYA hl) hi
 have:=h25 _ (List.getElem_mem hl)
 omega⟩
theorem wX {H H':Hp}{us:List V}(h:∀(j:Nat) x,us[j]? = some x→∃y,x=.ref y):∀(j:Nat) x y,us[j]? = some x→us[j]? = some y→DEq K H' 0 x y:=fun j x y e1 e2=>by
 rw[e1] at e2
 cases e2
 obtain⟨y,rfl⟩:=h j x e1
 exact .same y

theorem wQ:xE ["boxes","standing"] ["boxes","standing"] (xA (top 3)):=⟨rfl,rfl,rfl,by decide +kernel,rfl,by decide +kernel,by decide +kernel⟩
theorem jJ:CompOk (xA (top 3)) ["boxes","standing"] (qFm (argOf (argOf (asgVal (stAt (xB (top 3)) 0)) 0) 0)) ["name","size"] 2 []:=
 ⟨by decide +kernel,by decide +kernel,by decide +kernel,by decide +kernel,by decide +kernel,by decide +kernel,by decide +kernel,by decide +kernel⟩
structure World' (H:Hp)(bx st:Addr)(bs:List (Str×Int))(vals:List Int):Prop where
 boxes:∃us,H bx=some (.lst us)∧Paired (BoxIn H) bs us
 stand:H st=some (.tup (intsV vals))
 ok:Stands bs vals
 le:bs.length≤100
def qZi:Sp:=fun vs H Q _=>∃(bx st:Addr) (bs:List (Str×Int)) (vals:List Int),vs=[.ref bx,.ref st]∧World' H bx st bs vals∧
 ∀(p:Addr) (H':Hp),Same H H'→H' p=some (.dK (kvsOf bs vals))→Q (.ref p) H'
theorem qGo {f:Addr}{fd:FuncData}(F:Fun K "values_by_name" "values_by_name" (top 3) f fd)(B:Bl mg):FnOk P w K mg base CX0 1 f fd ["boxes","standing"] qZi:=by
 refine F.ok wQ (fun vs H Q E h=>?_) (fun cdv A outer s H vs Q E hr h=>?_)
 ·obtain⟨_,_,_,_,rfl,_⟩:=h
  rfl
 obtain⟨bx,st,bs,vals,rfl,W,q⟩:=h
 obtain⟨us,e1,p1⟩:=W.boxes
 refine⟨_,qJ (qN (qWj rfl rfl B.dict' rfl B.zip' (qQ (zT rfl jJ (qGg (pv 0))
  (fun cl fp s H=>show PG _ _ (gTup K 2 (gCons (gName 0) (gCons (gName 1) gNil))) from qRd rfl (qH (qG (i:=0) jJ.nd rfl (Or.inl rfl) (.inr rfl)) (qH (qG (i:=1) jJ.nd rfl (Or.inl rfl) (.inr rfl)) qI)))
  (fun cl fp s H=>zE) (fun cl fp s H=>pv 0)) (qQ (pv 1) qX)))),?_⟩
 refine⟨_,rfl,bx,rfl,⟨us,SqL.of e1⟩,?_⟩
 refine zJ (xs:=us) (fun D i ys H'=>ys=strsV ((bs.take i).map (·.1))∧∀b o,H b=some o→H' b=some o) (fun D hD=>⟨rfl,qV hD _⟩)
  (fun D i ys H' _ hP=>(show Same H H' from hP.2).seq (SqL.of e1)) (fun D i x ys H' N hD hDy ex hP hN=>?_) (fun D ys H2 hD hDy hP=>?_)
 ·obtain⟨rfl,hk⟩:=hP
  obtain⟨b,eb⟩:∃b,bs[i]? = some b:=⟨_,yYA (by rw[p1.length];exact(yYB.mp ex).1)⟩
  obtain⟨ba,rfl,hba⟩:=xK p1 eb ex
  refine⟨ba,_,rfl,SqT.of (hk _ _ hba),rfl,_,_,rfl,_,_,rfl,rfl,⟨[some (.str b.1),some (.int b.2)],rfl,rfl⟩,?_⟩
  have wle:=W.le
  refine⟨_,rfl,hDy,?_,hN _ _ qW ⟨?_,fun b o e=>?_⟩⟩
  ·rw[xW,yYC,yYF];exact small (by omega)
  ·rw[yYM,eb,yYV,yJ];rfl
  ·rw[qA (qB e hD)];exact hk _ _ e
 obtain⟨rfl,hk2⟩:=hP
 have lb:us.length=bs.length:=p1.length.symm
 rw[lb,yYJ] at hDy
 have wle:=W.le
 refine⟨_,rfl,D,st,bs.map (·.1),intsV vals,rfl,SqL.of hDy,SqT.of (hk2 _ _ W.stand),?_,?_,fun p hp=>?_⟩
 ·rw[yYC,zU,W.ok.1]
 ·rw[yYC];omega
 ·exact q p _ ((show Same H H2 from hk2).trans (qV hp _)) qW

def Th.truth (ρ:Str→Int):Th→Bool
 | .num _=>false
 | .box _=>false
 | .nul _=>true
 | .un _ a=>!a.truth ρ
 | .bin k a b=>if k = "both" then a.truth ρ && b.truth ρ else if k = "same" then decide (a.worth ρ=b.worth ρ) else decide (a.worth ρ<b.worth ρ)
theorem qXn {ρ:Str→Int}{a b:Th}:(Th.bin "both" a b).truth ρ=(a.truth ρ && b.truth ρ):=by
 show(if ("both" : Str) = "both" then _ else _)=_
 rw[if_pos rfl]
theorem xYf:("same" : Str) ≠ "both" := by decide +kernel
theorem xYe:("under" : Str) ≠ "both" := by decide +kernel
theorem xXm:("under" : Str) ≠ "same" := by decide +kernel
theorem qXm {ρ:Str→Int}{a b:Th}:(Th.bin "same" a b).truth ρ=decide (a.worth ρ=b.worth ρ):=by
 show(if ("same" : Str) = "both" then _ else if ("same" : Str) = "same" then _ else _)=_
 rw[if_neg xYf,if_pos rfl]
theorem wP {ρ:Str→Int}{a b:Th}:(Th.bin "under" a b).truth ρ=decide (a.worth ρ<b.worth ρ):=by
 show(if ("under" : Str) = "both" then _ else if ("under" : Str) = "same" then _ else _)=_
 rw[if_neg xYe,if_neg xXm]

theorem yC:xE ["condition","values","kind","one","other"] ["condition","values"] (xA (top 5)):=⟨rfl,rfl,rfl,by decide +kernel,rfl,by decide +kernel,by decide +kernel⟩
def vQ (n:Nat):Sp:=fun vs H Q _=>∃(t:Th) (v:V) (d:Addr) (kvs:List (Key×V)) (ws:List Str) (ρ:Str→Int),vs=[v,.ref d]∧t.At H v∧Cond' ws t∧t.dep≤n∧t.dep≤12∧H d=some (.dK kvs)∧Env' kvs ws ρ∧Q (.bl (t.truth ρ)) H
theorem qVq {n:Nat}(F:Fd K mg "holds_by" (top 5) ["condition","values"])(D_holds_by:Dn P w K mg base "holds_by" (n+13) ["condition","values"] (vQ n))(D_worth_by:Dn P w K mg base "worth_by" 13 ["expression","values"] (jW 12)):
  Dn P w K mg base "holds_by" (n+14) ["condition","values"] (vQ (n+1)):=by
 refine F.ok yC (fun vs H Q E h=>?_) (fun f cdv A outer s H vs Q E hr h=>?_)
 ·obtain⟨_,_,_,_,_,_,rfl,_⟩:=h
  rfl
 obtain⟨t,v,d,kvs,ws,ρ,rfl,at',cx,hn,h12,hd,env,q⟩:=h
 refine⟨_,(qZ (qM (i:=2) yC.nd rfl (by wtm_at "zo") (xG (qS (K:=K)) (pv 0) qE (fun _ _=>rfl)))
  (qZ (zV (qR jB (pv 2) qF (xD _)) (qJ (qN qQa)) qY)
  (qZ (zV (qR jB (pv 2) qF (xD _)) (qJ (qN (qGh (qD D_holds_by hr (qQ (xG (qS (K:=K)) (pv 0) qE (fun _ _=>rfl)) (qQ (pv 1) qX)))))) qY)
  (qZ (zV (qR jB (pv 2) qF (xD _)) (qJ (qN (qBo (qD D_holds_by hr (qQ (xG (qS (K:=K)) (pv 0) qE (fun _ _=>rfl)) (qQ (pv 1) qX))) (qBm (qD D_holds_by hr (qQ (xG (qS (K:=K)) (pv 0) qE (fun _ _=>rfl)) (qQ (pv 1) qX))))))) qY)
  (qZ (qM (i:=3) yC.nd rfl (by wtm_at "zo") (qD D_worth_by hr (qQ (xG (qS (K:=K)) (pv 0) qE (fun _ _=>rfl)) (qQ (pv 1) qX))))
  (qZ (qM (i:=4) yC.nd rfl (by wtm_at "zo") (qD D_worth_by hr (qQ (xG (qS (K:=K)) (pv 0) qE (fun _ _=>rfl)) (qQ (pv 1) qX))))
  (qJ (qN (qBn (qR jB (pv 2) qF (xD _)) (jT jB (pv 3) (pv 4) (xD _)) (jT qKb (pv 3) (pv 4) (xD _))))))))))),?_⟩
 match t,at',cx,hn,h12,q with
 | .nul k,⟨a,ev,ea⟩,cx,hn,h12,q=>
  cases(show k = "yes" from cx)
  subst ev
  wtm_at "zw"
  exact q
 | .un k t1,⟨a,u,ev,ea,a1⟩,⟨hk,c1⟩,hn,h12,q=>
  cases hk
  subst ev
  have hn':t1.dep+1≤n+1:=hn
  have h12':t1.dep+1≤12:=h12
  wtm_at "zw"
  refine⟨t1,u,d,kvs,ws,ρ,rfl,a1,c1,by omega,by omega,hd,env,?_⟩
  wtm_at "zw"
  exact q
 | .bin k t1 t2,⟨a,u1,u2,ev,ea,a1,a2⟩,cx,hn,h12,q=>
  subst ev
  have hn':max t1.dep t2.dep+1≤n+1:=hn
  have h12':max t1.dep t2.dep+1≤12:=h12
  rcases cx with⟨hk,x1,x2⟩ | ⟨hk,c1,c2⟩
  ·have n1:k ≠ "yes" := by rcases hk with rfl | rfl <;> decide +kernel
   have n2:k ≠ "not" := by rcases hk with rfl | rfl <;> decide +kernel
   have n3:k ≠ "both" := by rcases hk with rfl | rfl <;> decide +kernel
   wtm_at "zw"
   refine⟨t1,u1,d,kvs,ws,ρ,rfl,a1,x1,by omega,hd,env,?_⟩
   wtm_at "zw"
   refine⟨t2,u2,d,kvs,ws,ρ,rfl,a2,x2,by omega,hd,env,?_⟩
   rcases hk with rfl | rfl
   ·rw[qXm] at q
    wtm_at "zw"
    have e:decide (V.int (t1.worth ρ)=V.int (t2.worth ρ))=decide (t1.worth ρ=t2.worth ρ):=decide_eq_decide.mpr ⟨fun z=>by injection z,fun z=>by rw[z]⟩
    rw[e]
    exact q
   ·rw[wP] at q
    wtm_at "zw"
    exact q
  ·cases hk
   rw[qXn] at q
   wtm_at "zw"
   refine⟨t1,u1,d,kvs,ws,ρ,rfl,a1,c1,by omega,by omega,hd,env,?_⟩
   wtm_at "zw"
   cases e1:t1.truth ρ with
   | false=>
    rw[e1,Bool.false_and] at q
    refine iteF ?_
    exact q
   | true=>
    rw[e1,Bool.true_and] at q
    refine iteT ?_
    wtm_at "zw"
    exact⟨t2,u2,d,kvs,ws,ρ,rfl,a2,c2,by omega,by omega,hd,env,q⟩
theorem qXk (F:Fd K mg "holds_by" (top 5) ["condition","values"])(D_worth_by:Dn P w K mg base "worth_by" 13 ["expression","values"] (jW 12)):∀n:Nat,Dn P w K mg base "holds_by" (n+13) ["condition","values"] (vQ n)
 | 0=>F.never fun vs H Q E h=>by
  obtain⟨t,_,_,_,_,_,_,_,_,h1,_⟩:=h
  have:=t.dep_pos
  omega
 | n+1=>qVq F (qXk F D_worth_by n) D_worth_by

theorem qNv:xE ["condition","boxes","standing"] ["condition","boxes","standing"] (xA (top 1)):=⟨rfl,rfl,rfl,by decide +kernel,rfl,by decide +kernel,by decide +kernel⟩
def qVo:Sp:=fun vs H Q _=>∃(t:Th) (v:V) (bx st:Addr) (bs:List (Str×Int)) (vals:List Int),vs=[v,.ref bx,.ref st]∧t.At H v∧Cond' (bs.map (·.1)) t∧t.dep≤12∧World' H bx st bs vals∧
 ∀H',Same H H'→Q (.bl (t.truth (envOf (kvsOf bs vals)))) H'
theorem qPw (F:Fd K mg "holds" (top 1) ["condition","boxes","standing"])(D_holds_by:Dn P w K mg base "holds_by" 25 ["condition","values"] (vQ 12))(D_values_by_name:Dn P w K mg base "values_by_name" 1 ["boxes","standing"] qZi):
  Dn P w K mg base "holds" 26 ["condition","boxes","standing"] qVo:=by
 refine F.ok qNv (fun vs H Q E h=>?_) (fun f cdv A outer s H vs Q E hr h=>?_)
 ·obtain⟨_,_,_,_,_,_,rfl,_⟩:=h
  rfl
 obtain⟨t,v,bx,st,bs,vals,rfl,at',cx,dp,W,q⟩:=h
 refine⟨_,(qJ (qN (qD D_holds_by hr (qQ (pv 0) (qQ (qD D_values_by_name hr (qQ (pv 1) (qQ (pv 2) qX))) qX))))),?_⟩
 wtm_at "zw"
 refine⟨bx,st,bs,vals,rfl,W,fun p H' S e=>?_⟩
 wtm_at "zw"
 exact⟨t,v,p,_,_,_,rfl,at'.mono (qC S),cx,dp,dp,e,qKo W.ok,q H' S⟩

theorem yS:xE ["thing","values","one","other"] ["thing","values"] (xA (top 39)):=⟨rfl,rfl,rfl,by decide +kernel,rfl,by decide +kernel,by decide +kernel⟩
def spLW (n:Nat):Sp:=fun vs H Q _=>∃(t:Th) (v:V) (d:Addr) (kvs:List (Key×V)) (ws:List Str) (ρ:Str→Int),vs=[v,.ref d]∧t.At H v∧Expr' ws t∧t.dep≤n∧H d=some (.dK kvs)∧Env' kvs ws ρ∧∀H',Same H H'→Q (.int (t.worth ρ)) H'
theorem qDj {ρ:Str→Int}{a b:Th}:(Th.bin "plus" a b).worth ρ=a.worth ρ+b.worth ρ:=by
 show(if ("plus" : Str) = "plus" then _ else _)=_
 rw[if_pos rfl]
theorem qDk {ρ:Str→Int}{a b:Th}:(Th.bin "less" a b).worth ρ=a.worth ρ - b.worth ρ:=by
 show(if ("less" : Str) = "plus" then _ else _)=_
 rw[if_neg xXn]
theorem xZo {n:Nat}(F:Fd K mg "_law_worth" (top 39) ["thing","values"])(B:Bl mg)(D_law_worth:Dn P w K mg base "_law_worth" (n+1) ["thing","values"] (spLW n)):Dn P w K mg base "_law_worth" (n+2) ["thing","values"] (spLW (n+1)):=by
 refine F.ok yS (fun vs H Q E h=>?_) (fun f cdv A outer s H vs Q E hr h=>?_)
 ·obtain⟨_,_,_,_,_,_,rfl,_⟩:=h
  rfl
 obtain⟨t,v,d,kvs,ws,ρ,rfl,at',ex,hn,hd,env,q⟩:=h
 have hu:=qWm hr
 refine⟨_,(qZ (zV (qR jB (xG (qS (K:=K)) (pv 0) qE (fun _ _=>rfl)) qF (xD _)) (qJ (qN (xG (qS (K:=K)) (pv 0) qE (fun _ _=>rfl)))) qY)
  (qZ (zV (qR jB (xG (qS (K:=K)) (pv 0) qE (fun _ _=>rfl)) qF (xD _)) (qJ (qN (kN hu (pv 1) (xG (qS (K:=K)) (pv 0) qE (fun _ _=>rfl)) (fun _ _=>rfl)))) qY)
  (qZ (qM (i:=2) yS.nd rfl (by wtm_at "zo") (qD D_law_worth hr (qQ (xG (qS (K:=K)) (pv 0) qE (fun _ _=>rfl)) (qQ (pv 1) qX))))
  (qZ (qM (i:=3) yS.nd rfl (by wtm_at "zo") (qD D_law_worth hr (qQ (xG (qS (K:=K)) (pv 0) qE (fun _ _=>rfl)) (qQ (pv 1) qX))))
  (qJ (qN (xG (qT (K:=K)) (xU (qQ (xQ yV (pv 2) (pv 3)) (qQ (xQ wV (pv 2) (pv 3)) qX))) (xX qVw rfl B.int' qMa (qQ (jT jB (xG (qS (K:=K)) (pv 0) qE (fun _ _=>rfl)) qF (xD _)) qX)) (fun _ _=>rfl)))))))),?_⟩
 cases t with
 | nul _=>exact False.elim ex
 | un _ _=>exact False.elim ex
 | num n=>
  obtain⟨a,ev,ea⟩:=at'
  subst ev
  wtm_at "zw"
  exact q H (Same.refl _)
 | box x=>
  obtain⟨a,ev,ea⟩:=at'
  subst ev
  wtm_at "zw"
  refine⟨d,.int (ρ x),rfl,?_,q H (Same.refl _)⟩
  rw[← (env x ex).1]
  exact DGet.k (k:=Sum.inr x) hd
 | bin k t1 t2=>
  obtain⟨a,u1,u2,ev,ea,a1,a2⟩:=at'
  obtain⟨hk,x1,x2⟩:=ex
  subst ev
  have hn':max t1.dep t2.dep+1≤n+1:=hn
  have k1:k ≠ "number" := by rcases hk with rfl | rfl;exact qQc.2;exact qQf.2
  have k2:k ≠ "box" := by rcases hk with rfl | rfl;exact qQc.1;exact qQf.1
  wtm_at "zw"
  refine⟨t1,u1,d,kvs,ws,ρ,rfl,a1,x1,by omega,hd,env,fun H1 S1=>?_⟩
  wtm_at "zw"
  refine⟨t2,u2,d,kvs,ws,ρ,rfl,a2.mono (qC S1),x2,by omega,S1 _ _ hd,env,fun H2 S2=>?_⟩
  wtm_at "zw"
  refine⟨(by show 2≤sizeLine;decide),fun l hl=>?_⟩
  wtm_at "zw"
  refine .inr ⟨_,rfl,?_⟩
  have S3:Same H (upd H2 l (.lst [.int (t1.worth ρ+t2.worth ρ),.int (t1.worth ρ - t2.worth ρ)])):=S1.trans (S2.trans (qV hl _))
  rcases hk with rfl | rfl
  ·rw[qDj] at q
   rw[xV (Ne.symm xXn)]
   wtm_at "zw"
   exact q _ S3
  ·rw[qDk] at q
   rw[zC]
   wtm_at "zw"
   exact q _ S3
theorem xJq (F:Fd K mg "_law_worth" (top 39) ["thing","values"])(B:Bl mg):∀n:Nat,Dn P w K mg base "_law_worth" (n+1) ["thing","values"] (spLW n)
 | 0=>F.never fun vs H Q E h=>by
  obtain⟨t,_,_,_,_,_,_,_,_,h1,_⟩:=h
  have:=t.dep_pos
  omega
 | n+1=>xZo F B (xJq F B n)
theorem yT:xE ["thing","values","one","other"] ["thing","values"] (xA (top 40)):=⟨rfl,rfl,rfl,by decide +kernel,rfl,by decide +kernel,by decide +kernel⟩
def spLH (n:Nat):Sp:=fun vs H Q _=>∃(t:Th) (v:V) (d:Addr) (kvs:List (Key×V)) (ws:List Str) (ρ:Str→Int),vs=[v,.ref d]∧t.At H v∧Cond' ws t∧t.dep≤n∧t.dep≤12∧H d=some (.dK kvs)∧Env' kvs ws ρ∧∀H',Same H H'→Q (.bl (t.truth ρ)) H'
theorem xJx {n:Nat}(F:Fd K mg "_law_holds" (top 40) ["thing","values"])(B:Bl mg)(D_law_holds:Dn P w K mg base "_law_holds" (n+13) ["thing","values"] (spLH n))(D_law_worth:Dn P w K mg base "_law_worth" 13 ["thing","values"] (spLW 12)):
  Dn P w K mg base "_law_holds" (n+14) ["thing","values"] (spLH (n+1)):=by
 refine F.ok yT (fun vs H Q E h=>?_) (fun f cdv A outer s H vs Q E hr h=>?_)
 ·obtain⟨_,_,_,_,_,_,rfl,_⟩:=h
  rfl
 obtain⟨t,v,d,kvs,ws,ρ,rfl,at',cx,hn,h12,hd,env,q⟩:=h
 refine⟨_,(qZ (zV (qR jB (xG (qS (K:=K)) (pv 0) qE (fun _ _=>rfl)) qF (xD _)) (qJ (qN qQa)) qY)
  (qZ (zV (qR jB (xG (qS (K:=K)) (pv 0) qE (fun _ _=>rfl)) qF (xD _)) (qJ (qN (qGh (qD D_law_holds hr (qQ (xG (qS (K:=K)) (pv 0) qE (fun _ _=>rfl)) (qQ (pv 1) qX)))))) qY)
  (qZ (zV (qR jB (xG (qS (K:=K)) (pv 0) qE (fun _ _=>rfl)) qF (xD _)) (qJ (qN (qBo (qD D_law_holds hr (qQ (xG (qS (K:=K)) (pv 0) qE (fun _ _=>rfl)) (qQ (pv 1) qX))) (qBm (qD D_law_holds hr (qQ (xG (qS (K:=K)) (pv 0) qE (fun _ _=>rfl)) (qQ (pv 1) qX))))))) qY)
  (qZ (qM (i:=2) yT.nd rfl (by wtm_at "zo") (qD D_law_worth hr (qQ (xG (qS (K:=K)) (pv 0) qE (fun _ _=>rfl)) (qQ (pv 1) qX))))
  (qZ (qM (i:=3) yT.nd rfl (by wtm_at "zo") (qD D_law_worth hr (qQ (xG (qS (K:=K)) (pv 0) qE (fun _ _=>rfl)) (qQ (pv 1) qX))))
  (qJ (qN (xG (qT (K:=K)) (xU (qQ (jT qKb (pv 2) (pv 3) (xD _)) (qQ (jT jB (pv 2) (pv 3) (xD _)) qX))) (xX qVw rfl B.int' qMa (qQ (jT jB (xG (qS (K:=K)) (pv 0) qE (fun _ _=>rfl)) qF (xD _)) qX)) (fun _ _=>rfl))))))))),?_⟩
 match t,at',cx,hn,h12,q with
 | .nul k,⟨a,ev,ea⟩,cx,hn,h12,q=>
  cases(show k = "yes" from cx)
  subst ev
  wtm_at "zw"
  exact q H (Same.refl _)
 | .un k t1,⟨a,u,ev,ea,a1⟩,⟨hk,c1⟩,hn,h12,q=>
  cases hk
  subst ev
  have hn':t1.dep+1≤n+1:=hn
  have h12':t1.dep+1≤12:=h12
  wtm_at "zw"
  refine⟨t1,u,d,kvs,ws,ρ,rfl,a1,c1,by omega,by omega,hd,env,fun H1 S1=>?_⟩
  wtm_at "zw"
  exact q H1 S1
 | .bin k t1 t2,⟨a,u1,u2,ev,ea,a1,a2⟩,cx,hn,h12,q=>
  subst ev
  have hn':max t1.dep t2.dep+1≤n+1:=hn
  have h12':max t1.dep t2.dep+1≤12:=h12
  rcases cx with⟨hk,x1,x2⟩ | ⟨hk,c1,c2⟩
  ·have n1:k ≠ "yes" := by rcases hk with rfl | rfl <;> decide +kernel
   have n2:k ≠ "not" := by rcases hk with rfl | rfl <;> decide +kernel
   have n3:k ≠ "both" := by rcases hk with rfl | rfl <;> decide +kernel
   wtm_at "zw"
   refine⟨t1,u1,d,kvs,ws,ρ,rfl,a1,x1,by omega,hd,env,fun H1 S1=>?_⟩
   wtm_at "zw"
   refine⟨t2,u2,d,kvs,ws,ρ,rfl,a2.mono (qC S1),x2,by omega,S1 _ _ hd,env,fun H2 S2=>?_⟩
   wtm_at "zw"
   refine⟨(by show 2≤sizeLine;decide),fun l hl=>?_⟩
   wtm_at "zw"
   refine .inr ⟨_,rfl,?_⟩
   have S3:Same H (upd H2 l (.lst [.bl (decide (t1.worth ρ<t2.worth ρ)),.bl (decide (V.int (t1.worth ρ)=V.int (t2.worth ρ)))])):=S1.trans (S2.trans (qV hl _))
   rcases hk with rfl | rfl
   ·rw[qXm] at q
    rw[zC]
    wtm_at "zw"
    have e:decide (V.int (t1.worth ρ)=V.int (t2.worth ρ))=decide (t1.worth ρ=t2.worth ρ):=decide_eq_decide.mpr ⟨fun z=>by injection z,fun z=>by rw[z]⟩
    rw[← e] at q
    exact q _ S3
   ·rw[wP] at q
    rw[xV xXm]
    wtm_at "zw"
    exact q _ S3
  ·cases hk
   rw[qXn] at q
   wtm_at "zw"
   refine⟨t1,u1,d,kvs,ws,ρ,rfl,a1,c1,by omega,by omega,hd,env,fun H1 S1=>?_⟩
   wtm_at "zw"
   cases e1:t1.truth ρ with
   | false=>
    rw[e1,Bool.false_and] at q
    refine iteF ?_
    exact q _ S1
   | true=>
    rw[e1,Bool.true_and] at q
    refine iteT ?_
    wtm_at "zw"
    exact⟨t2,u2,d,kvs,ws,ρ,rfl,a2.mono (qC S1),c2,by omega,by omega,S1 _ _ hd,env,fun H2 S2=>q _ (S1.trans S2)⟩
theorem xJz (F:Fd K mg "_law_holds" (top 40) ["thing","values"])(B:Bl mg)(D_law_worth:Dn P w K mg base "_law_worth" 13 ["thing","values"] (spLW 12)):∀n:Nat,Dn P w K mg base "_law_holds" (n+13) ["thing","values"] (spLH n)
 | 0=>F.never fun vs H Q E h=>by
  obtain⟨t,_,_,_,_,_,_,_,_,h1,_⟩:=h
  have:=t.dep_pos
  omega
 | n+1=>xJx F B (xJz F B D_law_worth n) D_law_worth

theorem kH:xE ["thing","names","part"] ["thing"] (xA (top 2)):=⟨rfl,rfl,rfl,by decide +kernel,rfl,by decide +kernel,by decide +kernel⟩
def vT (n:Nat):Sp:=fun vs H Q _=>∃(t:Th) (v:V),vs=[v]∧t.At H v∧t.Ok∧t.dep≤n∧t.dep≤12∧
 ∀(r:Addr) (H':Hp),H r=none→Same H H'→H' r=some (.lst (strsV t.names))→Q (.ref r) H'
theorem qHx {f:Addr}{fd:FuncData}:FnOk P w K mg base CX0 1 f fd ["thing"] (vT 0):=by
 have no:∀vs H Q E,¬vT 0 vs H Q E:=fun vs H Q E h=>by
  obtain⟨t,v,_,_,_,h1,_⟩:=h
  have:=t.dep_pos
  omega
 exact⟨fun vs H Q E h=>absurd h (no vs H Q E),fun A outer s H args us vs Q E _ _ _ _ h=>absurd h (no vs H Q E)⟩
theorem qHq {n:Nat}{f:Addr}{fd:FuncData}(F:Fun K "names_in" "names_in" (top 2) f fd)(G_names_in:FnOk P w K mg base CX0 (n+1) f fd ["thing"] (vT n))(E_names_in:FunE K mg "names_in" f fd ["thing"]):
  FnOk P w K mg base CX0 (n+2) f fd ["thing"] (vT (n+1)):=by
 refine F.ok kH (fun vs H Q E h=>?_) (fun cdv A outer s H vs Q E hr h=>?_)
 ·obtain⟨_,_,rfl,_⟩:=h
  rfl
 obtain⟨t,v,rfl,at',ok,hn,h12,q⟩:=h
 refine⟨_,(qZ (zV (qR jB (xG (qS (K:=K)) (pv 0) qE (fun _ _=>rfl)) qF (xD _)) (qJ (qN (xU (qQ (xG (qS (K:=K)) (pv 0) qE (fun _ _=>rfl)) qX)))) qY)
  (qZ (qM (i:=1) kH.nd rfl (by wtm_at "zo") (xU qX))
  (qZ (zV (qR xXg (xG (qS (K:=K)) (pv 0) qE (fun _ _=>rfl)) qF (xD _)) (qJ (xT PassesOwn.never rfl (qGf (K:=K) (vK (qSg (K:=K)) (pv 0) (kI qE) kM)) (qG (i:=2) kH.nd rfl (by wtm_at "zo")) (qJ (qP (vV (K:=K) PySem.F.plainAttrs_list PySem.F.slot_list_extend PySem.F.type_list_extend qQl (pv 1) (qQ (qJa G_names_in hr rfl E_names_in.mg E_names_in.kp E_names_in.bd .nil pass0 (qQ (pv 2) qX)) qX)))))) qY)
  (qJ (qN (pv 1)))))),?_⟩
 cases view at' ok with
 | box a x et ev ea=>
  subst et ev
  refine⟨_,rfl,a,_,0,.str "box",rfl,rfl,SqT.of ea,rfl,rfl,_,rfl,?_⟩
  rw[zC]
  refine iteT ?_
  refine⟨_,rfl,a,_,1,.str x,rfl,rfl,SqT.of ea,rfl,(by show 1≤sizeLine;decide),fun r hr'=>?_⟩
  exact q r _ hr' (qV hr' _) qW
 | num a x et ev ea=>
  subst et ev
  refine⟨_,rfl,a,_,0,.str "number",rfl,rfl,SqT.of ea,rfl,rfl,_,rfl,?_⟩
  rw[xV xXo]
  refine iteF ?_
  refine⟨(by show 0≤sizeLine;decide),fun r hr'=>?_⟩
  have ea':upd H r (.lst []) a=some (.tup [.str "number",.int x]):=by rw[qA (qB ea hr')];exact ea
  refine⟨_,rfl,a,_,0,.str "number",rfl,rfl,SqT.of ea',rfl,rfl,_,rfl,?_⟩
  rw[zC]
  refine iteF ?_
  exact⟨_,rfl,q r _ hr' (qV hr' _) qW⟩
 | op a k us ts ev ea hk hl hl2 kids en ec=>
  subst ev
  refine⟨_,rfl,a,_,0,.str k,rfl,rfl,SqT.of ea,qYz _ _,rfl,_,rfl,?_⟩
  rw[xV hk.1]
  refine iteF ?_
  refine⟨(by show 0≤sizeLine;decide),fun r hr'=>?_⟩
  have ea':upd H r (.lst []) a=some (.tup (.str k::us)):=by rw[qA (qB ea hr')];exact ea
  refine⟨_,rfl,a,_,0,.str k,rfl,rfl,SqT.of ea',qYz _ _,rfl,_,rfl,?_⟩
  rw[xV hk.2]
  refine iteT ?_
  refine⟨_,rfl,1,rfl,a,_,rfl,SqT.of ea',notwhole _ _,fun p hp=>?_⟩
  rw[cut1]
  have pr:p≠r:=fun z=>by subst z;rw[qW] at hp;cases hp
  have S2:But r H (upd (upd H r (.lst [])) p (.tup us)):=But.upd.trans (qV hp _).but
  have er2:upd (upd H r (.lst [])) p (.tup us) r=some (.lst []):=by rw[qA (Ne.symm pr)];exact qW
  have ep2:upd (upd H r (.lst [])) p (.tup us) p=some (.tup us):=qW
  generalize upd (upd H r (.lst [])) p (.tup us)=H2 at S2 er2 ep2
  have cs:=t.cnt_small h12
  have nl:=t.names_le
  refine⟨p,rfl,⟨us,SqT.of ep2⟩,?_⟩
  refine qUz (xs:=us) (fun i σ' H'=>∃z:Option V,σ'=[some (.ref a),some (.ref r),z]∧But r H2 H'∧H' r=some (.lst (strsV ((ts.take i).flatMap Th.names))))
   ⟨none,rfl,But.refl _,er2⟩ (fun i σ' H' _ hP=>?_) (fun i x σ' H' ex hP=>?_) (fun σ' H' hP=>?_)
  ·obtain⟨z,rfl,hb,_⟩:=hP
   exact SqT.of (hb _ _ pr ep2)
  ·obtain⟨z,rfl,hb,hrr⟩:=hP
   obtain⟨c,ecx⟩:∃c,ts[i]? = some c:=⟨_,yYA (by rw[← hl];exact(yYB.mp ex).1)⟩
   obtain⟨ka,ko,kd⟩:=kids i x c ex ecx
   have T2:Tups H H':=fun b xs e=>hb _ _ (qB e hr') (S2 _ _ (qB e hr') e)
   refine⟨_,rfl,.inl ⟨rfl,_,SqL.of hrr⟩,_,rfl,c,x,rfl,ka.mono T2,ko,by omega,by omega,fun r2 H3 hr2 S3 e3=>?_⟩
   have e3r:=S3 _ _ hrr
   refine⟨r,r2,_,_,rfl,rfl,e3r,e3,?_,?_⟩
   ·have z1:=qYe ecx
    have z2:=take_len (ts:=ts) (i+1)
    rw[z1,← en,yYI] at z2
    rw[xW,xW]
    exact smallE (by omega)
   ·refine⟨_,rfl,hb.trans (S3.but.trans But.upd),?_⟩
    rw[qW,qYe ecx,yJ]
  ·obtain⟨z,rfl,hb,hrr⟩:=hP
   refine⟨_,rfl,q r H' hr' (fun b o e=>hb _ _ (qB e hr') (S2 _ _ (qB e hr') e)) ?_⟩
   rw[hrr,hl,yYJ,en]
theorem qCz {f:Addr}{fd:FuncData}(F:Fun K "names_in" "names_in" (top 2) f fd)(E_names_in:FunE K mg "names_in" f fd ["thing"]):∀n:Nat,FnOk P w K mg base CX0 (n+1) f fd ["thing"] (vT n)
 | 0=>qHx
 | n+1=>qHq F (qCz F E_names_in n) E_names_in

theorem small2 {n:Nat}(h:n≤100000):n<sizeLine:=yZH h (by decide)
theorem qSf {n:Nat}(h:n≤100000):n≤sizeLine:=Nat.le_of_lt (small2 h)
def rowsBy (acc:List (List Int))(n:Nat):List (List Int):=acc.flatMap fun r=>(List.range n).map fun v=>r++[((v:Nat):Int)]
def allV (bs:List (Str×Int)):List (List Int):=(bs.map fun b=>b.2.toNat).foldl rowsBy [[]]
theorem jE {bs:List (Str×Int)}{i:Nat}{b:Str×Int}(h:bs[i]? = some b):allV (bs.take (i+1))=rowsBy (allV (bs.take i)) b.2.toNat:=by
 unfold allV
 rw[yYM,h,yYV,List.foldl_append]
 rfl
theorem qQk {acc:List (List Int)}{n j:Nat}{r:List Int}(h:acc[j]? = some r):rowsBy (acc.take (j+1)) n=rowsBy (acc.take j) n++(List.range n).map fun v=>r++[((v:Nat):Int)]:=by
 unfold rowsBy
 rw[yYM,h,List.flatMap_append]
 simp
theorem kK (n:Nat):∀acc:List (List Int),(rowsBy acc n).length=acc.length * n
 | []=>by simp[rowsBy]
 | r::acc=>by
  have:=kK n acc
  unfold rowsBy at this ⊢
  rw[List.flatMap_cons,yYI,this,yYC,List.length_range,yYT,Nat.succ_mul]
  omega
theorem yU (acc:List (List Int))(n j:Nat):(rowsBy (acc.take j) n).length≤acc.length * n:=by
 rw[kK,yYF]
 exact Nat.mul_le_mul_right _ (Nat.min_le_right _ _)
theorem kE {bs:List (Str×Int)}(h:∀b∈bs,2≤b.2∧b.2≤5):∀i:Nat,i≤bs.length→(allV (bs.take i)).length≤5 ^ i
 | 0,_=>by simp[allV]
 | i+1,hi=>by
  have hb:bs[i]? = some (bs[i]'(by omega)):=yYA (by omega)
  rw[jE hb,kK,Nat.pow_succ]
  have:=h _ (List.getElem_mem (h:=(by omega:i<bs.length)))
  exact Nat.mul_le_mul (kE h i (by omega)) (by omega)
theorem qDc {n k:Nat}{acc:List (List Int)}(h:∀r∈acc,r.length=k):∀r∈rowsBy acc n,r.length=k+1:=fun r hr=>by
 obtain⟨x,hx,hr⟩:=List.mem_flatMap.mp hr
 obtain⟨v,_,rfl⟩:=yYP.mp hr
 rw[yYI,h x hx];rfl
theorem vO (bs:List (Str×Int)):∀i:Nat,i≤bs.length→∀r∈allV (bs.take i),r.length=i
 | 0,_=>fun r hr=>by simp[allV] at hr;subst hr;rfl
 | i+1,hi=>by
  have hb:bs[i]? = some (bs[i]'(by omega)):=yYA (by omega)
  rw[jE hb]
  exact qDc (vO bs i (by omega))
theorem pow56 {i:Nat}(h:i≤6):5 ^ i≤15625:=yZI (Nat.pow_le_pow_right (by decide) h) (by decide)
theorem qIx {bs:List (Str×Int)}{i:Nat}{b:Str×Int}{r:List Int}{v:Nat}(hb:bs[i]? = some b)(h:Fits (bs.take i) r)(hv:(v:Int)<b.2):Fits (bs.take (i+1)) (r++[((v:Nat):Int)]):=by
 have hl:=h.1
 have hib:i<bs.length:=(yYB.mp hb).1
 have lt:(bs.take i).length=i:=by rw[yYF];omega
 refine⟨by rw[yYM,hb,yYI,yYI,hl];rfl,fun j c x ec ex=>?_⟩
 rw[yYM,hb] at ec
 by_cases hj:j<i
 ·rw[List.getElem?_append_left (by omega)] at ec ex
  exact h.2 j c x ec ex
 ·have hj':j=i:=by
   have:=(yYB.mp ex).1
   rw[yYI,List.length_singleton] at this
   omega
  subst hj'
  rw[List.getElem?_append_right (by omega)] at ec ex
  have e1:j - (bs.take j).length=0:=by omega
  have e2:j - r.length=0:=by omega
  rw[e1] at ec
  rw[e2] at ex
  cases ec;cases ex
  exact⟨by omega,hv⟩
theorem qVh {bs:List (Str×Int)}:∀i:Nat,i≤bs.length→∀r∈allV (bs.take i),Fits (bs.take i) r
 | 0,_=>fun r hr=>by
  simp[allV] at hr
  subst hr
  exact⟨rfl,fun j b v e=>by simp at e⟩
 | i+1,hi=>fun r hr=>by
  have hb:bs[i]? = some (bs[i]'(by omega)):=yYA (by omega)
  rw[jE hb] at hr
  obtain⟨x,hx,hr⟩:=List.mem_flatMap.mp hr
  obtain⟨v,hv,rfl⟩:=yYP.mp hr
  have hv:=List.mem_range.mp hv
  exact qIx hb (qVh i (by omega) x hx) (by omega)
theorem qAe {bs:List (Str×Int)}{r:List Int}(h:r∈allV bs):Fits bs r:=by
 have:=qVh (bs:=bs) bs.length (yZC _) r
 rw[yYJ] at this
 exact this h
def TupIn (H:Hp)(vals:List Int)(u:V):Prop:=∃a,u=.ref a∧H a=some (.tup (intsV vals))
theorem xJ {H H':Hp}(h:Tups H H'){rs:List (List Int)}{us:List V}(p:Paired (TupIn H) rs us):Paired (TupIn H') rs us:=Paired.mapP p fun _ _ x=>let ⟨a,e,q⟩:=x;⟨a,e,h _ _ q⟩
theorem qNb {σ:St}{H:Hp}{Q:VK}{j:Nat}{ra:Addr}{r:List Int}{n:Nat}(era:H ra=some (.tup (intsV r)))(hj:σ.getD j none=some (.ref ra))(hr:r.length≤100)(hn:n≤1000)
  (q:∀(D:Addr) (us:List V) (H':Hp),H D=none→Same H H'→H' D=some (.lst us)→Paired (TupIn H') ((List.range n).map fun v=>r++[((v:Nat):Int)]) us→Q (.ref D) H'):
  rdC 1 [j] (gName 0) tYes (tOp (rCatN K) (tVar 1) (tTup (tCons (tVar 0) tNil))) (Itr 0 n) σ H Q:=by
 have fr:frees [j] σ=[some (.ref ra)]:=by show [σ.getD j none]=_;rw[hj]
 refine qZv (fun D i ys H'=>Paired (TupIn H') ((List.range i).map fun v=>r++[((v:Nat):Int)]) ys∧Same H H') (fun D hD=>⟨.nil,qV hD _⟩) (fun D i ys H' N hD hDy hi hP hN=>?_) (fun D ys H2 hD hDy hP=>?_)
 ·obtain⟨hp,hk⟩:=hP
  have lp:=hp.length
  rw[yYC,List.length_range] at lp
  have e0:(0:Int)+(i:Int)=(i:Int):=Int.zero_add _
  rw[e0]
  refine⟨⟨[some (.int (i:Int))],rfl,rfl⟩,?_⟩
  refine⟨.ref ra,(by show(([some (V.int (i:Int))]:St)++frees [j] σ)[1]? = _;rw[fr];rfl),_,rfl,(by show 1≤sizeLine;decide),fun t ht=>?_⟩
  have Dt:D≠t:=qB hDy ht
  have fin:∀(a:Addr) (H3:Hp),Same H' H3→H3 a=some (.tup (intsV (r++[((i:Nat):Int)])))→H3 D=some (.lst ys)∧ys.length<sizeLine∧N (ys++[.ref a]) (upd H3 D (.lst (ys++[.ref a]))):=fun a H3 S3 ea=>by
   have eD:=S3 _ _ hDy
   refine⟨eD,small (by omega),hN _ _ qW ⟨?_,fun b o e=>?_⟩⟩
   ·have T1:Tups H' (upd H3 D (.lst (ys++[.ref a]))):=fun b xs e=>by rw[qA (jZ e hDy (by intro z;cases z))];exact S3 _ _ e
    rw[List.range_succ,yYV]
    exact Paired.snoc (xJ T1 hp) ⟨a,rfl,by rw[qA (jZ ea eD (by intro z;cases z))];exact ea⟩
   ·rw[qA (qB e hD)];exact S3 _ _ (hk _ _ e)
  refine⟨ra,t,_,_,rfl,rfl,SqT.of (qV ht _ _ _ (hk _ _ era)),SqT.of qW,by simp,?_,fun z=>?_,fun z p hp'=>?_⟩
  ·rw[zU];exact smallE (by show r.length+1≤_;omega)
  ·have z':r=[]:=List.map_eq_nil_iff.mp z
   subst z'
   exact fin t _ (qV ht _) qW
  ·refine fin p _ ((qV ht _).trans (qV hp' _)) ?_
   rw[kA];exact qW
 ·exact q D ys H2 hD hP.2 hDy hP.1
def qAo:Sp:=fun vs H Q _=>∃(bx:Addr) (bs:List (Str×Int)) (us:List V),vs=[.ref bx]∧H bx=some (.lst us)∧Paired (BoxIn H) bs us∧bs.length≤6∧(∀b∈bs,2≤b.2∧b.2≤5)∧
 ∀(r:Addr) (ss:List V) (H':Hp),H r=none→Same H H'→H' r=some (.lst ss)→Paired (TupIn H') (allV bs) ss→Q (.ref r) H'

theorem xF:xE ["boxes","rows","name","size","longer","row"] ["boxes"] (xA (top 17)):=⟨rfl,rfl,rfl,by decide +kernel,rfl,by decide +kernel,by decide +kernel⟩
theorem jQ:CompOk (xA (top 17)) ["boxes","rows","name","size","longer","row"] (scAt (xB (top 17)) [1,1,0] [1]) ["value","row"] 1 [5]:=
 ⟨by decide +kernel,by decide +kernel,by decide +kernel,by decide +kernel,by decide +kernel,by decide +kernel,by decide +kernel,by decide +kernel⟩
theorem xZm (F:Fd K mg "standings_of_boxes" (top 17) ["boxes"])(B:Bl mg):Dn P w K mg base "standings_of_boxes" 1 ["boxes"] qAo:=by
 refine F.ok xF (fun vs H Q E h=>?_) (fun f cdv A outer s H vs Q E hr h=>?_)
 ·obtain⟨_,_,_,rfl,_⟩:=h
  rfl
 obtain⟨bx,bs,us,rfl,ebx,pb,h6,h25,q⟩:=h
 have lb:us.length=bs.length:=pb.length.symm
 refine⟨_,(qZ (qM (i:=1) xF.nd rfl (by wtm_at "zo") (xU (qQ (jA qX) qX)))
  (qZ (xT PassesOwn.never rfl (qU (K:=K) (pv 0)) (zF (K:=K) (n:=2) rfl (qH (qG (i:=2) xF.nd rfl (by wtm_at "zo")) (qH (qG (i:=3) xF.nd rfl (by wtm_at "zo")) qI))) (qZ (qM (i:=4) xF.nd rfl (by wtm_at "zo") (xU qX))
  (qZ (xT PassesOwn.never rfl (qU (K:=K) (pv 1)) (qG (i:=5) xF.nd rfl (by wtm_at "zo")) (qJ (qP (vV (K:=K) PySem.F.plainAttrs_list PySem.F.slot_list_extend PySem.F.type_list_extend qQl (pv 4) (qQ (zT rfl jQ (vJ rfl B.range' (qQ (pv 3) qX)) (fun cl fp s H=>(qG (i:=0) jQ.nd rfl (Or.inl rfl) (.inr rfl))) (fun cl fp s H=>zE) (fun cl fp s H=>(xQ (qOz (K:=K)) (pv 1) (jA (qQ (pv 0) qX))))) qX)))))
  (qJ (qM (i:=1) xF.nd rfl (by wtm_at "zo") (pv 4))))))
  (qJ (qN (pv 1))))),?_⟩
 wtm_at "zw"
 refine⟨(by show 0≤sizeLine;decide),fun t0 ht0=>?_⟩
 wtm_at "zw"
 refine⟨(by show 1≤sizeLine;decide),fun r0 hr0=>?_⟩
 wtm_at "zw"
 have S0:Same H (upd (upd H t0 (.tup [])) r0 (.lst [.ref t0])):=(qV ht0 _).trans (qV hr0 _)
 refine⟨_,rfl,bx,rfl,⟨us,SqL.of (S0 _ _ ebx)⟩,?_⟩
 refine xH (xs:=us) (fun i σ' H'=>∃(ro:Addr) (ss:List V) (z2 z3 z4 z5:Option V),σ'=[some (.ref bx),some (.ref ro),z2,z3,z4,z5]∧Same H H'∧H ro=none∧H' ro=some (.lst ss)∧Paired (TupIn H') (allV (bs.take i)) ss)
  ⟨r0,[.ref t0],none,none,none,none,rfl,S0,(qV ht0 _).free hr0,qW,.cons ⟨t0,rfl,qV hr0 _ _ _ qW⟩ .nil⟩
  (fun i σ' H' _ hP=>?_) (fun N rt bk i x σ' H' ex hP hN=>?_) (fun σ' H' hP=>?_)
 ·obtain⟨ro,ss,z2,z3,z4,z5,rfl,S1,_⟩:=hP
  exact SqL.of (S1 _ _ ebx)
 ·obtain⟨ro,ss,z2,z3,z4,z5,rfl,S1,nro,ero,prs⟩:=hP
  have hi:i<bs.length:=by rw[← lb];exact(yYB.mp ex).1
  obtain⟨b,eb⟩:∃b,bs[i]? = some b:=⟨_,yYA hi⟩
  obtain⟨ba,rfl,hba⟩:=xK pb eb ex
  have hb25:=h25 b (yYE eb)
  have rl:=kE h25 i (by omega)
  have p5:=pow56 (i:=i) (by omega)
  refine⟨ba,_,rfl,SqT.of (S1 _ _ hba),rfl,_,_,rfl,_,_,rfl,rfl,?_⟩
  wtm_at "zw"
  refine⟨(by show 0≤sizeLine;decide),fun lo hlo=>?_⟩
  wtm_at "zw"
  have lr:=prs.length
  refine⟨_,rfl,ro,rfl,⟨ss,SqL.of (qV hlo _ _ _ ero)⟩,?_⟩
  refine xH (xs:=ss) (fun j σ'' H''=>∃(ls:List V) (z5:Option V),σ''=[some (.ref bx),some (.ref ro),some (.str b.1),some (.int b.2),some (.ref lo),z5]∧(∀c o,H' c=some o→H'' c=some o)∧H'' lo=some (.lst ls)∧Paired (TupIn H'') (rowsBy ((allV (bs.take i)).take j) b.2.toNat) ls)
   ⟨[],z5,rfl,qV hlo _,qW,.nil⟩ (fun j σ'' H'' _ hP=>?_) (fun N2 rt2 bk2 j x σ'' H'' ex2 hP hN2=>?_) (fun σ'' H'' hP=>?_)
  ·obtain⟨ls,z5,rfl,k2,_⟩:=hP
   exact SqL.of (k2 _ _ ero)
  ·obtain⟨ls,z5,rfl,k2,elo,pls⟩:=hP
   have hj:j<(allV (bs.take i)).length:=by rw[lr];exact(yYB.mp ex2).1
   obtain⟨row,erow⟩:∃row,(allV (bs.take i))[j]? = some row:=⟨_,yYA hj⟩
   obtain⟨ra,rfl,hra⟩:=xK prs erow ex2
   have hrl:=vO bs i (by omega) row (yYE erow)
   have ll:=pls.length
   have lm:=yU (allV (bs.take i)) b.2.toNat j
   have l5:(allV (bs.take i)).length * b.2.toNat≤15625 * 5:=Nat.mul_le_mul (by omega) (by omega)
   wtm_at "zw"
   refine⟨.inl ⟨rfl,_,SqL.of elo⟩,?_⟩
   wtm_at "zw"
   refine⟨_,rfl,b.2,rfl,by omega,by omega,qNb (k2 _ _ hra) rfl (by omega) (by omega) fun D zs H3 nD S3 eD pz=>?_⟩
   have lz:=pz.length
   rw[yYC,List.length_range] at lz
   have elo3:=S3 _ _ elo
   refine⟨lo,D,ls,zs,rfl,rfl,elo3,eD,by rw[← ll,← lz];exact qSf (by omega),?_⟩
   have T3:Tups H3 (upd H3 lo (.lst (ls++zs))):=fun c xs e=>by rw[qA (jZ e elo3 (by intro z;cases z))];exact e
   refine hN2 _ _ ⟨ls++zs,_,rfl,fun c o e=>?_,qW,?_⟩
   ·rw[qA (qB e hlo)];exact S3 _ _ (k2 _ _ e)
   ·rw[qQk erow]
    exact wZ (xJ T3 (xJ (qC S3) pls)) (xJ T3 pz)
  ·obtain⟨ls,z5,rfl,k2,elo,pls⟩:=hP
   rw[← lr,yYJ,← jE eb] at pls
   wtm_at "zw"
   exact hN _ _ ⟨lo,ls,_,_,_,_,rfl,S1.trans k2,S1.free hlo,elo,pls⟩
 ·obtain⟨ro,ss,z2,z3,z4,z5,rfl,S1,nro,ero,prs⟩:=hP
  rw[lb,yYJ] at prs
  wtm_at "zw"
  exact q ro ss H' nro S1 ero prs

def zM (H:Hp)(c:Str×Th)(u:V):Prop:=∃a v,u=.ref a∧H a=some (.tup [.str c.1,v])∧c.2.At H v
def WayIn (H:Hp)(wy:List (Str×Th))(u:V):Prop:=∃a us,u=.ref a∧H a=some (.lst us)∧Paired (zM H) wy us
structure Deed where
 name:Str
 price:Int
 need:Th
 ways:List (List (Str×Th))
def DeedIn (H:Hp)(d:Deed)(u:V):Prop:=∃a nv wa us,u=.ref a∧H a=some (.tup [.str d.name,.int d.price,nv,.ref wa])∧d.need.At H nv∧H wa=some (.lst us)∧Paired (WayIn H) d.ways us
structure Look where
 name:Str
 price:Int
 part:Th
def LookIn (H:Hp)(l:Look)(u:V):Prop:=∃a v,u=.ref a∧H a=some (.tup [.str l.name,.int l.price,v])∧l.part.At H v
structure WayOk (ws:List Str)(wy:List (Str×Th)):Prop where
 nd:(wy.map (·.1)).Nodup
 le:wy.length≤100
 ok:∀c∈wy,c.1∈ws∧Expr' ws c.2∧c.2.dep≤12
structure DeedOk (ws:List Str)(d:Deed):Prop where
 price:1≤d.price
 need:Cond' ws d.need
 dep:d.need.dep≤12
 ne:d.ways≠[]
 le:d.ways.length≤100
 ways:∀wy∈d.ways,WayOk ws wy
structure LookOk (ws:List Str)(l:Look):Prop where
 price:1≤l.price
 part:Expr' ws l.part
 dep:l.part.dep≤12
section
variable {H H':Hp}
theorem zM.same (s:Same H H'){c:Str×Th}{u:V}(x:zM H c u):zM H' c u:=let ⟨a,v,e,q,r⟩:=x;⟨a,v,e,s _ _ q,r.mono (qC s)⟩
theorem WayIn.same (s:Same H H'){c:List (Str×Th)}{u:V}(x:WayIn H c u):WayIn H' c u:=let ⟨a,us,e,q,r⟩:=x;⟨a,us,e,s _ _ q,Paired.mapP r fun _ _ y=>y.same s⟩
theorem DeedIn.same (s:Same H H'){c:Deed}{u:V}(x:DeedIn H c u):DeedIn H' c u:=let ⟨a,nv,wa,us,e,q,r,q2,p⟩:=x;⟨a,nv,wa,us,e,s _ _ q,r.mono (qC s),s _ _ q2,Paired.mapP p fun _ _ y=>y.same s⟩
theorem LookIn.same (s:Same H H'){c:Look}{u:V}(x:LookIn H c u):LookIn H' c u:=let ⟨a,v,e,q,r⟩:=x;⟨a,v,e,s _ _ q,r.mono (qC s)⟩
end
structure Wd where
 bs:List (Str×Int)
 ds:List Deed
 ls:List Look
 bt:Th
 gt:Th
abbrev Wd.ws (W:Wd):List Str:=W.bs.map (·.1)
structure WAt (H:Hp)(W:Wd)(bx dx lx:Addr)(bv gv:V):Prop where
 boxes:∃us,H bx=some (.lst us)∧Paired (BoxIn H) W.bs us
 deeds:∃us,H dx=some (.lst us)∧Paired (DeedIn H) W.ds us
 looks:∃us,H lx=some (.lst us)∧Paired (LookIn H) W.ls us
 beg:W.bt.At H bv
 goal:W.gt.At H gv
structure WOk (W:Wd):Prop where
 b1:1≤W.bs.length
 b6:W.bs.length≤6
 b25:∀b∈W.bs,2≤b.2∧b.2≤5
 b200:(W.bs.map (·.2)).foldl (· * ·) 1≤200
 named:Named W.ws
 dl:W.ds.length≤100
 ll:W.ls.length≤100
 nd:(W.ds.map Deed.name++W.ls.map Look.name).Nodup
 deeds:∀d∈W.ds,DeedOk W.ws d
 looks:∀l∈W.ls,LookOk W.ws l
 beg:Cond' W.ws W.bt
 begd:W.bt.dep≤12
 goal:Cond' W.ws W.gt
 goald:W.gt.dep≤12
 some':∃vals∈allV W.bs,W.bt.truth (envOf (kvsOf W.bs vals))=true
theorem WAt.same {H H':Hp}{W:Wd}{bx dx lx:Addr}{bv gv:V}(s:Same H H')(x:WAt H W bx dx lx bv gv):WAt H' W bx dx lx bv gv:=by
 obtain⟨u1,e1,p1⟩:=x.boxes
 obtain⟨u2,e2,p2⟩:=x.deeds
 obtain⟨u3,e3,p3⟩:=x.looks
 exact⟨⟨u1,s _ _ e1,xY (qC s) p1⟩,⟨u2,s _ _ e2,Paired.mapP p2 fun _ _ y=>y.same s⟩,⟨u3,s _ _ e3,Paired.mapP p3 fun _ _ y=>y.same s⟩,x.beg.mono (qC s),x.goal.mono (qC s)⟩
theorem Expr'.in {ws:List Str}:∀{t:Th},Expr' ws t→∀x∈t.names,x∈ws
 | .num _,_,x,h=>by cases h
 | .box y,h,x,hx=>by
  have hx:x∈[y]:=hx
  rw[yYL.mp hx];exact h
 | .nul _,h,_,_=>h.elim
 | .un _ _,h,_,_=>h.elim
 | .bin k a b,⟨_,ha,hb⟩,x,hx=>by
  have hx:x∈a.names++b.names:=hx
  rcases yYS.mp hx with h | h
  ·exact Expr'.in ha x h
  ·exact Expr'.in hb x h
theorem Cond'.in {ws:List Str}:∀{t:Th},Cond' ws t→∀x∈t.names,x∈ws
 | .num _,h,_,_=>h.elim
 | .box _,h,_,_=>h.elim
 | .nul _,_,x,h=>by cases h
 | .un k a,⟨_,ha⟩,x,hx=>Cond'.in ha x hx
 | .bin k a b,h,x,hx=>by
  have hx:x∈a.names++b.names:=hx
  rcases h with⟨_,ha,hb⟩ | ⟨_,ha,hb⟩
  ·rcases yYS.mp hx with h | h
   ·exact ha.in x h
   ·exact hb.in x h
  ·rcases yYS.mp hx with h | h
   ·exact Cond'.in ha x h
   ·exact Cond'.in hb x h
theorem qKn (ws:List Str):(strsV ws).all flatV=true:=List.all_eq_true.mpr fun x hx=>by
 obtain⟨y,_,rfl⟩:=yYP.mp hx
 rfl
theorem qCg (x:Str)(ws:List Str):inV (.str x) (strsV ws)=decide (x∈ws):=by
 unfold inV
 rw[List.any_map]
 by_cases h:x∈ws
 ·rw[decide_eq_true h]
  refine List.any_eq_true.mpr ⟨x,h,?_⟩
  show(x == x)=true
  exact beq_self_eq_true x
 ·rw[decide_eq_false h]
  refine Bool.eq_false_iff.mpr fun z=>?_
  obtain⟨y,hy,e⟩:=List.any_eq_true.mp z
  have e:(y == x)=true:=e
  exact h (eq_of_beq e▸hy)

theorem qWx:xE ["thing"] ["thing"] (xA (top 20)):=⟨rfl,rfl,rfl,by decide +kernel,rfl,by decide +kernel,by decide +kernel⟩
def qVm:Sp:=fun vs H Q _=>∃i:Int,vs=[.int i]∧Q (.bl true) H
theorem xZw:PySem.W.kitOne K (.type "int") (.type "bool")=some false:=by with_unfolding_all rfl
theorem qPx (F:Fd K mg "is_whole" (top 20) ["thing"])(B:Bl mg):Dn P w K mg base "is_whole" 1 ["thing"] qVm:=by
 refine F.ok qWx (fun vs H Q E h=>?_) (fun f cdv A outer s H vs Q E hr h=>?_)
 ·obtain⟨_,rfl,_⟩:=h
  rfl
 obtain⟨i,rfl,q⟩:=h
 refine⟨_,(qJ (qN (qBo (xZ (zO (K:=K)) rfl B.isinstance' zD (qQ (pv 0) (qQ (qDg rfl B.int' qMa) qX))) (qBm (qGh (xZ (zO (K:=K)) rfl B.isinstance' zD (qQ (pv 0) (qQ (qDg rfl B.bool' qAa) qX)))))))),?_⟩
 wtm_at "zw"
 refine⟨.int i,"int",_,true,rfl,.int i,qCe,?_⟩
 wtm_at "zw"
 refine⟨.int i,"bool",_,false,rfl,.int i,xZw,?_⟩
 wtm_at "zw"
 exact q
theorem qQz:xE ["name","price"] ["name","price"] (xA (top 23)):=⟨rfl,rfl,rfl,by decide +kernel,rfl,by decide +kernel,by decide +kernel⟩
def qFc:Sp:=fun vs H Q _=>∃(x:V) (p:Int),vs=[x,.int p]∧1≤p∧Q .non H
theorem qPk (F:Fd K mg "refuse_price" (top 23) ["name","price"])(D_is_whole:Dn P w K mg base "is_whole" 1 ["thing"] qVm)(GL_LEAST_PRICE:Gi mg "LEAST_PRICE" 1):Dn P w K mg base "refuse_price" 2 ["name","price"] qFc:=by
 refine F.ok qQz (fun vs H Q E h=>?_) (fun f cdv A outer s H vs Q E hr h=>?_)
 ·obtain⟨_,_,rfl,_⟩:=h
  rfl
 obtain⟨x,p,rfl,hp,q⟩:=h
 refine⟨_,(qJ (zV (PW.pt (qKx (vZ (yN (qD D_is_whole hr (qQ (pv 1) qX)))) (qKq (qR qKb (pv 1) (qTk GL_LEAST_PRICE) (xD _))))) (qJ jH) qY)),?_⟩
 wtm_at "zw"
 refine⟨p,rfl,?_⟩
 wtm_at "zw"
 refine yP (decide_eq_false (by omega)) ?_
 wtm_at "zw"
 exact q
theorem yO:xE ["name","names"] ["name","names"] (xA (top 25)):=⟨rfl,rfl,rfl,by decide +kernel,rfl,by decide +kernel,by decide +kernel⟩
def vS:Sp:=fun vs H Q _=>∃(x:Str) (nl:Addr) (ws:List Str),vs=[.str x,.ref nl]∧H nl=some (.lst (strsV ws))∧x∈ws∧Q .non H
theorem qAx (F:Fd K mg "refuse_strange_name" (top 25) ["name","names"]):Dn P w K mg base "refuse_strange_name" 1 ["name","names"] vS:=by
 refine F.ok yO (fun vs H Q E h=>?_) (fun f cdv A outer s H vs Q E hr h=>?_)
 ·obtain⟨_,_,_,rfl,_⟩:=h
  rfl
 obtain⟨x,nl,ws,rfl,hn,hx,q⟩:=h
 refine⟨_,(qJ (zV (qR (qGm (K:=K)) (pv 0) (pv 1) (by with_unfolding_all rfl)) (qJ jH) qY)),?_⟩
 wtm_at "zw"
 refine⟨nl,_,rfl,.inl (SqL.of hn),rfl,qKn ws,?_⟩
 wtm_at "zw"
 rw[if_pos rfl,qCg,decide_eq_true hx]
 refine iteF ?_
 wtm_at "zw"
 exact q
theorem zS:xE ["thing","names","name"] ["thing","names"] (xA (top 26)):=⟨rfl,rfl,rfl,by decide +kernel,rfl,by decide +kernel,by decide +kernel⟩
def wU:Sp:=fun vs H Q _=>∃(t:Th) (v:V) (nl:Addr) (ws:List Str),vs=[v,.ref nl]∧t.At H v∧t.Ok∧t.dep≤12∧H nl=some (.lst (strsV ws))∧(∀x∈t.names,x∈ws)∧∀H',Same H H'→Q .non H'
theorem qEv (F:Fd K mg "refuse_strange_names" (top 26) ["thing","names"])(D_refuse_strange_name:Dn P w K mg base "refuse_strange_name" 1 ["name","names"] vS)
  (D_names_in:Dn P w K mg base "names_in" 13 ["thing"] (vT 12)):Dn P w K mg base "refuse_strange_names" 14 ["thing","names"] wU:=by
 refine F.ok zS (fun vs H Q E h=>?_) (fun f cdv A outer s H vs Q E hr h=>?_)
 ·obtain⟨_,_,_,_,rfl,_⟩:=h
  rfl
 obtain⟨t,v,nl,ws,rfl,at',ok,dp,hn,hin,q⟩:=h
 refine⟨_,(qJ (xT PassesOwn.never rfl (qU (K:=K) (qD D_names_in hr (qQ (pv 0) qX))) (qG (i:=2) zS.nd rfl (by wtm_at "zo")) (qJ (qP (qD D_refuse_strange_name hr (qQ (pv 2) (qQ (pv 1) qX))))))),?_⟩
 wtm_at "zf"
 refine⟨t,v,rfl,at',ok,dp,dp,fun r H1 hr1 S1 er=>?_⟩
 refine⟨r,rfl,⟨_,SqL.of er⟩,?_⟩
 refine vB (xs:=strsV t.names) (fun i σ' H'=>∃z:Option V,σ'=[some v,some (.ref nl),z]∧H'=H1) ⟨none,rfl,rfl⟩ (fun i σ' H' _ hP=>?_) (fun i x σ' H' ex hP=>?_) (fun σ' H' hP=>?_)
 ·obtain⟨z,rfl,rfl⟩:=hP
  exact SqL.of er
 ·obtain⟨z,rfl,rfl⟩:=hP
  obtain⟨y,hy,rfl⟩:=yYP.mp (yYE ex)
  wtm_at "zw"
  refine⟨y,nl,ws,rfl,S1 _ _ hn,hin y hy,?_⟩
  exact⟨_,rfl,rfl⟩
 ·obtain⟨z,rfl,rfl⟩:=hP
  exact q _ S1
theorem qQx:xE ["names","kind"] ["names","kind"] (xA (top 22)):=⟨rfl,rfl,rfl,by decide +kernel,rfl,by decide +kernel,by decide +kernel⟩
def qZl:Sp:=fun vs H Q _=>∃(nl:Addr) (ws:List Str) (x:V),vs=[.ref nl,x]∧H nl=some (.lst (strsV ws))∧ws.Nodup∧ws.length≤1000∧∀H',Same H H'→Q .non H'
theorem qPz (F:Fd K mg "refuse_twice" (top 22) ["names","kind"])(B:Bl mg)(B_set:mg "set" = none):Dn P w K mg base "refuse_twice" 1 ["names","kind"] qZl:=by
 refine F.ok qQx (fun vs H Q E h=>?_) (fun f cdv A outer s H vs Q E hr h=>?_)
 ·obtain⟨_,_,_,rfl,_⟩:=h
  rfl
 obtain⟨nl,ws,x,rfl,hn,nd,hl,q⟩:=h
 refine⟨_,(qJ (zV (qR qKb (xZ (qMw (P:=P) (w:=w)) rfl B.len' qXw (qQ (xX (qMv (P:=P) (w:=w) (K:=K) rfl) rfl B_set qSv (qQ (pv 0) qX)) qX)) (xZ (yW (K:=K)) rfl B.len' qXw (qQ (pv 0) qX)) (xD _)) (qJ jH) qY)),?_⟩
 wtm_at "zw"
 refine⟨nl,ws,rfl,SqL.of hn,nd,hl,fun p hp=>?_⟩
 wtm_at "zw"
 refine⟨p,ws.length,rfl,qW,hl,?_⟩
 wtm_at "zw"
 refine yP (decide_eq_false (by rw[xW];omega)) ?_
 wtm_at "zw"
 exact q _ (qV hp _)
theorem jN:xE ["boxes","name","size"] ["boxes"] (xA (top 21)):=⟨rfl,rfl,rfl,by decide +kernel,rfl,by decide +kernel,by decide +kernel⟩
theorem jG:CompOk (xA (top 21)) ["boxes","name","size"] (scAt (xB (top 21)) [1] [1]) ["name","size"] 2 []:=
 ⟨by decide +kernel,by decide +kernel,by decide +kernel,by decide +kernel,by decide +kernel,by decide +kernel,by decide +kernel,by decide +kernel⟩
def qBq:Sp:=fun vs H Q _=>∃(bx:Addr) (bs:List (Str×Int)) (us:List V),vs=[.ref bx]∧H bx=some (.lst us)∧Paired (BoxIn H) bs us∧1≤bs.length∧bs.length≤1000∧(∀b∈bs,2≤b.2∧b.2≤5)∧Named (bs.map (·.1))∧∀H',Same H H'→Q .non H'
theorem qIa (F:Fd K mg "refuse_boxes" (top 21) ["boxes"])(B:Bl mg)(D_refuse_twice:Dn P w K mg base "refuse_twice" 1 ["names","kind"] qZl)(D_is_whole:Dn P w K mg base "is_whole" 1 ["thing"] qVm)
  (GL_LEAST_SIZE:Gi mg "LEAST_SIZE" 2) (GL_GREATEST_SIZE:Gi mg "GREATEST_SIZE" 5) (GL_WORDS_OF_CONDITIONS:Gs K mg "WORDS_OF_CONDITIONS" ["not","and","yes"]):Dn P w K mg base "refuse_boxes" 2 ["boxes"] qBq:=by
 refine F.ok jN (fun vs H Q E h=>?_) (fun f cdv A outer s H vs Q E hr h=>?_)
 ·obtain⟨_,_,_,rfl,_⟩:=h
  rfl
 obtain⟨bx,bs,us,rfl,ebx,pb,h1,h1000,h25,nmd,q⟩:=h
 have lb:us.length=bs.length:=pb.length.symm
 refine⟨_,(qZ (zV (qR jB (xZ (yW (K:=K)) rfl B.len' qXw (qQ (pv 0) qX)) qE (xD _)) (qJ jH) qY)
  (qZ (qP (qD D_refuse_twice hr (qQ (zT rfl jG (qU (K:=K) (pv 0)) (fun cl fp s H=>(zF (K:=K) (n:=2) rfl (qH (qG (i:=0) jG.nd rfl (Or.inl rfl) (.inr rfl)) (qH (qG (i:=1) jG.nd rfl (Or.inl rfl) (.inr rfl)) qI)))) (fun cl fp s H=>zE) (fun cl fp s H=>(pv 0))) (qQ qF qX))))
  (qJ (xT PassesOwn.never rfl (qU (K:=K) (pv 0)) (zF (K:=K) (n:=2) rfl (qH (qG (i:=1) jN.nd rfl (by wtm_at "zo")) (qH (qG (i:=2) jN.nd rfl (by wtm_at "zo")) qI))) (qZ (zV (qR (xXh (K:=K)) (pv 1) (xYc GL_WORDS_OF_CONDITIONS) (by with_unfolding_all rfl)) (qJ jH) qY)
  (qJ (zV (PW.pt (qKx (vZ (yN (qD D_is_whole hr (qQ (pv 2) qX)))) (qKx (qR qKb (pv 2) (qTk GL_LEAST_SIZE) (xD _)) (qKq (qR qTb (pv 2) (qTk GL_GREATEST_SIZE) (xD _)))))) (qJ jH) qY))))))),?_⟩
 wtm_at "zw"
 refine yP (decide_eq_false (by intro z;injection z with z;omega)) ?_
 wtm_at "zw"
 refine⟨_,rfl,bx,rfl,⟨us,SqL.of ebx⟩,qZx ebx pb h1000 fun D H1 S1 eD=>?_⟩
 wtm_at "zw"
 refine⟨D,_,_,rfl,eD,nmd.nd,by rw[yYC];omega,fun H2 S2=>?_⟩
 have S12:=S1.trans S2
 wtm_at "zw"
 refine⟨_,rfl,bx,rfl,⟨us,SqL.of (S12 _ _ ebx)⟩,?_⟩
 refine xH (xs:=us) (fun i σ' H'=>∃z1 z2:Option V,σ'=[some (.ref bx),z1,z2]∧H'=H2) ⟨none,none,rfl,rfl⟩ (fun i σ' H' _ hP=>?_) (fun N rt bk i x σ' H' ex hP hN=>?_) (fun σ' H' hP=>?_)
 ·obtain⟨z1,z2,rfl,rfl⟩:=hP
  exact SqL.of (S12 _ _ ebx)
 ·obtain⟨z1,z2,rfl,rfl⟩:=hP
  obtain⟨b,eb⟩:∃b,bs[i]? = some b:=⟨_,yYA (by rw[← lb];exact(yYB.mp ex).1)⟩
  obtain⟨ba,rfl,hba⟩:=xK pb eb ex
  have hb25:=h25 b (yYE eb)
  have hno:=nmd.no b.1 (yYP.mpr ⟨b,yYE eb,rfl⟩)
  refine⟨ba,_,rfl,SqT.of (S12 _ _ hba),rfl,_,_,rfl,_,_,rfl,rfl,?_⟩
  wtm_at "zw"
  intro p sq
  refine⟨p,_,rfl,.inr sq,rfl,qKn _,?_⟩
  wtm_at "zw"
  rw[if_neg yZK,qCg,decide_eq_false (p:=b.1∈([("not" : Str),"and","yes"]:List Str)) hno]
  refine iteF ?_
  wtm_at "zw"
  refine⟨b.2,rfl,?_⟩
  wtm_at "zw"
  refine yP (decide_eq_false (by omega)) ?_
  wtm_at "zw"
  refine yP (decide_eq_false (by omega)) ?_
  exact hN _ _ ⟨_,_,rfl,rfl⟩
 ·obtain⟨z1,z2,rfl,rfl⟩:=hP
  exact q _ S12
theorem jV:xE ["deed_name","ways","names","way","name","expression"] ["deed_name","ways","names"] (xA (top 24)):=⟨rfl,rfl,rfl,by decide +kernel,rfl,by decide +kernel,by decide +kernel⟩
theorem jR:CompOk (xA (top 24)) ["deed_name","ways","names","way","name","expression"] (scAt (xB (top 24)) [1,0] [1]) ["name","expression"] 2 []:=
 ⟨by decide +kernel,by decide +kernel,by decide +kernel,by decide +kernel,by decide +kernel,by decide +kernel,by decide +kernel,by decide +kernel⟩
def spWays:Sp:=fun vs H Q _=>∃(x:V) (wa nl:Addr) (us:List V) (ws:List Str) (wys:List (List (Str×Th))),vs=[x,.ref wa,.ref nl]∧H wa=some (.lst us)∧Paired (WayIn H) wys us∧wys≠[]∧wys.length≤100∧(∀wy∈wys,WayOk ws wy)∧
 H nl=some (.lst (strsV ws))∧∀H',Same H H'→Q .non H'
theorem qEx {σ:St}{H:Hp}{Q:VK}{wa:Addr}{us:List V}{wy:List (Str×Th)}(e1:H wa=some (.lst us))(p1:Paired (zM H) wy us)(hl:wy.length≤1000)
  (q:∀(D:Addr) (H':Hp),Same H H'→H' D=some (.lst (strsV (wy.map (·.1))))→Q (.ref D) H'):
  rdC 2 [] (gTup K 2 (gCons (gName 0) (gCons (gName 1) gNil))) tYes (tVar 0) (Itl K wa) σ H Q:=by
 have lb:us.length=wy.length:=p1.length.symm
 refine zJ (xs:=us) (fun D i ys H'=>ys=strsV ((wy.take i).map (·.1))∧∀b o,H b=some o→H' b=some o) (fun D hD=>⟨rfl,qV hD _⟩)
  (fun D i ys H' _ hP=>(show Same H H' from hP.2).seq (SqL.of e1)) (fun D i x ys H' N hD hDy ex hP hN=>?_) (fun wd ys H2 hD hDy hP=>?_)
 ·obtain⟨rfl,hk⟩:=hP
  obtain⟨b,eb⟩:∃b,wy[i]? = some b:=⟨_,yYA (by rw[← lb];exact(yYB.mp ex).1)⟩
  obtain⟨ba,bv,rfl,hba,_⟩:=xK p1 eb ex
  refine⟨ba,_,rfl,SqT.of (hk _ _ hba),rfl,_,_,rfl,_,_,rfl,rfl,⟨[some (.str b.1),some bv],rfl,rfl⟩,?_⟩
  refine⟨_,rfl,hDy,?_,hN _ _ qW ⟨?_,fun b o e=>?_⟩⟩
  ·rw[xW,yYC,yYF];exact small (by omega)
  ·rw[yYM,eb,yYV,yJ];rfl
  ·rw[qA (qB e hD)];exact hk _ _ e
 obtain⟨rfl,hk2⟩:=hP
 rw[lb,yYJ] at hDy
 exact q wd H2 hk2 hDy
theorem qUk (F:Fd K mg "refuse_ways" (top 24) ["deed_name","ways","names"])(B:Bl mg)(D_refuse_twice:Dn P w K mg base "refuse_twice" 1 ["names","kind"] qZl)(D_refuse_strange_name:Dn P w K mg base "refuse_strange_name" 1 ["name","names"] vS)
  (D_refuse_strange_names:Dn P w K mg base "refuse_strange_names" 14 ["thing","names"] wU):Dn P w K mg base "refuse_ways" 15 ["deed_name","ways","names"] spWays:=by
 refine F.ok jV (fun vs H Q E h=>?_) (fun f cdv A outer s H vs Q E hr h=>?_)
 ·obtain⟨_,_,_,_,_,_,rfl,_⟩:=h
  rfl
 obtain⟨x,wa,nl,us,ws,wys,rfl,ewa,pw,hne,hle,hok,hn,q⟩:=h
 have lw:us.length=wys.length:=pw.length.symm
 have l1:=List.length_pos_iff.mpr hne
 refine⟨_,(qZ (zV (qR jB (xZ (yW (K:=K)) rfl B.len' qXw (qQ (pv 1) qX)) qE (xD _)) (qJ jH) qY)
  (qJ (xT PassesOwn.never rfl (qU (K:=K) (pv 1)) (qG (i:=3) jV.nd rfl (by wtm_at "zo")) (qZ (qP (qD D_refuse_twice hr (qQ (zT rfl jR (qU (K:=K) (pv 3)) (fun cl fp s H=>(zF (K:=K) (n:=2) rfl (qH (qG (i:=0) jR.nd rfl (Or.inl rfl) (.inr rfl)) (qH (qG (i:=1) jR.nd rfl (Or.inl rfl) (.inr rfl)) qI)))) (fun cl fp s H=>zE) (fun cl fp s H=>(pv 0))) (qQ qF qX))))
  (qJ (xT PassesOwn.never rfl (qU (K:=K) (pv 3)) (zF (K:=K) (n:=2) rfl (qH (qG (i:=4) jV.nd rfl (by wtm_at "zo")) (qH (qG (i:=5) jV.nd rfl (by wtm_at "zo")) qI))) (qZ (qP (qD D_refuse_strange_name hr (qQ (pv 4) (qQ (pv 2) qX))))
  (qJ (qP (qD D_refuse_strange_names hr (qQ (pv 5) (qQ (pv 2) qX)))))))))))),?_⟩
 wtm_at "zw"
 refine yP (decide_eq_false (by intro z;injection z with z;omega)) ?_
 wtm_at "zw"
 refine⟨_,rfl,wa,rfl,⟨us,SqL.of ewa⟩,?_⟩
 refine xH (xs:=us) (fun i σ' H'=>∃z1 z2 z3:Option V,σ'=[some x,some (.ref wa),some (.ref nl),z1,z2,z3]∧Same H H') ⟨none,none,none,rfl,Same.refl _⟩ (fun i σ' H' _ hP=>?_) (fun N rt bk i u σ' H' ex hP hN=>?_) (fun σ' H' hP=>?_)
 ·obtain⟨_,_,_,rfl,S⟩:=hP
  exact SqL.of (S _ _ ewa)
 ·obtain⟨z1,z2,z3,rfl,S1⟩:=hP
  obtain⟨wy,ewy⟩:∃b,wys[i]? = some b:=⟨_,yYA (by rw[← lw];exact(yYB.mp ex).1)⟩
  obtain⟨ya,cs,rfl,eya,pc⟩:=xK pw ewy ex
  have wok:=hok wy (yYE ewy)
  have lc:cs.length=wy.length:=pc.length.symm
  have wle:=wok.le
  wtm_at "zw"
  refine⟨_,rfl,ya,rfl,⟨cs,SqL.of (S1 _ _ eya)⟩,qEx (S1 _ _ eya) (Paired.mapP pc fun _ _ y=>y.same S1) (by omega) fun D H2 S2 eD=>?_⟩
  wtm_at "zw"
  refine⟨D,_,_,rfl,eD,wok.nd,by rw[yYC];omega,fun H3 S3=>?_⟩
  have S13:=S1.trans (S2.trans S3)
  wtm_at "zw"
  refine⟨_,rfl,ya,rfl,⟨cs,SqL.of (S13 _ _ eya)⟩,?_⟩
  refine xH (xs:=cs) (fun j σ'' H''=>∃z2 z3:Option V,σ''=[some x,some (.ref wa),some (.ref nl),some (.ref ya),z2,z3]∧Same H H'') ⟨z2,z3,rfl,S13⟩ (fun j σ'' H'' _ hP=>?_) (fun N2 rt2 bk2 j u σ'' H'' ex2 hP hN2=>?_) (fun σ'' H'' hP=>?_)
  ·obtain⟨_,_,rfl,S⟩:=hP
   exact SqL.of (S _ _ eya)
  ·obtain⟨z2,z3,rfl,S4⟩:=hP
   obtain⟨c,ec⟩:∃b,wy[j]? = some b:=⟨_,yYA (by rw[← lc];exact(yYB.mp ex2).1)⟩
   obtain⟨ca,cv,rfl,eca,cat⟩:=xK pc ec ex2
   obtain⟨o1,o2,o3⟩:=wok.ok c (yYE ec)
   refine⟨ca,_,rfl,SqT.of (S4 _ _ eca),rfl,_,_,rfl,_,_,rfl,rfl,?_⟩
   wtm_at "zw"
   refine⟨c.1,nl,ws,rfl,S4 _ _ hn,o1,?_⟩
   wtm_at "zw"
   refine⟨c.2,cv,nl,ws,rfl,cat.mono (qC S4),o2.ok,o3,S4 _ _ hn,o2.in,fun H5 S5=>?_⟩
   exact hN2 _ _ ⟨_,_,rfl,S4.trans S5⟩
  ·obtain⟨z2,z3,rfl,S4⟩:=hP
   exact hN _ _ ⟨_,_,_,rfl,S4⟩
 ·obtain⟨_,_,_,rfl,S1⟩:=hP
  exact q _ S1
theorem yR:xE ["begin","boxes","standing"] ["begin","boxes"] (xA (top 27)):=⟨rfl,rfl,rfl,by decide +kernel,rfl,by decide +kernel,by decide +kernel⟩
def qFd:Sp:=fun vs H Q _=>∃(t:Th) (v:V) (bx:Addr) (bs:List (Str×Int)) (us:List V),vs=[v,.ref bx]∧t.At H v∧Cond' (bs.map (·.1)) t∧t.dep≤12∧H bx=some (.lst us)∧Paired (BoxIn H) bs us∧bs.length≤6∧(∀b∈bs,2≤b.2∧b.2≤5)∧
 (∃vals∈allV bs,t.truth (envOf (kvsOf bs vals))=true)∧∀H',Same H H'→Q .non H'
theorem qPd (F:Fd K mg "refuse_begin" (top 27) ["begin","boxes"])(D_standings_of_boxes:Dn P w K mg base "standings_of_boxes" 1 ["boxes"] qAo)(D_holds:Dn P w K mg base "holds" 26 ["condition","boxes","standing"] qVo):
  Dn P w K mg base "refuse_begin" 27 ["begin","boxes"] qFd:=by
 refine F.ok yR (fun vs H Q E h=>?_) (fun f cdv A outer s H vs Q E hr h=>?_)
 ·obtain⟨_,_,_,_,_,rfl,_⟩:=h
  rfl
 obtain⟨t,v,bx,bs,us,rfl,at',cx,dp,ebx,pb,h6,h25,⟨vals0,hv0,ht0⟩,q⟩:=h
 refine⟨_,(qZ (xT PassesOwn.never rfl (qU (K:=K) (qD D_standings_of_boxes hr (qQ (pv 1) qX))) (qG (i:=2) yR.nd rfl (by wtm_at "zo")) (qJ (zV (yN (qD D_holds hr (qQ (pv 0) (qQ (pv 1) (qQ (pv 2) qX))))) (qJ qTz) qY)))
  (qJ jH)),?_⟩
 wtm_at "zf"
 refine⟨bx,bs,us,rfl,ebx,pb,h6,h25,fun r ss H1 nr S1 er pr=>?_⟩
 have lr:=pr.length
 refine⟨r,rfl,⟨ss,SqL.of er⟩,?_⟩
 refine vB (xs:=ss) (fun i σ' H'=>∃z:Option V,σ'=[some v,some (.ref bx),z]∧Same H1 H'∧∀x∈(allV bs).take i,t.truth (envOf (kvsOf bs x))=false) ⟨none,rfl,Same.refl _,fun x hx=>by cases hx⟩
  (fun i σ' H' _ hP=>?_) (fun i x σ' H' ex hP=>?_) (fun σ' H' hP=>?_)
 ·obtain⟨_,rfl,S,_⟩:=hP
  exact SqL.of (S _ _ er)
 ·obtain⟨z,rfl,S2,hno⟩:=hP
  obtain⟨vals,ev⟩:∃b,(allV bs)[i]? = some b:=⟨_,yYA (by rw[lr];exact(yYB.mp ex).1)⟩
  obtain⟨st,rfl,est⟩:=xK pr ev ex
  have S12:=S1.trans S2
  have fv:=qAe (yYE ev)
  wtm_at "zw"
  refine⟨t,v,bx,st,bs,vals,rfl,at'.mono (qC S12),cx,dp,⟨⟨us,S12 _ _ ebx,xY (qC S12) pb⟩,S2 _ _ est,fv.stands h25,by omega⟩,fun H3 S3=>?_⟩
  wtm_at "zw"
  cases e:t.truth (envOf (kvsOf bs vals)) with
  | true=>
   refine iteT ?_
   exact q _ (S12.trans S3)
  | false=>
   refine iteF ?_
   refine⟨_,rfl,S2.trans S3,fun x hx=>?_⟩
   rw[yYM,ev] at hx
   rcases yYS.mp hx with h | h
   ·exact hno x h
   ·have h:x∈[vals]:=h
    rw[yYL.mp h];exact e
 ·obtain⟨z,rfl,S2,hno⟩:=hP
  rw[← lr,yYJ] at hno
  rw[hno vals0 hv0] at ht0
  cases ht0

def LstIn (ok:Addr→Prop)(H:Hp)(cs:List V)(u:V):Prop:=∃l,u=.ref l∧ok l∧H l=some (.lst cs)
def DeedAt (ok:Addr→Prop)(H:Hp)(x:Str)(p:Int)(dc:V×List (List V))(u:V):Prop:=∃a wa us,u=.ref a∧H a=some (.tup [.str x,.int p,dc.1,.ref wa])∧ok wa∧H wa=some (.lst us)∧Paired (LstIn ok H) dc.2 us
def jK (H:Hp)(d:Deed)(dc:V×List (List V)):Prop:=d.need.At H dc.1∧Paired (fun wy cs=>Paired (zM H) wy cs) d.ways dc.2
theorem LstIn.move {ok ok':Addr→Prop}{H H':Hp}(h:∀b o,ok b→H b=some o→H' b=some o)(i:∀b,ok b→ok' b){cs:List V}{u:V}(x:LstIn ok H cs u):LstIn ok' H' cs u:=let ⟨l,e,o,q⟩:=x;⟨l,e,i l o,h l _ o q⟩
theorem DeedAt.move {ok ok':Addr→Prop}{H H':Hp}(h:∀b o,ok b→H b=some o→H' b=some o)(t:Tups H H')(i:∀b,ok b→ok' b){x:Str}{p:Int}{dc:V×List (List V)}{u:V}(z:DeedAt ok H x p dc u):DeedAt ok' H' x p dc u:=
 let ⟨a,wa,us,e,q,o,q2,r⟩:=z;⟨a,wa,us,e,t _ _ q,i wa o,h wa _ o q2,Paired.mapP r fun _ _ y=>y.move h i⟩
theorem qWv {ok:Addr→Prop}{H:Hp}{wys:List (List (Str×Th))}{css:List (List V)}{us:List V}(p:Paired (fun wy cs=>Paired (zM H) wy cs) wys css)(h:Paired (LstIn ok H) css us):Paired (WayIn H) wys us:=by
 induction p generalizing us with
 | nil=>cases h;exact .nil
 | cons r _ ih=>
  cases h with
  | cons x t=>
   obtain⟨l,e,_,q⟩:=x
   exact .cons ⟨l,_,e,q,r⟩ (ih t)
theorem qVx {ok:Addr→Prop}{H:Hp}{d:Deed}{dc:V×List (List V)}{u:V}(h1:jK H d dc)(h2:DeedAt ok H d.name d.price dc u):DeedIn H d u:=by
 obtain⟨a,wa,us,e,q,_,q2,p⟩:=h2
 exact⟨a,dc.1,wa,us,e,q,h1.1,q2,qWv h1.2 p⟩
theorem kC {ok:Addr→Prop}{H:Hp}{ps:List (Deed×V×List (List V))}{us:List V}(h:∀p∈ps,jK H p.1 p.2)(t:Paired (fun p u=>DeedAt ok H p.1.name p.1.price p.2 u) ps us):Paired (DeedIn H) (ps.map (·.1)) us:=by
 induction t with
 | nil=>exact .nil
 | cons x t ih=>exact .cons (qVx (h _ yYG) x) (ih fun p hp=>h p (yYH _ hp))
theorem qVz {H:Hp}{wy:List (Str×Th)}{cs:List V}(p:Paired (zM H) wy cs):∀(j:Nat) x,cs[j]? = some x→∃y,x=.ref y:=fun j x ex=>by
 obtain⟨b,eb⟩:∃b,wy[j]? = some b:=⟨_,yYA (by rw[p.length];exact(yYB.mp ex).1)⟩
 obtain⟨y,_,ey,_⟩:=xK p eb ex
 exact⟨y,ey⟩
def Refs (us:List V):Prop:=∀(j:Nat) x,us[j]? = some x→∃y,x=.ref y
theorem Refs.same {H:Hp}{us:List V}{n:Nat}(h:Refs us):∀(j:Nat) x y,us[j]? = some x→us[j]? = some y→DEq K H n x y:=fun j x y e1 e2=>by
 rw[e1] at e2
 cases e2
 obtain⟨y,rfl⟩:=h j x e1
 exact .same y
theorem At.ref {H:Hp}{t:Th}{v:V}(h:t.At H v):∃a,v=.ref a:=by
 cases t with
 | num _=>obtain⟨a,e,_⟩:=h;exact⟨a,e⟩
 | box _=>obtain⟨a,e,_⟩:=h;exact⟨a,e⟩
 | nul _=>obtain⟨a,e,_⟩:=h;exact⟨a,e⟩
 | un _ _=>obtain⟨a,_,e,_⟩:=h;exact⟨a,e⟩
 | bin _ _ _=>obtain⟨a,_,_,e,_⟩:=h;exact⟨a,e⟩
theorem xJj {H H':Hp}{t:Th}{v:V}{n:Nat}(h:t.At H v):DEq K H' n v v:=by
 obtain⟨a,rfl⟩:=At.ref h
 exact .same a
theorem qHw {ok ok':Addr→Prop}{H:Hp}{css:List (List V)}{us us':List V}(rf:∀cs∈css,Refs cs)(p1:Paired (LstIn ok H) css us)(p2:Paired (LstIn ok' H) css us'):∀(j:Nat) x y,us[j]? = some x→us'[j]? = some y→DEq K H 1 x y:=fun j x y e1 e2=>by
 obtain⟨cs,ec⟩:∃b,css[j]? = some b:=⟨_,yYA (by rw[p1.length];exact(yYB.mp e1).1)⟩
 obtain⟨l,rfl,_,h1⟩:=xK p1 ec e1
 obtain⟨l',rfl,_,h2⟩:=xK p2 ec e2
 exact .lst (SqL.of h1) (SqL.of h2) rfl (rf cs (yYE ec)).same
theorem idx4 {C:V→V→Prop}{a b c d a' b' c' d':V}(h0:C a a')(h1:C b b')(h2:C c c')(h3:C d d')(j:Nat)(x y:V)(e1:[a,b,c,d][j]? = some x)(e2:[a',b',c',d'][j]? = some y):C x y:=by
 cases j with
 | zero=>cases e1;cases e2;exact h0
 | succ j=>
  cases j with
  | zero=>cases e1;cases e2;exact h1
  | succ j=>
   cases j with
   | zero=>cases e1;cases e2;exact h2
   | succ j=>
    cases j with
    | zero=>cases e1;cases e2;exact h3
    | succ j=>cases e1
theorem qPg {ok ok':Addr→Prop}{H H0:Hp}{d:Deed}{dc:V×List (List V)}{u u':V}(h:jK H0 d dc)(h1:DeedAt ok H d.name d.price dc u)(h2:DeedAt ok' H d.name d.price dc u'):DEq K H 3 u u':=by
 obtain⟨a,wa,us,rfl,q,_,q2,p⟩:=h1
 obtain⟨a',wa',us',rfl,q',_,q2',p'⟩:=h2
 have rf:∀cs∈dc.2,Refs cs:=fun cs hc=>by
  obtain⟨j,hj⟩:=List.mem_iff_getElem?.mp hc
  obtain⟨wy,ew⟩:∃b,d.ways[j]? = some b:=⟨_,yYA (by rw[h.2.length];exact(yYB.mp hj).1)⟩
  exact qVz (xK h.2 ew hj)
 exact .tup (SqT.of q) (SqT.of q') rfl (idx4 (.str _) (.int _) (xJj h.1) (.lst (SqL.of q2) (SqL.of q2') (by rw[← p.length,← p'.length]) (qHw rf p p')))
theorem jK.same {H H':Hp}(s:Same H H'){d:Deed}{dc:V×List (List V)}(h:jK H d dc):jK H' d dc:=⟨h.1.mono (qC s),Paired.mapP h.2 fun _ _ y=>Paired.mapP y fun _ _ z=>z.same s⟩
theorem qXf:xE ["deed"] ["deed"] (xA (top 19)):=⟨rfl,rfl,rfl,by decide +kernel,rfl,by decide +kernel,by decide +kernel⟩
theorem kZ:CompOk (xA (top 19)) ["deed"] (scAt (xB (top 19)) [0] [3]) ["way"] 1 []:=
 ⟨by decide +kernel,by decide +kernel,by decide +kernel,by decide +kernel,by decide +kernel,by decide +kernel,by decide +kernel,by decide +kernel⟩
def qZm:Sp:=fun vs H Q _=>∃(u:V) (x:Str) (p:Int) (dc:V×List (List V)),vs=[u]∧DeedAt (fun _=>True) H x p dc u∧dc.2.length≤100∧
 ∀(y:V) (H':Hp),Same H H'→DeedAt (fun b=>H b=none) H' x p dc y→Q y H'
theorem qIc (F:Fd K mg "copied_deed" (top 19) ["deed"])(B:Bl mg):Dn P w K mg base "copied_deed" 1 ["deed"] qZm:=by
 refine F.ok qXf (fun vs H Q E h=>?_) (fun f cdv A outer s H vs Q E hr h=>?_)
 ·obtain⟨_,_,_,_,rfl,_⟩:=h
  rfl
 obtain⟨u,x,p,dc,rfl,⟨a,wa,us,rfl,ea,_,ewa,pus⟩,hl,q⟩:=h
 refine⟨_,(qJ (qN (jA (qQ (xG (qS (K:=K)) (pv 0) qE (fun _ _=>rfl)) (qQ (xG (qS (K:=K)) (pv 0) qE (fun _ _=>rfl)) (qQ (xG (qS (K:=K)) (pv 0) qE (fun _ _=>rfl)) (qQ (zT rfl kZ (qU (K:=K) (xG (qS (K:=K)) (pv 0) qE (fun _ _=>rfl))) (fun cl fp s H=>(qG (i:=0) kZ.nd rfl (Or.inl rfl) (.inr rfl))) (fun cl fp s H=>zE) (fun cl fp s H=>(xX (jM (K:=K)) rfl B.list' kU (qQ (pv 0) qX)))) qX))))))),?_⟩
 wtm_at "zf"
 refine⟨wa,rfl,⟨us,SqL.of ewa⟩,?_⟩
 have lu:=pus.length
 refine zJ (xs:=us) (fun D i ys H'=>Paired (LstIn (fun b=>H b=none∧b≠D) H') (dc.2.take i) ys∧∀b o,H b=some o→H' b=some o) (fun D hD=>⟨.nil,qV hD _⟩)
  (fun D i ys H' _ hP=>(show Same H H' from hP.2).seq (SqL.of ewa)) (fun D i x ys H' N hD hDy ex hP hN=>?_) (fun D ys H2 hD hDy hP=>?_)
 ·obtain⟨pl,hk⟩:=hP
  have hi:i<dc.2.length:=by rw[lu];exact(yYB.mp ex).1
  obtain⟨cs,ec⟩:∃b,dc.2[i]? = some b:=⟨_,yYA hi⟩
  obtain⟨l0,rfl,_,el0⟩:=xK pus ec ex
  have ll:=pl.length
  rw[yYF] at ll
  refine⟨⟨[some (.ref l0)],rfl,rfl⟩,?_⟩
  refine⟨_,rfl,l0,cs,rfl,.inl (SqL.of (hk _ _ el0)),fun l hl'=>?_⟩
  have Dl:D≠l:=qB hDy hl'
  refine⟨by rw[qA Dl];exact hDy,small (by omega),hN _ _ qW ⟨?_,fun b o e=>?_⟩⟩
  ·rw[yYM,ec]
   refine Paired.snoc (Paired.mapP pl fun _ _ z=>z.move (fun b o ok e=>?_) fun _ z=>z) ⟨l,rfl,⟨(show Same H H' from hk).free hl',Ne.symm Dl⟩,by rw[qA (Ne.symm Dl)];exact qW⟩
   rw[qA ok.2,qA (qB e hl')];exact e
  ·rw[qA (qB e hD),qA (qB (hk _ _ e) hl')];exact hk _ _ e
 obtain⟨pl,hk⟩:=hP
 rw[← lu,yYJ] at pl
 refine⟨(by show 4≤sizeLine;decide),fun t ht=>?_⟩
 have S2:Same H (upd H2 t (.tup [.str x,.int p,dc.1,.ref D])):=(show Same H H2 from hk).trans (qV ht _)
 refine q (.ref t) _ S2 ⟨t,D,ys,rfl,qW,hD,qV ht _ _ _ hDy,Paired.mapP pl fun _ _ z=>z.move (fun b o _ e=>qV ht _ _ _ e) fun _ z=>z.1⟩
theorem zQ:xE ["boxes","deeds","looks","begin","goal","names","name","price","need","ways","expression"] ["boxes","deeds","looks","begin","goal"] (xA (top 15)):=⟨rfl,rfl,rfl,by decide +kernel,rfl,by decide +kernel,by decide +kernel⟩
theorem wD:CompOk (xA (top 15)) ["boxes","deeds","looks","begin","goal","names","name","price","need","ways","expression"] (scAt (xB (top 15)) [1] [1,0]) ["deed"] 1 []:=
 ⟨by decide +kernel,by decide +kernel,by decide +kernel,by decide +kernel,by decide +kernel,by decide +kernel,by decide +kernel,by decide +kernel⟩
theorem wC:CompOk (xA (top 15)) ["boxes","deeds","looks","begin","goal","names","name","price","need","ways","expression"] (scAt (xB (top 15)) [1] [1,1]) ["look"] 1 []:=
 ⟨by decide +kernel,by decide +kernel,by decide +kernel,by decide +kernel,by decide +kernel,by decide +kernel,by decide +kernel,by decide +kernel⟩
theorem kX:CompOk (xA (top 15)) ["boxes","deeds","looks","begin","goal","names","name","price","need","ways","expression"] (scAt (xB (top 15)) [2] []) ["name","size"] 2 []:=
 ⟨by decide +kernel,by decide +kernel,by decide +kernel,by decide +kernel,by decide +kernel,by decide +kernel,by decide +kernel,by decide +kernel⟩
theorem wB:CompOk (xA (top 15)) ["boxes","deeds","looks","begin","goal","names","name","price","need","ways","expression"] (scAt (xB (top 15)) [8] [1]) ["deed"] 1 []:=
 ⟨by decide +kernel,by decide +kernel,by decide +kernel,by decide +kernel,by decide +kernel,by decide +kernel,by decide +kernel,by decide +kernel⟩
def qYg:Sp:=fun vs H Q _=>∃(W:Wd) (bx dx lx:Addr) (bv gv:V) (us du:List V) (ps:List (Deed×V×List (List V))),vs=[.ref bx,.ref dx,.ref lx,bv,gv]∧WAt H W bx dx lx bv gv∧WOk W∧H bx=some (.lst us)∧Paired (BoxIn H) W.bs us∧H dx=some (.lst du)∧ps.map (·.1)=W.ds∧(∀p∈ps,jK H p.1 p.2)∧Paired (fun p u=>DeedAt (fun _=>True) H p.1.name p.1.price p.2 u) ps du∧
 ∀(p:Addr) (H':Hp) (bx' dx' lx':Addr) (ys:List V),Same H H'→H' p=some (.tup [.ref bx',.ref dx',.ref lx',bv,gv])→H bx'=none→H dx'=none→H lx'=none→H' bx'=some (.lst us)→H' dx'=some (.lst ys)→Paired (fun p u=>DeedAt (fun b=>H b=none) H' p.1.name p.1.price p.2 u) ps ys→WAt H' W bx' dx' lx' bv gv→Q (.ref p) H'
theorem qXx {σ:St}{H:Hp}{Q:VK}{la:Addr}{us:List V}{xs:List Str}(e1:H la=some (.lst us))(p1:Paired (fun x u=>∃a ys,u=.ref a∧H a=some (.tup (.str x::ys))) xs us)(hl:xs.length≤1000)
  (q:∀(D:Addr) (H':Hp),H D=none→Same H H'→H' D=some (.lst (strsV xs))→Q (.ref D) H'):
  rdC 1 [] (gName 0) tYes (tOp (rIxT K) (tVar 0) (tC (.int 0))) (Itl K la) σ H Q:=by
 have lb:us.length=xs.length:=p1.length.symm
 refine zJ (xs:=us) (fun D i ys H'=>ys=strsV (xs.take i)∧∀b o,H b=some o→H' b=some o) (fun D hD=>⟨rfl,qV hD _⟩)
  (fun D i ys H' _ hP=>(show Same H H' from hP.2).seq (SqL.of e1)) (fun D i x ys H' N hD hDy ex hP hN=>?_) (fun wd ys H2 hD hDy hP=>?_)
 ·obtain⟨rfl,hk⟩:=hP
  obtain⟨b,eb⟩:∃b,xs[i]? = some b:=⟨_,yYA (by rw[← lb];exact(yYB.mp ex).1)⟩
  obtain⟨ba,zs,rfl,hba⟩:=xK p1 eb ex
  refine⟨⟨[some (.ref ba)],rfl,rfl⟩,?_⟩
  refine⟨_,rfl,ba,_,0,.str b,rfl,rfl,SqT.of (hk _ _ hba),qYz _ _,hDy,?_,hN _ _ qW ⟨?_,fun b o e=>?_⟩⟩
  ·rw[xW,yYF];exact small (by omega)
  ·rw[yYM,eb,yJ];rfl
  ·rw[qA (qB e hD)];exact hk _ _ e
 obtain⟨rfl,hk2⟩:=hP
 rw[lb,yYJ] at hDy
 exact q wd H2 hD hk2 hDy
theorem kP {H:Hp}{ds:List Deed}{us:List V}(p:Paired (DeedIn H) ds us):Paired (fun x u=>∃a ys,u=.ref a∧H a=some (.tup (.str x::ys))) (ds.map Deed.name) us:=by
 induction p with
 | nil=>exact .nil
 | cons h _ ih=>
  obtain⟨a,_,_,_,e,q,_⟩:=h
  exact .cons ⟨a,_,e,q⟩ ih
theorem qWf {H:Hp}{ds:List Look}{us:List V}(p:Paired (LookIn H) ds us):Paired (fun x u=>∃a ys,u=.ref a∧H a=some (.tup (.str x::ys))) (ds.map Look.name) us:=by
 induction p with
 | nil=>exact .nil
 | cons h _ ih=>
  obtain⟨a,_,e,q,_⟩:=h
  exact .cons ⟨a,_,e,q⟩ ih
theorem qEa {σ:St}{H:Hp}{Q:VK}{dx:Addr}{us:List V}{ps:List (Deed×V×List (List V))}(e1:H dx=some (.lst us))(p1:Paired (fun p u=>DeedAt (fun _=>True) H p.1.name p.1.price p.2 u) ps us)(hl:ps.length≤1000)
  (h2:∀p∈ps,p.2.2.length≤100)
  (q:∀(D:Addr) (ys:List V) (H':Hp),H D=none→Same H H'→H' D=some (.lst ys)→Paired (fun p u=>DeedAt (fun b=>H b=none∧b≠D) H' p.1.name p.1.price p.2 u) ps ys→Q (.ref D) H'):
  rdC 1 [] (gName 0) tYes (tCall qZm [] E0 (tCons (tVar 0) tNil)) (Itl K dx) σ H Q:=by
 have lb:us.length=ps.length:=p1.length.symm
 refine zJ (xs:=us) (fun D i ys H'=>Paired (fun p u=>DeedAt (fun b=>H b=none∧b≠D) H' p.1.name p.1.price p.2 u) (ps.take i) ys∧∀b o,H b=some o→H' b=some o) (fun D hD=>⟨.nil,qV hD _⟩)
  (fun D i ys H' _ hP=>(show Same H H' from hP.2).seq (SqL.of e1)) (fun D i x ys H' N hD hDy ex hP hN=>?_) (fun D ys H2 hD hDy hP=>?_)
 ·obtain⟨pl,hk⟩:=hP
  have hi:i<ps.length:=by rw[← lb];exact(yYB.mp ex).1
  obtain⟨b,eb⟩:∃b,ps[i]? = some b:=⟨_,yYA hi⟩
  have db:=xK p1 eb ex
  have ll:=pl.length
  rw[yYF] at ll
  refine⟨⟨[some x],rfl,rfl⟩,?_⟩
  refine⟨_,rfl,x,b.1.name,b.1.price,b.2,rfl,db.move (fun b o _ e=>hk _ _ e) (qC hk) (fun _ z=>z),h2 b (yYE eb),fun y H4 S4 dy=>?_⟩
  have eD:=S4 _ _ hDy
  refine⟨eD,small (by omega),hN _ _ qW ⟨?_,fun b o e=>?_⟩⟩
  ·have T4:Tups H4 (upd H4 D (.lst (ys++[y]))):=fun b xs e=>by rw[qA (jZ e eD (by intro z;cases z))];exact e
   rw[yYM,eb]
   refine Paired.snoc (Paired.mapP pl fun _ _ z=>z.move (fun b o ok e=>?_) ((qC S4).trans T4) fun _ z=>z) (dy.move (fun b o ok e=>?_) T4 fun b ok=>?_)
   ·rw[qA ok.2];exact S4 _ _ e
   ·rw[qA (fun z=>by subst z;rw[hDy] at ok;cases ok)];exact e
   ·exact⟨(show Same H H' from hk).free ok,fun z=>by subst z;rw[hDy] at ok;cases ok⟩
  ·rw[qA (qB e hD)];exact S4 _ _ (hk _ _ e)
 obtain⟨pl,hk⟩:=hP
 rw[lb,yYJ] at pl
 exact q D ys H2 hD hk hDy pl
theorem qAq (F:Fd K mg "world_of" (top 15) ["boxes","deeds","looks","begin","goal"])(B:Bl mg)(D_refuse_boxes:Dn P w K mg base "refuse_boxes" 2 ["boxes"] qBq)(D_refuse_twice:Dn P w K mg base "refuse_twice" 1 ["names","kind"] qZl)
  (D_refuse_price:Dn P w K mg base "refuse_price" 2 ["name","price"] qFc) (D_refuse_strange_names:Dn P w K mg base "refuse_strange_names" 14 ["thing","names"] wU) (D_refuse_ways:Dn P w K mg base "refuse_ways" 15 ["deed_name","ways","names"] spWays)
  (D_refuse_begin:Dn P w K mg base "refuse_begin" 27 ["begin","boxes"] qFd) (D_copied_deed:Dn P w K mg base "copied_deed" 1 ["deed"] qZm):Dn P w K mg base "world_of" 28 ["boxes","deeds","looks","begin","goal"] qYg:=by
 refine F.ok zQ (fun vs H Q E h=>?_) (fun f cdv A outer s H vs Q E hr h=>?_)
 ·obtain⟨_,_,_,_,_,_,_,_,_,rfl,_⟩:=h
  rfl
 obtain⟨W,bx,dx,lx,bv,gv,us,du,ps,rfl,A0,ok,ebx,pb,edx,eps,dat0,pds0,q⟩:=h
 have pd:Paired (DeedIn H) W.ds du:=by
  have:=kC dat0 pds0
  rw[eps] at this
  exact this
 obtain⟨lu,elx,pl⟩:=A0.looks
 have b6:=ok.b6
 have dl:=ok.dl
 have ll:=ok.ll
 refine⟨_,(qZ (qP (qD D_refuse_boxes hr (qQ (pv 0) qX)))
  (qZ (qP (qD D_refuse_twice hr (qQ (xQ xXi (zT rfl wD (qU (K:=K) (pv 1)) (fun cl fp s H=>(qG (i:=0) wD.nd rfl (Or.inl rfl) (.inr rfl))) (fun cl fp s H=>zE) (fun cl fp s H=>(xG (qS (K:=K)) (pv 0) qE (fun _ _=>rfl)))) (zT rfl wC (qU (K:=K) (pv 2)) (fun cl fp s H=>(qG (i:=0) wC.nd rfl (Or.inl rfl) (.inr rfl))) (fun cl fp s H=>zE) (fun cl fp s H=>(xG (qS (K:=K)) (pv 0) qE (fun _ _=>rfl))))) (qQ qF qX))))
  (qZ (kW (i:=5) zQ.nd rfl (by wtm_at "zo") rfl kX (qU (K:=K) (pv 0)) (fun cl fp s H=>(zF (K:=K) (n:=2) rfl (qH (qG (i:=0) kX.nd rfl (Or.inl rfl) (.inr rfl)) (qH (qG (i:=1) kX.nd rfl (Or.inl rfl) (.inr rfl)) qI)))) (fun cl fp s H=>zE) (fun cl fp s H=>(pv 0)))
  (qZ (xT PassesOwn.never rfl (qU (K:=K) (pv 1)) (zF (K:=K) (n:=4) rfl (qH (qG (i:=6) zQ.nd rfl (by wtm_at "zo")) (qH (qG (i:=7) zQ.nd rfl (by wtm_at "zo")) (qH (qG (i:=8) zQ.nd rfl (by wtm_at "zo")) (qH (qG (i:=9) zQ.nd rfl (by wtm_at "zo")) qI))))) (qZ (qP (qD D_refuse_price hr (qQ (pv 6) (qQ (pv 7) qX))))
  (qZ (qP (qD D_refuse_strange_names hr (qQ (pv 8) (qQ (pv 5) qX))))
  (qJ (qP (qD D_refuse_ways hr (qQ (pv 6) (qQ (pv 9) (qQ (pv 5) qX)))))))))
  (qZ (xT PassesOwn.never rfl (qU (K:=K) (pv 2)) (zF (K:=K) (n:=3) rfl (qH (qG (i:=6) zQ.nd rfl (by wtm_at "zo")) (qH (qG (i:=7) zQ.nd rfl (by wtm_at "zo")) (qH (qG (i:=10) zQ.nd rfl (by wtm_at "zo")) qI)))) (qZ (qP (qD D_refuse_price hr (qQ (pv 6) (qQ (pv 7) qX))))
  (qJ (qP (qD D_refuse_strange_names hr (qQ (pv 10) (qQ (pv 5) qX)))))))
  (qZ (qP (qD D_refuse_strange_names hr (qQ (pv 3) (qQ (pv 5) qX))))
  (qZ (qP (qD D_refuse_strange_names hr (qQ (pv 4) (qQ (pv 5) qX))))
  (qZ (qP (qD D_refuse_begin hr (qQ (pv 3) (qQ (pv 0) qX))))
  (qJ (qN (jA (qQ (xX (jM (K:=K)) rfl B.list' kU (qQ (pv 0) qX)) (qQ (zT rfl wB (qU (K:=K) (pv 1)) (fun cl fp s H=>(qG (i:=0) wB.nd rfl (Or.inl rfl) (.inr rfl))) (fun cl fp s H=>zE) (fun cl fp s H=>(qD D_copied_deed hr (qQ (pv 0) qX)))) (qQ (xX (jM (K:=K)) rfl B.list' kU (qQ (pv 2) qX)) (qQ (pv 3) (qQ (pv 4) qX)))))))))))))))),?_⟩
 wtm_at "zw"
 refine⟨bx,W.bs,us,rfl,ebx,pb,ok.b1,by omega,ok.b25,ok.named,fun H1 S1=>?_⟩
 wtm_at "zw"
 refine⟨_,rfl,dx,rfl,⟨du,SqL.of (S1 _ _ edx)⟩,qXx (S1 _ _ edx) (kP (Paired.mapP pd fun _ _ y=>y.same S1)) (by rw[yYC];omega) fun d1 H2 nd1 S2 ed1=>?_⟩
 have S12:=S1.trans S2
 refine⟨_,rfl,lx,rfl,⟨lu,SqL.of (S12 _ _ elx)⟩,qXx (S12 _ _ elx) (qWf (Paired.mapP pl fun _ _ y=>y.same S12)) (by rw[yYC];omega) fun d2 H3 nd2 S3 ed2=>?_⟩
 have S13:=S12.trans S3
 refine⟨d1,d2,_,_,rfl,rfl,S3 _ _ ed1,ed2,?_,fun d3 hd3=>?_⟩
 ·rw[xW,xW,yYC,yYC];exact smallE (by omega)
 have S14:=S13.trans (qV hd3 (.lst (strsV (W.ds.map Deed.name)++strsV (W.ls.map Look.name))))
 wtm_at "zw"
 refine⟨d3,W.ds.map Deed.name++W.ls.map Look.name,_,rfl,by rw[yJ];exact qW,ok.nd,by rw[yYI,yYC,yYC];omega,fun H5 S5=>?_⟩
 have S15:=S14.trans S5
 wtm_at "zw"
 refine⟨_,rfl,bx,rfl,⟨us,SqL.of (S15 _ _ ebx)⟩,qZx (S15 _ _ ebx) (xY (qC S15) pb) (by omega) fun nl H6 S6 enl=>?_⟩
 have S16:=S15.trans S6
 wtm_at "zf"
 refine⟨dx,rfl,⟨du,SqL.of (S16 _ _ edx)⟩,?_⟩
 refine xH (xs:=du) (fun i σ' H'=>∃z6 z7 z8 z9 z10:Option V,σ'=[some (.ref bx),some (.ref dx),some (.ref lx),some bv,some gv,some (.ref nl),z6,z7,z8,z9,z10]∧Same H6 H') ⟨none,none,none,none,none,rfl,Same.refl _⟩
  (fun i σ' H' _ hP=>?_) (fun N rt bk i x σ' H' ex hP hN=>?_) (fun σ' H' hP=>?_)
 ·obtain⟨_,_,_,_,_,rfl,S⟩:=hP
  exact SqL.of (S _ _ (S16 _ _ edx))
 ·obtain⟨z6,z7,z8,z9,z10,rfl,S7⟩:=hP
  obtain⟨d,ed⟩:∃b,W.ds[i]? = some b:=⟨_,yYA (by rw[pd.length];exact(yYB.mp ex).1)⟩
  have S17:=S16.trans S7
  obtain⟨a,nv,wa,wu,rfl,ea,nat,ewa,pw⟩:=(xK pd ed ex).same S17
  have dok:=ok.deeds d (yYE ed)
  wtm_at "zw"
  refine⟨.str d.name,d.price,rfl,dok.price,?_⟩
  wtm_at "zw"
  refine⟨d.need,nv,nl,_,rfl,nat,dok.need.ok,dok.dep,S7 _ _ enl,dok.need.in,fun H8 S8=>?_⟩
  wtm_at "zw"
  refine⟨.str d.name,wa,nl,wu,_,d.ways,rfl,S8 _ _ ewa,Paired.mapP pw fun _ _ y=>y.same S8,dok.ne,dok.le,dok.ways,S8 _ _ (S7 _ _ enl),fun H9 S9=>?_⟩
  exact hN _ _ ⟨_,_,_,_,_,rfl,S7.trans (S8.trans S9)⟩
 obtain⟨z6,z7,z8,z9,z10,rfl,S7⟩:=hP
 have S17:=S16.trans S7
 wtm_at "zf"
 refine⟨lx,rfl,⟨lu,SqL.of (S17 _ _ elx)⟩,?_⟩
 refine xH (xs:=lu) (fun i σ' H'=>∃z6 z7 z8 z9 z10:Option V,σ'=[some (.ref bx),some (.ref dx),some (.ref lx),some bv,some gv,some (.ref nl),z6,z7,z8,z9,z10]∧Same H6 H') ⟨z6,z7,z8,z9,z10,rfl,S7⟩
  (fun i σ' H' _ hP=>?_) (fun N rt bk i x σ' H' ex hP hN=>?_) (fun σ' H' hP=>?_)
 ·obtain⟨_,_,_,_,_,rfl,S⟩:=hP
  exact SqL.of (S _ _ (S16 _ _ elx))
 ·obtain⟨z6,z7,z8,z9,z10,rfl,S8⟩:=hP
  obtain⟨d,ed⟩:∃b,W.ls[i]? = some b:=⟨_,yYA (by rw[pl.length];exact(yYB.mp ex).1)⟩
  have S18:=S16.trans S8
  obtain⟨a,nv,rfl,ea,nat⟩:=(xK pl ed ex).same S18
  have dok:=ok.looks d (yYE ed)
  wtm_at "zw"
  refine⟨.str d.name,d.price,rfl,dok.price,?_⟩
  wtm_at "zw"
  refine⟨d.part,nv,nl,_,rfl,nat,dok.part.ok,dok.dep,S8 _ _ enl,dok.part.in,fun H9 S9=>?_⟩
  exact hN _ _ ⟨_,_,_,_,_,rfl,S8.trans S9⟩
 obtain⟨z6,z7,z8,z9,z10,rfl,S8⟩:=hP
 have S18:=S16.trans S8
 wtm_at "zw"
 refine⟨W.bt,bv,nl,_,rfl,A0.beg.mono (qC S18),ok.beg.ok,ok.begd,S8 _ _ enl,ok.beg.in,fun H9 S9=>?_⟩
 wtm_at "zw"
 have S19:=S18.trans S9
 refine⟨W.gt,gv,nl,_,rfl,A0.goal.mono (qC S19),ok.goal.ok,ok.goald,S9 _ _ (S8 _ _ enl),ok.goal.in,fun H10 S10=>?_⟩
 wtm_at "zw"
 have S110:=S19.trans S10
 refine⟨W.bt,bv,bx,W.bs,us,rfl,A0.beg.mono (qC S110),ok.beg,ok.begd,S110 _ _ ebx,xY (qC S110) pb,ok.b6,ok.b25,ok.some',fun H11 S11=>?_⟩
 have S111:=S110.trans S11
 wtm_at "zw"
 refine⟨bx,us,rfl,.inl (SqL.of (S111 _ _ ebx)),fun bx' hbx'=>?_⟩
 have S112:=S111.trans (qV hbx' (.lst us))
 have ebx':upd H11 bx' (.lst us) bx'=some (.lst us):=qW
 generalize upd H11 bx' (.lst us)=H12 at S112 ebx'
 have dat:∀p∈ps,jK H12 p.1 p.2:=fun p hp=>(dat0 p hp).same S112
 have pds:=Paired.mapP pds0 fun _ _ z=>z.move (ok':=fun _=>True) (fun b o _ e=>S112 _ _ e) (qC S112) fun _ h=>h
 have lps:ps.length=W.ds.length:=by rw[← eps,yYC]
 have p100:∀p∈ps,p.2.2.length≤100:=fun p hp=>by
  have h1:=(dat p hp).2.length
  have h2:=(ok.deeds p.1 (by rw[← eps];exact yYP.mpr ⟨p,hp,rfl⟩)).le
  omega
 refine⟨_,rfl,dx,rfl,⟨du,SqL.of (S112 _ _ edx)⟩,qEa (S112 _ _ edx) pds (by omega) p100 fun dx' ys H13 ndx' S13' edx' pys=>?_⟩
 have S113:=S112.trans S13'
 wtm_at "zw"
 refine⟨lx,lu,rfl,.inl (SqL.of (S113 _ _ elx)),fun lx' hlx'=>?_⟩
 wtm_at "zw"
 refine⟨(by show 5≤sizeLine;decide),fun p hp=>?_⟩
 have Sf:Same H13 (upd (upd H13 lx' (.lst lu)) p (.tup [.ref bx',.ref dx',.ref lx',bv,gv])):=(qV hlx' _).trans (qV hp _)
 have S114:=S113.trans Sf
 have elx':upd (upd H13 lx' (.lst lu)) p (.tup [.ref bx',.ref dx',.ref lx',bv,gv]) lx'=some (.lst lu):=qV hp _ _ _ qW
 have ep:upd (upd H13 lx' (.lst lu)) p (.tup [.ref bx',.ref dx',.ref lx',bv,gv]) p=some (.tup [.ref bx',.ref dx',.ref lx',bv,gv]):=qW
 generalize upd (upd H13 lx' (.lst lu)) p (.tup [.ref bx',.ref dx',.ref lx',bv,gv])=H14 at Sf S114 elx' ep
 have pys':=Paired.mapP pys fun _ _ z=>z.move (ok':=fun b=>H b=none) (fun b o _ e=>Sf _ _ e) (qC Sf) fun b z=>S112.free z.1
 have dat':∀p∈ps,jK H14 p.1 p.2:=fun p hp=>(dat p hp).same (S13'.trans Sf)
 have jd:=kC dat' pys'
 rw[eps] at jd
 exact q p H14 bx' dx' lx' ys S114 ep (S111.free hbx') (S112.free ndx') (S113.free hlx') (Sf _ _ (S13' _ _ ebx')) (Sf _ _ edx') pys' ⟨⟨us,Sf _ _ (S13' _ _ ebx'),xY (qC S114) pb⟩,⟨ys,Sf _ _ edx',jd⟩,⟨lu,elx',Paired.mapP pl fun _ _ y=>y.same S114⟩,A0.beg.mono (qC S114),A0.goal.mono (qC S114)⟩

theorem qBc:xE ["things","name","kind","thing"] ["things","name","kind"] (xA (top 16)):=⟨rfl,rfl,rfl,by decide +kernel,rfl,by decide +kernel,by decide +kernel⟩
def qVn:Sp:=fun vs H Q _=>∃(la:Addr) (us:List V) (xs:List Str) (x:Str) (k:V),vs=[.ref la,.str x,k]∧H la=some (.lst us)∧Paired (fun x u=>∃a ys,u=.ref a∧H a=some (.tup (.str x::ys))) xs us∧xs.Nodup∧
 ∃i:Nat,xs[i]? = some x∧∀u,us[i]? = some u→Q u H
theorem qPv (F:Fd K mg "named" (top 16) ["things","name","kind"]):Dn P w K mg base "named" 1 ["things","name","kind"] qVn:=by
 refine F.ok qBc (fun vs H Q E h=>?_) (fun f cdv A outer s H vs Q E hr h=>?_)
 ·obtain⟨_,_,_,_,_,rfl,_⟩:=h
  rfl
 obtain⟨la,us,xs,x,k,rfl,ela,px,nd,i0,ei0,q⟩:=h
 refine⟨_,(qZ (xT PassesOwn.never rfl (qU (K:=K) (pv 0)) (qG (i:=3) qBc.nd rfl (by wtm_at "zo")) (qJ (zV (qR jB (xG (qS (K:=K)) (pv 3) qE (fun _ _=>rfl)) (pv 1) (xD _)) (qJ (qN (pv 3))) qY)))
  (qJ jH)),?_⟩
 wtm_at "zf"
 refine⟨la,rfl,⟨us,SqL.of ela⟩,?_⟩
 refine vB (xs:=us) (fun i σ' H'=>∃z:Option V,σ'=[some (.ref la),some (.str x),some k,z]∧H'=H∧i≤i0) ⟨none,rfl,rfl,yZF _⟩ (fun i σ' H' _ hP=>?_) (fun i u σ' H' ex hP=>?_) (fun σ' H' hP=>?_)
 ·obtain⟨_,rfl,rfl,_⟩:=hP
  exact SqL.of ela
 ·obtain⟨z,rfl,rfl,hi⟩:=hP
  obtain⟨y,ey⟩:∃b,xs[i]? = some b:=⟨_,yYA (by rw[px.length];exact(yYB.mp ex).1)⟩
  obtain⟨a,ys,rfl,ea⟩:=xK px ey ex
  wtm_at "zw"
  by_cases e:y=x
  ·subst e
   rw[zC]
   refine iteT ?_
   have:i=i0:=by
    obtain⟨h1,g1⟩:=yYB.mp ey
    obtain⟨h2,g2⟩:=yYB.mp ei0
    exact(List.getElem_inj nd).mp (g1.trans g2.symm)
   subst this
   wtm_at "zw"
   exact q _ ex
  ·rw[xV e]
   refine iteF ?_
   refine⟨_,rfl,rfl,?_⟩
   by_cases h:i=i0
   ·subst h;rw[ei0] at ey;cases ey;exact absurd rfl e
   ·omega
 ·obtain⟨z,rfl,rfl,hi⟩:=hP
  have:=(yYB.mp ei0).1
  rw[px.length] at this
  omega

def sizeOf' (bs:List (Str×Int))(x:Str):Int:=match bs.lookup x with
 | some z=>z
 | none=>1
def xP (bs:List (Str×Int))(wy:List (Str×Th))(vals:List Int):List Int:=(bs.zip vals).map fun p=>match wy.lookup p.1.1 with
 | some t=>t.worth (envOf (kvsOf bs vals)) % p.1.2
 | none=>p.2
def putsK (bs:List (Str×Int))(ρ:Str→Int)(acc:List (Key×V))(wy:List (Str×Th)):List (Key×V):=wy.foldl (fun a c=>putK a (Sum.inr c.1) (.int (c.2.worth ρ % sizeOf' bs c.1))) acc
theorem qKz {bs:List (Str×Int)}{ρ:Str→Int}{acc:List (Key×V)}{wy:List (Str×Th)}{i:Nat}{c:Str×Th}(h:wy[i]? = some c):putsK bs ρ acc (wy.take (i+1))=putK (putsK bs ρ acc (wy.take i)) (Sum.inr c.1) (.int (c.2.worth ρ % sizeOf' bs c.1)):=by
 unfold putsK
 rw[yYM,h,List.foldl_append]
 rfl
theorem qJj {bs:List (Str×Int)}{ρ:Str→Int}{x:Str}:∀(wy:List (Str×Th)) (acc:List (Key×V)),(wy.map (·.1)).Nodup→valV (putsK bs ρ acc wy) (Sum.inr x)=(match wy.lookup x with | some t=>some (.int (t.worth ρ % sizeOf' bs x)) | none=>valV acc (Sum.inr x))
 | [],acc,_=>rfl
 | (n,t)::wy,acc,nd=>by
  have nd':=List.nodup_cons.mp nd
  show valV (putsK bs ρ (putK acc (Sum.inr n) (.int (t.worth ρ % sizeOf' bs n))) wy) (Sum.inr x)=_
  rw[qJj wy _ nd'.2]
  by_cases e:x=n
  ·subst e
   rw[qWe nd'.1,jC]
   show valV (putK acc (Sum.inr x) _) (Sum.inr x)=_
   rw[kJ,if_pos rfl]
  ·rw[zG t wy (by simpa using e)]
   cases wy.lookup x with
   | some u=>rfl
   | none=>
    show valV (putK acc (Sum.inr n) _) (Sum.inr x)=valV acc (Sum.inr x)
    rw[kJ,if_neg (fun z=>e (Sum.inr.inj z))]
theorem qNh {kvs:List (Key×V)}{k:Key}{v:V}:(putK kvs k v).length≤kvs.length+1:=by
 unfold putK
 split
 ·rw[yYC];omega
 ·rw[yYI];show kvs.length+1≤_;omega
theorem qJk {bs:List (Str×Int)}{ρ:Str→Int}:∀(wy:List (Str×Th)) (acc:List (Key×V)),(putsK bs ρ acc wy).length≤acc.length+wy.length
 | [],acc=>yZC _
 | c::wy,acc=>by
  have h1:=qJk (bs:=bs) (ρ:=ρ) wy (putK acc (Sum.inr c.1) (.int (c.2.worth ρ % sizeOf' bs c.1)))
  have h2:=qNh (kvs:=acc) (k:=Sum.inr c.1) (v:=.int (c.2.worth ρ % sizeOf' bs c.1))
  show(putsK bs ρ (putK acc (Sum.inr c.1) (.int (c.2.worth ρ % sizeOf' bs c.1))) wy).length≤acc.length+(wy.length+1)
  omega
theorem qWi (bs:List (Str×Int))(vals:List Int):(kvsOf bs vals).length≤bs.length:=by
 have:=yF (zipK (bs.map (·.1)) (intsV vals)) []
 unfold zipK at this
 rw[yYC,List.length_zip,yYC,yYU] at this
 unfold kvsOf zipK
 omega
theorem qWh {bs:List (Str×Int)}{vals:List Int}{i:Nat}{b:Str×Int}{v:Int}(nd:(bs.map (·.1)).Nodup)(hl:vals.length=bs.length)(eb:bs[i]? = some b)(ev:vals[i]? = some v):valV (kvsOf bs vals) (Sum.inr b.1)=some (.int v):=by
 have e:((bs.map (fun b:Str×Int=>b.1)).zip (intsV vals)).map (·.1)=bs.map (·.1):=List.map_fst_zip (by rw[yYC,zU,hl];exact yZC _)
 show valV (mergeK [] (pairK ((bs.map (fun b:Str×Int=>b.1)).zip (intsV vals)))) (Sum.inr b.1)=_
 rw[vW _ _ (by rw[e];exact nd)]
 have ez:((bs.map (fun b:Str×Int=>b.1)).zip (intsV vals))[i]? = some (b.1,.int v):=List.getElem?_zip_eq_some.mpr ⟨by rw[yYO,eb];rfl,by rw[yYO,ev];rfl⟩
 rw[qQm (by rw[e];exact nd) ez]
theorem qJq {bs:List (Str×Int)}{i:Nat}{b:Str×Int}(nd:(bs.map (·.1)).Nodup)(eb:bs[i]? = some b):sizeOf' bs b.1=b.2:=by
 unfold sizeOf'
 rw[qQm (v:=b.2) nd eb]
theorem qXb {bs:List (Str×Int)}{wy:List (Str×Th)}{vals:List Int}{i:Nat}{b:Str×Int}{v:Int}(eb:bs[i]? = some b)(ev:vals[i]? = some v):
  (xP bs wy vals)[i]? = some (match wy.lookup b.1 with | some t=>t.worth (envOf (kvsOf bs vals)) % b.2 | none=>v):=by
 unfold xP
 have ez:(bs.zip vals)[i]? = some (b,v):=List.getElem?_zip_eq_some.mpr ⟨eb,ev⟩
 rw[yYO,ez]
 rfl
theorem wK {bs:List (Str×Int)}{wy:List (Str×Th)}{vals:List Int}(hl:vals.length=bs.length):(xP bs wy vals).length=bs.length:=by
 unfold xP
 rw[yYC,List.length_zip,hl,Nat.min_self]
theorem qVb {H:Hp}{bs:List (Str×Int)}{us:List V}(p:Paired (BoxIn H) bs us):Paired (PairIn H) (bs.map fun b=>(b.1,V.int b.2)) us:=by
 induction p with
 | nil=>exact .nil
 | cons h _ ih=>
  obtain⟨a,e,q⟩:=h
  exact .cons ⟨a,e,q⟩ ih
def qBz:Sp:=fun vs H Q _=>∃(bx wa st:Addr) (bs:List (Str×Int)) (wy:List (Str×Th)) (vals:List Int) (us cs:List V),vs=[.ref bx,.ref wa,.ref st]∧H bx=some (.lst us)∧Paired (BoxIn H) bs us∧(bs.map (·.1)).Nodup∧bs.length≤100∧
 (∀b∈bs,2≤b.2∧b.2≤5)∧H wa=some (.lst cs)∧Paired (zM H) wy cs∧WayOk (bs.map (·.1)) wy∧H st=some (.tup (intsV vals))∧Fits bs vals∧∀(r:Addr) (H':Hp),Same H H'→H' r=some (.tup (intsV (xP bs wy vals)))→Q (.ref r) H'
theorem zB:xE ["boxes","way","standing","sizes","ahead","behind","name","expression"] ["boxes","way","standing"] (xA (top 18)):=⟨rfl,rfl,rfl,by decide +kernel,rfl,by decide +kernel,by decide +kernel⟩
theorem yQ:CompOk (xA (top 18)) ["boxes","way","standing","sizes","ahead","behind","name","expression"] (scAt (xB (top 18)) [4] [1]) ["name","size","behind"] 2 [5]:=
 ⟨by decide +kernel,by decide +kernel,by decide +kernel,by decide +kernel,by decide +kernel,by decide +kernel,by decide +kernel,by decide +kernel⟩
theorem qIe (F:Fd K mg "behind_way" (top 18) ["boxes","way","standing"])(B:Bl mg)(D_values_by_name:Dn P w K mg base "values_by_name" 1 ["boxes","standing"] qZi)(D_worth_by:Dn P w K mg base "worth_by" 13 ["expression","values"] (jW 12)):
  Dn P w K mg base "behind_way" 14 ["boxes","way","standing"] qBz:=by
 refine F.ok zB (fun vs H Q E h=>?_) (fun f cdv A outer s H vs Q E hr h=>?_)
 ·obtain⟨_,_,_,_,_,_,_,_,rfl,_⟩:=h
  rfl
 obtain⟨bx,wa,st,bs,wy,vals,us,cs,rfl,ebx,pb,nd,hbl,h25,ewa,pc,wok,est,fits,q⟩:=h
 have hu:=qWm hr
 have fs:=fits.stands h25
 have env:=qKo fs
 refine⟨_,(qZ (qM (i:=3) zB.nd rfl (by wtm_at "zo") (xX (wE rfl) rfl B.dict' wY (qQ (pv 0) qX)))
  (qZ (qM (i:=4) zB.nd rfl (by wtm_at "zo") (qD D_values_by_name hr (qQ (pv 0) (qQ (pv 2) qX))))
  (qZ (qM (i:=5) zB.nd rfl (by wtm_at "zo") (xX yX rfl B.dict' wY (qQ (pv 4) qX)))
  (qZ (xT PassesOwn.never rfl (qU (K:=K) (pv 1)) (zF (K:=K) (n:=2) rfl (qH (qG (i:=6) zB.nd rfl (by wtm_at "zo")) (qH (qG (i:=7) zB.nd rfl (by wtm_at "zo")) qI))) (qJ (qJv hu (pv 5) (pv 6) (xQ qQe (qD D_worth_by hr (qQ (pv 7) (qQ (pv 4) qX))) (kN hu (pv 3) (pv 6) (fun _ _=>rfl))) rfl)))
  (qJ (qN (xX (kT (K:=K)) rfl B.tuple' wN (qQ (zT rfl yQ (qU (K:=K) (pv 0)) (fun cl fp s H=>(zF (K:=K) (n:=2) rfl (qH (qG (i:=0) yQ.nd rfl (Or.inl rfl) (.inr rfl)) (qH (qG (i:=1) yQ.nd rfl (Or.inl rfl) (.inr rfl)) qI)))) (fun cl fp s H=>zE) (fun cl fp s H=>(kN hu (pv 2) (pv 0) (fun _ _=>rfl)))) qX)))))))),?_⟩
 wtm_at "zw"
 refine⟨bx,us,_,rfl,ebx,qVb pb,by rw[yYC];omega,fun sz hsz=>?_⟩
 have S1:=qV hsz (.dK (mergeK [] (pairK (bs.map fun b=>(b.1,V.int b.2)))))
 have esz:upd H sz (.dK (mergeK [] (pairK (bs.map fun b=>(b.1,V.int b.2))))) sz=some (.dK (mergeK [] (pairK (bs.map fun b=>(b.1,V.int b.2))))):=qW
 generalize upd H sz (.dK (mergeK [] (pairK (bs.map fun b=>(b.1,V.int b.2)))))=H1 at S1 esz
 wtm_at "zw"
 refine⟨bx,st,bs,vals,rfl,⟨⟨us,S1 _ _ ebx,xY (qC S1) pb⟩,S1 _ _ est,fs,hbl⟩,fun ah H2 S2 eah=>?_⟩
 wtm_at "zw"
 refine⟨ah,_,rfl,eah,fun be hbe=>?_⟩
 have S3:Same H1 (upd H2 be (.dK (kvsOf bs vals))):=S2.trans (qV hbe _)
 have S03:=S1.trans S3
 have ebe:upd H2 be (.dK (kvsOf bs vals)) be=some (.dK (kvsOf bs vals)):=qW
 have eah3:=qV hbe (.dK (kvsOf bs vals)) _ _ eah
 have nbe:H1 be=none:=S2.free hbe
 have nahb:ah≠be:=qB eah hbe
 generalize upd H2 be (.dK (kvsOf bs vals))=H3 at S3 S03 ebe eah3
 wtm_at "zf"
 refine⟨wa,rfl,⟨cs,SqL.of (S03 _ _ ewa)⟩,?_⟩
 have lc:=pc.length
 have wle:=wok.le
 have kl:=qWi bs vals
 have nwb:wa≠be:=qB (S1 _ _ ewa) nbe
 refine xH (xs:=cs) (fun i σ' H'=>∃z6 z7:Option V,σ'=[some (.ref bx),some (.ref wa),some (.ref st),some (.ref sz),some (.ref ah),some (.ref be),z6,z7]∧But be H3 H'∧H' be=some (.dK (putsK bs (envOf (kvsOf bs vals)) (kvsOf bs vals) (wy.take i))))
  ⟨none,none,rfl,But.refl _,ebe⟩ (fun i σ' H' _ hP=>?_) (fun N rt bk i x σ' H' ex hP hN=>?_) (fun σ' H' hP=>?_)
 ·obtain⟨_,_,rfl,hb,_⟩:=hP
  exact SqL.of (hb _ _ nwb (S03 _ _ ewa))
 ·obtain⟨z6,z7,rfl,hb,ebe'⟩:=hP
  have hi:i<wy.length:=by rw[lc];exact(yYB.mp ex).1
  obtain⟨c,ec⟩:∃b,wy[i]? = some b:=⟨_,yYA hi⟩
  obtain⟨ca,cv,rfl,eca,cat⟩:=xK pc ec ex
  obtain⟨o1,o2,o3⟩:=wok.ok c (yYE ec)
  have T3:Tups H H':=(qC S03).trans fun b ys e=>hb _ _ (jZ e ebe (by intro z;cases z)) e
  have eca':=T3 _ _ eca
  obtain⟨b,hbm,eb1⟩:=yYP.mp o1
  obtain⟨k,ek⟩:=List.mem_iff_getElem?.mp hbm
  have hb25:=h25 b hbm
  have zs:=qJq nd ek
  wtm_at "zw"
  refine⟨c.2,cv,ah,_,_,envOf (kvsOf bs vals),rfl,cat.mono T3,o2,o3,hb _ _ nahb eah3,env,?_⟩
  wtm_at "zw"
  refine⟨sz,.int (sizeOf' bs c.1),rfl,?_,?_⟩
  ·have hv:valV (mergeK [] (pairK (bs.map fun b=>(b.1,V.int b.2)))) (Sum.inr c.1)=some (.int (sizeOf' bs c.1)):=by
    have e2:(bs.map fun b=>(b.1,V.int b.2)).map (·.1)=bs.map (·.1):=by rw[List.map_map];rfl
    rw[vW _ _ (by rw[e2];exact nd),← eb1,qQm (v:=.int b.2) (i:=k) (by rw[e2];exact nd) (by rw[yYO,ek];rfl),zs]
   rw[← hv]
   exact DGet.k (k:=Sum.inr c.1) (hb _ _ (qB esz nbe) (S3 _ _ esz))
  refine w_I (show 0<sizeOf' bs c.1 by rw[← eb1,zs];omega) ?_
  wtm_at "zw"
  have pl:=qJk (bs:=bs) (ρ:=envOf (kvsOf bs vals)) (wy.take i) (kvsOf bs vals)
  rw[yYF] at pl
  refine⟨be,_,rfl,DPut.k (k:=Sum.inr c.1) ebe' (small (by omega)),?_⟩
  refine hN _ _ ⟨_,_,rfl,hb.trans But.upd,?_⟩
  rw[qW,qKz ec]
 obtain⟨z6,z7,rfl,hb,ebe'⟩:=hP
 rw[← lc,yYJ] at ebe'
 have K3:∀b o,H b=some o→H' b=some o:=fun b o e=>hb _ _ (qB (S1 _ _ e) nbe) (S03 _ _ e)
 have S4:Same H H':=K3
 have lb:=pb.length
 wtm_at "zw"
 refine⟨_,rfl,bx,rfl,⟨us,SqL.of (S4 _ _ ebx)⟩,?_⟩
 refine zJ (xs:=us) (fun D i ys H''=>ys=intsV ((xP bs wy vals).take i)∧∀b o,H' b=some o→H'' b=some o) (fun D hD=>⟨rfl,qV hD _⟩)
  (fun D i ys H'' _ hP=>SqL.of (hP.2 _ _ (S4 _ _ ebx))) (fun D i x ys H'' N hD hDy ex hP hN=>?_) (fun D ys H5 hD hDy hP=>?_)
 ·obtain⟨rfl,hk⟩:=hP
  have hi:i<bs.length:=by rw[lb];exact(yYB.mp ex).1
  obtain⟨b,eb⟩:∃b,bs[i]? = some b:=⟨_,yYA hi⟩
  obtain⟨v,ev⟩:∃v,vals[i]? = some v:=⟨_,yYA (by rw[fits.1];exact hi)⟩
  obtain⟨ba,rfl,hba⟩:=xK pb eb ex
  have bat:=qXb (wy:=wy) eb ev
  have hv:valV (putsK bs (envOf (kvsOf bs vals)) (kvsOf bs vals) wy) (Sum.inr b.1)=some (.int (match wy.lookup b.1 with | some t=>t.worth (envOf (kvsOf bs vals)) % b.2 | none=>v)):=by
   rw[qJj _ _ wok.nd,qJq nd eb,qWh nd fits.1 eb ev]
   cases wy.lookup b.1 <;> rfl
  refine⟨ba,_,rfl,SqT.of (hk _ _ (S4 _ _ hba)),rfl,_,_,rfl,_,_,rfl,rfl,⟨[some (.str b.1),some (.int b.2)],rfl,rfl⟩,?_⟩
  refine⟨_,rfl,_,rfl,be,_,rfl,(by rw[← hv];exact DGet.k (k:=Sum.inr b.1) (hk _ _ ebe')),hDy,?_,hN _ _ qW ⟨?_,fun b o e=>?_⟩⟩
  ·rw[zU,yYF];exact small (by omega)
  ·rw[yYM,bat,← kA];rfl
  ·rw[qA (qB e hD)];exact hk _ _ e
 obtain⟨rfl,hk⟩:=hP
 rw[← lb,List.take_of_length_le (by rw[wK fits.1];exact yZC _)] at hDy
 wtm_at "zw"
 refine⟨D,_,rfl,SqL.of hDy,fun r hr'=>?_⟩
 exact q r _ (S4.trans ((show Same H' H5 from hk).trans (qV hr' _))) qW

theorem qEl {σ:St}{H:Hp}{Q:VK}{js:List Nat}{te:TE}{wa:Addr}{wu:List V}{wys:List (List (Str×Th))}{bs:List (Str×Int)}{vals:List Int}(ewa:H wa=some (.lst wu))(pw:Paired (WayIn H) wys wu)(hl:wys.length≤100)
  (hte:∀(u:V) (wy:List (Str×Th)) (H':Hp) (R:VK),wy∈wys→WayIn H' wy u→Same H H'→(∀(r:Addr) (H'':Hp),Same H' H''→H'' r=some (.tup (intsV (xP bs wy vals)))→R (.ref r) H'')→te ([some u]++frees js σ) H' R)
  (q:∀(D:Addr) (ys:List V) (H':Hp),H D=none→Same H H'→H' D=some (.lst ys)→Paired (TupIn H') (wys.map fun wy=>xP bs wy vals) ys→Q (.ref D) H'):
  rdC 1 js (gName 0) tYes te (Itl K wa) σ H Q:=by
 have lw:=pw.length
 refine zJ (xs:=wu) (fun D i ys H'=>Paired (TupIn H') ((wys.take i).map fun wy=>xP bs wy vals) ys∧∀b o,H b=some o→H' b=some o) (fun D hD=>⟨.nil,qV hD _⟩)
  (fun D i ys H' _ hP=>SqL.of (hP.2 _ _ ewa)) (fun D i x ys H' N hD hDy ex hP hN=>?_) (fun D ys H5 hD hDy hP=>?_)
 ·obtain⟨pl,hk⟩:=hP
  have hi:i<wys.length:=by rw[lw];exact(yYB.mp ex).1
  obtain⟨wy,ewy⟩:∃b,wys[i]? = some b:=⟨_,yYA hi⟩
  have wi:=(xK pw ewy ex).same hk
  have ll:=pl.length
  rw[yYC,yYF] at ll
  refine⟨⟨[some x],rfl,rfl⟩,?_⟩
  refine hte x wy H' _ (yYE ewy) wi hk fun r H4 S4 er=>?_
  have eD:=S4 _ _ hDy
  refine⟨eD,small (by omega),hN _ _ qW ⟨?_,fun b o e=>?_⟩⟩
  ·have T4:Tups H4 (upd H4 D (.lst (ys++[.ref r]))):=fun b xs e=>by rw[qA (jZ e eD (by intro z;cases z))];exact e
   rw[yYM,ewy,yYV]
   exact Paired.snoc (xJ T4 (xJ (qC S4) pl)) ⟨r,rfl,T4 _ _ er⟩
  ·rw[qA (qB e hD)];exact S4 _ _ (hk _ _ e)
 obtain⟨pl,hk⟩:=hP
 rw[← lw,yYJ] at pl
 exact q D ys H5 hD hk hDy pl

theorem qWo {α:Type}{p:α→Bool}{l:List α}{i:Nat}{x:α}(h:l[i]? = some x):(l.take (i+1)).filter p=(l.take i).filter p++(if p x then [x] else []):=by
 rw[yYM,h,List.filter_append]
 congr 1
 cases e:p x <;> simp[e]
theorem zY {n:Nat}(h:n≤1000000):n≤sizeLine:=by rw[show sizeLine=16777216 by decide];omega
theorem qZf {vals:List Int}{i:Nat}(h:i<vals.length):vals[i]? = some (vals.getD i 0):=by
 rw[List.getD_eq_getElem?_getD,yYA h];rfl
theorem qDz {bs:List (Str×Int)}:∀i:Nat,i≤bs.length→∀r,Fits (bs.take i) r→r∈allV (bs.take i)
 | 0,_=>fun r f=>by
  have:r=[]:=List.length_eq_zero_iff.mp (by rw[f.1];rfl)
  subst this
  exact yYL.mpr rfl
 | i+1,hi=>fun r f=>by
  have hb:bs[i]? = some (bs[i]'(by omega)):=yYA (by omega)
  have lr:r.length=i+1:=by rw[f.1,yYF];omega
  have er:r=r.take i++[r.getD i 0]:=by
   have e:=qZf (vals:=r) (i:=i) (by omega)
   have:r.take (i+1)=r.take i++[r.getD i 0]:=by rw[yYM,e];rfl
   rw[← this,List.take_of_length_le (by omega)]
  have ft:Fits (bs.take i) (r.take i):=by
   refine⟨by rw[yYF,yYF];omega,fun j b v eb ev=>?_⟩
   have hj:j<i:=by
    have:=(yYB.mp ev).1
    rw[yYF] at this
    omega
   rw[List.getElem?_take_of_lt hj] at eb ev
   exact f.2 j b v (by rw[List.getElem?_take_of_lt (by omega)];exact eb) ev
  have fi:=f.2 i (bs[i]'(by omega)) (r.getD i 0) (by rw[List.getElem?_take_of_lt (by omega)];exact hb) (qZf (by omega))
  rw[jE hb]
  unfold rowsBy
  refine List.mem_flatMap.mpr ⟨r.take i,qDz i (by omega) _ ft,yYP.mpr ⟨(r.getD i 0).toNat,List.mem_range.mpr (by omega),?_⟩⟩
  rw[Int.toNat_of_nonneg fi.1]
  exact er.symm
theorem qCa {bs:List (Str×Int)}{r:List Int}(f:Fits bs r):r∈allV bs:=by
 have:=qDz bs.length (yZC _) r
 rw[yYJ] at this
 exact this f
theorem qXa {bs:List (Str×Int)}{wy:List (Str×Th)}{vals:List Int}(f:Fits bs vals)(h:∀b∈bs,2≤b.2):Fits bs (xP bs wy vals):=by
 refine⟨wK f.1,fun i b v eb ev=>?_⟩
 have hi:i<vals.length:=by rw[f.1];exact(yYB.mp eb).1
 rw[qXb eb (qZf hi)] at ev
 have fb:=f.2 i b _ eb (qZf hi)
 have b2:=h b (yYE eb)
 generalize wy.lookup b.1=o at ev
 cases o with
 | none=>cases ev;exact fb
 | some x=>cases ev;exact⟨Int.emod_nonneg _ (by omega),Int.emod_lt_of_pos _ (by omega)⟩

theorem yM:xE ["condition","boxes","known","standing"] ["condition","boxes","known"] (xA (top 31)):=⟨rfl,rfl,rfl,by decide +kernel,rfl,by decide +kernel,by decide +kernel⟩
def spEach:Sp:=fun vs H Q _=>∃(t:Th) (v:V) (bx ka:Addr) (bs:List (Str×Int)) (rows:List (List Int)) (ss:List V),vs=[v,.ref bx,.ref ka]∧t.At H v∧Cond' (bs.map (·.1)) t∧t.dep≤12∧(∃us,H bx=some (.lst us)∧Paired (BoxIn H) bs us)∧bs.length≤6∧(∀b∈bs,2≤b.2∧b.2≤5)∧
 H ka=some (.lst ss)∧Paired (TupIn H) rows ss∧(∀row∈rows,Fits bs row)∧∀H',Same H H'→Q (.bl (rows.all fun r=>t.truth (envOf (kvsOf bs r)))) H'
theorem qRz {α:Type}{p:α→Bool}{l:List α}{i:Nat}{x:α}(h:l[i]? = some x)(a:(l.take i).all p=true)(b:p x=true):(l.take (i+1)).all p=true:=by
 rw[yYM,h,List.all_append,a]
 simp[b]
theorem qUa (F:Fd K mg "holds_at_each" (top 31) ["condition","boxes","known"])(D_holds:Dn P w K mg base "holds" 26 ["condition","boxes","standing"] qVo):Dn P w K mg base "holds_at_each" 27 ["condition","boxes","known"] spEach:=by
 refine F.ok yM (fun vs H Q E h=>?_) (fun f cdv A outer s H vs Q E hr h=>?_)
 ·obtain⟨_,_,_,_,_,_,_,rfl,_⟩:=h
  rfl
 obtain⟨t,v,bx,ka,bs,rows,ss,rfl,at',cx,dp,hb,b6,b25,eka,pr,hf,q⟩:=h
 have lr:=pr.length
 refine⟨_,(qZ (xT PassesOwn.never rfl (qU (K:=K) (pv 2)) (qG (i:=3) yM.nd rfl (by wtm_at "zo")) (qJ (zV (vZ (yN (qD D_holds hr (qQ (pv 0) (qQ (pv 1) (qQ (pv 3) qX)))))) (qJ (qN qQa)) qY)))
  (qJ (qN qQa))),?_⟩
 wtm_at "zf"
 refine xQa (SqL.of eka) ?_
 refine vB (xs:=ss) (fun i σ' H'=>∃z3:Option V,σ'=[some v,some (.ref bx),some (.ref ka),z3]∧Same H H'∧((rows.take i).all fun r=>t.truth (envOf (kvsOf bs r)))=true) ⟨none,rfl,Same.refl _,rfl⟩
  (fun i σ' H' _ hP=>?_) (fun i x σ' H' ex hP=>?_) (fun σ' H' hP=>?_)
 ·obtain⟨_,rfl,S1,_⟩:=hP
  exact SqL.of (S1 _ _ eka)
 ·obtain⟨z3,rfl,S1,ha⟩:=hP
  have hi:i<rows.length:=by rw[lr];exact(yYB.mp ex).1
  obtain⟨row,erow⟩:∃b,rows[i]? = some b:=⟨_,yYA hi⟩
  have hm:=yYE erow
  obtain⟨ra,rfl,hra⟩:=xK pr erow ex
  obtain⟨us,ebx,pb⟩:=hb
  wtm_at "zw"
  refine⟨t,v,bx,ra,bs,row,rfl,at'.mono (qC S1),cx,dp,⟨⟨us,S1 _ _ ebx,xY (qC S1) pb⟩,S1 _ _ hra,(hf row hm).stands b25,by omega⟩,fun H3 S3=>?_⟩
  wtm_at "zw"
  cases e:t.truth (envOf (kvsOf bs row)) with
  | true=>
   wtm_at "zw"
   exact⟨_,rfl,S1.trans S3,qRz erow ha e⟩
  | false=>
   have z:(rows.all fun r=>t.truth (envOf (kvsOf bs r)))=false:=Bool.eq_false_iff.mpr fun y=>by
    have:=List.all_eq_true.mp y row hm
    rw[e] at this
    cases this
   rw[z] at q
   wtm_at "zw"
   exact q H3 (S1.trans S3)
 ·obtain⟨z3,rfl,S1,ha⟩:=hP
  rw[← lr,yYJ] at ha
  rw[ha] at q
  wtm_at "zw"
  exact q H' S1

structure Srt (ms S:List (List Int)):Prop where
 up:ms.Pairwise fun a b=>HT.lexLt a b=true
 mem:∀k,k∈ms↔k∈S
theorem qJd (a:List Int):HT.lexLt a a=false:=TM.lex_irrefl a
theorem qOw {a b:List Int}(h:HT.lexLt a b=true):HT.lexLt b a=false:=by
 cases c:HT.lexLt b a with
 | false=>rfl
 | true=>
  have:=TM.lex_trans a b a h c
  rw[qJd] at this
  cases this
theorem vR:∀{l1 l2:List (List Int)},l1.Pairwise (fun a b=>HT.lexLt a b=true)→l2.Pairwise (fun a b=>HT.lexLt a b=true)→(∀x,x∈l1↔x∈l2)→l1=l2:=by
 intro l1
 induction l1 with
 | nil=>
  intro l2 _ _ h
  cases l2 with
  | nil=>rfl
  | cons y l2=>exact absurd ((h y).mpr yYG) (by simp)
 | cons x l1 ih=>
  intro l2 u1 u2 h
  cases l2 with
  | nil=>exact absurd ((h x).mp yYG) (by simp)
  | cons y l2=>
   have p1:=List.pairwise_cons.mp u1
   have p2:=List.pairwise_cons.mp u2
   have e:x=y:=by
    rcases yYK.mp ((h x).mp yYG) with e | e
    ·exact e
    ·rcases yYK.mp ((h y).mpr yYG) with e2 | e2
     ·exact e2.symm
     ·have h1:=p2.1 x e
      have h2:=qOw (p1.1 y e2)
      rw[h1] at h2
      cases h2
   subst e
   rw[ih p1.2 p2.2 fun z=>?_]
   have no1:x∉l1:=fun z=>by have:=p1.1 x z;rw[qJd] at this;cases this
   have no2:x∉l2:=fun z=>by have:=p2.1 x z;rw[qJd] at this;cases this
   constructor
   ·intro hz
    rcases yYK.mp ((h z).mp (yYH _ hz)) with e | e
    ·exact absurd (e▸hz) no1
    ·exact e
   ·intro hz
    rcases yYK.mp ((h z).mpr (yYH _ hz)) with e | e
    ·exact absurd (e▸hz) no2
    ·exact e
theorem qAn {ms:List (List Int)}(h:ms.Pairwise fun a b=>HT.lexLt b a=false)(nd:ms.Nodup):ms.Pairwise fun a b=>HT.lexLt a b=true:=by
 refine(List.Pairwise.and h nd).imp fun{a b} ⟨h1,h2⟩=>?_
 cases c:HT.lexLt a b with
 | true=>rfl
 | false=>exact absurd (TM.lex_total a b c h1) h2
theorem qFa {ms:List (List Int)}(h:ms.Pairwise fun a b=>HT.lexLt a b=true):ms.Nodup:=h.imp fun{a b} h e=>by rw[e,qJd] at h;cases h
theorem qQh {ws xs:List (List Int)}(nd:ws.Nodup)(h:∀x∈ws,x∈xs):ws.length≤xs.length:=ST.nd_le ws xs nd h
def jF (bs:List (Str×Int))(wys:List (List (Str×Th)))(rows:List (List Int)):List (List Int):=rows.flatMap fun r=>wys.map fun wy=>xP bs wy r
theorem qXv {bs:List (Str×Int)}{wys:List (List (Str×Th))}{rows:List (List Int)}{i:Nat}{r:List Int}(h:rows[i]? = some r):jF bs wys (rows.take (i+1))=jF bs wys (rows.take i)++wys.map fun wy=>xP bs wy r:=by
 unfold jF
 rw[yYM,h,List.flatMap_append]
 show _++(_++[])=_
 rw[List.append_nil]
theorem qZw (bs:List (Str×Int))(wys:List (List (Str×Th))):∀rows:List (List Int),(jF bs wys rows).length=rows.length * wys.length
 | []=>by rw[yYU,Nat.zero_mul];rfl
 | r::rows=>by
  show((wys.map fun wy=>xP bs wy r)++jF bs wys rows).length=_
  rw[yYI,yYC,qZw bs wys rows,yYT,Nat.succ_mul]
  omega
theorem kS {bs:List (Str×Int)}{wys:List (List (Str×Th))}{rows:List (List Int)}(h:∀r∈rows,Fits bs r)(h2:∀b∈bs,2≤b.2):∀k∈jF bs wys rows,Fits bs k:=fun k hk=>by
 obtain⟨r,hr,hk⟩:=List.mem_flatMap.mp hk
 obtain⟨wy,_,rfl⟩:=yYP.mp hk
 exact qXa (h r hr) h2
theorem qFn:xE ["world","known","name"] ["world","known","name"] (xA (top 29)):=⟨rfl,rfl,rfl,by decide +kernel,rfl,by decide +kernel,by decide +kernel⟩
structure Ask (H:Hp)(W:Wd)(p ka:Addr)(rows:List (List Int)):Prop where
 at':∃(bx dx lx:Addr) (bv gv:V),H p=some (.tup [.ref bx,.ref dx,.ref lx,bv,gv])∧WAt H W bx dx lx bv gv
 ok:WOk W
 b3:W.bs.length≤3
 known:∃ss,H ka=some (.lst ss)∧Paired (TupIn H) rows ss
 fits:∀r∈rows,Fits W.bs r
 few:rows.length≤200
theorem Ask.same {H H':Hp}{W:Wd}{p ka:Addr}{rows:List (List Int)}(x:Ask H W p ka rows)(S:Same H H'):Ask H' W p ka rows:=by
 obtain⟨bx,dx,lx,bv,gv,e,a⟩:=x.at'
 obtain⟨ss,es,ps⟩:=x.known
 exact⟨⟨bx,dx,lx,bv,gv,S _ _ e,a.same S⟩,x.ok,x.b3,⟨ss,S _ _ es,xJ (qC S) ps⟩,x.fits,x.few⟩
def spMay:Sp:=fun vs H Q _=>∃(W:Wd) (p ka:Addr) (rows:List (List Int)) (d:Deed),vs=[.ref p,.ref ka,.str d.name]∧Ask H W p ka rows∧d∈W.ds∧∀H',Same H H'→Q (.bl (rows.all fun r=>d.need.truth (envOf (kvsOf W.bs r)))) H'
theorem xZn (F:Fd K mg "may_do" (top 29) ["world","known","name"])(D_named:Dn P w K mg base "named" 1 ["things","name","kind"] qVn)(D_holds_at_each:Dn P w K mg base "holds_at_each" 27 ["condition","boxes","known"] spEach):Dn P w K mg base "may_do" 28 ["world","known","name"] spMay:=by
 refine F.ok qFn (fun vs H Q E h=>?_) (fun f cdv A outer s H vs Q E hr h=>?_)
 ·obtain⟨_,_,_,_,_,rfl,_⟩:=h
  rfl
 obtain⟨W,p,ka,rows,d,rfl,x,hd,q⟩:=h
 obtain⟨bx,dx,lx,bv,gv,ep,A0⟩:=x.at'
 obtain⟨ss,eka,pss⟩:=x.known
 have ok:=x.ok
 obtain⟨du,edx,pd⟩:=A0.deeds
 obtain⟨i,ei⟩:=List.mem_iff_getElem?.mp hd
 have dok:=ok.deeds d hd
 refine⟨_,(qJ (qN (qD D_holds_at_each hr (qQ (xG (qS (K:=K)) (qD D_named hr (qQ (xG (qS (K:=K)) (pv 0) qE (fun _ _=>rfl)) (qQ (pv 2) (qQ qF qX)))) qE (fun _ _=>rfl)) (qQ (xG (qS (K:=K)) (pv 0) qE (fun _ _=>rfl)) (qQ (pv 1) qX)))))),?_⟩
 wtm_at "zw"
 refine⟨dx,du,W.ds.map Deed.name,d.name,.str "deed",rfl,edx,kP pd,(List.nodup_append.mp ok.nd).1,i,by rw[yYO,ei];rfl,fun u eu=>?_⟩
 obtain⟨a,nv,wa,wu,rfl,ea,nat,ewa,pw⟩:=xK pd ei eu
 wtm_at "zw"
 exact⟨d.need,nv,bx,ka,W.bs,rows,ss,rfl,nat,dok.need,dok.dep,A0.boxes,ok.b6,ok.b25,eka,pss,x.fits,q⟩
theorem vX:xE ["world","known","name","ways","coming","standing"] ["world","known","name"] (xA (top 30)):=⟨rfl,rfl,rfl,by decide +kernel,rfl,by decide +kernel,by decide +kernel⟩
theorem qZa:CompOk (xA (top 30)) ["world","known","name","ways","coming","standing"] (scAt (xB (top 30)) [2,0] [1]) ["way","standing","world"] 1 [5,0]:=
 ⟨by decide +kernel,by decide +kernel,by decide +kernel,by decide +kernel,by decide +kernel,by decide +kernel,by decide +kernel,by decide +kernel⟩
def qYl:Sp:=fun vs H Q _=>∃(W:Wd) (p ka:Addr) (rows:List (List Int)) (d:Deed),vs=[.ref p,.ref ka,.str d.name]∧Ask H W p ka rows∧d∈W.ds∧d.ways.length≤100∧
 ∀(r:Addr) (us:List V) (ms:List (List Int)) (H':Hp),H r=none→Same H H'→H' r=some (.lst us)→Paired (TupIn H') ms us→Srt ms (jF W.bs d.ways rows)→Q (.ref r) H'
theorem qEw (F:Fd K mg "behind" (top 30) ["world","known","name"])(B:Bl mg)(B_set:mg "set" = none)(B_sorted:mg "sorted" = none)(D_named:Dn P w K mg base "named" 1 ["things","name","kind"] qVn)(D_behind_way:Dn P w K mg base "behind_way" 14 ["boxes","way","standing"] qBz):Dn P w K mg base "behind" 15 ["world","known","name"] qYl:=by
 refine F.ok vX (fun vs H Q E h=>?_) (fun f cdv A outer s H vs Q E hr h=>?_)
 ·obtain⟨_,_,_,_,_,rfl,_⟩:=h
  rfl
 obtain⟨W,p,ka,rows,d,rfl,x,hd,dl,q⟩:=h
 obtain⟨bx,dx,lx,bv,gv,ep,A0⟩:=x.at'
 obtain⟨ss,eka,pss⟩:=x.known
 have ok:=x.ok
 have few:=x.few
 have b6:=ok.b6
 obtain⟨us,ebx,pb⟩:=A0.boxes
 obtain⟨du,edx,pd⟩:=A0.deeds
 obtain⟨i0,ei⟩:=List.mem_iff_getElem?.mp hd
 have dok:=ok.deeds d hd
 have ls0:=pss.length
 refine⟨_,(qZ (qM (i:=3) vX.nd rfl (by wtm_at "zo") (xG (qS (K:=K)) (qD D_named hr (qQ (xG (qS (K:=K)) (pv 0) qE (fun _ _=>rfl)) (qQ (pv 2) (qQ qF qX)))) qE (fun _ _=>rfl)))
  (qZ (qM (i:=4) vX.nd rfl (by wtm_at "zo") (xU qX))
  (qZ (xT PassesOwn.never rfl (qU (K:=K) (pv 1)) (qG (i:=5) vX.nd rfl (by wtm_at "zo")) (qJ (qP (vV (K:=K) PySem.F.plainAttrs_list PySem.F.slot_list_extend PySem.F.type_list_extend qQl (pv 4) (qQ (zT rfl qZa (qU (K:=K) (pv 3)) (fun cl fp s H=>(qG (i:=0) qZa.nd rfl (Or.inl rfl) (.inr rfl))) (fun cl fp s H=>zE) (fun cl fp s H=>(qD D_behind_way hr (qQ (xG (qS (K:=K)) (pv 2) qE (fun _ _=>rfl)) (qQ (pv 0) (qQ (pv 1) qX)))))) qX)))))
  (qJ (qN (xZ (qEc (P:=P) (w:=w) rfl) rfl B_sorted vM (qQ (xX (qMk (P:=P) (w:=w) (K:=K) rfl hr.units) rfl B_set qSv (qQ (pv 4) qX)) qX))))))),?_⟩
 wtm_at "zw"
 refine⟨dx,du,W.ds.map Deed.name,d.name,.str "deed",rfl,edx,kP pd,(List.nodup_append.mp ok.nd).1,i0,by rw[yYO,ei];rfl,fun u eu=>?_⟩
 obtain⟨a,nv,wa,wu,rfl,ea,nat,ewa,pw⟩:=xK pd ei eu
 wtm_at "zw"
 refine⟨zY (yZF _),fun cg hcg=>?_⟩
 have S1:=qV hcg (.lst [])
 have ecg:upd H cg (.lst []) cg=some (.lst []):=qW
 generalize upd H cg (.lst [])=H1 at S1 ecg ⊢
 wtm_at "zf"
 refine⟨ka,rfl,⟨ss,SqL.of (S1 _ _ eka)⟩,?_⟩
 refine xH (xs:=ss) (fun i σ' H'=>∃(z:Option V) (ys:List V),σ'=[some (.ref p),some (.ref ka),some (.str d.name),some (.ref wa),some (.ref cg),z]∧H' cg=some (.lst ys)∧Paired (TupIn H') (jF W.bs d.ways (rows.take i)) ys∧Same H H') ⟨none,[],rfl,ecg,.nil,S1⟩
  (fun i σ' H' _ hP=>?_) (fun N rt bk i u σ' H' ex hP hN=>?_) (fun σ' H' hP=>?_)
 ·obtain⟨_,_,_,_,_,S⟩:=hP
  exact SqL.of (S _ _ eka)
 ·obtain⟨z,ys,rfl,ecg',py,S'⟩:=hP
  have hi:i<rows.length:=by rw[ls0];exact(yYB.mp ex).1
  obtain⟨row,erow⟩:∃b,rows[i]? = some b:=⟨_,yYA hi⟩
  obtain⟨st,rfl,est⟩:=xK pss erow ex
  have fits:=x.fits row (yYE erow)
  have ly:=py.length
  rw[qZw,yYF] at ly
  have lb:(min i rows.length) * d.ways.length≤200 * 100:=Nat.mul_le_mul (by omega) dl
  wtm_at "zw"
  refine qDv (SqL.of ecg') ?_
  wtm_at "zw"
  refine qRk ?_
  wtm_at "zw"
  refine⟨wa,rfl,⟨wu,SqL.of (S' _ _ ewa)⟩,?_⟩
  refine qEl (bs:=W.bs) (vals:=row) (S' _ _ ewa) (Paired.mapP pw fun _ _ y=>y.same S') dok.le (fun u wy H2 R hwy wi S2 hR=>?_) fun D zs H2 nD S2 eD pz=>?_
  ·obtain⟨ya,cs,rfl,eya,pc⟩:=wi
   have S3:=S'.trans S2
   refine⟨_,rfl,p,_,0,.ref bx,rfl,rfl,SqT.of (S3 _ _ ep),rfl,_,rfl,_,rfl,bx,ya,st,W.bs,wy,row,us,cs,rfl,S3 _ _ ebx,xY (qC S3) pb,ok.named.nd,by omega,ok.b25,eya,pc,dok.ways wy hwy,S3 _ _ est,fits,hR⟩
  ·have lz:=pz.length
   rw[yYC] at lz
   wtm_at "zw"
   refine⟨cg,D,ys,zs,rfl,rfl,S2 _ _ ecg',eD,zY (by omega),?_⟩
   have T:Tups H2 (upd H2 cg (.lst (ys++zs))):=fun b xs e=>by rw[qA (jZ e (S2 _ _ ecg') (by intro z;cases z))];exact e
   refine hN _ _ ⟨_,ys++zs,rfl,qW,?_,fun b o e=>by rw[qA (qB e hcg)];exact(S'.trans S2) _ _ e⟩
   rw[qXv erow]
   exact wZ (xJ ((qC S2).trans T) py) (xJ T pz)
 obtain⟨z,ys,rfl,ecg',py,S'⟩:=hP
 rw[← ls0,yYJ] at py
 have cf:=kS (wys:=d.ways) x.fits fun b hb=>(ok.b25 b hb).1
 have al:=kE ok.b25 W.bs.length (yZC _)
 rw[yYJ] at al
 have p125:5 ^ W.bs.length≤5 ^ 3:=Nat.pow_le_pow_right (by decide) x.b3
 wtm_at "zw"
 refine⟨cg,ys,jF W.bs d.ways rows,rfl,SqL.of ecg',py,fun zs nd sub=>?_,fun sp xs nsp ndx hx hall=>?_⟩
 ·have:=qQh nd fun k hk=>qCa (cf k (sub k hk))
  have e:(5:Nat) ^ 3=125:=by decide
  omega
 have S2:=qV nsp (SetT P w sp xs)
 have esp:upd H' sp (SetT P w sp xs) sp=some (SetT P w sp xs):=qW
 generalize upd H' sp (SetT P w sp xs)=H2 at S2 esp ⊢
 wtm_at "zw"
 refine⟨sp,xs,rfl,esp,fun y hy=>⟨fun z=>?_,S2 _ _ (hx y hy).2⟩,fun L ms nL pm so=>?_⟩
 ·have f1:=(cf y.1 (hx y hy).1).1
  rw[z] at f1
  have:=ok.b1
  rw[yYU] at f1
  omega
 have S3:=S2.trans (qV nL (.lst (ms.map fun x=>V.ref x.2)))
 have S4:=S'.trans S3
 refine q L (ms.map fun x=>V.ref x.2) (ms.map (·.1)) _ ((S'.trans S2).free nL) S4 qW ?_ ⟨qAn so ((pm.map (·.1)).nodup_iff.mpr ndx),fun k=>?_⟩
 ·have all:∀y∈ms,H' y.2=some (.tup (intsV y.1)):=fun y hy=>(hx y (pm.mem_iff.mp hy)).2
  have:∀l:List (List Int×Addr),(∀y∈l,H' y.2=some (.tup (intsV y.1)))→Paired (TupIn (upd H2 L (.lst (ms.map fun x=>V.ref x.2)))) (l.map (·.1)) (l.map fun x=>V.ref x.2):=by
   intro l
   induction l with
   | nil=>intro _;exact .nil
   | cons y l ih=>intro h;exact .cons ⟨y.2,rfl,S3 _ _ (h y yYG)⟩ (ih fun z hz=>h z (yYH _ hz))
  exact this ms all
 ·rw[(pm.map (·.1)).mem_iff]
  constructor
  ·intro hk
   obtain⟨y,hy,rfl⟩:=yYP.mp hk
   exact(hx y hy).1
  ·exact hall k

def DIn (bs:List (Str×Int))(H:Hp)(vals:List Int)(u:V):Prop:=∃a,u=.ref a∧H a=some (.dK (kvsOf bs vals))
def Dcts (H H':Hp):Prop:=∀a kvs,H a=some (.dK kvs)→H' a=some (.dK kvs)
theorem Dcts.same {H H':Hp}(S:Same H H'):Dcts H H':=fun a kvs e=>S _ _ e
theorem Dcts.trans {H H1 H2:Hp}(a:Dcts H H1)(b:Dcts H1 H2):Dcts H H2:=fun c k e=>b c k (a c k e)
theorem jD {bs:List (Str×Int)}{H H':Hp}(d:Dcts H H'){rows:List (List Int)}{us:List V}(p:Paired (DIn bs H) rows us):Paired (DIn bs H') rows us:=Paired.mapP p fun _ _ ⟨a,e,h⟩=>⟨a,e,d _ _ h⟩
theorem qOc {bs:List (Str×Int)}{i:Nat}{b:Str×Int}{r:List Int}{v:Int}(eb:bs[i]? = some b)(hl:r.length=(bs.take i).length):kvsOf (bs.take (i+1)) (r++[v])=putK (kvsOf (bs.take i) r) (Sum.inr b.1) (.int v):=by
 unfold kvsOf zipK mergeK
 rw[yYM,eb,yYV,show intsV (r++[v])=intsV r++[V.int v] from yYV ..]
 rw[List.zip_append (by rw[yYC,zU,hl]),yYV,List.foldl_append]
 rfl
theorem zA:xE ["boxes","found","name","size","longer","values","value","more"] ["boxes"] (xA (top 41)):=⟨rfl,rfl,rfl,by decide +kernel,rfl,by decide +kernel,by decide +kernel⟩
def spAllD:Sp:=fun vs H Q _=>∃(bx:Addr) (bs:List (Str×Int)) (us:List V),vs=[.ref bx]∧H bx=some (.lst us)∧Paired (BoxIn H) bs us∧bs.length≤6∧(∀b∈bs,2≤b.2∧b.2≤5)∧
 ∀(r:Addr) (ss:List V) (H':Hp),H r=none→Same H H'→H' r=some (.lst ss)→Paired (DIn bs H') (allV bs) ss→Q (.ref r) H'
theorem qUw (F:Fd K mg "_law_all" (top 41) ["boxes"])(B:Bl mg):Dn P w K mg base "_law_all" 1 ["boxes"] spAllD:=by
 refine F.ok zA (fun vs H Q E h=>?_) (fun f cdv A outer s H vs Q E hr h=>?_)
 ·obtain⟨_,_,_,rfl,_⟩:=h
  rfl
 obtain⟨bx,bs,us,rfl,ebx,pb,h6,h25,q⟩:=h
 have hu:=qWm hr
 have lb:us.length=bs.length:=pb.length.symm
 refine⟨_,(qZ (qM (i:=1) zA.nd rfl (by wtm_at "zo") (xU (qQ qNn qX)))
  (qZ (xT PassesOwn.never rfl (qU (K:=K) (pv 0)) (zF (K:=K) (n:=2) rfl (qH (qG (i:=2) zA.nd rfl (by wtm_at "zo")) (qH (qG (i:=3) zA.nd rfl (by wtm_at "zo")) qI))) (qZ (qM (i:=4) zA.nd rfl (by wtm_at "zo") (xU qX))
  (qZ (xT PassesOwn.never rfl (qU (K:=K) (pv 1)) (qG (i:=5) zA.nd rfl (by wtm_at "zo")) (qJ (xT PassesOwn.never rfl (vJ rfl B.range' (qQ (pv 3) qX)) (qG (i:=6) zA.nd rfl (by wtm_at "zo")) (qZ (qM (i:=7) zA.nd rfl (by wtm_at "zo") (xX yX rfl B.dict' wY (qQ (pv 5) qX)))
  (qZ (qJv hu (pv 7) (pv 2) (pv 6) rfl)
  (qJ (qP (vV (K:=K) PySem.F.plainAttrs_list PySem.F.slot_list_append PySem.F.type_list_append jO (pv 4) (qQ (pv 7) qX)))))))))
  (qJ (qM (i:=1) zA.nd rfl (by wtm_at "zo") (pv 4))))))
  (qJ (qN (pv 1))))),?_⟩
 wtm_at "zw"
 intro d0 hd0
 wtm_at "zw"
 refine⟨zY (show 1≤1000000 by decide),fun r0 hr0=>?_⟩
 have S0:Same H (upd (upd H d0 (.dK [])) r0 (.lst [.ref d0])):=(qV hd0 _).trans (qV hr0 _)
 have ed0:upd (upd H d0 (.dK [])) r0 (.lst [.ref d0]) d0=some (.dK []):=qV hr0 _ _ _ qW
 have er0:upd (upd H d0 (.dK [])) r0 (.lst [.ref d0]) r0=some (.lst [.ref d0]):=qW
 have nr0:H r0=none:=(qV hd0 _).free hr0
 generalize upd (upd H d0 (.dK [])) r0 (.lst [.ref d0])=H0 at S0 ed0 er0 ⊢
 wtm_at "zf"
 refine⟨bx,rfl,⟨us,SqL.of (S0 _ _ ebx)⟩,?_⟩
 refine xH (xs:=us) (fun i σ' H'=>∃(ro:Addr) (ss:List V) (z2 z3 z4 z5 z6 z7:Option V),σ'=[some (.ref bx),some (.ref ro),z2,z3,z4,z5,z6,z7]∧Same H H'∧H ro=none∧H' ro=some (.lst ss)∧Paired (DIn (bs.take i) H') (allV (bs.take i)) ss)
  ⟨r0,[.ref d0],none,none,none,none,none,none,rfl,S0,nr0,er0,.cons ⟨d0,rfl,ed0⟩ .nil⟩
  (fun i σ' H' _ hP=>?_) (fun N rt bk i x σ' H' ex hP hN=>?_) (fun σ' H' hP=>?_)
 ·obtain⟨ro,ss,z2,z3,z4,z5,z6,z7,rfl,S1,_⟩:=hP
  exact SqL.of (S1 _ _ ebx)
 ·obtain⟨ro,ss,z2,z3,z4,z5,z6,z7,rfl,S1,nro,ero,prs⟩:=hP
  have hi:i<bs.length:=by rw[← lb];exact(yYB.mp ex).1
  obtain⟨b,eb⟩:∃b,bs[i]? = some b:=⟨_,yYA hi⟩
  obtain⟨ba,rfl,hba⟩:=xK pb eb ex
  have hb25:=h25 b (yYE eb)
  have rl:=kE h25 i (by omega)
  have p5:=pow56 (i:=i) (by omega)
  have hba':=S1 _ _ hba
  have lr:=prs.length
  wtm_at "zw"
  refine⟨zY (yZF _),fun lo hlo=>?_⟩
  have S2:=qV hlo (.lst [])
  have elo:upd H' lo (.lst []) lo=some (.lst []):=qW
  generalize upd H' lo (.lst [])=H2 at S2 elo ⊢
  wtm_at "zf"
  refine⟨ro,rfl,⟨ss,SqL.of (S2 _ _ ero)⟩,?_⟩
  refine xH (xs:=ss) (fun j σ'' H''=>∃(ls:List V) (z5 z6 z7:Option V),σ''=[some (.ref bx),some (.ref ro),some (.str b.1),some (.int b.2),some (.ref lo),z5,z6,z7]∧Same H' H''∧H'' lo=some (.lst ls)∧Paired (DIn (bs.take (i+1)) H'') (rowsBy ((allV (bs.take i)).take j) b.2.toNat) ls)
   ⟨[],z5,z6,z7,rfl,S2,elo,.nil⟩ (fun j σ'' H'' _ hP=>?_) (fun N2 rt2 bk2 j x σ'' H'' ex2 hP hN2=>?_) (fun σ'' H'' hP=>?_)
  ·obtain⟨ls,_,_,_,rfl,k2,_⟩:=hP
   exact SqL.of (k2 _ _ ero)
  ·obtain⟨ls,y5,y6,y7,rfl,k2,elo2,pls⟩:=hP
   have hj:j<(allV (bs.take i)).length:=by rw[lr];exact(yYB.mp ex2).1
   obtain⟨row,erow⟩:∃row,(allV (bs.take i))[j]? = some row:=⟨_,yYA hj⟩
   obtain⟨ra,rfl,hra⟩:=xK prs erow ex2
   have hrl:=vO bs i (by omega) row (yYE erow)
   have lm:=yU (allV (bs.take i)) b.2.toNat j
   have l5:(allV (bs.take i)).length * b.2.toNat≤15625 * 5:=Nat.mul_le_mul (by omega) (by omega)
   wtm_at "zf"
   refine⟨_,rfl,by omega,by omega,?_⟩
   refine qZj (fun k σ3 H3=>∃(ls:List V) (x6 x7:Option V),σ3=[some (.ref bx),some (.ref ro),some (.str b.1),some (.int b.2),some (.ref lo),some (.ref ra),x6,x7]∧Same H' H3∧H3 lo=some (.lst ls)∧Paired (DIn (bs.take (i+1)) H3) (rowsBy ((allV (bs.take i)).take j) b.2.toNat++(List.range k).map fun v=>row++[((v:Nat):Int)]) ls)
    ⟨ls,y6,y7,rfl,k2,elo2,by rw[List.range_zero,List.map_nil,List.append_nil];exact pls⟩ ?_ ?_
   ·rintro N3 rt3 bk3 k σ3 H3 hk ⟨ls,x6,x7,rfl,k3,elo3,pl3⟩ hN3
    have era:=k3 _ _ hra
    have ll:=pl3.length
    rw[yYI,yYC,List.length_range] at ll
    wtm_at "zw"
    refine⟨ra,_,rfl,era,fun mo hmo=>?_⟩
    wtm_at "zw"
    refine⟨mo,_,rfl,DPut.k (k:=Sum.inr b.1) qW (small ?_),?_⟩
    ·have:=qWi (bs.take i) row
     rw[yYF] at this
     omega
    have emo:upd (upd H3 mo (.dK (kvsOf (bs.take i) row))) mo (.dK (putK (kvsOf (bs.take i) row) (Sum.inr b.1) (.int (0+(k:Int))))) mo=some (.dK (kvsOf (bs.take (i+1)) (row++[(k:Int)]))):=by
     rw[qW,qOc eb (by rw[hrl,yYF];omega),Int.zero_add]
    have S4:Same H3 (upd (upd H3 mo (.dK (kvsOf (bs.take i) row))) mo (.dK (putK (kvsOf (bs.take i) row) (Sum.inr b.1) (.int (0+(k:Int)))))):=fun a o e=>by
     rw[qA (qB e hmo),qA (qB e hmo)];exact e
    generalize upd (upd H3 mo (.dK (kvsOf (bs.take i) row))) mo (.dK (putK (kvsOf (bs.take i) row) (Sum.inr b.1) (.int (0+(k:Int)))))=H4 at emo S4 ⊢
    have elo4:=S4 _ _ elo3
    wtm_at "zw"
    refine qDv (SqL.of elo4) ?_
    wtm_at "zw"
    refine⟨lo,ls,.ref mo,rfl,rfl,elo4,small2 (by omega),?_⟩
    have D5:Dcts H4 (upd H4 lo (.lst (ls++[V.ref mo]))):=fun a kv e=>by rw[qA (jZ e elo4 (by intro z;cases z))];exact e
    refine hN3 _ _ ⟨ls++[.ref mo],_,_,rfl,fun a o e=>?_,qW,?_⟩
    ·rw[qA (qB e hlo)];exact S4 _ _ (k3 _ _ e)
    ·rw[List.range_succ,yYV,← yYQ]
     exact Paired.snoc (jD ((Dcts.same S4).trans D5) pl3) ⟨mo,rfl,D5 _ _ emo⟩
   ·rintro σ3 H3 ⟨ls,x6,x7,rfl,k3,elo3,pl3⟩
    refine hN2 _ _ ⟨ls,_,_,_,rfl,k3,elo3,?_⟩
    rw[qQk erow]
    exact pl3
  ·obtain⟨ls,y5,y6,y7,rfl,k2,elo2,pls⟩:=hP
   rw[← lr,yYJ,← jE eb] at pls
   wtm_at "zw"
   exact hN _ _ ⟨lo,ls,_,_,_,_,_,_,rfl,S1.trans k2,S1.free hlo,elo2,pls⟩
 ·obtain⟨ro,ss,z2,z3,z4,z5,z6,z7,rfl,S1,nro,ero,prs⟩:=hP
  rw[lb,yYJ] at prs
  wtm_at "zw"
  exact q ro ss H' nro S1 ero prs

theorem qEq {α:Type}(xs:List α)(k:Nat)(y:α):(insAt xs k y).Perm (y::xs):=by
 unfold insAt
 have h:=List.perm_middle (a:=y) (l₁:=xs.take k) (l₂:=xs.drop k)
 rw[List.take_append_drop] at h
 exact h
theorem qKv {α β:Type}{R:α→β→Prop}{xs:List α}{ys:List β}(p:Paired R xs ys)(k:Nat){x:α}{y:β}(h:R x y):Paired R (insAt xs k x) (insAt ys k y):=by
 unfold insAt
 induction p generalizing k with
 | nil=>rw[List.take_nil,List.take_nil,List.drop_nil,List.drop_nil];exact .cons h .nil
 | cons h1 t ih=>
  cases k with
  | zero=>exact .cons h (.cons h1 t)
  | succ k=>exact .cons h1 (ih k)
theorem Dq.fresh {H:Hp}{dk na l:Addr}(D:Dq H dk na)(h:H l=none):l≠dk∧l≠na:=by
 obtain⟨ms,d,h1,h2⟩:=D.ex
 exact⟨(fun z=>by subst z;rw[h1] at h;cases h),(fun z=>by subst z;rw[h2] at h;cases h)⟩
def Bt (dk na da:Addr)(H H':Hp):Prop:=∀b o,b≠dk→b≠na→b≠da→H b=some o→H' b=some o
theorem Bt.trans {dk na da:Addr}{H H1 H2:Hp}(a:Bt dk na da H H1)(b:Bt dk na da H1 H2):Bt dk na da H H2:=fun c o n1 n2 n3 e=>b c o n1 n2 n3 (a c o n1 n2 n3 e)
theorem Bt.q {dk na da:Addr}{H H1:Hp}(b:Bq dk na H H1):Bt dk na da H H1:=fun c o n1 n2 _ e=>b c o n1 n2 e
theorem Bt.tups {dk na da:Addr}{H H':Hp}(b:Bt dk na da H H')(D:Dq H dk na){xs:List V}(e:H da=some (.lst xs)):Tups H H':=fun c ys h=>by
 obtain⟨ms,d,h1,h2⟩:=D.ex
 exact b c _ (jZ h h1 (by intro z;cases z)) (jZ h h2 (by intro z;cases z)) (jZ h e (by intro z;cases z)) h
theorem qIj {n:Nat}(h:n≤1000):(n:Int).natAbs<2 ^ 1000:=yZH (show(n:Int).natAbs≤1000 by omega) (by decide +kernel)
theorem yY:xE ["deck","boxes","changes","name","size","place"] ["deck","boxes"] (xA (top 37)):=⟨rfl,rfl,rfl,by decide +kernel,rfl,by decide +kernel,by decide +kernel⟩
def qFb:Sp:=fun vs H Q _=>∃(dk na bx:Addr) (bs:List (Str×Int)),vs=[.ref dk,.ref bx]∧Bk H dk na bx bs∧(bs.map (·.1)).Nodup∧
 ∀(r:Addr) (wy:List (Str×Th)) (cs:List V) (H':Hp),H r=none→Bq dk na H H'→Dq H' dk na→H' r=some (.lst cs)→Paired (zM H') wy cs→WayOk (bs.map (·.1)) wy→Q (.ref r) H'
theorem xZl (F:Fd K mg "_law_way" (top 37) ["deck","boxes"])(B:Bl mg)(D_law_take:Dn P w K mg base "_law_take" 1 ["deck","many"] spTake)(D_law_expression:Dn P w K mg base "_law_expression" 4 ["deck","boxes","deep"] (spExpr 3)):Dn P w K mg base "_law_way" 5 ["deck","boxes"] qFb:=by
 refine F.ok yY (fun vs H Q E h=>?_) (fun f cdv A outer s H vs Q E hr h=>?_)
 ·obtain⟨_,_,_,_,rfl,_⟩:=h
  rfl
 obtain⟨dk,na,bx,bs,rfl,k0,nd,q⟩:=h
 have le:=k0.le
 refine⟨_,(qZ (qM (i:=2) yY.nd rfl (by wtm_at "zo") (xU qX))
  (qZ (xT PassesOwn.never rfl (qU (K:=K) (pv 1)) (zF (K:=K) (n:=2) rfl (qH (qG (i:=3) yY.nd rfl (by wtm_at "zo")) (qH (qG (i:=4) yY.nd rfl (by wtm_at "zo")) qI))) (qJ (zV (qR jB (qD D_law_take hr (qQ (pv 0) (qQ qE qX))) qE (xD _)) (qZ (qM (i:=5) yY.nd rfl (by wtm_at "zo") (xQ qQd (qD D_law_take hr (qQ (pv 0) (qQ qE qX))) (xZ (yW (K:=K)) rfl B.len' qXw (qQ (pv 2) qX))))
  (qJ (qP (vV (K:=K) PySem.F.plainAttrs_list PySem.F.slot_list_insert PySem.F.type_list_insert qHj (pv 2) (qQ (pv 5) (qQ (jA (qQ (pv 3) (qQ (qD D_law_expression hr (qQ (pv 0) (qQ (pv 1) (qQ qE qX)))) qX))) qX)))))) qY)))
  (qJ (qN (pv 2))))),?_⟩
 wtm_at "zw"
 refine⟨zY (yZF _),fun ch hch=>?_⟩
 have nch:=k0.deck.fresh hch
 have S1:=qV hch (.lst [])
 have ech:upd H ch (.lst []) ch=some (.lst []):=qW
 generalize upd H ch (.lst [])=H1 at S1 ech ⊢
 have k1:=k0.same S1
 obtain⟨us,ebx,pb⟩:=k1.boxes
 have lb:=pb.length
 have bch:bx≠ch:=by
  obtain⟨us',e',_⟩:=k0.boxes
  exact qB e' hch
 wtm_at "zf"
 refine⟨bx,rfl,⟨us,SqL.of ebx⟩,?_⟩
 refine xH (xs:=us) (fun i σ' H'=>∃(z3 z4 z5:Option V) (wy:List (Str×Th)) (cs:List V),σ'=[some (.ref dk),some (.ref bx),some (.ref ch),z3,z4,z5]∧Bt dk na ch H1 H'∧Dq H' dk na∧H' ch=some (.lst cs)∧Paired (zM H') wy cs∧(wy.map (·.1)).Nodup∧(∀c∈wy,c.1∈(bs.take i).map (·.1)∧Expr' (bs.map (·.1)) c.2∧c.2.dep≤12)∧wy.length≤i)
  ⟨none,none,none,[],[],rfl,fun b o _ _ _ e=>e,k1.deck,ech,.nil,List.nodup_nil,(fun c hc=>by cases hc),yZC _⟩
  (fun i σ' H' _ hP=>?_) (fun N rt bk i x σ' H' ex hP hN=>?_) (fun σ' H' hP=>?_)
 ·obtain⟨_,_,_,_,_,rfl,bt,_⟩:=hP
  exact SqL.of (bt _ _ k1.n1 k1.n2 bch ebx)
 ·obtain⟨z3,z4,z5,wy,cs,rfl,bt,D',ech',pc,wnd,wok,wl⟩:=hP
  have hi:i<bs.length:=by rw[lb];exact(yYB.mp ex).1
  obtain⟨b,eb⟩:∃b,bs[i]? = some b:=⟨_,yYA hi⟩
  obtain⟨ba,rfl,hba⟩:=xK pb eb ex
  have T1:=bt.tups k1.deck ech
  have hba':=T1 _ _ hba
  have lc:=pc.length
  have sub:∀c∈(bs.take i).map (fun b:Str×Int=>b.1),c∈(bs.take (i+1)).map (fun b:Str×Int=>b.1):=fun c hc=>by
   rw[yYM,yYV];exact yYS.mpr (.inl hc)
  wtm_at "zw"
  refine⟨dk,na,2,rfl,D',by decide,by decide +kernel,fun x H2 x0 x1 B2 D2=>?_⟩
  wtm_at "zw"
  by_cases c:x=0
  ·subst c
   rw[decide_eq_true rfl]
   have ech2:=B2 _ _ nch.1 nch.2 ech'
   wtm_at "zw"
   refine⟨dk,na,2,rfl,D2,by decide,by decide +kernel,fun y H3 y0 y1 B3 D3=>?_⟩
   have ech3:=B3 _ _ nch.1 nch.2 ech2
   wtm_at "zw"
   refine⟨y,(cs.length:Int),rfl,rfl,⟨?_,qIj (by omega)⟩,?_⟩
   ·exact yZH (show y.natAbs≤1000 by omega) (by decide +kernel)
   wtm_at "zw"
   refine qDv (SqL.of ech3) ?_
   wtm_at "zw"
   have B03:=Bt.trans bt ((Bt.q B2).trans (Bt.q B3))
   have k3:Bk H3 dk na bx bs:=by
    refine⟨D3,⟨us,B03 _ _ k1.n1 k1.n2 bch ebx,xY (B03.tups k1.deck ech) pb⟩,k1.n1,k1.n2,k1.ne,k1.le⟩
   refine⟨dk,na,bx,bs,2,rfl,k3,by decide,by decide,fun t v H4 B4 D4 a4 e4 d4=>?_⟩
   wtm_at "zw"
   refine⟨zY (show 2≤1000000 by decide),fun ca hca=>?_⟩
   have S5:=qV hca (.tup [.str b.1,v])
   have eca:upd H4 ca (.tup [.str b.1,v]) ca=some (.tup [.str b.1,v]):=qW
   have D5:=D4.same S5
   have ech5:=S5 _ _ (B4 _ _ nch.1 nch.2 ech3)
   generalize upd H4 ca (.tup [.str b.1,v])=H5 at S5 eca D5 ech5 ⊢
   have hy:y * (cs.length:Int)=0∨y * (cs.length:Int)=cs.length:=by
    have:y=0∨y=1:=by omega
    rcases this with e | e
    ·rw[e,Int.zero_mul];exact .inl rfl
    ·rw[e,Int.one_mul];exact .inr rfl
   wtm_at "zw"
   refine⟨ch,cs,y * cs.length,.ref ca,rfl,rfl,ech5,by omega,by omega,by omega,?_⟩
   have Q25:Bq dk na H' H5:=B2.trans (B3.trans (B4.trans (Bq.of S5)))
   have T6:Tups H5 (upd H5 ch (.lst (insAt cs (y * (cs.length:Int)).toNat (V.ref ca)))):=fun b xs e=>by rw[qA (jZ e ech5 (by intro z;cases z))];exact e
   have T':=(Q25.tups D').trans T6
   have pm:=qEq wy (y * (cs.length:Int)).toNat (b.1,t)
   refine hN _ _ ⟨_,_,_,insAt wy (y * (cs.length:Int)).toNat (b.1,t),_,rfl,fun b o m1 m2 m3 e=>?_,?_,qW,qKv (Paired.mapP pc fun _ _ z=>let ⟨a,v,e,q,r⟩:=z;⟨a,v,e,T' _ _ q,r.mono T'⟩) _ ⟨ca,v,rfl,T6 _ _ eca,(a4.mono (qC S5)).mono T6⟩,?_,fun c hc=>?_,by rw[qKm];omega⟩
   ·rw[qA m3];exact Q25 _ _ m1 m2 (bt _ _ m1 m2 m3 e)
   ·obtain⟨ms,dd,h1,h2⟩:=D5.ex
    exact⟨ms,dd,by rw[qA (Ne.symm nch.1)];exact h1,by rw[qA (Ne.symm nch.2)];exact h2⟩
   ·rw[(pm.map _).nodup_iff]
    refine List.nodup_cons.mpr ⟨fun hm=>?_,wnd⟩
    obtain⟨c,hc,ec⟩:=yYP.mp hm
    have h1:=(wok c hc).1
    have ec:c.1=b.1:=ec
    rw[ec] at h1
    have nd1:((bs.take (i+1)).map (fun b:Str×Int=>b.1)).Nodup:=((List.take_sublist _ _).map _).nodup nd
    rw[yYM,eb,yYV] at nd1
    exact(List.nodup_append.mp nd1).2.2 _ h1 _ (yYL.mpr rfl) rfl
   ·rcases yYK.mp (pm.mem_iff.mp hc) with rfl | hc
    ·have e5:(2:Int).toNat+1=3:=rfl
     exact⟨by rw[yYM,eb,yYV];exact yYS.mpr (.inr yYG),e4,by show t.dep≤12;omega⟩
    ·exact⟨sub _ (wok c hc).1,(wok c hc).2⟩
  ·rw[decide_eq_false (fun z=>c (by injection z))]
   wtm_at "zw"
   have T2:=B2.tups D'
   exact hN _ _ ⟨_,_,_,wy,cs,rfl,bt.trans (Bt.q B2),D2,B2 _ _ nch.1 nch.2 ech',Paired.mapP pc fun _ _ z=>let ⟨a,v,e,q,r⟩:=z;⟨a,v,e,T2 _ _ q,r.mono T2⟩,wnd,fun c hc=>⟨sub _ (wok c hc).1,(wok c hc).2⟩,by omega⟩
 ·obtain⟨z3,z4,z5,wy,cs,rfl,bt,D',ech',pc,wnd,wok,wl⟩:=hP
  rw[← lb,yYJ] at wok
  wtm_at "zw"
  refine q ch wy cs H' hch (fun b o m1 m2 e=>bt _ _ m1 m2 (qB e hch) (S1 _ _ e)) D' ech' pc ⟨wnd,by omega,wok⟩

abbrev dn16:List Str:=["go","gone","g","goes","turn"]
theorem nd16:dn16.Nodup:=by decide +kernel
theorem qPi (xs:List V)(k:Nat):cutV xs none (some (k:Int))=xs.take k:=by
 unfold cutV
 rw[HT.sIx_none,HT.sIx_nat,List.drop_zero,Nat.sub_zero]
 by_cases h:k≤xs.length
 ·rw[Nat.min_eq_left h]
 ·rw[Nat.min_eq_right (by omega),List.take_of_length_le (yZC _),List.take_of_length_le (by omega)]
theorem jS:xE ["deck","boxes","deeds","name","ways"] ["deck","boxes"] (xA (top 38)):=⟨rfl,rfl,rfl,by decide +kernel,rfl,by decide +kernel,by decide +kernel⟩
theorem vH:CompOk (xA (top 38)) ["deck","boxes","deeds","name","ways"] (scAt (xB (top 38)) [1,0] []) ["k","deck","boxes"] 1 [0,1]:=
 ⟨by decide +kernel,by decide +kernel,by decide +kernel,by decide +kernel,by decide +kernel,by decide +kernel,by decide +kernel,by decide +kernel⟩
structure Made (dk na:Addr)(H:Hp)(bs:List (Str×Int))(da:Addr)(ps:List (Deed×V×List (List V))):Prop where
 nda:da≠dk∧da≠na
 lies:∃du,H da=some (.lst du)∧Paired (fun p u=>DeedAt (fun b=>b≠dk∧b≠na) H p.1.name p.1.price p.2 u) ps du
 dat:∀p∈ps,jK H p.1 p.2∧DeedOk (bs.map (·.1)) p.1
 nd:(ps.map fun p=>p.1.name).Nodup
 n1:1≤ps.length
 n5:ps.length≤5
def qYi:Sp:=fun vs H Q _=>∃(dk na bx:Addr) (bs:List (Str×Int)),vs=[.ref dk,.ref bx]∧Bk H dk na bx bs∧(bs.map (·.1)).Nodup∧
 ∀(da:Addr) (ps:List (Deed×V×List (List V))) (H':Hp),H da=none→Bq dk na H H'→Dq H' dk na→Made dk na H' bs da ps→Q (.ref da) H'
theorem qPb (F:Fd K mg "_law_deeds" (top 38) ["deck","boxes"])(B:Bl mg)(D_law_take:Dn P w K mg base "_law_take" 1 ["deck","many"] spTake)(D_law_way:Dn P w K mg base "_law_way" 5 ["deck","boxes"] qFb)(D_law_condition:Dn P w K mg base "_law_condition" 6 ["deck","boxes","deep"] (spCond 3)):Dn P w K mg base "_law_deeds" 7 ["deck","boxes"] qYi:=by
 refine F.ok jS (fun vs H Q E h=>?_) (fun f cdv A outer s H vs Q E hr h=>?_)
 ·obtain⟨_,_,_,_,rfl,_⟩:=h
  rfl
 obtain⟨dk,na,bx,bs,rfl,k0,nd,q⟩:=h
 refine⟨_,(qZ (qM (i:=2) jS.nd rfl (by wtm_at "zo") (xU qX))
  (qZ (xT PassesOwn.never rfl (qU (K:=K) (vK (wH (K:=K)) (xU (qQ qF (qQ qF (qQ qF (qQ qF (qQ qF qX)))))) kM (kI (xQ yV qE (qD D_law_take hr (qQ (pv 0) (qQ qE qX))))))) (qG (i:=3) jS.nd rfl (by wtm_at "zo")) (qZ (kW (i:=4) jS.nd rfl (by wtm_at "zo") rfl vH (vJ rfl B.range' (qQ (xQ yV qE (qD D_law_take hr (qQ (pv 0) (qQ qE qX)))) qX)) (fun cl fp s H=>(qG (i:=0) vH.nd rfl (Or.inl rfl) (.inr rfl))) (fun cl fp s H=>zE) (fun cl fp s H=>(qD D_law_way hr (qQ (pv 1) (qQ (pv 2) qX)))))
  (qJ (qP (vV (K:=K) PySem.F.plainAttrs_list PySem.F.slot_list_append PySem.F.type_list_append jO (pv 2) (qQ (jA (qQ (pv 3) (qQ (xQ yV qE (qD D_law_take hr (qQ (pv 0) (qQ (xQ qRf qE qE) qX)))) (qQ (qD D_law_condition hr (qQ (pv 0) (qQ (pv 1) (qQ qE qX)))) (qQ (pv 4) qX))))) qX))))))
  (qJ (qN (pv 2))))),?_⟩
 wtm_at "zw"
 refine⟨zY (yZF _),fun da hda=>?_⟩
 have nda:=k0.deck.fresh hda
 have S1:=qV hda (.lst [])
 have eda:upd H da (.lst []) da=some (.lst []):=qW
 generalize upd H da (.lst [])=H1 at S1 eda ⊢
 have k1:=k0.same S1
 have bda:bx≠da:=by
  obtain⟨us',e',_⟩:=k0.boxes
  exact qB e' hda
 wtm_at "zf"
 refine⟨zY (show 5≤1000000 by decide),fun l0 hl0=>?_⟩
 have nl0:=k1.deck.fresh hl0
 have S7:=qV hl0 (.lst (strsV dn16))
 have el0:upd H1 l0 (.lst (strsV dn16)) l0=some (.lst (strsV dn16)):=qW
 have k7:=k1.same S7
 show tCall _ _ _ _ _ (upd H1 l0 (.lst (strsV dn16))) _
 generalize upd H1 l0 (.lst (strsV dn16))=H7 at S7 el0 k7 ⊢
 wtm_at "zw"
 refine⟨dk,na,5,rfl,k7.deck,by decide,by decide +kernel,fun x3 H8 hx30 hx31 B8 D8=>?_⟩
 have el0:=B8 _ _ nl0.1 nl0.2 el0
 have eda:=B8 _ _ nda.1 nda.2 (S7 _ _ eda)
 have k8:=k7.next B8 D8
 wtm_at "zw"
 refine⟨l0,_,rfl,SqL.of el0,fun l1 hl1=>?_⟩
 obtain⟨n3,en3⟩:∃n:Nat,1+x3=(n:Int):=⟨(1+x3).toNat,by omega⟩
 have hn3:1≤n3∧n3≤5:=by omega
 rw[en3,qPi,← List.map_take]
 have nl1:=D8.fresh hl1
 have l1da:l1≠da:=(qB eda hl1).symm
 have S9:=qV hl1 (.lst (strsV (dn16.take n3)))
 have el1:upd H8 l1 (.lst (strsV (dn16.take n3))) l1=some (.lst (strsV (dn16.take n3))):=qW
 have k9:=k8.same S9
 have eda:=S9 _ _ eda
 have B9:Bq dk na H1 (upd H8 l1 (.lst (strsV (dn16.take n3)))):=(Bq.of S7).trans (B8.trans (Bq.of S9))
 show∃a,V.ref l1=.ref a∧(∃xs,SqL K (upd H8 l1 (.lst (strsV (dn16.take n3)))) a xs)∧_
 generalize upd H8 l1 (.lst (strsV (dn16.take n3)))=H9 at S9 el1 k9 eda B9 ⊢
 refine⟨l1,rfl,⟨_,SqL.of el1⟩,?_⟩
 refine xH (xs:=strsV (dn16.take n3)) (fun i σ' H'=>∃(z3 z4:Option V) (du:List V) (ps:List (Deed×V×List (List V))),σ'=[some (.ref dk),some (.ref bx),some (.ref da),z3,z4]∧Bt dk na da H9 H'∧Dq H' dk na∧H' da=some (.lst du)∧
   Paired (fun p u=>DeedAt (fun b=>b≠dk∧b≠na∧b≠da) H' p.1.name p.1.price p.2 u) ps du∧(∀p∈ps,jK H' p.1 p.2∧DeedOk (bs.map (·.1)) p.1)∧ps.map (fun p=>p.1.name)=(dn16.take n3).take i)
  ⟨none,none,[],[],rfl,fun b o _ _ _ e=>e,k9.deck,eda,.nil,(fun p hp=>by cases hp),rfl⟩ (fun i σ' H' _ hP=>?_) (fun N rt bk i u σ' H10 ex hP hN=>?_) (fun σ' H10 hP=>?_)
 ·obtain⟨_,_,_,_,rfl,bt,_⟩:=hP
  exact SqL.of (bt _ _ nl1.1 nl1.2 l1da el1)
 ·obtain⟨z3,z4,du,ps,rfl,bt,D10,eda10,pds,pok,pnm⟩:=hP
  rw[yYO] at ex
  obtain⟨nm,enm,rfl⟩:=Option.map_eq_some_iff.mp ex
  have ldu:=pds.length
  have lps:ps.length≤5:=by
   have:=congrArg List.length pnm
   rw[yYC,yYF,yYF] at this
   have e4:dn16.length=5:=rfl
   omega
  have k10:Bk H10 dk na bx bs:=by
   obtain⟨us,ebx,pb⟩:=k9.boxes
   exact⟨D10,⟨us,bt _ _ k9.n1 k9.n2 bda ebx,xY (bt.tups k9.deck eda) pb⟩,k9.n1,k9.n2,k9.ne,k9.le⟩
  wtm_at "zf"
  refine⟨dk,na,4,rfl,D10,by decide,by decide +kernel,fun x4 H12 hx40 hx41 B12 D12=>?_⟩
  have k12:=k10.next B12 D12
  have eda12:=B12 _ _ nda.1 nda.2 eda10
  wtm_at "zw"
  refine⟨_,rfl,by omega,by omega,?_⟩
  obtain⟨n4,en4⟩:∃n:Nat,1+x4=(n:Int):=⟨(1+x4).toNat,by omega⟩
  rw[en4,Int.toNat_natCast]
  refine qZv (fun D j ys H'=>∃(css:List (List V)) (wys:List (List (Str×Th))),Bq dk na H12 H'∧Dq H' dk na∧Paired (LstIn (fun b=>b≠dk∧b≠na∧b≠da∧b≠D) H') css ys∧Paired (fun wy cs=>Paired (zM H') wy cs) wys css∧(∀wy∈wys,WayOk (bs.map (·.1)) wy)∧wys.length=j)
   (fun D hD=>⟨[],[],Bq.of (qV hD _),D12.same (qV hD _),.nil,.nil,(fun wy hw=>by cases hw),rfl⟩) (fun D j ys H' N2 hD hDy hj hP hN2=>?_) (fun wa wus H13 hwa ewa hP=>?_)
  ·obtain⟨css,wys,bq,D',plw,pdw,wok,wl⟩:=hP
   have nD:=D12.fresh hD
   have lpl:=plw.length
   have lpd:=pdw.length
   refine⟨⟨[some (.int (0+(j:Int)))],rfl,rfl⟩,?_⟩
   refine⟨_,rfl,_,rfl,dk,na,bx,bs,rfl,k12.next bq D',nd,fun sl wy cs H14 nsl B14 D14 esl pc wo=>?_⟩
   have eD:=B14 _ _ nD.1 nD.2 hDy
   have nsl':=D'.fresh nsl
   have slD:sl≠D:=(qB hDy nsl).symm
   have slda:sl≠da:=(qB (bq _ _ nda.1 nda.2 eda12) nsl).symm
   have T15:Tups H14 (upd H14 D (.lst (ys++[V.ref sl]))):=fun b xs e=>by rw[qA (jZ e eD (by intro z;cases z))];exact e
   have T':=(B14.tups D').trans T15
   refine⟨eD,small (by omega),hN2 _ _ qW ⟨css++[cs],wys++[wy],fun b o m1 m2 e=>?_,?_,Paired.snoc (Paired.mapP plw fun _ _ z=>z.move (fun b o okb e=>?_) fun _ z=>z) ⟨sl,rfl,⟨nsl'.1,nsl'.2,slda,slD⟩,?_⟩,
    Paired.snoc (Paired.mapP pdw fun _ _ y=>Paired.mapP y fun _ _ z=>let ⟨a,v,e,q,r⟩:=z;⟨a,v,e,T' _ _ q,r.mono T'⟩) (Paired.mapP pc fun _ _ z=>let ⟨a,v,e,q,r⟩:=z;⟨a,v,e,T15 _ _ q,r.mono T15⟩),fun w hw=>?_,by rw[yYI,wl];rfl⟩⟩
   ·rw[qA (qB e hD)];exact B14 _ _ m1 m2 (bq _ _ m1 m2 e)
   ·obtain⟨ms,dd,h1,h2⟩:=D14.ex
    exact⟨ms,dd,by rw[qA (Ne.symm nD.1)];exact h1,by rw[qA (Ne.symm nD.2)];exact h2⟩
   ·rw[qA okb.2.2.2];exact B14 _ _ okb.1 okb.2.1 e
   ·rw[qA slD];exact esl
   ·rcases yYS.mp hw with h | h
    ·exact wok w h
    ·rw[yYL.mp h];exact wo
  obtain⟨css,wys,bq,D13,plw,pdw,wok,wl⟩:=hP
  have nwa:=D12.fresh hwa
  have lpl:=plw.length
  have lpd:=pdw.length
  have eda13:=bq _ _ nda.1 nda.2 eda12
  have wada:wa≠da:=(qB eda12 hwa).symm
  have k13:=k12.next bq D13
  wtm_at "zw"
  refine qDv (SqL.of eda13) ?_
  wtm_at "zw"
  refine⟨10,20,rfl,rfl,⟨by decide,by decide,by decide⟩,?_⟩
  wtm_at "zw"
  refine⟨dk,na,_,rfl,D13,by decide +kernel,by decide +kernel,fun pr H14 hp0 hp1 B14 D14=>?_⟩
  have k14:=k13.next B14 D14
  wtm_at "zw"
  refine⟨dk,na,bx,bs,2,rfl,k14,by decide,by decide,fun nt nv H21 B21 D21 nat ncx ndep=>?_⟩
  have Q21:Bq dk na H13 H21:=B14.trans B21
  have eda21:=Q21 _ _ nda.1 nda.2 eda13
  wtm_at "zw"
  refine⟨zY (show 4≤1000000 by decide),fun dt hdt=>?_⟩
  have S22:=qV hdt (.tup [.str nm,.int (1+pr),nv,.ref wa])
  have edt:upd H21 dt (.tup [.str nm,.int (1+pr),nv,.ref wa]) dt=some (.tup [.str nm,.int (1+pr),nv,.ref wa]):=qW
  have D22:=D21.same S22
  generalize upd H21 dt (.tup [.str nm,.int (1+pr),nv,.ref wa])=H22 at S22 edt D22 ⊢
  have eda22:=S22 _ _ eda21
  have Q22:Bq dk na H13 H22:=Q21.trans (Bq.of S22)
  wtm_at "zw"
  refine⟨da,du,.ref dt,rfl,rfl,eda22,small (by omega),?_⟩
  have T23:Tups H22 (upd H22 da (.lst (du++[V.ref dt]))):=fun b xs e=>by rw[qA (jZ e eda22 (by intro z;cases z))];exact e
  have T13:Tups H13 (upd H22 da (.lst (du++[V.ref dt]))):=(Q22.tups D13).trans T23
  have Q10:Bq dk na H10 H22:=B12.trans (bq.trans Q22)
  have T10:Tups H10 (upd H22 da (.lst (du++[V.ref dt]))):=(Q10.tups D10).trans T23
  have keep10:∀b o,b≠dk→b≠na→b≠da→H10 b=some o→upd H22 da (.lst (du++[V.ref dt])) b=some o:=fun b o m1 m2 m3 e=>by
   rw[qA m3];exact Q10 _ _ m1 m2 e
  have D23:Dq (upd H22 da (.lst (du++[V.ref dt]))) dk na:=by
   obtain⟨ms,d,h1,h2⟩:=D22.ex
   exact⟨ms,d,by rw[qA (Ne.symm nda.1)];exact h1,by rw[qA (Ne.symm nda.2)];exact h2⟩
  have ewa22:upd H22 da (.lst (du++[V.ref dt])) wa=some (.lst wus):=by rw[qA wada];exact Q22 _ _ nwa.1 nwa.2 ewa
  refine hN _ _ ⟨_,_,du++[.ref dt],ps++[(⟨nm,1+pr,nt,wys⟩,(nv,css))],rfl,fun b o m1 m2 m3 e=>keep10 b o m1 m2 m3 (bt _ _ m1 m2 m3 e),D23,qW,Paired.snoc (Paired.mapP pds fun _ _ z=>z.move (fun b o okb e=>keep10 b o okb.1 okb.2.1 okb.2.2 e) T10 fun _ z=>z) ?_,fun p hp=>?_,?_⟩
  ·exact⟨dt,wa,wus,rfl,T23 _ _ edt,⟨nwa.1,nwa.2,wada⟩,ewa22,Paired.mapP plw fun _ _ z=>z.move (fun b o okb e=>by rw[qA okb.2.2.1];exact Q22 _ _ okb.1 okb.2.1 e) fun _ z=>⟨z.1,z.2.1,z.2.2.1⟩⟩
  ·rcases yYS.mp hp with hp | hp
   ·exact⟨⟨(pok p hp).1.1.mono T10,Paired.mapP (pok p hp).1.2 fun _ _ y=>Paired.mapP y fun _ _ z=>let ⟨a,v,e,q,r⟩:=z;⟨a,v,e,T10 _ _ q,r.mono T10⟩⟩,(pok p hp).2⟩
   ·rw[yYL.mp hp]
    refine⟨⟨nat.mono ((qC S22).trans T23),Paired.mapP pdw fun _ _ y=>Paired.mapP y fun _ _ z=>let ⟨a,v,e,q,r⟩:=z;⟨a,v,e,T13 _ _ q,r.mono T13⟩⟩,⟨by show 1≤1+pr;omega,ncx,?_,?_,?_,wok⟩⟩
    ·have e5:(2:Int).toNat+3=5:=rfl
     show nt.dep≤12
     omega
    ·intro z
     have z:wys=[]:=z
     rw[z,yYU] at wl
     omega
    ·show wys.length≤100
     omega
  ·rw[yYV,pnm,yYM,enm]
   rfl
 ·obtain⟨z3,z4,du,ps,rfl,bt,D10,eda10,pds,pok,pnm⟩:=hP
  have lnm:(strsV (dn16.take n3)).length=n3:=by
   rw[xW,yYF]
   have e4:dn16.length=5:=rfl
   omega
  rw[lnm,List.take_of_length_le (by rw[yYF];omega)] at pnm
  have lps:ps.length=n3:=by
   have:=congrArg List.length pnm
   rw[yYC,yYF] at this
   have e4:dn16.length=5:=rfl
   omega
  wtm_at "zw"
  refine q da ps H10 hda (fun b o m1 m2 e=>bt _ _ m1 m2 (qB e hda) (B9 _ _ m1 m2 (S1 _ _ e))) D10 ⟨nda,⟨du,eda10,Paired.mapP pds fun _ _ z=>z.move (fun b o _ e=>e) (fun _ _ e=>e) fun b z=>⟨z.1,z.2.1⟩⟩,pok,by rw[pnm];exact(List.take_sublist _ _).nodup nd16,by omega,by omega⟩

theorem qYb {σ:St}{H:Hp}{Q:VK}{js:List Nat}{bx be:Addr}{bs:List (Str×Int)}{us:List V}{kvs:List (Key×V)}{vs:List Int}(hj:frees js σ=[some (.ref be)])(ebx:H bx=some (.lst us))(pb:Paired (BoxIn H) bs us)(ebe:H be=some (.dK kvs))(hl:bs.length≤6)
  (hv:∀(i:Nat) b,bs[i]? = some b→∃v,vs[i]? = some v∧valV kvs (Sum.inr b.1)=some (.int v)) (lv:vs.length=bs.length)
  (q:∀(D:Addr) (H':Hp),H D=none→Same H H'→H' D=some (.lst (intsV vs))→Q (.ref D) H'):
  rdC 2 js (gTup K 2 (gCons (gName 0) (gCons (gName 1) gNil))) tYes (tDGet (tVar 2) (tVar 0)) (Itl K bx) σ H Q:=by
 have lb:=pb.length
 refine zJ (xs:=us) (fun D i ys H''=>ys=intsV (vs.take i)∧∀b o,H b=some o→H'' b=some o) (fun D hD=>⟨rfl,qV hD _⟩)
  (fun D i ys H'' _ hP=>SqL.of (hP.2 _ _ ebx)) (fun D i x ys H'' N hD hDy ex hP hN=>?_) (fun D ys H5 hD hDy hP=>?_)
 ·obtain⟨rfl,hk⟩:=hP
  have hi:i<bs.length:=by rw[lb];exact(yYB.mp ex).1
  obtain⟨b,eb⟩:∃b,bs[i]? = some b:=⟨_,yYA hi⟩
  obtain⟨ba,rfl,hba⟩:=xK pb eb ex
  obtain⟨v,ev,hv'⟩:=hv i b eb
  have est:stC 2 js σ=[none,none,some (.ref be)]:=by unfold stC;rw[hj];rfl
  unfold turnC
  rw[est,hj]
  refine⟨ba,_,rfl,SqT.of (hk _ _ hba),rfl,_,_,rfl,_,_,rfl,rfl,⟨[some (.str b.1),some (.int b.2)],rfl,rfl⟩,?_⟩
  refine⟨_,rfl,_,rfl,be,_,rfl,(by rw[← hv'];exact DGet.k (k:=Sum.inr b.1) (hk _ _ ebe)),hDy,?_,hN _ _ qW ⟨?_,fun b o e=>?_⟩⟩
  ·rw[zU,yYF];exact small (by omega)
  ·rw[yYM,ev,← kA];rfl
  ·rw[qA (qB e hD)];exact hk _ _ e
 obtain⟨rfl,hk⟩:=hP
 rw[← lb,← lv,yYJ] at hDy
 exact q D H5 hD hk hDy
theorem zN:xE ["boxes","deed","values","found","way","new","name","thing"] ["boxes","deed","values"] (xA (top 42)):=⟨rfl,rfl,rfl,by decide +kernel,rfl,by decide +kernel,by decide +kernel⟩
theorem yH:CompOk (xA (top 42)) ["boxes","deed","values","found","way","new","name","thing"] (scAt (xB (top 42)) [1,2] [1,1]) ["name","size","new"] 2 [5]:=
 ⟨by decide +kernel,by decide +kernel,by decide +kernel,by decide +kernel,by decide +kernel,by decide +kernel,by decide +kernel,by decide +kernel⟩
def qBx:Sp:=fun vs H Q _=>∃(bx de vd:Addr) (bs:List (Str×Int)) (d:Deed) (us:List V) (vals:List Int),vs=[.ref bx,.ref de,.ref vd]∧H bx=some (.lst us)∧Paired (BoxIn H) bs us∧(bs.map (·.1)).Nodup∧bs.length≤6∧(∀b∈bs,2≤b.2∧b.2≤5)∧
 DeedIn H d (.ref de)∧DeedOk (bs.map (·.1)) d∧H vd=some (.dK (kvsOf bs vals))∧Fits bs vals∧∀(r:Addr) (ys:List V) (H':Hp),H r=none→Same H H'→H' r=some (.lst ys)→Paired (TupIn H') (d.ways.map fun wy=>xP bs wy vals) ys→Q (.ref r) H'
theorem qIb (F:Fd K mg "_law_comes" (top 42) ["boxes","deed","values"])(B:Bl mg)(D_law_worth:Dn P w K mg base "_law_worth" 13 ["thing","values"] (spLW 12)):Dn P w K mg base "_law_comes" 14 ["boxes","deed","values"] qBx:=by
 refine F.ok zN (fun vs H Q E h=>?_) (fun f cdv A outer s H vs Q E hr h=>?_)
 ·obtain⟨_,_,_,_,_,_,_,rfl,_⟩:=h
  rfl
 obtain⟨bx,de,vd,bs,d,us,vals,rfl,ebx,pb,nd,hbl,h25,din,dok,evd,fits,q⟩:=h
 have hu:=qWm hr
 have fs:=fits.stands h25
 have env:=qKo fs
 obtain⟨_,nv,wl,wu,ed,ede,_,ewl,pw⟩:=din
 cases ed
 have lw:=pw.length
 have wle:=dok.le
 have lb:=pb.length
 refine⟨_,(qZ (qM (i:=3) zN.nd rfl (by wtm_at "zo") (xU qX))
  (qZ (xT PassesOwn.never rfl (qU (K:=K) (xG (qS (K:=K)) (pv 1) qE (fun _ _=>rfl))) (qG (i:=4) zN.nd rfl (by wtm_at "zo")) (qZ (qM (i:=5) zN.nd rfl (by wtm_at "zo") (xX yX rfl B.dict' wY (qQ (pv 2) qX)))
  (qZ (xT PassesOwn.never rfl (qU (K:=K) (pv 4)) (zF (K:=K) (n:=2) rfl (qH (qG (i:=6) zN.nd rfl (by wtm_at "zo")) (qH (qG (i:=7) zN.nd rfl (by wtm_at "zo")) qI))) (qJ (qJv hu (pv 5) (pv 6) (xQ qQe (qD D_law_worth hr (qQ (pv 7) (qQ (pv 2) qX))) (kN hu (xX (wE rfl) rfl B.dict' wY (qQ (pv 0) qX)) (pv 6) (fun _ _=>rfl))) rfl)))
  (qJ (qP (vV (K:=K) PySem.F.plainAttrs_list PySem.F.slot_list_append PySem.F.type_list_append jO (pv 3) (qQ (xX (kT (K:=K)) rfl B.tuple' wN (qQ (zT rfl yH (qU (K:=K) (pv 0)) (fun cl fp s H=>(zF (K:=K) (n:=2) rfl (qH (qG (i:=0) yH.nd rfl (Or.inl rfl) (.inr rfl)) (qH (qG (i:=1) yH.nd rfl (Or.inl rfl) (.inr rfl)) qI)))) (fun cl fp s H=>zE) (fun cl fp s H=>(kN hu (pv 2) (pv 0) (fun _ _=>rfl)))) qX)) qX)))))))
  (qJ (qN (pv 3))))),?_⟩
 wtm_at "zw"
 refine⟨zY (yZF _),fun fo hfo=>?_⟩
 have S1:=qV hfo (.lst [])
 have efo:upd H fo (.lst []) fo=some (.lst []):=qW
 generalize upd H fo (.lst [])=H1 at S1 efo ⊢
 have ede1:=S1 _ _ ede
 wtm_at "zf"
 refine⟨wl,rfl,⟨wu,SqL.of (S1 _ _ ewl)⟩,?_⟩
 refine xH (xs:=wu) (fun i σ' H'=>∃(z4 z5 z6 z7:Option V) (ys:List V),σ'=[some (.ref bx),some (.ref de),some (.ref vd),some (.ref fo),z4,z5,z6,z7]∧Same H H'∧H' fo=some (.lst ys)∧Paired (TupIn H') ((d.ways.take i).map fun wy=>xP bs wy vals) ys)
  ⟨none,none,none,none,[],rfl,S1,efo,.nil⟩ (fun i σ' H' _ hP=>?_) (fun N rt bk i x σ' H' ex hP hN=>?_) (fun σ' H' hP=>?_)
 ·obtain⟨_,_,_,_,_,rfl,S',_⟩:=hP
  exact SqL.of (S' _ _ ewl)
 ·obtain⟨z4,z5,z6,z7,ys,rfl,S',efo',py⟩:=hP
  have hi:i<d.ways.length:=by rw[lw];exact(yYB.mp ex).1
  obtain⟨wy,ewy⟩:∃b,d.ways[i]? = some b:=⟨_,yYA hi⟩
  have wok:=dok.ways wy (yYE ewy)
  obtain⟨wa,cs,rfl,ewa,pc⟩:=xK pw ewy ex
  have ly:=py.length
  rw[yYC,yYF] at ly
  wtm_at "zw"
  refine⟨vd,_,rfl,S' _ _ evd,fun be hbe=>?_⟩
  have S3:=qV hbe (.dK (kvsOf bs vals))
  have ebe:upd H' be (.dK (kvsOf bs vals)) be=some (.dK (kvsOf bs vals)):=qW
  generalize upd H' be (.dK (kvsOf bs vals))=H3 at S3 ebe ⊢
  have S03:=S'.trans S3
  have nbe:∀{b o},H b=some o→b≠be:=fun e=>qB (S' _ _ e) hbe
  have lc:=pc.length
  have wcl:=wok.le
  have kl:=qWi bs vals
  wtm_at "zf"
  refine⟨wa,rfl,⟨cs,SqL.of (S03 _ _ ewa)⟩,?_⟩
  refine xH (xs:=cs) (fun i σ' H'=>∃z6 z7:Option V,σ'=[some (.ref bx),some (.ref de),some (.ref vd),some (.ref fo),some (.ref wa),some (.ref be),z6,z7]∧But be H3 H'∧H' be=some (.dK (putsK bs (envOf (kvsOf bs vals)) (kvsOf bs vals) (wy.take i))))
   ⟨z6,z7,rfl,But.refl _,ebe⟩ (fun i σ' H' _ hP=>?_) (fun N rt bk i x σ' H' ex hP hN=>?_) (fun σ' H4 hP=>?_)
  ·obtain⟨_,_,rfl,hb,_⟩:=hP
   exact SqL.of (hb _ _ (nbe ewa) (S03 _ _ ewa))
  ·obtain⟨y6,y7,rfl,hb,ebe'⟩:=hP
   have hi:i<wy.length:=by rw[lc];exact(yYB.mp ex).1
   obtain⟨c,ec⟩:∃b,wy[i]? = some b:=⟨_,yYA hi⟩
   obtain⟨ca,cv,rfl,eca,cat⟩:=xK pc ec ex
   obtain⟨o1,o2,o3⟩:=wok.ok c (yYE ec)
   have T3:Tups H H':=(qC S03).trans fun b ys e=>hb _ _ (jZ e ebe (by intro z;cases z)) e
   have eca':=T3 _ _ eca
   obtain⟨b,hbm,eb1⟩:=yYP.mp o1
   obtain⟨k,ek⟩:=List.mem_iff_getElem?.mp hbm
   have hb25:=h25 b hbm
   have zs:=qJq nd ek
   wtm_at "zw"
   refine⟨c.2,cv,vd,_,_,envOf (kvsOf bs vals),rfl,cat.mono T3,o2,o3,hb _ _ (nbe evd) (S03 _ _ evd),env,fun H5 S5=>?_⟩
   wtm_at "zw"
   have pb5:=xY (T3.trans (qC S5)) pb
   refine⟨bx,us,_,rfl,S5 _ _ (hb _ _ (nbe ebx) (S03 _ _ ebx)),qVb pb5,by rw[yYC];omega,fun sz hsz=>?_⟩
   have S6:=qV hsz (.dK (mergeK [] (pairK (bs.map fun b=>(b.1,V.int b.2)))))
   have esz:upd H5 sz (.dK (mergeK [] (pairK (bs.map fun b=>(b.1,V.int b.2))))) sz=some (.dK (mergeK [] (pairK (bs.map fun b=>(b.1,V.int b.2))))):=qW
   generalize upd H5 sz (.dK (mergeK [] (pairK (bs.map fun b=>(b.1,V.int b.2)))))=H6 at S6 esz ⊢
   wtm_at "zw"
   refine⟨sz,.int (sizeOf' bs c.1),rfl,?_,?_⟩
   ·have hv:valV (mergeK [] (pairK (bs.map fun b=>(b.1,V.int b.2)))) (Sum.inr c.1)=some (.int (sizeOf' bs c.1)):=by
     have e2:(bs.map fun b=>(b.1,V.int b.2)).map (·.1)=bs.map (·.1):=by rw[List.map_map];rfl
     rw[vW _ _ (by rw[e2];exact nd),← eb1,qQm (v:=.int b.2) (i:=k) (by rw[e2];exact nd) (by rw[yYO,ek];rfl),zs]
    rw[← hv]
    exact DGet.k (k:=Sum.inr c.1) esz
   refine w_I (show 0<sizeOf' bs c.1 by rw[← eb1,zs];omega) ?_
   wtm_at "zw"
   have pl:=qJk (bs:=bs) (ρ:=envOf (kvsOf bs vals)) (wy.take i) (kvsOf bs vals)
   rw[yYF] at pl
   refine⟨be,_,rfl,DPut.k (k:=Sum.inr c.1) (S6 _ _ (S5 _ _ ebe')) (small (by omega)),?_⟩
   refine hN _ _ ⟨_,_,rfl,fun b o m e=>?_,?_⟩
   ·rw[qA m];exact S6 _ _ (S5 _ _ (hb _ _ m e))
   ·rw[qW,qKz ec]
  obtain⟨y6,y7,rfl,hb,ebe'⟩:=hP
  rw[← lc,yYJ] at ebe'
  have S4:Same H' H4:=fun b o e=>hb _ _ (qB e hbe) (S3 _ _ e)
  have S04:=S'.trans S4
  have efo4:=S4 _ _ efo'
  wtm_at "zw"
  refine qDv (SqL.of efo4) ?_
  wtm_at "zf"
  refine⟨bx,rfl,⟨us,SqL.of (S04 _ _ ebx)⟩,?_⟩
  refine qYb (vs:=xP bs wy vals) rfl (S04 _ _ ebx) (xY (qC S04) pb) ebe' (by omega) (fun i b eb=>?_) (wK fits.1) fun D H5 nD S5 eD=>?_
  ·obtain⟨v,ev⟩:∃v,vals[i]? = some v:=⟨_,yYA (by rw[fits.1];exact(yYB.mp eb).1)⟩
   refine⟨_,qXb (wy:=wy) eb ev,?_⟩
   rw[qJj _ _ wok.nd,qJq nd eb,qWh nd fits.1 eb ev]
   cases wy.lookup b.1 <;> rfl
  wtm_at "zw"
  refine⟨D,_,rfl,SqL.of eD,fun r hr'=>?_⟩
  have S6:=qV hr' (.tup (intsV (xP bs wy vals)))
  have er:upd H5 r (.tup (intsV (xP bs wy vals))) r=some (.tup (intsV (xP bs wy vals))):=qW
  generalize upd H5 r (.tup (intsV (xP bs wy vals)))=H6 at S6 er ⊢
  have S46:=S5.trans S6
  have efo6:=S46 _ _ efo4
  wtm_at "zw"
  refine⟨fo,ys,.ref r,rfl,rfl,efo6,small (by omega),?_⟩
  have T7:Tups H6 (upd H6 fo (.lst (ys++[V.ref r]))):=fun b xs e=>by rw[qA (jZ e efo6 (by intro z;cases z))];exact e
  refine hN _ _ ⟨_,_,_,_,ys++[.ref r],rfl,fun b o e=>?_,qW,?_⟩
  ·rw[qA (qB e hfo)];exact S46 _ _ (S04 _ _ e)
  ·rw[yYM,ewy,yYV]
   exact Paired.snoc (xJ T7 (xJ (qC (S4.trans S46)) py)) ⟨r,rfl,T7 _ _ er⟩
 ·obtain⟨z4,z5,z6,z7,ys,rfl,S',efo',py⟩:=hP
  rw[← lw,yYJ] at py
  wtm_at "zw"
  exact q fo ys H' hfo S' efo' py

theorem qFx {H:Hp}{rows:List (List Int)}{us vs:List V}(p:Paired (TupIn H) rows us)(q:Paired (TupIn H) rows vs):∀(j:Nat) x y,us[j]? = some x→vs[j]? = some y→DEq K H 1 x y:=fun j x y e1 e2=>by
 obtain⟨r,er⟩:∃b,rows[j]? = some b:=⟨_,yYA (by rw[p.length];exact(yYB.mp e1).1)⟩
 obtain⟨a,rfl,ha⟩:=xK p er e1
 obtain⟨b,rfl,hb⟩:=xK q er e2
 refine .tup (SqT.of ha) (SqT.of hb) rfl fun i x y e3 e4=>?_
 rw[e3] at e4
 cases e4
 rw[yYO] at e3
 obtain⟨n,_,rfl⟩:=Option.map_eq_some_iff.mp e3
 exact .int n
theorem qFe {H:Hp}{rows ss:List (List Int)}{us:List V}{ps:List (List Int×V)}(up:rows.Pairwise fun a b=>HT.lexLt a b=true)(nd:ss.Nodup)(mem:∀r,r∈ss↔r∈rows)(p:Paired (TupIn H) ss us)(pm:ps.Perm (ss.zip us))(so:ps.Pairwise fun x y=>HT.lexLt y.1 x.1=false):Paired (TupIn H) rows (ps.map (·.2)):=by
 have e1:(ss.zip us).map (·.1)=ss:=List.map_fst_zip (by rw[p.length];exact yZC _)
 have pk:(ps.map (·.1)).Perm ss:=by have:=pm.map (·.1);rw[e1] at this;exact this
 have en:ps.map (·.1)=rows:=by
  refine vR (qAn (List.pairwise_map.mpr so) (pk.nodup_iff.mpr nd)) up fun r=>?_
  rw[pk.mem_iff,mem]
 have each:∀q∈ps,TupIn H q.1 q.2:=fun q hq=>by
  obtain⟨i,hi⟩:=List.mem_iff_getElem?.mp (pm.mem_iff.mp hq)
  obtain⟨h1,h2⟩:=List.getElem?_zip_eq_some.mp hi
  exact xK p h1 h2
 rw[← en]
 clear en pk e1 so pm
 induction ps with
 | nil=>exact .nil
 | cons q ps ih=>exact .cons (each q yYG) (ih fun z hz=>each z (yYH _ hz))
theorem qWl:PySem.W.kitOne K (.type "int") (.type "bool")=some false:=by with_unfolding_all rfl
theorem wA {σ:St}{H:Hp}{Q:VK}{js:List Nat}{tt:TT}{a:Addr}{us:List V}{bs:List (Str×Int)}{rows:List (List Int)}{p:List Int→Bool}(ea:H a=some (.lst us))(pr:Paired (DIn bs H) rows us)(hl:rows.length≤100000)
  (htt:∀(ra:Addr) (row:List Int) (H':Hp) (R:Bool→Hp→Prop),row∈rows→H' ra=some (.dK (kvsOf bs row))→Same H H'→(∀H'',Same H' H''→R (p row) H'')→tt ([some (.ref ra)]++frees js σ) H' R)
  (q:∀(D:Addr) (ys:List V) (H':Hp),H D=none→Same H H'→H' D=some (.lst ys)→Paired (DIn bs H') (rows.filter p) ys→Q (.ref D) H'):
  rdC 1 js (gName 0) tt (tVar 0) (Itl K a) σ H Q:=by
 have lr:=pr.length
 refine zJ (xs:=us) (fun D i ys H'=>Paired (DIn bs H') ((rows.take i).filter p) ys∧∀b o,H b=some o→H' b=some o) (fun D hD=>⟨.nil,qV hD _⟩)
  (fun D i ys H' _ hP=>SqL.of (hP.2 _ _ ea)) (fun D i x ys H' N hD hDy ex hP hN=>?_) (fun D ys H5 hD hDy hP=>?_)
 ·obtain⟨pl,hk⟩:=hP
  have hi:i<rows.length:=by rw[lr];exact(yYB.mp ex).1
  obtain⟨row,erow⟩:∃b,rows[i]? = some b:=⟨_,yYA hi⟩
  obtain⟨ra,rfl,hra⟩:=xK pr erow ex
  have ll:=pl.length
  have lf:((rows.take i).filter p).length≤i:=yZI (List.length_filter_le _ _) (by rw[yYF];omega)
  refine⟨⟨[some (.ref ra)],rfl,rfl⟩,?_⟩
  refine htt ra row H' _ (yYE erow) (hk _ _ hra) hk fun H4 S4=>?_
  have eD:=S4 _ _ hDy
  have fs:=qWo (p:=p) erow
  cases e:p row with
  | false=>
   refine iteF (hN _ _ eD ⟨?_,fun b o z=>S4 _ _ (hk _ _ z)⟩)
   rw[fs,e,if_neg yZK,List.append_nil]
   exact jD (Dcts.same S4) pl
  | true=>
   refine iteT ⟨_,rfl,eD,small2 (by omega),hN _ _ qW ⟨?_,fun b o z=>?_⟩⟩
   ·have T4:Dcts H' (upd H4 D (.lst (ys++[.ref ra]))):=fun b xs z=>by rw[qA (jZ z hDy (by intro z;cases z))];exact S4 _ _ z
    rw[fs,e,if_pos rfl]
    exact Paired.snoc (jD T4 pl) ⟨ra,rfl,T4 _ _ (hk _ _ hra)⟩
   ·rw[qA (qB z hD)];exact S4 _ _ (hk _ _ z)
 obtain⟨pl,hk⟩:=hP
 rw[← lr,yYJ] at pl
 exact q D ys H5 hD hk hDy pl
theorem qAl {H:Hp}{rows:List (List Int)}{us:List V}(p:Paired (TupIn H) rows us):∀(j:Nat) x,us[j]? = some x→∃y,x=.ref y:=fun j x ex=>by
 have hj:j<rows.length:=by rw[p.length];exact(yYB.mp ex).1
 obtain⟨y,ey,_⟩:=xK p (yYA hj) ex
 exact⟨y,ey⟩
theorem qBh {kvs:List (List Key×V)}{k:List Key}:(kvs.any fun kv=>decide (kv.1=k))=true↔k∈kvs.map (·.1):=by
 simp only[List.any_eq_true,yYP,decide_eq_true_eq]
theorem qNf {kvs:List (List Key×V)}{k:List Key}{v:V}(c:k∈kvs.map (·.1)):(putK kvs k v).map (·.1)=kvs.map (·.1):=by
 unfold putK
 rw[if_pos (qBh.mpr c),List.map_map]
 refine List.map_congr_left fun kv _=>?_
 show(if kv.1=k then (kv.1,v) else kv).1=kv.1
 split <;> rfl
theorem qNg {kvs:List (List Key×V)}{k:List Key}{v:V}(c:k∉kvs.map (·.1)):(putK kvs k v).map (·.1)=kvs.map (·.1)++[k]:=by
 unfold putK
 rw[if_neg (fun z=>c (qBh.mp z)),yYV]
 rfl
theorem qYv {H:Hp}{ms:List (List Int)}:∀{zs:List (List Int×Addr)},zs.map (·.1)=ms→(∀x∈zs,H x.2=some (.tup (x.1.map V.int)))→Paired (TupIn H) ms (zs.map fun x=>V.ref x.2):=by
 intro zs e h
 subst e
 induction zs with
 | nil=>exact .nil
 | cons z zs ih=>exact .cons ⟨z.2,rfl,h z yYG⟩ (ih fun x hx=>h x (yYH _ hx))
theorem qEf {σ:St}{H:Hp}{Q:VK}{oa:Addr}{r:List Int}(e1:H oa=some (.tup (intsV r)))
  (q:∀(D:Addr) (H':Hp),Same H H'→H' D=some (.lst [])→Q (.ref D) H'):
  rdC 1 [] (gName 0) (tB (tCB (rIsIn K) (tCons (tVar 0) (tCons (tC (.ty "bool")) tNil)))) (tVar 0) (Itt K oa) σ H Q:=by
 refine qPm (xs:=intsV r) (fun D i ys H'=>ys=[]∧∀b o,H b=some o→H' b=some o) (fun D hD=>⟨rfl,qV hD _⟩)
  (fun D i ys H' _ hP=>SqT.of (hP.2 _ _ e1)) (fun D i x ys H' N hD hDy ex hP hN=>?_) (fun wd ys H2 hD hDy hP=>?_)
 ·obtain⟨rfl,hk⟩:=hP
  obtain⟨v,_,rfl⟩:=yYP.mp (yYE ex)
  refine⟨⟨[some (.int v)],rfl,rfl⟩,?_⟩
  refine⟨_,rfl,.int v,"bool",_,false,rfl,.int v,qWl,false,rfl,?_⟩
  refine iteF ?_
  exact hN _ _ hDy ⟨rfl,hk⟩
 obtain⟨rfl,hk2⟩:=hP
 exact q wd H2 hk2 hDy
structure Held (H:Hp)(du:Addr)(bs:List (Str×Int))(S:List (List Int)):Prop where
 ex:∃(kvs:List (List Key×V)) (seen:List (List Int)),H du=some (.dT kvs)∧kvs.map (·.1)=seen.map ST.ik∧seen.Nodup∧∀k,k∈seen↔k∈S
theorem Held.few {H:Hp}{du:Addr}{bs:List (Str×Int)}{S seen:List (List Int)}(h25:∀b∈bs,2≤b.2∧b.2≤5)(b3:bs.length≤3)(nd:seen.Nodup)(h:∀k∈seen,Fits bs k):seen.length≤125:=by
 have l1:=qQh nd fun r hr=>qCa (h r hr)
 have l2:=kE h25 bs.length (yZC _)
 rw[yYJ] at l2
 have l3:5 ^ bs.length≤5 ^ 3:=Nat.pow_le_pow_right (by decide) b3
 have e:5 ^ 3=125:=by decide
 omega
theorem xO:xE ["world","boxes","deed","some","known","handed","may","good","due","values","standing","found"] ["world","boxes","deed","some"] (xA (top 43)):=⟨rfl,rfl,rfl,by decide +kernel,rfl,by decide +kernel,by decide +kernel⟩
theorem vG:qYk (xA (top 43)) ["world","boxes","deed","some","known","handed","may","good","due","values","standing","found"] (scAt (xB (top 43)) [0] [1]) ["values","boxes"] 1 [1] "values" :=
 ⟨by decide +kernel,by decide +kernel,by decide +kernel,by decide +kernel,by decide +kernel,by decide +kernel,by decide +kernel,by decide +kernel,by decide +kernel⟩
theorem yG:CompOk (relS (scAt (xB (top 43)) [0] [1]) (xA (top 43))) ["values","boxes"] (scAt (xB (top 43)) [0] [1,0,1]) ["name","size","values"] 2 [0]:=
 ⟨by decide +kernel,by decide +kernel,by decide +kernel,by decide +kernel,by decide +kernel,by decide +kernel,by decide +kernel,by decide +kernel⟩
theorem vF:CompOk (xA (top 43)) ["world","boxes","deed","some","known","handed","may","good","due","values","standing","found"] (scAt (xB (top 43)) [3] [0]) ["values","deed"] 1 [2]:=
 ⟨by decide +kernel,by decide +kernel,by decide +kernel,by decide +kernel,by decide +kernel,by decide +kernel,by decide +kernel,by decide +kernel⟩
theorem vE:CompOk (xA (top 43)) ["world","boxes","deed","some","known","handed","may","good","due","values","standing","found"] (scAt (xB (top 43)) [10,1] [0]) ["value"] 1 []:=
 ⟨by decide +kernel,by decide +kernel,by decide +kernel,by decide +kernel,by decide +kernel,by decide +kernel,by decide +kernel,by decide +kernel⟩
def qYh:Sp:=fun vs H Q _=>∃(W:Wd) (p bx de sa:Addr) (us ss:List V) (d:Deed) (rows:List (List Int)),vs=[.ref p,.ref bx,.ref de,.ref sa]∧(∃(bx' dx lx:Addr) (bv gv:V),H p=some (.tup [.ref bx',.ref dx,.ref lx,bv,gv])∧WAt H W bx' dx lx bv gv)∧WOk W∧W.bs.length≤3∧
 H bx=some (.lst us)∧Paired (BoxIn H) W.bs us∧DeedIn H d (.ref de)∧d∈W.ds∧H sa=some (.lst ss)∧Paired (DIn W.bs H) rows ss∧rows.Pairwise (fun a b=>HT.lexLt a b=true)∧(∀r∈rows,Fits W.bs r)∧rows.length≤200∧∀H',Same H H'→Q (.bl true) H'
theorem qPj (F:Fd K mg "_law_right" (top 43) ["world","boxes","deed","some"])(B:Bl mg)(B_sorted:mg "sorted" = none)(D_may_do:Dn P w K mg base "may_do" 28 ["world","known","name"] spMay)(D_behind:Dn P w K mg base "behind" 15 ["world","known","name"] qYl)(D_law_holds:Dn P w K mg base "_law_holds" 25 ["thing","values"] (spLH 12))(D_law_comes:Dn P w K mg base "_law_comes" 14 ["boxes","deed","values"] qBx):Dn P w K mg base "_law_right" 29 ["world","boxes","deed","some"] qYh:=by
 refine F.ok xO (fun vs H Q E h=>?_) (fun f cdv A outer s H vs Q E hr h=>?_)
 ·obtain⟨_,_,_,_,_,_,_,_,_,rfl,_⟩:=h
  rfl
 obtain⟨W,p,bx,de,sa,us,ss,d,rows,rfl,⟨bx',dx,lx,bv,gv,ep,A0⟩,ok,b3,ebx,pb,din,hd,esa,pss,up,fits,few,q⟩:=h
 have hu:=qWm hr
 refine⟨_,(qZ (qM (i:=4) xO.nd rfl (by wtm_at "zo") (xZ (qEb (K:=K)) rfl B_sorted vM (qQ (qNo rfl vG (qU (K:=K) (pv 3)) (fun cl fp s H=>(qG (i:=0) vG.nd rfl (Or.inr rfl) (.inl rfl))) (fun cl fp s H=>zE) (fun cl fp s H=>(xX (kT (K:=K)) rfl B.tuple' wN (qQ (zT rfl yG (qU (K:=K) (pv 1)) (fun cl fp s H=>(zF (K:=K) (n:=2) rfl (qH (qG (i:=0) yG.nd rfl (Or.inl rfl) (.inr rfl)) (qH (qG (i:=1) yG.nd rfl (Or.inl rfl) (.inr rfl)) qI)))) (fun cl fp s H=>zE) (fun cl fp s H=>(kN hu (pv 2) (pv 0) (fun _ _=>rfl)))) qX)))) qX)))
  (qZ (qM (i:=5) xO.nd rfl (by wtm_at "zo") (xX (jM (K:=K)) rfl B.list' kU (qQ (pv 4) qX)))
  (qZ (qM (i:=6) xO.nd rfl (by wtm_at "zo") (qD D_may_do hr (qQ (pv 0) (qQ (pv 5) (qQ (xG (qS (K:=K)) (pv 2) qE (fun _ _=>rfl)) qX)))))
  (qZ (qM (i:=7) xO.nd rfl (by wtm_at "zo") (jT (qTc (K:=K) hr.units) (zT rfl vF (qU (K:=K) (pv 3)) (fun cl fp s H=>(qG (i:=0) vF.nd rfl (Or.inl rfl) (.inr rfl))) (fun cl fp s H=>(qWz (vZ (yN (qD D_law_holds hr (qQ (xG (qS (K:=K)) (pv 1) qE (fun _ _=>rfl)) (qQ (pv 0) qX))))))) (fun cl fp s H=>(pv 0))) (xU qX) (xD _)))
  (qZ (zV (PW.pt (qKx (vZ (yN (xZ (zO (K:=K)) rfl B.isinstance' zD (qQ (pv 6) (qQ (qDg rfl B.bool' qAa) qX))))) (qKx (qR xXg (pv 6) (pv 7) (xD _)) (qKq (qR (qWw (K:=K) hr.units) (pv 5) (pv 4) (xD _)))))) (qJ (qN qQa)) qY)
  (qZ (zV (vZ (yN (pv 6))) (qJ (qN qQa)) qY)
  (qZ (qM (i:=8) xO.nd rfl (by wtm_at "zo") qNm)
  (qZ (xT PassesOwn.never rfl (qU (K:=K) (pv 3)) (qG (i:=9) xO.nd rfl (by wtm_at "zo")) (qJ (xT PassesOwn.never rfl (qU (K:=K) (qD D_law_comes hr (qQ (pv 1) (qQ (pv 2) (qQ (pv 9) qX))))) (qG (i:=10) xO.nd rfl (by wtm_at "zo")) (qJ (qJv hu (pv 8) (pv 10) qQa rfl)))))
  (qZ (qM (i:=11) xO.nd rfl (by wtm_at "zo") (qD D_behind hr (qQ (pv 0) (qQ (pv 5) (qQ (xG (qS (K:=K)) (pv 2) qE (fun _ _=>rfl)) qX)))))
  (qZ (zV (PW.pt (qKx (vZ (yN (xZ (zO (K:=K)) rfl B.isinstance' zD (qQ (pv 11) (qQ (qDg rfl B.list' kU) qX))))) (qKx (qR (qWw (K:=K) hr.units) (pv 11) (xZ (qZc rfl) rfl B_sorted vM (qQ (pv 8) qX)) (xD _)) (qKq (qR (qWw (K:=K) hr.units) (pv 5) (pv 4) (xD _)))))) (qJ (qN qQa)) qY)
  (qZ (xT PassesOwn.never rfl (qU (K:=K) (pv 11)) (qG (i:=10) xO.nd rfl (by wtm_at "zo")) (qZ (zV (vZ (yN (xZ (zO (K:=K)) rfl B.isinstance' zD (qQ (pv 10) (qQ (qDg rfl B.tuple' wN) qX))))) (qJ (qN qQa)) qY)
  (qJ (zV (qR (qWa (K:=K) hr.units) (zT rfl vE (qGf (K:=K) (pv 10)) (fun cl fp s H=>(qG (i:=0) vE.nd rfl (Or.inl rfl) (.inr rfl))) (fun cl fp s H=>(qWz (yN (xZ (zO (K:=K)) rfl B.isinstance' zD (qQ (pv 0) (qQ (qDg rfl B.bool' qAa) qX)))))) (fun cl fp s H=>(pv 0))) (xU qX) (xD _)) (qJ (qN qQa)) qY))))
  (qZ (qP (vV (K:=K) PySem.F.plainAttrs_list PySem.F.slot_list_append PySem.F.type_list_append jO (pv 11) (qQ (jA qX) qX)))
  (qJ (qN (jT (qWb (K:=K) hr.units) (qD D_behind hr (qQ (pv 0) (qQ (pv 5) (qQ (xG (qS (K:=K)) (pv 2) qE (fun _ _=>rfl)) qX)))) (xZ (qZc rfl) rfl B_sorted vM (qQ (pv 8) qX)) (xD _)))))))))))))))),?_⟩
 have nd:=ok.named.1
 have lss:=pss.length
 have lb:=pb.length
 have b1:=ok.b1
 have nonil:∀r∈rows,r≠[]:=fun r hr' z=>by
  have:=(fits r hr').1
  rw[z,yYU] at this
  omega
 obtain⟨_,nv,wl,wu,ede',ede,nat,ewl,pw⟩:=id din
 cases ede'
 have dok:=ok.deeds d hd
 wtm_at "zf"
 refine⟨sa,rfl,⟨ss,SqL.of esa⟩,?_⟩
 refine zJ (xs:=ss) (fun D i ys H'=>Paired (TupIn H') (rows.take i) ys∧∀b o,H b=some o→H' b=some o) (fun D hD=>⟨.nil,qV hD _⟩) (fun D i ys H' _ hP=>SqL.of (hP.2 _ _ esa)) (fun D i x ys H' N hD hDy ex hP hN=>?_) (fun D ys H1 hD hDy hP=>?_)
 ·obtain⟨pl,hk⟩:=hP
  have hi:i<rows.length:=by rw[lss];exact(yYB.mp ex).1
  obtain⟨row,erow⟩:∃b,rows[i]? = some b:=⟨_,yYA hi⟩
  obtain⟨ra,rfl,hra⟩:=xK pss erow ex
  have ll:=pl.length
  rw[yYF] at ll
  have fr:=fits row (yYE erow)
  have hk':Same H H':=hk
  refine⟨⟨[some (.ref ra)],rfl,rfl⟩,?_⟩
  refine iteT (B:=N ys H') ?_
  wtm_at "zf"
  refine⟨bx,rfl,⟨us,SqL.of (hk _ _ ebx)⟩,?_⟩
  refine qYb (vs:=row) rfl (hk _ _ ebx) (xY (qC hk') pb) (hk _ _ hra) (by omega) (fun j b eb=>?_) fr.1 fun D2 H4 nD2 S4 eD2=>?_
  ·obtain⟨v,ev⟩:∃v,row[j]? = some v:=⟨_,yYA (by rw[fr.1];exact(yYB.mp eb).1)⟩
   exact⟨v,ev,qWh nd fr.1 eb ev⟩
  wtm_at "zw"
  refine⟨D2,_,rfl,SqL.of eD2,fun r hr'=>?_⟩
  have S5:=S4.trans (qV hr' (.tup (intsV row)))
  have er:upd H4 r (.tup (intsV row)) r=some (.tup (intsV row)):=qW
  generalize upd H4 r (.tup (intsV row))=H5 at S5 er ⊢
  have eD:=S5 _ _ hDy
  have T6:Tups H5 (upd H5 D (.lst (ys++[V.ref r]))):=fun b xs e=>by rw[qA (jZ e eD (by intro z;cases z))];exact e
  refine⟨eD,small (by omega),hN _ _ qW ⟨?_,fun b o e=>?_⟩⟩
  ·rw[yYM,erow]
   exact Paired.snoc (xJ T6 (xJ (qC S5) pl)) ⟨r,rfl,T6 _ _ er⟩
  ·rw[qA (qB e hD)];exact S5 _ _ (hk _ _ e)
 obtain⟨py,S1⟩:=hP
 have S1:Same H H1:=S1
 rw[← lss,yYJ] at py
 wtm_at "zw"
 refine⟨D,ys,rows,rfl,SqL.of hDy,py,nonil,fun ka ps nka pm so=>?_⟩
 have S2:=S1.trans (qV nka (.lst (ps.map (·.2))))
 have eka:upd H1 ka (.lst (ps.map (·.2))) ka=some (.lst (ps.map (·.2))):=qW
 have pka:Paired (TupIn (upd H1 ka (.lst (ps.map (·.2))))) rows (ps.map (·.2)):=xJ (qC (qV nka _)) (qFe up (qFa up) (fun _=>Iff.rfl) py pm so)
 generalize upd H1 ka (.lst (ps.map (·.2)))=H2 at S2 eka pka ⊢
 generalize ps.map (·.2)=ks at eka pka ⊢
 have lks:=pka.length
 wtm_at "zw"
 refine⟨ka,ks,rfl,.inl (SqL.of eka),fun ha hha=>?_⟩
 have S3':=qV hha (.lst ks)
 have S3:=S2.trans S3'
 have eha:upd H2 ha (.lst ks) ha=some (.lst ks):=qW
 generalize upd H2 ha (.lst ks)=H3 at S3' S3 eha ⊢
 have eka3:=S3' _ _ eka
 have pka3:=xJ (qC S3') pka
 have ask3:Ask H3 W p ha rows:=⟨⟨bx',dx,lx,bv,gv,S3 _ _ ep,A0.same S3⟩,ok,b3,⟨ks,eha,pka3⟩,fits,few⟩
 have ede3:=S3 _ _ ede
 wtm_at "zw"
 refine⟨W,p,ha,rows,d,rfl,ask3,hd,fun H4 S4=>?_⟩
 have S04:=S3.trans S4
 have ede4:=S04 _ _ ede
 wtm_at "zf"
 refine⟨sa,rfl,⟨ss,SqL.of (S04 _ _ esa)⟩,?_⟩
 refine wA (p:=fun r=>!d.need.truth (envOf (kvsOf W.bs r))) (S04 _ _ esa) (jD (Dcts.same S04) pss) (by omega) (fun ra row H' R hrow era S' hR=>?_) fun D2 gs H5 nD2 S5 eD2 pg=>?_
 ·have S0':=S04.trans S'
  have ede':=S0' _ _ ede
  have fr:=fits row hrow
  wtm_at "zw"
  refine⟨d.need,nv,ra,_,_,_,rfl,nat.mono (qC S0'),dok.need,dok.dep,dok.dep,era,qKo (fr.stands ok.b25),fun H6 S6=>?_⟩
  wtm_at "zw"
  exact hR H6 S6
 have S05:=S04.trans S5
 wtm_at "zw"
 refine⟨zY (yZF _),fun e0 he0=>?_⟩
 have S6':=qV he0 (.lst [])
 refine⟨D2,e0,gs,rfl,rfl,SqL.of (S6' _ _ eD2),SqL.of qW,?_⟩
 generalize upd H5 e0 (.lst [])=H6 at S6' ⊢
 have S06:=S05.trans S6'
 have S36:=S4.trans (S5.trans S6')
 have eqm:gs.isEmpty=rows.all fun r=>d.need.truth (envOf (kvsOf W.bs r)):=by
  have lg:=pg.length
  rw[Bool.eq_iff_iff,List.isEmpty_iff,List.all_eq_true]
  constructor
  ·intro z r hr'
   rw[z,yYU,List.length_eq_zero_iff] at lg
   have:=List.filter_eq_nil_iff.mp lg r hr'
   simpa using this
  ·intro h
   have:rows.filter (fun r=>!d.need.truth (envOf (kvsOf W.bs r)))=[]:=List.filter_eq_nil_iff.mpr fun r hr'=>by rw[h r hr'];decide
   rw[this] at lg
   exact List.length_eq_zero_iff.mp lg.symm
 rw[eqm]
 have eha6:=S36 _ _ eha
 have eka6:=S36 _ _ eka3
 generalize emay:(rows.all fun r=>d.need.truth (envOf (kvsOf W.bs r)))=may
 wtm_at "zw"
 refine⟨_,"bool",_,true,rfl,.bl _,qCe,?_⟩
 wtm_at "zw"
 rw[decide_eq_true (rfl:V.bl may=V.bl may)]
 wtm_at "zw"
 refine⟨0,ha,ka,ks,ks,by decide,rfl,rfl,SqL.of eha6,SqL.of eka6,rfl,wX (H:=H6) (qAl pka3),?_⟩
 wtm_at "zw"
 cases may with
 | false=>
  wtm_at "zw"
  exact q _ S06
 | true=>
  clear emay eqm
  wtm_at "zw"
  intro du hdu
  have S7:=S06.trans (qV hdu (.dT []))
  have edu:upd H6 du (.dT []) du=some (.dT []):=qW
  have S67:=qV hdu (.dT [])
  generalize upd H6 du (.dT [])=H7 at S7 S67 edu ⊢
  have cfit:=kS (wys:=d.ways) fits (fun b hb=>(ok.b25 b hb).1)
  wtm_at "zf"
  refine⟨sa,rfl,⟨ss,SqL.of (S7 _ _ esa)⟩,?_⟩
  refine xH (xs:=ss) (fun i σ' H'=>∃(z9 z10:Option V),σ'=[some (.ref p),some (.ref bx),some (.ref de),some (.ref sa),some (.ref ka),some (.ref ha),some (.bl true),some (.bl true),some (.ref du),z9,z10,none]∧Same H6 H'∧Held H' du W.bs (jF W.bs d.ways (rows.take i)))
   ⟨none,none,rfl,S67,⟨[],[],edu,rfl,List.nodup_nil,fun k=>Iff.rfl⟩⟩ (fun i σ' H' _ hP=>?_) (fun N rt bk i x σ' H' ex hP hN=>?_) (fun σ' H' hP=>?_)
  ·obtain⟨_,_,rfl,S',_⟩:=hP
   exact SqL.of (S' _ _ (S06 _ _ esa))
  ·obtain⟨z9,z10,rfl,S',held⟩:=hP
   have hi:i<rows.length:=by rw[lss];exact(yYB.mp ex).1
   obtain⟨row,erow⟩:∃b,rows[i]? = some b:=⟨_,yYA hi⟩
   obtain⟨ra,rfl,hra⟩:=xK pss erow ex
   have fr:=fits row (yYE erow)
   have S0':=S06.trans S'
   wtm_at "zf"
   refine⟨bx,de,ra,W.bs,d,us,row,rfl,S0' _ _ ebx,xY (qC S0') pb,nd,by omega,ok.b25,din.same S0',dok,S0' _ _ hra,fr,fun cl cu H8 ncl S8 ecl pc=>?_⟩
   wtm_at "zw"
   refine⟨cl,rfl,⟨cu,SqL.of ecl⟩,?_⟩
   have lc:=pc.length
   have held8:Held H8 du W.bs (jF W.bs d.ways (rows.take i)):=let ⟨kvs,seen,a,b⟩:=held.ex;⟨kvs,seen,S8 _ _ a,b⟩
   obtain⟨kv8,_,edu8,_⟩:=id held8.ex
   have cldu:cl≠du:=jZ ecl edu8 (by intro z;cases z)
   refine xH (xs:=cu) (fun j σ2 H9=>∃z10:Option V,σ2=[some (.ref p),some (.ref bx),some (.ref de),some (.ref sa),some (.ref ka),some (.ref ha),some (.bl true),some (.bl true),some (.ref du),some (.ref ra),z10,none]∧But du H8 H9∧Held H9 du W.bs (jF W.bs d.ways (rows.take i)++(d.ways.map fun wy=>xP W.bs wy row).take j))
    ⟨z10,rfl,But.refl _,by rw[List.take_zero,List.append_nil];exact held8⟩ (fun j σ2 H9 _ hP=>?_) (fun N2 rt2 bk2 j y σ2 H9 ey hP hN2=>?_) (fun σ2 H9 hP=>?_)
   ·obtain⟨_,rfl,hb,_⟩:=hP
    exact SqL.of (hb _ _ cldu ecl)
   ·obtain⟨y10,rfl,hb,held9⟩:=hP
    have hj:j<(d.ways.map fun wy=>xP W.bs wy row).length:=by rw[lc];exact(yYB.mp ey).1
    obtain⟨k,ek⟩:∃k,(d.ways.map fun wy=>xP W.bs wy row)[j]? = some k:=⟨_,yYA hj⟩
    obtain⟨ya,rfl,eya⟩:=xK pc ek ey
    obtain⟨kvs,seen,edu9,eks,snd,smem⟩:=held9.ex
    have eya9:=hb _ _ (jZ eya edu8 (by intro z;cases z)) eya
    have sfit:∀k∈seen,Fits W.bs k:=fun k hk=>by
     rcases yYS.mp ((smem k).mp hk) with h | h
     ·exact kS (fun r hr'=>fits r (List.mem_of_mem_take hr')) (fun b hb=>(ok.b25 b hb).1) k h
     ·obtain⟨wy,_,rfl⟩:=yYP.mp (List.mem_of_mem_take h)
      exact qXa fr fun b hb=>(ok.b25 b hb).1
    have sl:=Held.few (H:=H9) (du:=du) (S:=[]) ok.b25 b3 snd sfit
    have lk:kvs.length=seen.length:=by
     have:=congrArg List.length eks
     rw[yYC,yYC] at this
     exact this
    wtm_at "zw"
    refine⟨du,_,rfl,DPut.t (k:=ST.ik k) edu9 (by rw[ST.ik_kV];exact eya9) (small (by omega)),?_⟩
    refine hN2 _ _ ⟨_,rfl,hb.trans But.upd,?_⟩
    rw[yYM,ek]
    by_cases c:k∈seen
    ·refine⟨_,seen,qW,?_,snd,fun k'=>?_⟩
     ·rw[qNf (by rw[eks];exact yYP.mpr ⟨k,c,rfl⟩),eks]
     ·rw[smem,← yYQ]
      constructor
      ·intro h;exact yYS.mpr (.inl h)
      ·intro h
       rcases yYS.mp h with h | h
       ·exact h
       ·have h:k'∈[k]:=h
        rw[yYL.mp h];exact(smem k).mp c
    ·refine⟨_,seen++[k],qW,?_,?_,fun k'=>?_⟩
     ·rw[qNg (fun z=>by
       rw[eks] at z
       obtain⟨k2,h2,e2⟩:=yYP.mp z
       exact c (ST.ik_inj e2▸h2)),eks,yYV]
      rfl
     ·exact List.nodup_append.mpr ⟨snd,List.nodup_cons.mpr ⟨by simp,List.nodup_nil⟩,fun a ha b hb e=>c (by rw[← yYL.mp hb,← e];exact ha)⟩
     ·rw[← yYQ,yYS,yYS,smem]
      exact Iff.rfl
   ·obtain⟨y10,rfl,hb,held9⟩:=hP
    rw[← lc,yYJ,← qXv erow] at held9
    refine hN _ _ ⟨_,_,rfl,fun b o e=>hb _ _ (qB e hdu) (S8 _ _ (S' _ _ e)),held9⟩
  ·obtain⟨z9,z10,rfl,S8,held⟩:=hP
   rw[← lss,yYJ] at held
   obtain⟨kvs,seen,edu8,eks,snd,smem⟩:=held.ex
   have sfit:∀k∈seen,Fits W.bs k:=fun k hk=>cfit k ((smem k).mp hk)
   have sl:=Held.few (H:=H') (du:=du) (S:=[]) ok.b25 b3 snd sfit
   have snil:∀r∈seen,r≠[]:=fun r hr' z=>by
    have:=(sfit r hr').1
    rw[z,yYU] at this
    omega
   have S08:=S06.trans S8
   have ask8:=ask3.same (S36.trans S8)
   have ede8:=S08 _ _ ede
   have eha8:=S8 _ _ eha6
   have eka8:=S8 _ _ eka6
   wtm_at "zw"
   refine⟨W,p,ha,rows,d,rfl,ask8,hd,dok.le,fun fo fu ms H9 nfo S9 efo pfo sr=>?_⟩
   have lfo:=pfo.length
   have lms:ms.length≤125:=Held.few (H:=H') (du:=du) (S:=[]) ok.b25 b3 (qFa sr.up) fun k hk=>cfit k ((sr.mem k).mp hk)
   wtm_at "zw"
   refine⟨.ref fo,"list",_,true,rfl,.lst efo,qCe,?_⟩
   wtm_at "zw"
   refine⟨du,kvs,seen,rfl,S9 _ _ edu8,eks,snil,by omega,fun l zs nl pm2 so2 hz=>?_⟩
   have S10:=qV nl (.lst (zs.map fun x=>V.ref x.2))
   have el:upd H9 l (.lst (zs.map fun x=>V.ref x.2)) l=some (.lst (zs.map fun x=>V.ref x.2)):=qW
   have ezs:zs.map (·.1)=ms:=vR (qAn so2 (pm2.nodup_iff.mpr snd)) sr.up (fun r=>by rw[pm2.mem_iff,smem,sr.mem])
   have pzs:=xJ (qC S10) (qYv ezs hz)
   have pfo10:=xJ (qC S10) pfo
   generalize upd H9 l (.lst (zs.map fun x=>V.ref x.2))=H10 at S10 el pzs pfo10 ⊢
   have efo10:=S10 _ _ efo
   have S810:=S9.trans S10
   refine⟨1,fo,l,fu,_,by decide,rfl,rfl,SqL.of efo10,SqL.of el,by rw[← pfo.length,← pzs.length],qFx pfo10 pzs,?_⟩
   wtm_at "zw"
   refine⟨0,ha,ka,ks,ks,by decide,rfl,rfl,SqL.of (S810 _ _ eha8),SqL.of (S810 _ _ eka8),rfl,wX (H:=H10) (qAl pka3),?_⟩
   wtm_at "zf"
   refine⟨fo,rfl,⟨fu,SqL.of efo10⟩,?_⟩
   refine xH (xs:=fu) (fun i σ' H''=>∃z10:Option V,σ'=[some (.ref p),some (.ref bx),some (.ref de),some (.ref sa),some (.ref ka),some (.ref ha),some (.bl true),some (.bl true),some (.ref du),z9,z10,some (.ref fo)]∧Same H10 H'')
    ⟨z10,rfl,Same.refl _⟩ (fun i σ' H'' _ hP=>?_) (fun N rt bk i x σ' H11 ex hP hN=>?_) (fun σ' H11 hP=>?_)
   ·obtain⟨_,rfl,S''⟩:=hP
    exact SqL.of (S'' _ _ efo10)
   ·obtain⟨y10,rfl,S11⟩:=hP
    have hi:i<ms.length:=by rw[lfo];exact(yYB.mp ex).1
    obtain⟨row,erow⟩:∃b,ms[i]? = some b:=⟨_,yYA hi⟩
    obtain⟨ra,rfl,era⟩:=xK pfo10 erow ex
    have era11:=S11 _ _ era
    wtm_at "zw"
    refine⟨.ref ra,"tuple",_,true,rfl,.tup era11,qCe,?_⟩
    wtm_at "zf"
    refine⟨ra,rfl,⟨_,SqT.of era11⟩,?_⟩
    refine qEf era11 fun D H12 S12 eD=>?_
    wtm_at "zw"
    refine⟨zY (yZF _),fun e1 he1=>?_⟩
    have S13:=S12.trans (qV he1 (.lst []))
    refine⟨D,e1,[],rfl,rfl,SqL.of (qV he1 _ _ _ eD),SqL.of qW,?_⟩
    generalize upd H12 e1 (.lst [])=H13 at S13 ⊢
    refine⟨false,rfl,iteF ?_⟩
    wtm_at "zw"
    exact hN _ _ ⟨_,rfl,S11.trans S13⟩
   ·obtain⟨y10,rfl,S11⟩:=hP
    have efo11:=S11 _ _ efo10
    wtm_at "zw"
    refine qDv (SqL.of efo11) ?_
    wtm_at "zw"
    refine⟨zY (yZF _),fun T hT=>?_⟩
    have S12:=S11.trans (qV hT (.tup []))
    have efo12:=qV hT (.tup []) _ _ efo11
    generalize upd H11 T (.tup [])=H12 at S12 efo12 ⊢
    wtm_at "zw"
    refine⟨fo,fu,.ref T,rfl,rfl,efo12,small (by omega),?_⟩
    have S13:Same H' (upd H12 fo (.lst (fu++[V.ref T]))):=fun b o e=>by
     rw[qA (qB e nfo)];exact S12 _ _ (S810 _ _ e)
    generalize upd H12 fo (.lst (fu++[V.ref T]))=H13 at S13 ⊢
    have ede13:=S13 _ _ ede8
    wtm_at "zw"
    refine⟨W,p,ha,rows,d,rfl,ask8.same S13,hd,dok.le,fun fo2 fu2 ms2 H14 nfo2 S14 efo2 pfo2 sr2=>?_⟩
    have S84:=S13.trans S14
    wtm_at "zw"
    refine⟨du,kvs,seen,rfl,S84 _ _ edu8,eks,snil,by omega,fun l2 zs2 nl2 pm3 so3 hz2=>?_⟩
    have S15:=qV nl2 (.lst (zs2.map fun x=>V.ref x.2))
    have ezs2:zs2.map (·.1)=ms2:=vR (qAn so3 (pm3.nodup_iff.mpr snd)) sr2.up (fun r=>by rw[pm3.mem_iff,smem,sr2.mem])
    have pzs2:=qYv ezs2 hz2
    refine⟨1,fo2,l2,fu2,_,by decide,rfl,rfl,SqL.of (S15 _ _ efo2),SqL.of qW,by rw[← pfo2.length,← pzs2.length],qFx (xJ (qC S15) pfo2) (xJ (qC S15) pzs2),?_⟩
    exact q _ (S08.trans (S84.trans S15))

theorem qMf {bs:List (Str×Int)}(h:∀b∈bs,2≤b.2∧b.2≤5):∀i:Nat,i≤bs.length→allV (bs.take i)≠[]
 | 0,_=>by
  show [[]]≠[]
  exact List.cons_ne_nil _ _
 | i+1,hi=>fun e=>by
  have hb:bs[i]? = some (bs[i]'(by omega)):=yYA (by omega)
  have h25:=h _ (List.getElem_mem (h:=(by omega:i<bs.length)))
  rw[jE hb] at e
  have l:=congrArg List.length e
  rw[kK] at l
  have:=List.length_pos_iff.mpr (qMf h i (by omega))
  rcases Nat.mul_eq_zero.mp l with z | z
  ·omega
  ·omega
theorem qXd {bs:List (Str×Int)}:∀i:Nat,i≤bs.length→(allV (bs.take i)).Pairwise fun a b=>HT.lexLt a b=true
 | 0,_=>by
  show List.Pairwise _ [[]]
  exact List.pairwise_singleton _ _
 | i+1,hi=>by
  have hb:bs[i]? = some (bs[i]'(by omega)):=yYA (by omega)
  rw[jE hb]
  unfold rowsBy
  refine List.pairwise_flatMap.mpr ⟨fun r hr=>?_,?_⟩
  ·refine List.pairwise_map.mpr (List.pairwise_lt_range.imp fun{a b} h=>qCc (by omega) r)
  ·refine List.Pairwise.imp_of_mem (fun{a b} ha hb' h x hx y hy=>?_) (qXd i (by omega))
   obtain⟨v,_,rfl⟩:=yYP.mp hx
   obtain⟨v',_,rfl⟩:=yYP.mp hy
   exact qHa h (by rw[vO bs i (by omega) a ha,vO bs i (by omega) b hb'])
theorem qAd (bs:List (Str×Int)):(allV bs).Pairwise fun a b=>HT.lexLt a b=true:=by
 have:=qXd (bs:=bs) bs.length (yZC _)
 rwa [yYJ] at this
theorem qEd {σ:St}{H:Hp}{Q:VK}{j:Nat}{na' dk na:Addr}{nms:List Str}(e1:H na'=some (.lst (strsV nms)))(hl:nms.length≤6)(D0:Dq H dk na)(n1:na'≠dk)(n2:na'≠na)(hj:σ.getD j none=some (.ref dk))
  (q:∀(D:Addr) (bs:List (Str×Int)) (ys:List V) (H':Hp),H D=none→Bq dk na H H'→Dq H' dk na→H' D=some (.lst ys)→Paired (BoxIn H') bs ys→bs.map (·.1)=nms→(∀b∈bs,2≤b.2∧b.2≤5)→Q (.ref D) H'):
  rdC 1 [j] (gName 0) tYes (tTup (tCons (tVar 0) (tCons (tOp (rI0 fun i j=>.int (i+j)) (tC (.int 2)) (tCall spTake [] E0 (tCons (tVar 1) (tCons (tC (.int 4)) tNil)))) tNil))) (Itl K na') σ H Q:=by
 have fr:frees [j] σ=[some (.ref dk)]:=by show [σ.getD j none]=_;rw[hj]
 refine zJ (xs:=strsV nms) (fun D i ys H'=>∃bs:List (Str×Int),Paired (BoxIn H') bs ys∧bs.map (·.1)=nms.take i∧(∀b∈bs,2≤b.2∧b.2≤5)∧Bq dk na H H'∧Dq H' dk na)
  (fun D hD=>⟨[],.nil,rfl,(fun b hb=>by cases hb),Bq.of (qV hD _),D0.same (qV hD _)⟩) (fun D i ys H' _ hP=>?_) (fun D i x ys H' N hD hDy ex hP hN=>?_) (fun D ys H7 hD hDy hP=>?_)
 ·obtain⟨bs,_,_,_,hb,_⟩:=hP
  exact SqL.of (hb _ _ n1 n2 e1)
 ·obtain⟨bs,pb,eb,h25,hb,Dd⟩:=hP
  have hi:i<nms.length:=by have:=(yYB.mp ex).1;rw[xW] at this;exact this
  obtain⟨nm,en⟩:∃b,nms[i]? = some b:=⟨_,yYA hi⟩
  have ex':x=.str nm:=by
   rw[yYO,en] at ex
   exact(Option.some.inj ex).symm
  subst ex'
  have lb:bs.length=i:=by have:=congrArg List.length eb;rw[yYC,yYF] at this;omega
  have lp:=pb.length
  refine⟨⟨[some (.str nm)],rfl,rfl⟩,?_⟩
  refine⟨_,rfl,.ref dk,(by show(([some (V.str nm)]:St)++frees [j] σ)[1]? = _;rw[fr];rfl),dk,na,4,rfl,Dd,by decide,by decide +kernel,fun x H4 x0 x1 B4 D4=>?_⟩
  refine⟨2,x,rfl,rfl,(by show 2≤sizeLine;decide),fun t ht=>?_⟩
  have S5:Same H4 (upd H4 t (.tup [.str nm,.int (2+x)])):=qV ht _
  have et:upd H4 t (.tup [.str nm,.int (2+x)]) t=some (.tup [.str nm,.int (2+x)]):=qW
  generalize upd H4 t (.tup [.str nm,.int (2+x)])=H5 at S5 et
  have nDd:D≠dk:=fun z=>by
   obtain⟨_,_,z1,_⟩:=D0.ex
   rw[z,z1] at hD;cases hD
  have nDn:D≠na:=fun z=>by
   obtain⟨_,_,_,z1⟩:=D0.ex
   rw[z,z1] at hD;cases hD
  have eD:=S5 _ _ (B4 _ _ nDd nDn hDy)
  refine⟨eD,small (by omega),hN _ _ qW ⟨bs++[(nm,2+x)],?_,?_,fun b hb'=>?_,?_,?_⟩⟩
  ·have T5:Tups H' (upd H5 D (.lst (ys++[.ref t]))):=fun b xs e=>by rw[qA (jZ e hDy (by intro z;cases z))];exact S5 _ _ (B4.tups Dd _ _ e)
   exact Paired.snoc (xY T5 pb) ⟨t,rfl,by rw[qA (jZ et eD (by intro z;cases z))];exact et⟩
  ·rw[yYV,eb,yYM,en];rfl
  ·rcases yYS.mp hb' with z | z
   ·exact h25 b z
   ·rw[yYL.mp z];exact⟨by show 2≤2+x;omega,by show 2+x≤5;omega⟩
  ·intro b o m1 m2 e
   rw[qA (qB e hD)]
   exact S5 _ _ (B4 _ _ m1 m2 (hb _ _ m1 m2 e))
  ·obtain⟨ms,d,z1,z2⟩:=(D4.same S5).ex
   exact⟨ms,d,by rw[qA (Ne.symm nDd)];exact z1,by rw[qA (Ne.symm nDn)];exact z2⟩
 obtain⟨bs,pb,eb,h25,hb,Dd⟩:=hP
 rw[xW,yYJ] at eb
 exact q D bs ys H7 hD hb Dd hDy pb eb h25

theorem qPl {xs:List V}{i:Int}(h:0≤i):cutV xs none (some i)=xs.take i.toNat:=by
 unfold cutV
 have e2:HT.sIx xs.length xs.length (some i)=min i.toNat xs.length:=by
  show(if i<0 then _ else min i.toNat xs.length)=_
  rw[if_neg (by omega)]
 rw[e2]
 show(xs.drop 0).take (min i.toNat xs.length - 0)=_
 rw[List.drop_zero,Nat.sub_zero]
 by_cases hi:i.toNat≤xs.length
 ·rw[Nat.min_eq_left hi]
 ·rw[Nat.min_eq_right (by omega),yYJ,List.take_of_length_le (by omega)]
theorem qGv:∀(l:List Int) (a:Int),0≤a→(∀z∈l,0≤z∧z≤5)→l.foldl (· * ·) a≤a * 5 ^ l.length
 | [],a,_,_=>by
  show a≤a * 5 ^ 0
  rw[Int.pow_zero,Int.mul_one];exact Int.le_refl _
 | z::l,a,h,hz=>by
  have h1:=hz z yYG
  refine Int.le_trans (qGv l (a * z) (Int.mul_nonneg h h1.1) fun y hy=>hz y (yYH _ hy)) ?_
  rw[yYT,Int.pow_succ,Int.mul_comm (5 ^ l.length) 5,← Int.mul_assoc]
  refine Int.mul_le_mul_of_nonneg_right (Int.mul_le_mul_of_nonneg_left h1.2 h) (Int.le_of_lt (Int.pow_pos (by decide)))
theorem qBl {rows:List (List Int)}{idx:List Nat}{r:List Int}(h:r∈idx.filterMap (rows[·]?)):r∈rows:=by
 obtain⟨i,_,e⟩:=List.mem_filterMap.mp h
 exact yYE e
theorem qDi:Named ["door","doors","doo"]:=⟨by decide +kernel,by decide +kernel⟩
theorem qTh:Named ["a","b","zzzzzzzz"]:=⟨by decide +kernel,by decide +kernel⟩
theorem Named.sub {ws xs:List Str}(n:Named ws)(s:List.Sublist xs ws):Named xs:=⟨s.nodup n.nd,fun x hx=>n.no x (s.subset hx)⟩
theorem qGd {R:List Int→List Int→Prop}{rows:List (List Int)}(up:rows.Pairwise R){idx:List Nat}(hi:idx.Pairwise (·<·)):(idx.filterMap (rows[·]?)).Pairwise R:=by
 rw[List.pairwise_filterMap]
 refine hi.imp fun{i j} lt x hx y hy=>?_
 obtain⟨h1,e1⟩:=yYB.mp hx
 obtain⟨h2,e2⟩:=yYB.mp hy
 have:=List.pairwise_iff_getElem.mp up i j h1 h2 lt
 rwa [e1,e2] at this
theorem qUc {xs:List V}{i:Int}(h0:0≤i)(h1:i<xs.length):cutV xs (some i) (some (i+1))=(xs.drop i.toNat).take 1:=by
 unfold cutV
 have e1:HT.sIx xs.length 0 (some i)=i.toNat:=by
  show(if i<0 then _ else min i.toNat xs.length)=_
  rw[if_neg (by omega)];omega
 have e2:HT.sIx xs.length xs.length (some (i+1))=i.toNat+1:=by
  show(if i+1<0 then _ else min (i+1).toNat xs.length)=_
  rw[if_neg (by omega)];omega
 rw[e1,e2]
 congr 1
 omega
theorem qKw {α β:Type}{R:α→β→Prop}{xs:List α}{ys:List β}(p:Paired R xs ys)(n:Nat):Paired R (xs.drop n) (ys.drop n):=by
 induction p generalizing n with
 | nil=>rw[List.drop_nil,List.drop_nil];exact .nil
 | cons h t ih=>
  cases n with
  | zero=>exact .cons h t
  | succ n=>exact ih n
theorem qKk {α β:Type}{R:α→β→Prop}{xs:List α}{ys:List β}(p:Paired R xs ys)(n:Nat):Paired R (xs.take n) (ys.take n):=by
 induction p generalizing n with
 | nil=>rw[List.take_nil,List.take_nil];exact .nil
 | cons h t ih=>
  cases n with
  | zero=>exact .nil
  | succ n=>exact .cons h (ih n)
theorem prod200 {bs:List (Str×Int)}(h25:∀b∈bs,2≤b.2∧b.2≤5)(b3:bs.length≤3):(bs.map (·.2)).foldl (· * ·) 1≤200:=by
 refine Int.le_trans (qGv _ 1 (by decide) fun z hz=>?_) ?_
 ·obtain⟨b,hb,rfl⟩:=yYP.mp hz
  have:=h25 b hb
  omega
 ·show 1 * 5 ^ (bs.map (·.2)).length≤(200:Int)
  rw[yYC,Int.one_mul]
  have:bs.length=0∨bs.length=1∨bs.length=2∨bs.length=3:=by omega
  rcases this with e | e | e | e <;> rw[e] <;> decide
theorem qRx {bs:List (Str×Int)}(h25:∀b∈bs,2≤b.2∧b.2≤5):∃vals∈allV bs,(Th.nul "yes").truth (envOf (kvsOf bs vals))=true:=by
 have ne:=qMf h25 bs.length (yZC _)
 rw[yYJ] at ne
 obtain⟨r,hr⟩:=List.exists_mem_of_ne_nil _ ne
 exact⟨r,hr,rfl⟩
theorem Dq.apart {H:Hp}{dk na p:Addr}(D:Dq H dk na)(h:H p=none):p≠dk∧p≠na:=by
 obtain⟨ms,d,h1,h2⟩:=D.ex
 exact⟨Ne.symm (qB h1 h),Ne.symm (qB h2 h)⟩
theorem qQw {α:Type}{R:α→V→Prop}{rows:List α}{us:List V}(p:Paired R rows us):∀idx:List Nat,Paired R (idx.filterMap (rows[·]?)) (idx.filterMap (us[·]?))
 | []=>.nil
 | i::idx=>by
  have ih:=qQw p idx
  rw[List.filterMap_cons,List.filterMap_cons]
  cases e:rows[i]? with
  | none=>
   have:us[i]? = none:=List.getElem?_eq_none (by rw[← p.length];exact List.getElem?_eq_none_iff.mp e)
   rw[this];exact ih
  | some r=>
   have hu:i<us.length:=by rw[← p.length];exact(yYB.mp e).1
   rw[yYA hu]
   exact .cons (xK p e (yYA hu)) ih
theorem Bq.dcts {dk na:Addr}{H H':Hp}(b:Bq dk na H H')(D:Dq H dk na):Dcts H H':=fun a kvs e=>by
 obtain⟨ms,d,h1,h2⟩:=D.ex
 exact b a _ (jZ e h1 (by intro z;cases z)) (jZ e h2 (by intro z;cases z)) e
structure Scn (dk na:Addr)(H:Hp)(W:Wd)(p bx da ev bx' dx lx:Addr)(bv gv:V)(ps:List (Deed×V×List (List V)))(us du ys es:List V):Prop where
 dq:Dq H dk na
 nbx:bx≠dk∧bx≠na
 nda:da≠dk∧da≠na
 nev:ev≠dk∧ev≠na
 nbx':bx'≠dk∧bx'≠na
 ndx:dx≠dk∧dx≠na
 nlx:lx≠dk∧lx≠na
 eev:H ev=some (.lst es)
 all:Paired (DIn W.bs H) (allV W.bs) es
 dat:∀p∈ps,jK H p.1 p.2
 eda:H da=some (.lst du)
 deeds:Paired (fun p u=>DeedAt (fun b=>b≠dk∧b≠na) H p.1.name p.1.price p.2 u) ps du
 ep:H p=some (.tup [.ref bx',.ref dx,.ref lx,bv,gv])
 ebx:H bx=some (.lst us)
 ebx':H bx'=some (.lst us)
 pb:Paired (BoxIn H) W.bs us
 edx:H dx=some (.lst ys)
 copies:Paired (fun p u=>DeedAt (fun b=>b≠dk∧b≠na) H p.1.name p.1.price p.2 u) ps ys
 elx:H lx=some (.lst [])
 beg:W.bt.At H bv
 goal:W.gt.At H gv
section
variable {dk na:Addr}{H H':Hp}{W:Wd}{p bx da ev bx' dx lx:Addr}{bv gv:V}{ps:List (Deed×V×List (List V))}{us du ys es:List V}
theorem Scn.bq (x:Scn dk na H W p bx da ev bx' dx lx bv gv ps us du ys es)(b:Bq dk na H H')(d:Dq H' dk na):Scn dk na H' W p bx da ev bx' dx lx bv gv ps us du ys es:=by
 have T:=b.tups x.dq
 exact⟨d,x.nbx,x.nda,x.nev,x.nbx',x.ndx,x.nlx,b _ _ x.nev.1 x.nev.2 x.eev,jD (b.dcts x.dq) x.all,fun p hp=>⟨(x.dat p hp).1.mono T,Paired.mapP (x.dat p hp).2 fun _ _ y=>Paired.mapP y fun _ _ z=>let ⟨a,v,e,q,r⟩:=z;⟨a,v,e,T _ _ q,r.mono T⟩⟩,
  b _ _ x.nda.1 x.nda.2 x.eda,Paired.mapP x.deeds fun _ _ z=>z.move (fun c o h e=>b _ _ h.1 h.2 e) T fun _ h=>h,T _ _ x.ep,b _ _ x.nbx.1 x.nbx.2 x.ebx,b _ _ x.nbx'.1 x.nbx'.2 x.ebx',xY T x.pb,b _ _ x.ndx.1 x.ndx.2 x.edx,
  Paired.mapP x.copies fun _ _ z=>z.move (fun c o h e=>b _ _ h.1 h.2 e) T fun _ h=>h,b _ _ x.nlx.1 x.nlx.2 x.elx,x.beg.mono T,x.goal.mono T⟩
theorem Scn.same (x:Scn dk na H W p bx da ev bx' dx lx bv gv ps us du ys es)(S:Same H H'):Scn dk na H' W p bx da ev bx' dx lx bv gv ps us du ys es:=x.bq (Bq.of S) (x.dq.same S)
theorem Scn.wat (x:Scn dk na H W p bx da ev bx' dx lx bv gv ps us du ys es)(eps:ps.map (·.1)=W.ds)(els:W.ls=[]):WAt H W bx' dx lx bv gv:=by
 have jd:=kC x.dat x.copies
 rw[eps] at jd
 exact⟨⟨us,x.ebx',x.pb⟩,⟨ys,x.edx,jd⟩,⟨[],x.elx,by rw[els];exact .nil⟩,x.beg,x.goal⟩
end
theorem yI:xE ["script","deck","names","boxes","deeds","world","everything","deed","good","at","step","some"] ["script"] (xA (top 44)):=⟨rfl,rfl,rfl,by decide +kernel,rfl,by decide +kernel,by decide +kernel⟩
theorem qMz:CompOk (xA (top 44)) ["script","deck","names","boxes","deeds","world","everything","deed","good","at","step","some"] (scAt (xB (top 44)) [2] []) ["name","deck"] 1 [1]:=
 ⟨by decide +kernel,by decide +kernel,by decide +kernel,by decide +kernel,by decide +kernel,by decide +kernel,by decide +kernel,by decide +kernel⟩
theorem qMx:CompOk (xA (top 44)) ["script","deck","names","boxes","deeds","world","everything","deed","good","at","step","some"] (scAt (xB (top 44)) [6,0] []) ["values","deed"] 1 [7]:=
 ⟨by decide +kernel,by decide +kernel,by decide +kernel,by decide +kernel,by decide +kernel,by decide +kernel,by decide +kernel,by decide +kernel⟩
def spLaw (K:yZO):Sp:=fun vs H Q _=>∃(a:Addr) (ns:List Int),vs=[.ref a]∧SqL K H a (ns.map V.int)∧ns.length≤63∧∀H',Q (.bl true) H'
set_option maxHeartbeats 40000000 in
theorem xXl {f:Addr}{fd:FuncData}(F:Fun K "law" "law" (top 44) f fd)(B:Bl mg)(D_law_deck:Dn P w K mg base "_law_deck" 1 ["script"] (spDeck K))(D_law_take:Dn P w K mg base "_law_take" 1 ["deck","many"] spTake)
  (D_law_deeds:Dn P w K mg base "_law_deeds" 7 ["deck","boxes"] qYi) (D_world_of:Dn P w K mg base "world_of" 28 ["boxes","deeds","looks","begin","goal"] qYg) (D_law_all:Dn P w K mg base "_law_all" 1 ["boxes"] spAllD) (D_law_holds:Dn P w K mg base "_law_holds" 25 ["thing","values"] (spLH 12))
  (D_law_right:Dn P w K mg base "_law_right" 29 ["world","boxes","deed","some"] qYh):FnOk P w K mg base CX0 60 f fd ["script"] (spLaw K):=by
 refine F.ok (k:=59) yI (fun vs H Q E h=>?_) (fun cdv A outer s H vs Q E hr h=>?_)
 ·obtain⟨_,_,rfl,_⟩:=h
  rfl
 obtain⟨a,ns,rfl,hS,h63,q⟩:=h
 have hu:=qWm hr
 refine⟨_,(qZ (qM (i:=1) yI.nd rfl (by wtm_at "zo") (qD D_law_deck hr (xM (pv 0) qX)))
  (qZ (qM (i:=2) yI.nd rfl (by wtm_at "zo") (xG (qT (K:=K)) (xU (qJb (xU (zI qF (zI qF (zI qF qX)))) (qJb (xU (zI qF (zI qF (zI qF qX)))) qX))) (qD D_law_take hr (xM (pv 1) (zI qE qX))) (fun _ _=>rfl)))
  (qZ (kW (i:=3) yI.nd rfl (by wtm_at "zo") rfl qMz (qU (K:=K) (vK (wH (K:=K)) (pv 2) kM (kI (xQ yV qE (qD D_law_take hr (xM (pv 1) (zI qE qX))))))) (fun cl fp s H=>(qG (i:=0) qMz.nd rfl (Or.inl rfl) (.inr rfl))) (fun cl fp s H=>zE) (fun cl fp s H=>(jA (xM (pv 0) (qQ (xQ yV qE (qD D_law_take hr (xM (pv 1) (zI qE qX)))) qX)))))
  (qZ (qM (i:=4) yI.nd rfl (by wtm_at "zo") (qD D_law_deeds hr (xM (pv 1) (xM (pv 3) qX))))
  (qZ (qM (i:=5) yI.nd rfl (by wtm_at "zo") (qD D_world_of hr (qJc (xX (jM (K:=K)) rfl B.list' kU (xM (pv 3) qX)) (qJc (xX (jM (K:=K)) rfl B.list' kU (xM (pv 4) qX)) (qJb (xU qX) (qCq (jA (zI qF qX)) (qCq (jA (zI qF qX)) qX)))))))
  (qZ (qM (i:=6) yI.nd rfl (by wtm_at "zo") (qD D_law_all hr (xM (pv 3) qX)))
  (qZ (xT PassesOwn.never rfl (qU (K:=K) (pv 4)) (qG (i:=7) yI.nd rfl (by wtm_at "zo")) (qZ (kW (i:=8) yI.nd rfl (by wtm_at "zo") rfl qMx (qU (K:=K) (pv 6)) (fun cl fp s H=>(qG (i:=0) qMx.nd rfl (Or.inl rfl) (.inr rfl))) (fun cl fp s H=>(qWz (yN (qD D_law_holds hr (wI (xG (qS (K:=K)) (pv 1) qE (fun _ _=>rfl)) (xM (pv 0) qX)))))) (fun cl fp s H=>(pv 0)))
  (qZ (qM (i:=9) yI.nd rfl (by wtm_at "zo") (qD D_law_take hr (xM (pv 1) (qJc (xZ (yW (K:=K)) rfl B.len' qXw (xM (pv 6) qX)) qX))))
  (qZ (qM (i:=10) yI.nd rfl (by wtm_at "zo") (xQ yV qE (qD D_law_take hr (xM (pv 1) (zI qE qX)))))
  (qJ (xT PassesOwn.never rfl (qU (K:=K) (xU (wI (vK (wH (K:=K)) (pv 6) (kI (pv 9)) (kI (xQ yV (pv 9) qE))) (wI (qZq (K:=K) (pv 6) (kI (pv 9)) kM (pv 10)) (wI (qZq (K:=K) (pv 8) kM kM (pv 10)) (xM (pv 8) qX)))))) (qG (i:=11) yI.nd rfl (by wtm_at "zo")) (qJ (zV (PW.pt (qBe (qR (qWa (K:=K) hr.units) (pv 11) (xU qX) (xD _)) (qJz (vZ (yN (qD D_law_right hr (xM (pv 5) (xM (pv 3) (xM (pv 7) (xM (pv 11) qX)))))))))) (qJ (qN qQa)) qY))))))))
  (qJ (qN (qBo (jT (qWb (K:=K) hr.units) (xG (qS (K:=K)) (pv 5) qE (fun _ _=>rfl)) (pv 3) (xD _)) (qBm (jT (qWb (K:=K) hr.units) (xG (qS (K:=K)) (pv 5) qE (fun _ _=>rfl)) (pv 4) (xD _))))))))))))),?_⟩
 wtm_at "zw"
 refine⟨a,ns,rfl,hS,h63,fun dk na H1 S1 _ _ D1=>?_⟩
 wtm_at "zw"
 refine⟨(by show 3≤sizeLine;decide),fun l1 hl1=>?_⟩
 wtm_at "zw"
 refine⟨(by show 3≤sizeLine;decide),fun l2 hl2=>?_⟩
 wtm_at "zw"
 refine⟨(by show 2≤sizeLine;decide),fun l3 hl3=>?_⟩
 obtain⟨e1,e2,e3,S2,n1,n2,n3⟩:∃_:upd (upd (upd H1 l1 (.lst [.str "door",.str "doors",.str "doo"])) l2 (.lst [.str "a",.str "b",.str "zzzzzzzz"])) l3 (.lst [.ref l1,.ref l2]) l1=some (.lst (strsV ["door","doors","doo"])),
   ∃_:upd (upd (upd H1 l1 (.lst [.str "door",.str "doors",.str "doo"])) l2 (.lst [.str "a",.str "b",.str "zzzzzzzz"])) l3 (.lst [.ref l1,.ref l2]) l2=some (.lst (strsV ["a","b","zzzzzzzz"])),
   ∃_:upd (upd (upd H1 l1 (.lst [.str "door",.str "doors",.str "doo"])) l2 (.lst [.str "a",.str "b",.str "zzzzzzzz"])) l3 (.lst [.ref l1,.ref l2]) l3=some (.lst [.ref l1,.ref l2]),
   ∃_:Same H1 (upd (upd (upd H1 l1 (.lst [.str "door",.str "doors",.str "doo"])) l2 (.lst [.str "a",.str "b",.str "zzzzzzzz"])) l3 (.lst [.ref l1,.ref l2])),
   (l1≠dk∧l1≠na)∧(l2≠dk∧l2≠na)∧(l3≠dk∧l3≠na):=
  ⟨qV hl3 _ _ _ (qV hl2 _ _ _ qW),qV hl3 _ _ _ qW,qW,(qV hl1 _).trans ((qV hl2 _).trans (qV hl3 _)),D1.apart hl1,(D1.same (qV hl1 _)).apart hl2,(D1.same ((qV hl1 _).trans (qV hl2 _))).apart hl3⟩
 generalize upd (upd (upd H1 l1 (.lst [.str "door",.str "doors",.str "doo"])) l2 (.lst [.str "a",.str "b",.str "zzzzzzzz"])) l3 (.lst [.ref l1,.ref l2])=Ha at e1 e2 e3 S2
 wtm_at "zw"
 refine⟨dk,na,2,rfl,D1.same S2,by decide,by decide +kernel,fun x H2 x0 x1 B2 D2=>?_⟩
 obtain⟨nl,nms,nmd,nl3,eat,enl,nn1,nn2⟩:∃(nl:Addr) (nms:List Str),Named nms∧nms.length=3∧atI [V.ref l1,V.ref l2] x=some (.ref nl)∧H2 nl=some (.lst (strsV nms))∧nl≠dk∧nl≠na:=by
  have:x=0∨x=1:=by omega
  rcases this with rfl | rfl
  ·exact⟨l1,_,qDi,rfl,rfl,B2 _ _ n1.1 n1.2 e1,n1.1,n1.2⟩
  ·exact⟨l2,_,qTh,rfl,rfl,B2 _ _ n2.1 n2.2 e2,n2.1,n2.2⟩
 refine⟨l3,_,x,.ref nl,rfl,rfl,SqL.of (B2 _ _ n3.1 n3.2 e3),eat,?_⟩
 wtm_at "zf"
 refine⟨dk,na,3,rfl,D2,by decide,by decide +kernel,fun y H3 y0 y1 B3 D3=>?_⟩
 wtm_at "zw"
 refine⟨nl,_,rfl,SqL.of (B3 _ _ nn1 nn2 enl),fun sl hsl=>?_⟩
 have ecut:cutV (strsV nms) none (some (1+y))=strsV (nms.take (1+y).toNat):=by rw[qPl (by omega)];exact(List.map_take ..).symm
 rw[ecut]
 have nt1:1≤(nms.take (1+y).toNat).length:=by rw[yYF];omega
 have nt3:(nms.take (1+y).toNat).length≤3:=by rw[yYF];omega
 have nmd':=nmd.sub (List.take_sublist (1+y).toNat nms)
 generalize nms.take (1+y).toNat=nm2 at nt1 nt3 nmd'
 have nsl:=D3.apart hsl
 refine xQa (SqL.of qW) ?_
 refine qEd qW (by omega) (D3.same (qV hsl _)) nsl.1 nsl.2 rfl fun bx bs us H4 nbx B4 D4 ebx pb ebs h25=>?_
 have nb:=(D3.same (qV hsl (.lst (strsV nm2)))).apart nbx
 have lbs:bs.length=nm2.length:=by rw[← ebs,yYC]
 have lus:=pb.length
 rw[← ebs] at nmd'
 clear ebs
 have bne:bs≠[]:=fun z=>by rw[z] at lbs;simp at lbs;omega
 have b1:1≤bs.length:=by omega
 have b3:bs.length≤3:=by omega
 have nd:=nmd'.nd
 clear nt1 nt3 hsl nsl D3 B3 B2 D2 enl e1 e2 e3 S2 eat y0 y1 x0 x1
 wtm_at "zw"
 refine⟨dk,na,bx,bs,rfl,⟨D4,⟨us,ebx,pb⟩,nb.1,nb.2,bne,by omega⟩,nd,fun da ps H5 nda B5 D5 made=>?_⟩
 obtain⟨du,eda,pdu⟩:=made.lies
 have ldu:=pdu.length
 have n5:=made.n5
 have ebx5:=B5 _ _ nb.1 nb.2 ebx
 have pb5:=xY (B5.tups D4) pb
 wtm_at "zw"
 refine⟨bx,us,rfl,.inl (SqL.of ebx5),fun b1' hb1=>?_⟩
 have Sb:=qV hb1 (.lst us)
 have eb1:upd H5 b1' (.lst us) b1'=some (.lst us):=qW
 generalize upd H5 b1' (.lst us)=H6 at Sb eb1 ⊢
 wtm_at "zw"
 refine⟨da,du,rfl,.inl (SqL.of (Sb _ _ eda)),fun d1 hd1=>?_⟩
 have Sd:=qV hd1 (.lst du)
 have ed1:upd H6 d1 (.lst du) d1=some (.lst du):=qW
 generalize upd H6 d1 (.lst du)=H7 at Sd ed1 ⊢
 wtm_at "zw"
 refine⟨zY (yZF _),fun k1 hk1=>?_⟩
 have Sk:=qV hk1 (.lst [])
 have ek1:upd H7 k1 (.lst []) k1=some (.lst []):=qW
 generalize upd H7 k1 (.lst [])=H8 at Sk ek1 ⊢
 wtm_at "zw"
 refine⟨zY (show 1≤1000000 by decide),fun y1 hy1=>?_⟩
 have Sy:=qV hy1 (.tup [.str "yes"])
 have ey1:upd H8 y1 (.tup [.str "yes"]) y1=some (.tup [.str "yes"]):=qW
 generalize upd H8 y1 (.tup [.str "yes"])=H9 at Sy ey1 ⊢
 wtm_at "zw"
 refine⟨zY (show 1≤1000000 by decide),fun y2 hy2=>?_⟩
 have Sz:=qV hy2 (.tup [.str "yes"])
 have ey2:upd H9 y2 (.tup [.str "yes"]) y2=some (.tup [.str "yes"]):=qW
 generalize upd H9 y2 (.tup [.str "yes"])=H10 at Sz ey2 ⊢
 have S9:=Sk.trans (Sy.trans Sz)
 have S7:=Sd.trans S9
 have S6:=Sb.trans S7
 have dat10:∀p∈ps,jK H10 p.1 p.2:=fun p hp=>(made.dat p hp).1.same S6
 have pdu10:Paired (fun p u=>DeedAt (fun b=>b≠dk∧b≠na) H10 p.1.name p.1.price p.2 u) ps du:=Paired.mapP pdu fun _ _ z=>z.move (fun b o _ e=>S6 _ _ e) (qC S6) fun _ h=>h
 have wok0:WOk ⟨bs,ps.map (fun p:Deed×V×List (List V)=>p.1),[],.nul "yes",.nul "yes"⟩:=by
  refine⟨b1,by show bs.length≤6;omega,h25,prod200 h25 b3,nmd',?_,yZF _,?_,fun d hd=>?_,(fun l hl=>by cases hl),rfl,by show 1≤12;decide,rfl,by show 1≤12;decide,qRx h25⟩
  ·show(ps.map (·.1)).length≤100
   rw[yYC];omega
  ·show((ps.map (fun p:Deed×V×List (List V)=>p.1)).map Deed.name++[]).Nodup
   rw[List.append_nil,List.map_map];exact made.nd
  ·obtain⟨p,hp,rfl⟩:=yYP.mp hd
   exact(made.dat p hp).2
 wtm_at "zw"
 refine⟨⟨bs,ps.map (fun p:Deed×V×List (List V)=>p.1),[],.nul "yes",.nul "yes"⟩,b1',d1,k1,.ref y1,.ref y2,us,du,ps,rfl,⟨⟨us,S7 _ _ eb1,xY (qC S6) pb5⟩,⟨du,S9 _ _ ed1,kC dat10 pdu10⟩,⟨[],(Sy.trans Sz) _ _ ek1,.nil⟩,⟨y1,rfl,Sz _ _ ey1⟩,⟨y2,rfl,ey2⟩⟩,wok0,S7 _ _ eb1,xY (qC S6) pb5,S9 _ _ ed1,rfl,dat10,Paired.mapP pdu10 fun _ _ z=>z.move (ok':=fun _=>True) (fun b o _ e=>e) (fun _ _ e=>e) fun _ _=>trivial,fun p H11 bx' dx lx ys S11 ep nb' ndx' nlx' ebx' edx pys wat=>?_⟩
 have D10:=D5.same S6
 have S611:=S6.trans S11
 wtm_at "zw"
 refine⟨bx,bs,us,rfl,S611 _ _ ebx5,xY (qC S611) pb5,by omega,h25,fun ev es H12 nev S12 eev pev=>?_⟩
 have S612:=S611.trans S12
 obtain⟨W,scn,wok,eW,eps,els⟩:∃W:Wd,Scn dk na H12 W p bx da ev bx' dx lx (.ref y1) (.ref y2) ps us du ys es∧WOk W∧W.bs=bs∧ps.map (·.1)=W.ds∧W.ls=[]:=by
  refine⟨⟨bs,ps.map (fun p:Deed×V×List (List V)=>p.1),[],.nul "yes",.nul "yes"⟩,⟨D5.same S612,nb,made.nda,(D5.same S611).fresh nev,D10.fresh nb',D10.fresh ndx',D10.fresh nlx',eev,pev,fun p hp=>(dat10 p hp).same (S11.trans S12),S612 _ _ eda,Paired.mapP pdu fun _ _ z=>z.move (fun b o _ e=>S612 _ _ e) (qC S612) fun _ h=>h,S12 _ _ ep,S612 _ _ ebx5,S12 _ _ ebx',xY (qC S612) pb5,S12 _ _ edx,Paired.mapP pys fun _ _ z=>z.move (fun b o _ e=>S12 _ _ e) (qC S12) fun b hb=>D10.fresh hb,?_,wat.beg.mono (qC S12),wat.goal.mono (qC S12)⟩,wok0,rfl,rfl,rfl⟩
  obtain⟨lu,elu,plu⟩:=wat.looks
  cases plu
  exact S12 _ _ elu
 subst eW
 clear wok0 wat pys pdu10 dat10 ey1 ey2 ek1 ed1 eb1 Sz Sy Sk Sd Sb S9 S7 S6 S611 S11 S12 S612 D10 pb5 ebx5 eda pdu made B5 D5 D4 ebx pb ep nb' ndx' nlx' ebx' edx nev eev pev
 have lal:=kE h25 W.bs.length (yZC _)
 rw[yYJ] at lal
 have l125:(allV W.bs).length≤125:=by
  have l3:5 ^ W.bs.length≤5 ^ 3:=Nat.pow_le_pow_right (by decide) b3
  have e:5 ^ 3=125:=by decide
  omega
 have lpos:0<(allV W.bs).length:=by
  obtain⟨v,hv,_⟩:=wok.some'
  exact List.length_pos_of_mem hv
 wtm_at "zf"
 refine⟨da,rfl,⟨du,SqL.of scn.eda⟩,?_⟩
 refine xH (xs:=du) (fun i σ' H'=>∃(z7 z8 z9 z10 z11:Option V),σ'=[some (.ref a),some (.ref dk),some (.ref nl),some (.ref bx),some (.ref da),some (.ref p),some (.ref ev),z7,z8,z9,z10,z11]∧Scn dk na H' W p bx da ev bx' dx lx (.ref y1) (.ref y2) ps us du ys es)
  ⟨none,none,none,none,none,rfl,scn⟩ (fun i σ' H' _ hP=>?_) (fun N rt bk i x σ' H' ex hP hN=>?_) (fun σ' H' hP=>?_)
 ·obtain⟨_,_,_,_,_,rfl,sc⟩:=hP
  exact SqL.of sc.eda
 ·obtain⟨z7,z8,z9,z10,z11,rfl,sc⟩:=hP
  have hi:i<ps.length:=by rw[ldu];exact(yYB.mp ex).1
  obtain⟨pp,epp⟩:∃b,ps[i]? = some b:=⟨_,yYA hi⟩
  have hpp:=yYE epp
  have hd:pp.1∈W.ds:=by rw[← eps];exact yYP.mpr ⟨pp,hpp,rfl⟩
  have dok:=wok.deeds pp.1 hd
  have dinOf:∀{H2:Hp},Scn dk na H2 W p bx da ev bx' dx lx (.ref y1) (.ref y2) ps us du ys es→DeedIn H2 pp.1 x:=fun sc2=>by
   have h:=xK sc2.deeds epp ex
   exact qVx (sc2.dat pp hpp) h
  obtain⟨de,nv,wl,wu,rfl,ede,nat,_,_⟩:=dinOf sc
  have les:=sc.all.length
  wtm_at "zf"
  refine⟨ev,rfl,⟨es,SqL.of sc.eev⟩,?_⟩
  refine wA (p:=fun r=>pp.1.need.truth (envOf (kvsOf W.bs r))) sc.eev sc.all (by omega) (fun ra row H2 R hrow era S2 hR=>?_) fun go gs H2 ngo S2 ego pg=>?_
  ·have ede2:=S2 _ _ ede
   wtm_at "zw"
   refine⟨pp.1.need,nv,ra,_,_,_,rfl,nat.mono (qC S2),dok.need,dok.dep,dok.dep,era,qKo ((qAe hrow).stands h25),fun H3 S3=>?_⟩
   wtm_at "zw"
   exact hR H3 S3
  have ng:=sc.dq.fresh ngo
  have sc2:=sc.same S2
  have eev2:=sc2.eev
  wtm_at "zw"
  refine⟨dk,na,_,rfl,sc2.dq,by omega,qIj (by omega),fun at' H3 a0 a1 B3 D3=>?_⟩
  wtm_at "zw"
  refine⟨dk,na,9,rfl,D3,by decide,by decide +kernel,fun st H4 s0 s1 B4 D4=>?_⟩
  have B24:=B3.trans B4
  have sc4:=sc2.bq B24 D4
  have ego4:=B24 _ _ ng.1 ng.2 ego
  have pg4:=jD (B24.dcts sc2.dq) pg
  have lgs:=pg4.length
  have lgf:((allV W.bs).filter fun r=>pp.1.need.truth (envOf (kvsOf W.bs r))).length≤(allV W.bs).length:=List.length_filter_le _ _
  wtm_at "zf"
  refine⟨ev,_,rfl,SqL.of sc4.eev,fun kb hkb=>?_⟩
  rw[qUc a0 (by omega)]
  have Skb:=qV hkb (.lst ((es.drop at'.toNat).take 1))
  have ekb:upd H4 kb (.lst ((es.drop at'.toNat).take 1)) kb=some _:=qW
  generalize upd H4 kb (.lst ((es.drop at'.toNat).take 1))=H5 at Skb ekb ⊢
  wtm_at "zw"
  refine⟨.ref ev,rfl,.int at',rfl,at',rfl,.int (1+st),rfl,ev,es,1+st,rfl,rfl,by omega,SqL.of (Skb _ _ sc4.eev),fun kc idx hkc iup _ _=>?_⟩
  have Skc:=qV hkc (.lst (idx.filterMap (es[·]?)))
  have ekc:upd H5 kc (.lst (idx.filterMap (es[·]?))) kc=some _:=qW
  generalize upd H5 kc (.lst (idx.filterMap (es[·]?)))=H6 at Skc ekc ⊢
  wtm_at "zw"
  refine⟨.ref go,rfl,.int (1+st),rfl,go,gs,1+st,rfl,rfl,by omega,SqL.of ((Skb.trans Skc) _ _ ego4),fun ke idx2 hke iup2 _ _=>?_⟩
  have Ske:=qV hke (.lst (idx2.filterMap (gs[·]?)))
  have eke:upd H6 ke (.lst (idx2.filterMap (gs[·]?))) ke=some _:=qW
  generalize upd H6 ke (.lst (idx2.filterMap (gs[·]?)))=H7 at Ske eke ⊢
  wtm_at "zw"
  refine⟨zY (show 4≤1000000 by decide),fun l4 hl4=>?_⟩
  have Sl4:=qV hl4 (.lst [.ref kb,.ref kc,.ref ke,.ref go])
  have el4:upd H7 l4 (.lst [.ref kb,.ref kc,.ref ke,.ref go]) l4=some _:=qW
  generalize upd H7 l4 (.lst [.ref kb,.ref kc,.ref ke,.ref go])=H8 at Sl4 el4 ⊢
  have S68:=Ske.trans Sl4
  have S58:=Skc.trans S68
  have S48:=Skb.trans S58
  have sc8:=sc4.same S48
  have pg8:=jD (Dcts.same S48) pg4
  have gup:((allV W.bs).filter fun r=>pp.1.need.truth (envOf (kvsOf W.bs r))).Pairwise fun a b=>HT.lexLt a b=true:=(qAd W.bs).sublist List.filter_sublist
  have kn:∀u∈[V.ref kb,.ref kc,.ref ke,.ref go],∃sa rows ss,u=.ref sa∧H8 sa=some (.lst ss)∧Paired (DIn W.bs H8) rows ss∧rows.Pairwise (fun a b=>HT.lexLt a b=true)∧∀r∈rows,r∈allV W.bs:=fun u hu=>by
   simp only[yYK,List.not_mem_nil,or_false] at hu
   rcases hu with rfl | rfl | rfl | rfl
   ·exact⟨kb,_,_,rfl,S58 _ _ ekb,qKk (qKw sc8.all _) 1,(qAd W.bs).sublist ((List.take_sublist _ _).trans (List.drop_sublist _ _)),fun r hr=>List.mem_of_mem_drop (List.mem_of_mem_take hr)⟩
   ·exact⟨kc,_,_,rfl,S68 _ _ ekc,qQw sc8.all idx,qGd (qAd W.bs) iup,fun r hr=>qBl hr⟩
   ·exact⟨ke,_,_,rfl,Sl4 _ _ eke,qQw pg8 idx2,qGd gup iup2,fun r hr=>(yYR.mp (qBl hr)).1⟩
   ·exact⟨go,_,_,rfl,S48 _ _ ego4,pg8,gup,fun r hr=>(yYR.mp hr).1⟩
  refine⟨l4,rfl,⟨_,SqL.of el4⟩,?_⟩
  refine xH (xs:=[V.ref kb,.ref kc,.ref ke,.ref go]) (fun i σ' H'=>∃z11:Option V,σ'=[some (.ref a),some (.ref dk),some (.ref nl),some (.ref bx),some (.ref da),some (.ref p),some (.ref ev),some (.ref de),some (.ref go),some (.int at'),some (.int (1+st)),z11]∧Same H8 H')
   ⟨z11,rfl,Same.refl _⟩ (fun i σ' H' _ hP=>?_) (fun N2 rt2 bk2 i x σ' H9 ex2 hP hN2=>?_) (fun σ' H9 hP=>?_)
  ·obtain⟨_,rfl,S'⟩:=hP
   exact SqL.of (S' _ _ el4)
  ·obtain⟨z,rfl,S9⟩:=hP
   obtain⟨sa,rows,ss,rfl,esa,pss,up,sub⟩:=kn x (yYE ex2)
   have few:=qQh (qFa up) sub
   wtm_at "zw"
   refine⟨zY (yZF _),fun e1 he1=>?_⟩
   have S10':=qV he1 (.lst [])
   have S10:=S9.trans S10'
   refine⟨sa,e1,ss,rfl,rfl,SqL.of (S10 _ _ esa),SqL.of qW,?_⟩
   generalize upd H9 e1 (.lst [])=H10 at S10' S10 ⊢
   cases ss.isEmpty with
   | true=>
    refine⟨false,rfl,iteF ?_⟩
    wtm_at "zw"
    exact hN2 _ _ ⟨_,rfl,S10⟩
   | false=>
    refine⟨true,rfl,iteT ?_⟩
    have sc10:=sc8.same S10
    wtm_at "zw"
    refine⟨W,p,bx,de,sa,us,ss,pp.1,rows,rfl,⟨bx',dx,lx,_,_,sc10.ep,sc10.wat eps els⟩,wok,b3,sc10.ebx,sc10.pb,dinOf sc10,hd,S10 _ _ esa,jD (Dcts.same S10) pss,up,fun r hr=>qAe (sub r hr),by omega,fun H11 S11=>?_⟩
    wtm_at "zw"
    exact hN2 _ _ ⟨_,rfl,S10.trans S11⟩
  ·obtain⟨z,rfl,S9⟩:=hP
   exact hN _ _ ⟨_,_,_,_,_,rfl,sc8.same S9⟩
 ·obtain⟨z7,z8,z9,z10,z11,rfl,sc⟩:=hP
  have ep:=sc.ep
  wtm_at "zw"
  refine⟨0,bx',bx,us,us,by decide,rfl,rfl,SqL.of sc.ebx',SqL.of sc.ebx,rfl,wX (H:=H') (fun j x ex=>?_),?_⟩
  ·have hj:j<W.bs.length:=by rw[sc.pb.length];exact(yYB.mp ex).1
   obtain⟨y,ey,_⟩:=xK sc.pb (yYA hj) ex
   exact⟨y,ey⟩
  wtm_at "zw"
  refine⟨3,dx,da,ys,du,by decide,rfl,rfl,SqL.of sc.edx,SqL.of sc.eda,by rw[← sc.copies.length,← sc.deeds.length],fun j x y ex ey=>?_,?_⟩
  ·have hj:j<ps.length:=by rw[sc.copies.length];exact(yYB.mp ex).1
   have epp:=yYA hj
   have h1:=xK sc.copies epp ex
   have h2:=xK sc.deeds epp ey
   exact qPg (sc.dat _ (yYE epp)) h1 h2
  exact q _

end
theorem len1 {C:List Value→Prop}(h:∀a0:Value,C [a0])(us:List Value)(e:us.length=1):C us:=by
 cases us with
 | nil=>cases e
 | cons a r=>
  cases r with
  | nil=>exact h a
  | cons _ _=>exact absurd (Nat.succ.inj e) (Nat.succ_ne_zero _)

theorem len2 {C:List Value→Prop}(h:∀a0 a1:Value,C [a0,a1])(us:List Value)(e:us.length=2):C us:=by
 cases us with
 | nil=>cases e
 | cons a r=>exact len1 (C:=fun r=>C (a::r)) (h a) r (Nat.succ.inj e)

theorem len3 {C:List Value→Prop}(h:∀a0 a1 a2:Value,C [a0,a1,a2])(us:List Value)(e:us.length=3):C us:=by
 cases us with
 | nil=>cases e
 | cons a r=>exact len2 (C:=fun r=>C (a::r)) (h a) r (Nat.succ.inj e)

theorem len4 {C:List Value→Prop}(h:∀a0 a1 a2 a3:Value,C [a0,a1,a2,a3])(us:List Value)(e:us.length=4):C us:=by
 cases us with
 | nil=>cases e
 | cons a r=>exact len3 (C:=fun r=>C (a::r)) (h a) r (Nat.succ.inj e)

theorem len5 {C:List Value→Prop}(h:∀a0 a1 a2 a3 a4:Value,C [a0,a1,a2,a3,a4])(us:List Value)(e:us.length=5):C us:=by
 cases us with
 | nil=>cases e
 | cons a r=>exact len4 (C:=fun r=>C (a::r)) (h a) r (Nat.succ.inj e)

theorem xJc {l:PySem.W.OpenLaw}{w:World}{K:yZO}{h:Heap}{mg:Str→Option Value}{fa f0 f1 f2 f3 f4 f5 f6 f7 f8 f9 f10 f11 f12 f13 f14 f15 f16 f17 f18 f19 f20 f21 f22 f23 f24 f25 f26 f27 f28 f29 f30 f31 f32:Addr}(X:K.In h)(G:h.Ns mainGlobals mg)(hfa:mg "law" = some (.ref fa))
  {od0 an0 od1 an1 od2 an2 od3 an3 od4 an4 od5 an5 od6 an6 od7 an7 od8 an8 od9 an9 od10 an10 od11 an11 od12 an12 od13 an13 od14 an14 od15 an15 od16 an16 od17 an17 od18 an18 od19 an19 od20 an20 od21 an21 od22 an22 od23 an23 od24 an24 od25 an25 od26 an26 od27 an27 od28 an28 od29 an29 od30 an30 od31 an31 od32 an32:Option Addr} {sl0 sl1 sl2 sl3 sl4 sl5 sl6 sl7 sl8 sl9 sl10 sl11 sl12 sl13 sl14 sl15 sl16 sl17 sl18 sl19 sl20 sl21 sl22 sl23 sl24 sl25 sl26 sl27 sl28 sl29 sl30 sl31 sl32:Array (Option Value)} {oc0 kV0 dc0 pm0 cd0 ct0 oc1 kV1 dc1 pm1 cd1 ct1 oc2 kV2 dc2 pm2 cd2 ct2 oc3 kV3 dc3 pm3 cd3 ct3 oc4 kV4 dc4 pm4 cd4 ct4 oc5 kV5 dc5 pm5 cd5 ct5 oc6 kV6 dc6 pm6 cd6 ct6 oc7 kV7 dc7 pm7 cd7 ct7 oc8 kV8 dc8 pm8 cd8 ct8 oc9 kV9 dc9 pm9 cd9 ct9 oc10 kV10 dc10 pm10 cd10 ct10 oc11 kV11 dc11 pm11 cd11 ct11 oc12 kV12 dc12 pm12 cd12 ct12 oc13 kV13 dc13 pm13 cd13 ct13 oc14 kV14 dc14 pm14 cd14 ct14 oc15 kV15 dc15 pm15 cd15 ct15 oc16 kV16 dc16 pm16 cd16 ct16 oc17 kV17 dc17 pm17 cd17 ct17 oc18 kV18 dc18 pm18 cd18 ct18 oc19 kV19 dc19 pm19 cd19 ct19 oc20 kV20 dc20 pm20 cd20 ct20 oc21 kV21 dc21 pm21 cd21 ct21 oc22 kV22 dc22 pm22 cd22 ct22 oc23 kV23 dc23 pm23 cd23 ct23 oc24 kV24 dc24 pm24 cd24 ct24 oc25 kV25 dc25 pm25 cd25 ct25 oc26 kV26 dc26 pm26 cd26 ct26 oc27 kV27 dc27 pm27 cd27 ct27 oc28 kV28 dc28 pm28 cd28 ct28 oc29 kV29 dc29 pm29 cd29 ct29 oc30 kV30 dc30 pm30 cd30 ct30 oc31 kV31 dc31 pm31 cd31 ct31 oc32 kV32 dc32 pm32 cd32 ct32:Value}
  (a0:PySem.W.nsIn K mainGlobals "holds" = some (some (.ref f0))) (l0:K.lookup f0=some ⟨oc0,od0,.func (PySem.W.fnOf "holds" "holds" (xC (top 1)) (xB (top 1)) (xA (top 1)) .none kV0 dc0 pm0 an0 cd0 ct0),sl0⟩) (c0:PySem.W.codeIn K cd0 "holds" = true) (k0:PySem.W.keepIn K (.ref f0)=true)
  (a1:PySem.W.nsIn K mainGlobals "names_in" = some (some (.ref f1))) (l1:K.lookup f1=some ⟨oc1,od1,.func (PySem.W.fnOf "names_in" "names_in" (xC (top 2)) (xB (top 2)) (xA (top 2)) .none kV1 dc1 pm1 an1 cd1 ct1),sl1⟩) (c1:PySem.W.codeIn K cd1 "names_in" = true) (k1:PySem.W.keepIn K (.ref f1)=true)
  (a2:PySem.W.nsIn K mainGlobals "values_by_name" = some (some (.ref f2))) (l2:K.lookup f2=some ⟨oc2,od2,.func (PySem.W.fnOf "values_by_name" "values_by_name" (xC (top 3)) (xB (top 3)) (xA (top 3)) .none kV2 dc2 pm2 an2 cd2 ct2),sl2⟩) (c2:PySem.W.codeIn K cd2 "values_by_name" = true) (k2:PySem.W.keepIn K (.ref f2)=true)
  (a3:PySem.W.nsIn K mainGlobals "worth_by" = some (some (.ref f3))) (l3:K.lookup f3=some ⟨oc3,od3,.func (PySem.W.fnOf "worth_by" "worth_by" (xC (top 4)) (xB (top 4)) (xA (top 4)) .none kV3 dc3 pm3 an3 cd3 ct3),sl3⟩) (c3:PySem.W.codeIn K cd3 "worth_by" = true) (k3:PySem.W.keepIn K (.ref f3)=true)
  (a4:PySem.W.nsIn K mainGlobals "holds_by" = some (some (.ref f4))) (l4:K.lookup f4=some ⟨oc4,od4,.func (PySem.W.fnOf "holds_by" "holds_by" (xC (top 5)) (xB (top 5)) (xA (top 5)) .none kV4 dc4 pm4 an4 cd4 ct4),sl4⟩) (c4:PySem.W.codeIn K cd4 "holds_by" = true) (k4:PySem.W.keepIn K (.ref f4)=true)
  (a5:PySem.W.nsIn K mainGlobals "world_of" = some (some (.ref f5))) (l5:K.lookup f5=some ⟨oc5,od5,.func (PySem.W.fnOf "world_of" "world_of" (xC (top 15)) (xB (top 15)) (xA (top 15)) .none kV5 dc5 pm5 an5 cd5 ct5),sl5⟩) (c5:PySem.W.codeIn K cd5 "world_of" = true) (k5:PySem.W.keepIn K (.ref f5)=true)
  (a6:PySem.W.nsIn K mainGlobals "named" = some (some (.ref f6))) (l6:K.lookup f6=some ⟨oc6,od6,.func (PySem.W.fnOf "named" "named" (xC (top 16)) (xB (top 16)) (xA (top 16)) .none kV6 dc6 pm6 an6 cd6 ct6),sl6⟩) (c6:PySem.W.codeIn K cd6 "named" = true) (k6:PySem.W.keepIn K (.ref f6)=true)
  (a7:PySem.W.nsIn K mainGlobals "standings_of_boxes" = some (some (.ref f7))) (l7:K.lookup f7=some ⟨oc7,od7,.func (PySem.W.fnOf "standings_of_boxes" "standings_of_boxes" (xC (top 17)) (xB (top 17)) (xA (top 17)) .none kV7 dc7 pm7 an7 cd7 ct7),sl7⟩) (c7:PySem.W.codeIn K cd7 "standings_of_boxes" = true) (k7:PySem.W.keepIn K (.ref f7)=true)
  (a8:PySem.W.nsIn K mainGlobals "behind_way" = some (some (.ref f8))) (l8:K.lookup f8=some ⟨oc8,od8,.func (PySem.W.fnOf "behind_way" "behind_way" (xC (top 18)) (xB (top 18)) (xA (top 18)) .none kV8 dc8 pm8 an8 cd8 ct8),sl8⟩) (c8:PySem.W.codeIn K cd8 "behind_way" = true) (k8:PySem.W.keepIn K (.ref f8)=true)
  (a9:PySem.W.nsIn K mainGlobals "copied_deed" = some (some (.ref f9))) (l9:K.lookup f9=some ⟨oc9,od9,.func (PySem.W.fnOf "copied_deed" "copied_deed" (xC (top 19)) (xB (top 19)) (xA (top 19)) .none kV9 dc9 pm9 an9 cd9 ct9),sl9⟩) (c9:PySem.W.codeIn K cd9 "copied_deed" = true) (k9:PySem.W.keepIn K (.ref f9)=true)
  (a10:PySem.W.nsIn K mainGlobals "is_whole" = some (some (.ref f10))) (l10:K.lookup f10=some ⟨oc10,od10,.func (PySem.W.fnOf "is_whole" "is_whole" (xC (top 20)) (xB (top 20)) (xA (top 20)) .none kV10 dc10 pm10 an10 cd10 ct10),sl10⟩) (c10:PySem.W.codeIn K cd10 "is_whole" = true) (k10:PySem.W.keepIn K (.ref f10)=true)
  (a11:PySem.W.nsIn K mainGlobals "refuse_boxes" = some (some (.ref f11))) (l11:K.lookup f11=some ⟨oc11,od11,.func (PySem.W.fnOf "refuse_boxes" "refuse_boxes" (xC (top 21)) (xB (top 21)) (xA (top 21)) .none kV11 dc11 pm11 an11 cd11 ct11),sl11⟩) (c11:PySem.W.codeIn K cd11 "refuse_boxes" = true) (k11:PySem.W.keepIn K (.ref f11)=true)
  (a12:PySem.W.nsIn K mainGlobals "refuse_twice" = some (some (.ref f12))) (l12:K.lookup f12=some ⟨oc12,od12,.func (PySem.W.fnOf "refuse_twice" "refuse_twice" (xC (top 22)) (xB (top 22)) (xA (top 22)) .none kV12 dc12 pm12 an12 cd12 ct12),sl12⟩) (c12:PySem.W.codeIn K cd12 "refuse_twice" = true) (k12:PySem.W.keepIn K (.ref f12)=true)
  (a13:PySem.W.nsIn K mainGlobals "refuse_price" = some (some (.ref f13))) (l13:K.lookup f13=some ⟨oc13,od13,.func (PySem.W.fnOf "refuse_price" "refuse_price" (xC (top 23)) (xB (top 23)) (xA (top 23)) .none kV13 dc13 pm13 an13 cd13 ct13),sl13⟩) (c13:PySem.W.codeIn K cd13 "refuse_price" = true) (k13:PySem.W.keepIn K (.ref f13)=true)
  (a14:PySem.W.nsIn K mainGlobals "refuse_ways" = some (some (.ref f14))) (l14:K.lookup f14=some ⟨oc14,od14,.func (PySem.W.fnOf "refuse_ways" "refuse_ways" (xC (top 24)) (xB (top 24)) (xA (top 24)) .none kV14 dc14 pm14 an14 cd14 ct14),sl14⟩) (c14:PySem.W.codeIn K cd14 "refuse_ways" = true) (k14:PySem.W.keepIn K (.ref f14)=true)
  (a15:PySem.W.nsIn K mainGlobals "refuse_strange_name" = some (some (.ref f15))) (l15:K.lookup f15=some ⟨oc15,od15,.func (PySem.W.fnOf "refuse_strange_name" "refuse_strange_name" (xC (top 25)) (xB (top 25)) (xA (top 25)) .none kV15 dc15 pm15 an15 cd15 ct15),sl15⟩) (c15:PySem.W.codeIn K cd15 "refuse_strange_name" = true) (k15:PySem.W.keepIn K (.ref f15)=true)
  (a16:PySem.W.nsIn K mainGlobals "refuse_strange_names" = some (some (.ref f16))) (l16:K.lookup f16=some ⟨oc16,od16,.func (PySem.W.fnOf "refuse_strange_names" "refuse_strange_names" (xC (top 26)) (xB (top 26)) (xA (top 26)) .none kV16 dc16 pm16 an16 cd16 ct16),sl16⟩) (c16:PySem.W.codeIn K cd16 "refuse_strange_names" = true) (k16:PySem.W.keepIn K (.ref f16)=true)
  (a17:PySem.W.nsIn K mainGlobals "refuse_begin" = some (some (.ref f17))) (l17:K.lookup f17=some ⟨oc17,od17,.func (PySem.W.fnOf "refuse_begin" "refuse_begin" (xC (top 27)) (xB (top 27)) (xA (top 27)) .none kV17 dc17 pm17 an17 cd17 ct17),sl17⟩) (c17:PySem.W.codeIn K cd17 "refuse_begin" = true) (k17:PySem.W.keepIn K (.ref f17)=true)
  (a18:PySem.W.nsIn K mainGlobals "may_do" = some (some (.ref f18))) (l18:K.lookup f18=some ⟨oc18,od18,.func (PySem.W.fnOf "may_do" "may_do" (xC (top 29)) (xB (top 29)) (xA (top 29)) .none kV18 dc18 pm18 an18 cd18 ct18),sl18⟩) (c18:PySem.W.codeIn K cd18 "may_do" = true) (k18:PySem.W.keepIn K (.ref f18)=true)
  (a19:PySem.W.nsIn K mainGlobals "behind" = some (some (.ref f19))) (l19:K.lookup f19=some ⟨oc19,od19,.func (PySem.W.fnOf "behind" "behind" (xC (top 30)) (xB (top 30)) (xA (top 30)) .none kV19 dc19 pm19 an19 cd19 ct19),sl19⟩) (c19:PySem.W.codeIn K cd19 "behind" = true) (k19:PySem.W.keepIn K (.ref f19)=true)
  (a20:PySem.W.nsIn K mainGlobals "holds_at_each" = some (some (.ref f20))) (l20:K.lookup f20=some ⟨oc20,od20,.func (PySem.W.fnOf "holds_at_each" "holds_at_each" (xC (top 31)) (xB (top 31)) (xA (top 31)) .none kV20 dc20 pm20 an20 cd20 ct20),sl20⟩) (c20:PySem.W.codeIn K cd20 "holds_at_each" = true) (k20:PySem.W.keepIn K (.ref f20)=true)
  (a21:PySem.W.nsIn K mainGlobals "_law_deck" = some (some (.ref f21))) (l21:K.lookup f21=some ⟨oc21,od21,.func (PySem.W.fnOf "_law_deck" "_law_deck" (xC (top 33)) (xB (top 33)) (xA (top 33)) .none kV21 dc21 pm21 an21 cd21 ct21),sl21⟩) (c21:PySem.W.codeIn K cd21 "_law_deck" = true) (k21:PySem.W.keepIn K (.ref f21)=true)
  (a22:PySem.W.nsIn K mainGlobals "_law_take" = some (some (.ref f22))) (l22:K.lookup f22=some ⟨oc22,od22,.func (PySem.W.fnOf "_law_take" "_law_take" (xC (top 34)) (xB (top 34)) (xA (top 34)) .none kV22 dc22 pm22 an22 cd22 ct22),sl22⟩) (c22:PySem.W.codeIn K cd22 "_law_take" = true) (k22:PySem.W.keepIn K (.ref f22)=true)
  (a23:PySem.W.nsIn K mainGlobals "_law_expression" = some (some (.ref f23))) (l23:K.lookup f23=some ⟨oc23,od23,.func (PySem.W.fnOf "_law_expression" "_law_expression" (xC (top 35)) (xB (top 35)) (xA (top 35)) .none kV23 dc23 pm23 an23 cd23 ct23),sl23⟩) (c23:PySem.W.codeIn K cd23 "_law_expression" = true) (k23:PySem.W.keepIn K (.ref f23)=true)
  (a24:PySem.W.nsIn K mainGlobals "_law_condition" = some (some (.ref f24))) (l24:K.lookup f24=some ⟨oc24,od24,.func (PySem.W.fnOf "_law_condition" "_law_condition" (xC (top 36)) (xB (top 36)) (xA (top 36)) .none kV24 dc24 pm24 an24 cd24 ct24),sl24⟩) (c24:PySem.W.codeIn K cd24 "_law_condition" = true) (k24:PySem.W.keepIn K (.ref f24)=true)
  (a25:PySem.W.nsIn K mainGlobals "_law_way" = some (some (.ref f25))) (l25:K.lookup f25=some ⟨oc25,od25,.func (PySem.W.fnOf "_law_way" "_law_way" (xC (top 37)) (xB (top 37)) (xA (top 37)) .none kV25 dc25 pm25 an25 cd25 ct25),sl25⟩) (c25:PySem.W.codeIn K cd25 "_law_way" = true) (k25:PySem.W.keepIn K (.ref f25)=true)
  (a26:PySem.W.nsIn K mainGlobals "_law_deeds" = some (some (.ref f26))) (l26:K.lookup f26=some ⟨oc26,od26,.func (PySem.W.fnOf "_law_deeds" "_law_deeds" (xC (top 38)) (xB (top 38)) (xA (top 38)) .none kV26 dc26 pm26 an26 cd26 ct26),sl26⟩) (c26:PySem.W.codeIn K cd26 "_law_deeds" = true) (k26:PySem.W.keepIn K (.ref f26)=true)
  (a27:PySem.W.nsIn K mainGlobals "_law_worth" = some (some (.ref f27))) (l27:K.lookup f27=some ⟨oc27,od27,.func (PySem.W.fnOf "_law_worth" "_law_worth" (xC (top 39)) (xB (top 39)) (xA (top 39)) .none kV27 dc27 pm27 an27 cd27 ct27),sl27⟩) (c27:PySem.W.codeIn K cd27 "_law_worth" = true) (k27:PySem.W.keepIn K (.ref f27)=true)
  (a28:PySem.W.nsIn K mainGlobals "_law_holds" = some (some (.ref f28))) (l28:K.lookup f28=some ⟨oc28,od28,.func (PySem.W.fnOf "_law_holds" "_law_holds" (xC (top 40)) (xB (top 40)) (xA (top 40)) .none kV28 dc28 pm28 an28 cd28 ct28),sl28⟩) (c28:PySem.W.codeIn K cd28 "_law_holds" = true) (k28:PySem.W.keepIn K (.ref f28)=true)
  (a29:PySem.W.nsIn K mainGlobals "_law_all" = some (some (.ref f29))) (l29:K.lookup f29=some ⟨oc29,od29,.func (PySem.W.fnOf "_law_all" "_law_all" (xC (top 41)) (xB (top 41)) (xA (top 41)) .none kV29 dc29 pm29 an29 cd29 ct29),sl29⟩) (c29:PySem.W.codeIn K cd29 "_law_all" = true) (k29:PySem.W.keepIn K (.ref f29)=true)
  (a30:PySem.W.nsIn K mainGlobals "_law_comes" = some (some (.ref f30))) (l30:K.lookup f30=some ⟨oc30,od30,.func (PySem.W.fnOf "_law_comes" "_law_comes" (xC (top 42)) (xB (top 42)) (xA (top 42)) .none kV30 dc30 pm30 an30 cd30 ct30),sl30⟩) (c30:PySem.W.codeIn K cd30 "_law_comes" = true) (k30:PySem.W.keepIn K (.ref f30)=true)
  (a31:PySem.W.nsIn K mainGlobals "_law_right" = some (some (.ref f31))) (l31:K.lookup f31=some ⟨oc31,od31,.func (PySem.W.fnOf "_law_right" "_law_right" (xC (top 43)) (xB (top 43)) (xA (top 43)) .none kV31 dc31 pm31 an31 cd31 ct31),sl31⟩) (c31:PySem.W.codeIn K cd31 "_law_right" = true) (k31:PySem.W.keepIn K (.ref f31)=true)
  (a32:PySem.W.nsIn K mainGlobals "law" = some (some (.ref f32))) (l32:K.lookup f32=some ⟨oc32,od32,.func (PySem.W.fnOf "law" "law" (xC (top 44)) (xB (top 44)) (xA (top 44)) .none kV32 dc32 pm32 an32 cd32 ct32),sl32⟩) (c32:PySem.W.codeIn K cd32 "law" = true) (k32:PySem.W.keepIn K (.ref f32)=true)
  {t_LEAST_SIZE:Tok} (g_LEAST_SIZE:PySem.W.nsIn K mainGlobals "LEAST_SIZE" = some (some (.int 2 t_LEAST_SIZE)))
  {t_GREATEST_SIZE:Tok} (g_GREATEST_SIZE:PySem.W.nsIn K mainGlobals "GREATEST_SIZE" = some (some (.int 5 t_GREATEST_SIZE)))
  {t_LEAST_PRICE:Tok} (g_LEAST_PRICE:PySem.W.nsIn K mainGlobals "LEAST_PRICE" = some (some (.int 1 t_LEAST_PRICE)))
  {p_WORDS_OF_CONDITIONS:Addr} {n_WORDS_OF_CONDITIONS:Nat} {o_WORDS_OF_CONDITIONS:Obj} {t_WORDS_OF_CONDITIONS0 t_WORDS_OF_CONDITIONS1 t_WORDS_OF_CONDITIONS2:Tok}
  (g_WORDS_OF_CONDITIONS:PySem.W.nsIn K mainGlobals "WORDS_OF_CONDITIONS" = some (some (.ref p_WORDS_OF_CONDITIONS))) (g2_WORDS_OF_CONDITIONS:K.lookup p_WORDS_OF_CONDITIONS=some o_WORDS_OF_CONDITIONS) (g3_WORDS_OF_CONDITIONS:o_WORDS_OF_CONDITIONS.cls=.type "tuple") (g4_WORDS_OF_CONDITIONS:o_WORDS_OF_CONDITIONS.data=.seq #[.str "not" t_WORDS_OF_CONDITIONS0,.str "and" t_WORDS_OF_CONDITIONS1,.str "yes" t_WORDS_OF_CONDITIONS2] n_WORDS_OF_CONDITIONS)
  (z_len:PySem.W.nsIn K mainGlobals "len" = some none)
  (z_range:PySem.W.nsIn K mainGlobals "range" = some none)
  (z_min:PySem.W.nsIn K mainGlobals "min" = some none)
  (z_isinstance:PySem.W.nsIn K mainGlobals "isinstance" = some none)
  (z_list:PySem.W.nsIn K mainGlobals "list" = some none)
  (z_reversed:PySem.W.nsIn K mainGlobals "reversed" = some none)
  (z_tuple:PySem.W.nsIn K mainGlobals "tuple" = some none)
  (z_int:PySem.W.nsIn K mainGlobals "int" = some none)
  (z_bool:PySem.W.nsIn K mainGlobals "bool" = some none)
  (z_dict:PySem.W.nsIn K mainGlobals "dict" = some none)
  (z_zip:PySem.W.nsIn K mainGlobals "zip" = some none)
  (z_set:PySem.W.nsIn K mainGlobals "set" = some none)
  (z_enumerate:PySem.W.nsIn K mainGlobals "enumerate" = some none)
  (z_abs:PySem.W.nsIn K mainGlobals "abs" = some none)
  (z_sorted:PySem.W.nsIn K mainGlobals "sorted" = some none):
  ∃fd:FuncData,(∀(s:Shared) (v:Value),BindsTo s fd ⟨[v],[]⟩ [("script",v)])∧∀base:Heap,K.In base→base.Ns mainGlobals mg→FnOk l.prog w K mg base CX0 60 fa fd ["script"] (spLaw K):=by
 have e:=hfa.symm.trans (PySem.W.mg_of X G a32)
 cases e
 have F0:=xI (st:=top 1) l0 c0 k0
 have b0:=F0.binds (ps:=["condition","boxes","standing"]) fun _ _ _ _ _ _=>len3 (fun _ _ _=>rfl)
 have E0:FunE K mg "holds" f0 _ ["condition","boxes","standing"]:=⟨PySem.W.mg_of X G a0,k0,b0⟩
 have FD_holds:Fd K mg "holds" (top 1) ["condition","boxes","standing"]:=⟨f0,_,F0,E0.mg,E0.kp,E0.bd⟩
 have F1:=xI (st:=top 2) l1 c1 k1
 have b1:=F1.binds (ps:=["thing"]) fun _ _ _ _ _ _=>len1 (fun _=>rfl)
 have E1:FunE K mg "names_in" f1 _ ["thing"]:=⟨PySem.W.mg_of X G a1,k1,b1⟩
 have FD_names_in:Fd K mg "names_in" (top 2) ["thing"]:=⟨f1,_,F1,E1.mg,E1.kp,E1.bd⟩
 have F2:=xI (st:=top 3) l2 c2 k2
 have b2:=F2.binds (ps:=["boxes","standing"]) fun _ _ _ _ _ _=>len2 (fun _ _=>rfl)
 have E2:FunE K mg "values_by_name" f2 _ ["boxes","standing"]:=⟨PySem.W.mg_of X G a2,k2,b2⟩
 have FD_values_by_name:Fd K mg "values_by_name" (top 3) ["boxes","standing"]:=⟨f2,_,F2,E2.mg,E2.kp,E2.bd⟩
 have F3:=xI (st:=top 4) l3 c3 k3
 have b3:=F3.binds (ps:=["expression","values"]) fun _ _ _ _ _ _=>len2 (fun _ _=>rfl)
 have E3:FunE K mg "worth_by" f3 _ ["expression","values"]:=⟨PySem.W.mg_of X G a3,k3,b3⟩
 have FD_worth_by:Fd K mg "worth_by" (top 4) ["expression","values"]:=⟨f3,_,F3,E3.mg,E3.kp,E3.bd⟩
 have F4:=xI (st:=top 5) l4 c4 k4
 have b4:=F4.binds (ps:=["condition","values"]) fun _ _ _ _ _ _=>len2 (fun _ _=>rfl)
 have E4:FunE K mg "holds_by" f4 _ ["condition","values"]:=⟨PySem.W.mg_of X G a4,k4,b4⟩
 have FD_holds_by:Fd K mg "holds_by" (top 5) ["condition","values"]:=⟨f4,_,F4,E4.mg,E4.kp,E4.bd⟩
 have F5:=xI (st:=top 15) l5 c5 k5
 have b5:=F5.binds (ps:=["boxes","deeds","looks","begin","goal"]) fun _ _ _ _ _ _=>len5 (fun _ _ _ _ _=>rfl)
 have E5:FunE K mg "world_of" f5 _ ["boxes","deeds","looks","begin","goal"]:=⟨PySem.W.mg_of X G a5,k5,b5⟩
 have FD_world_of:Fd K mg "world_of" (top 15) ["boxes","deeds","looks","begin","goal"]:=⟨f5,_,F5,E5.mg,E5.kp,E5.bd⟩
 have F6:=xI (st:=top 16) l6 c6 k6
 have b6:=F6.binds (ps:=["things","name","kind"]) fun _ _ _ _ _ _=>len3 (fun _ _ _=>rfl)
 have E6:FunE K mg "named" f6 _ ["things","name","kind"]:=⟨PySem.W.mg_of X G a6,k6,b6⟩
 have FD_named:Fd K mg "named" (top 16) ["things","name","kind"]:=⟨f6,_,F6,E6.mg,E6.kp,E6.bd⟩
 have F7:=xI (st:=top 17) l7 c7 k7
 have b7:=F7.binds (ps:=["boxes"]) fun _ _ _ _ _ _=>len1 (fun _=>rfl)
 have E7:FunE K mg "standings_of_boxes" f7 _ ["boxes"]:=⟨PySem.W.mg_of X G a7,k7,b7⟩
 have FD_standings_of_boxes:Fd K mg "standings_of_boxes" (top 17) ["boxes"]:=⟨f7,_,F7,E7.mg,E7.kp,E7.bd⟩
 have F8:=xI (st:=top 18) l8 c8 k8
 have b8:=F8.binds (ps:=["boxes","way","standing"]) fun _ _ _ _ _ _=>len3 (fun _ _ _=>rfl)
 have E8:FunE K mg "behind_way" f8 _ ["boxes","way","standing"]:=⟨PySem.W.mg_of X G a8,k8,b8⟩
 have FD_behind_way:Fd K mg "behind_way" (top 18) ["boxes","way","standing"]:=⟨f8,_,F8,E8.mg,E8.kp,E8.bd⟩
 have F9:=xI (st:=top 19) l9 c9 k9
 have b9:=F9.binds (ps:=["deed"]) fun _ _ _ _ _ _=>len1 (fun _=>rfl)
 have E9:FunE K mg "copied_deed" f9 _ ["deed"]:=⟨PySem.W.mg_of X G a9,k9,b9⟩
 have FD_copied_deed:Fd K mg "copied_deed" (top 19) ["deed"]:=⟨f9,_,F9,E9.mg,E9.kp,E9.bd⟩
 have F10:=xI (st:=top 20) l10 c10 k10
 have b10:=F10.binds (ps:=["thing"]) fun _ _ _ _ _ _=>len1 (fun _=>rfl)
 have E10:FunE K mg "is_whole" f10 _ ["thing"]:=⟨PySem.W.mg_of X G a10,k10,b10⟩
 have FD_is_whole:Fd K mg "is_whole" (top 20) ["thing"]:=⟨f10,_,F10,E10.mg,E10.kp,E10.bd⟩
 have F11:=xI (st:=top 21) l11 c11 k11
 have b11:=F11.binds (ps:=["boxes"]) fun _ _ _ _ _ _=>len1 (fun _=>rfl)
 have E11:FunE K mg "refuse_boxes" f11 _ ["boxes"]:=⟨PySem.W.mg_of X G a11,k11,b11⟩
 have FD_refuse_boxes:Fd K mg "refuse_boxes" (top 21) ["boxes"]:=⟨f11,_,F11,E11.mg,E11.kp,E11.bd⟩
 have F12:=xI (st:=top 22) l12 c12 k12
 have b12:=F12.binds (ps:=["names","kind"]) fun _ _ _ _ _ _=>len2 (fun _ _=>rfl)
 have E12:FunE K mg "refuse_twice" f12 _ ["names","kind"]:=⟨PySem.W.mg_of X G a12,k12,b12⟩
 have FD_refuse_twice:Fd K mg "refuse_twice" (top 22) ["names","kind"]:=⟨f12,_,F12,E12.mg,E12.kp,E12.bd⟩
 have F13:=xI (st:=top 23) l13 c13 k13
 have b13:=F13.binds (ps:=["name","price"]) fun _ _ _ _ _ _=>len2 (fun _ _=>rfl)
 have E13:FunE K mg "refuse_price" f13 _ ["name","price"]:=⟨PySem.W.mg_of X G a13,k13,b13⟩
 have FD_refuse_price:Fd K mg "refuse_price" (top 23) ["name","price"]:=⟨f13,_,F13,E13.mg,E13.kp,E13.bd⟩
 have F14:=xI (st:=top 24) l14 c14 k14
 have b14:=F14.binds (ps:=["deed_name","ways","names"]) fun _ _ _ _ _ _=>len3 (fun _ _ _=>rfl)
 have E14:FunE K mg "refuse_ways" f14 _ ["deed_name","ways","names"]:=⟨PySem.W.mg_of X G a14,k14,b14⟩
 have FD_refuse_ways:Fd K mg "refuse_ways" (top 24) ["deed_name","ways","names"]:=⟨f14,_,F14,E14.mg,E14.kp,E14.bd⟩
 have F15:=xI (st:=top 25) l15 c15 k15
 have b15:=F15.binds (ps:=["name","names"]) fun _ _ _ _ _ _=>len2 (fun _ _=>rfl)
 have E15:FunE K mg "refuse_strange_name" f15 _ ["name","names"]:=⟨PySem.W.mg_of X G a15,k15,b15⟩
 have FD_refuse_strange_name:Fd K mg "refuse_strange_name" (top 25) ["name","names"]:=⟨f15,_,F15,E15.mg,E15.kp,E15.bd⟩
 have F16:=xI (st:=top 26) l16 c16 k16
 have b16:=F16.binds (ps:=["thing","names"]) fun _ _ _ _ _ _=>len2 (fun _ _=>rfl)
 have E16:FunE K mg "refuse_strange_names" f16 _ ["thing","names"]:=⟨PySem.W.mg_of X G a16,k16,b16⟩
 have FD_refuse_strange_names:Fd K mg "refuse_strange_names" (top 26) ["thing","names"]:=⟨f16,_,F16,E16.mg,E16.kp,E16.bd⟩
 have F17:=xI (st:=top 27) l17 c17 k17
 have b17:=F17.binds (ps:=["begin","boxes"]) fun _ _ _ _ _ _=>len2 (fun _ _=>rfl)
 have E17:FunE K mg "refuse_begin" f17 _ ["begin","boxes"]:=⟨PySem.W.mg_of X G a17,k17,b17⟩
 have FD_refuse_begin:Fd K mg "refuse_begin" (top 27) ["begin","boxes"]:=⟨f17,_,F17,E17.mg,E17.kp,E17.bd⟩
 have F18:=xI (st:=top 29) l18 c18 k18
 have b18:=F18.binds (ps:=["world","known","name"]) fun _ _ _ _ _ _=>len3 (fun _ _ _=>rfl)
 have E18:FunE K mg "may_do" f18 _ ["world","known","name"]:=⟨PySem.W.mg_of X G a18,k18,b18⟩
 have FD_may_do:Fd K mg "may_do" (top 29) ["world","known","name"]:=⟨f18,_,F18,E18.mg,E18.kp,E18.bd⟩
 have F19:=xI (st:=top 30) l19 c19 k19
 have b19:=F19.binds (ps:=["world","known","name"]) fun _ _ _ _ _ _=>len3 (fun _ _ _=>rfl)
 have E19:FunE K mg "behind" f19 _ ["world","known","name"]:=⟨PySem.W.mg_of X G a19,k19,b19⟩
 have FD_behind:Fd K mg "behind" (top 30) ["world","known","name"]:=⟨f19,_,F19,E19.mg,E19.kp,E19.bd⟩
 have F20:=xI (st:=top 31) l20 c20 k20
 have b20:=F20.binds (ps:=["condition","boxes","known"]) fun _ _ _ _ _ _=>len3 (fun _ _ _=>rfl)
 have E20:FunE K mg "holds_at_each" f20 _ ["condition","boxes","known"]:=⟨PySem.W.mg_of X G a20,k20,b20⟩
 have FD_holds_at_each:Fd K mg "holds_at_each" (top 31) ["condition","boxes","known"]:=⟨f20,_,F20,E20.mg,E20.kp,E20.bd⟩
 have F21:=xI (st:=top 33) l21 c21 k21
 have b21:=F21.binds (ps:=["script"]) fun _ _ _ _ _ _=>len1 (fun _=>rfl)
 have E21:FunE K mg "_law_deck" f21 _ ["script"]:=⟨PySem.W.mg_of X G a21,k21,b21⟩
 have FD_law_deck:Fd K mg "_law_deck" (top 33) ["script"]:=⟨f21,_,F21,E21.mg,E21.kp,E21.bd⟩
 have F22:=xI (st:=top 34) l22 c22 k22
 have b22:=F22.binds (ps:=["deck","many"]) fun _ _ _ _ _ _=>len2 (fun _ _=>rfl)
 have E22:FunE K mg "_law_take" f22 _ ["deck","many"]:=⟨PySem.W.mg_of X G a22,k22,b22⟩
 have FD_law_take:Fd K mg "_law_take" (top 34) ["deck","many"]:=⟨f22,_,F22,E22.mg,E22.kp,E22.bd⟩
 have F23:=xI (st:=top 35) l23 c23 k23
 have b23:=F23.binds (ps:=["deck","boxes","deep"]) fun _ _ _ _ _ _=>len3 (fun _ _ _=>rfl)
 have E23:FunE K mg "_law_expression" f23 _ ["deck","boxes","deep"]:=⟨PySem.W.mg_of X G a23,k23,b23⟩
 have FD_law_expression:Fd K mg "_law_expression" (top 35) ["deck","boxes","deep"]:=⟨f23,_,F23,E23.mg,E23.kp,E23.bd⟩
 have F24:=xI (st:=top 36) l24 c24 k24
 have b24:=F24.binds (ps:=["deck","boxes","deep"]) fun _ _ _ _ _ _=>len3 (fun _ _ _=>rfl)
 have E24:FunE K mg "_law_condition" f24 _ ["deck","boxes","deep"]:=⟨PySem.W.mg_of X G a24,k24,b24⟩
 have FD_law_condition:Fd K mg "_law_condition" (top 36) ["deck","boxes","deep"]:=⟨f24,_,F24,E24.mg,E24.kp,E24.bd⟩
 have F25:=xI (st:=top 37) l25 c25 k25
 have b25:=F25.binds (ps:=["deck","boxes"]) fun _ _ _ _ _ _=>len2 (fun _ _=>rfl)
 have E25:FunE K mg "_law_way" f25 _ ["deck","boxes"]:=⟨PySem.W.mg_of X G a25,k25,b25⟩
 have FD_law_way:Fd K mg "_law_way" (top 37) ["deck","boxes"]:=⟨f25,_,F25,E25.mg,E25.kp,E25.bd⟩
 have F26:=xI (st:=top 38) l26 c26 k26
 have b26:=F26.binds (ps:=["deck","boxes"]) fun _ _ _ _ _ _=>len2 (fun _ _=>rfl)
 have E26:FunE K mg "_law_deeds" f26 _ ["deck","boxes"]:=⟨PySem.W.mg_of X G a26,k26,b26⟩
 have FD_law_deeds:Fd K mg "_law_deeds" (top 38) ["deck","boxes"]:=⟨f26,_,F26,E26.mg,E26.kp,E26.bd⟩
 have F27:=xI (st:=top 39) l27 c27 k27
 have b27:=F27.binds (ps:=["thing","values"]) fun _ _ _ _ _ _=>len2 (fun _ _=>rfl)
 have E27:FunE K mg "_law_worth" f27 _ ["thing","values"]:=⟨PySem.W.mg_of X G a27,k27,b27⟩
 have FD_law_worth:Fd K mg "_law_worth" (top 39) ["thing","values"]:=⟨f27,_,F27,E27.mg,E27.kp,E27.bd⟩
 have F28:=xI (st:=top 40) l28 c28 k28
 have b28:=F28.binds (ps:=["thing","values"]) fun _ _ _ _ _ _=>len2 (fun _ _=>rfl)
 have E28:FunE K mg "_law_holds" f28 _ ["thing","values"]:=⟨PySem.W.mg_of X G a28,k28,b28⟩
 have FD_law_holds:Fd K mg "_law_holds" (top 40) ["thing","values"]:=⟨f28,_,F28,E28.mg,E28.kp,E28.bd⟩
 have F29:=xI (st:=top 41) l29 c29 k29
 have b29:=F29.binds (ps:=["boxes"]) fun _ _ _ _ _ _=>len1 (fun _=>rfl)
 have E29:FunE K mg "_law_all" f29 _ ["boxes"]:=⟨PySem.W.mg_of X G a29,k29,b29⟩
 have FD_law_all:Fd K mg "_law_all" (top 41) ["boxes"]:=⟨f29,_,F29,E29.mg,E29.kp,E29.bd⟩
 have F30:=xI (st:=top 42) l30 c30 k30
 have b30:=F30.binds (ps:=["boxes","deed","values"]) fun _ _ _ _ _ _=>len3 (fun _ _ _=>rfl)
 have E30:FunE K mg "_law_comes" f30 _ ["boxes","deed","values"]:=⟨PySem.W.mg_of X G a30,k30,b30⟩
 have FD_law_comes:Fd K mg "_law_comes" (top 42) ["boxes","deed","values"]:=⟨f30,_,F30,E30.mg,E30.kp,E30.bd⟩
 have F31:=xI (st:=top 43) l31 c31 k31
 have b31:=F31.binds (ps:=["world","boxes","deed","some"]) fun _ _ _ _ _ _=>len4 (fun _ _ _ _=>rfl)
 have E31:FunE K mg "_law_right" f31 _ ["world","boxes","deed","some"]:=⟨PySem.W.mg_of X G a31,k31,b31⟩
 have FD_law_right:Fd K mg "_law_right" (top 43) ["world","boxes","deed","some"]:=⟨f31,_,F31,E31.mg,E31.kp,E31.bd⟩
 have F32:=xI (st:=top 44) l32 c32 k32
 have GL_LEAST_SIZE:Gi mg "LEAST_SIZE" 2:=⟨_,PySem.W.mg_of X G g_LEAST_SIZE⟩
 have GL_GREATEST_SIZE:Gi mg "GREATEST_SIZE" 5:=⟨_,PySem.W.mg_of X G g_GREATEST_SIZE⟩
 have GL_LEAST_PRICE:Gi mg "LEAST_PRICE" 1:=⟨_,PySem.W.mg_of X G g_LEAST_PRICE⟩
 have GL_WORDS_OF_CONDITIONS:Gs K mg "WORDS_OF_CONDITIONS" ["not","and","yes"]:=⟨_,PySem.W.mg_of X G g_WORDS_OF_CONDITIONS,fun H=>.inr ⟨_,_,_,g2_WORDS_OF_CONDITIONS,g3_WORDS_OF_CONDITIONS,g4_WORDS_OF_CONDITIONS,(by show 3≤sizeLine;decide),.cons ⟨_,rfl⟩ (.cons ⟨_,rfl⟩ (.cons ⟨_,rfl⟩ (.nil)))⟩⟩
 have B:Bl mg:=⟨PySem.W.mg_none_of X G z_len,PySem.W.mg_none_of X G z_range,PySem.W.mg_none_of X G z_min,PySem.W.mg_none_of X G z_isinstance,PySem.W.mg_none_of X G z_list,PySem.W.mg_none_of X G z_reversed,PySem.W.mg_none_of X G z_tuple,PySem.W.mg_none_of X G z_int,PySem.W.mg_none_of X G z_bool,PySem.W.mg_none_of X G z_dict,PySem.W.mg_none_of X G z_zip⟩
 have B_set:mg "set" = none:=PySem.W.mg_none_of X G z_set
 have B_enumerate:mg "enumerate" = none:=PySem.W.mg_none_of X G z_enumerate
 have B_abs:mg "abs" = none:=PySem.W.mg_none_of X G z_abs
 have B_sorted:mg "sorted" = none:=PySem.W.mg_none_of X G z_sorted
 refine⟨PySem.W.fnOf "law" "law" (xC (top 44)) (xB (top 44)) (xA (top 44)) .none kV32 dc32 pm32 an32 cd32 ct32,fun s v=>.of_eq rfl,fun base YK _=>?_⟩
 have D_values:=Dn.mk (x := "values_by_name") ⟨_,_,qGo (P:=l.prog) (w:=w) (base:=base) F2 B,E2.mg,E2.kp,E2.bd⟩
 have GW:=qQg (P:=l.prog) (w:=w) (base:=base) F3 E3 12
 have D_wb:=Dn.mk (x := "worth_by") ⟨_,_,GW,E3.mg,E3.kp,E3.bd⟩
 have D_names:=Dn.mk (x := "names_in") ⟨_,_,qCz (P:=l.prog) (w:=w) (base:=base) F1 E1 12,E1.mg,E1.kp,E1.bd⟩
 have D_holds:=qPw FD_holds (qXk FD_holds_by D_wb 12) D_values
 have D_sob:=xZm (P:=l.prog) (w:=w) (base:=base) FD_standings_of_boxes B
 have D_whole:=qPx (P:=l.prog) (w:=w) (base:=base) FD_is_whole B
 have D_price:=qPk FD_refuse_price D_whole GL_LEAST_PRICE
 have D_strange1:=qAx (P:=l.prog) (w:=w) (base:=base) FD_refuse_strange_name
 have D_strange:=qEv FD_refuse_strange_names D_strange1 D_names
 have D_twice:=qPz (P:=l.prog) (w:=w) (base:=base) FD_refuse_twice B B_set
 have D_rboxes:=qIa FD_refuse_boxes B D_twice D_whole GL_LEAST_SIZE GL_GREATEST_SIZE GL_WORDS_OF_CONDITIONS
 have D_ways:=qUk FD_refuse_ways B D_twice D_strange1 D_strange
 have D_begin:=qPd FD_refuse_begin D_sob D_holds
 have D_copied:=qIc (P:=l.prog) (w:=w) (base:=base) FD_copied_deed B
 have D_world:=qAq FD_world_of B D_rboxes D_twice D_price D_strange D_ways D_begin D_copied
 have D_take:=qUv (P:=l.prog) (w:=w) (base:=base) FD_law_take
 have D_named:=qPv (P:=l.prog) (w:=w) (base:=base) FD_named
 have D_behind:=qIe FD_behind_way B D_values D_wb
 have D_may:=xZn FD_may_do D_named (qUa FD_holds_at_each D_holds)
 have D_bk:=qEw FD_behind B B_set B_sorted D_named D_behind
 have D_lw:=xJq (P:=l.prog) (w:=w) (base:=base) FD_law_worth B 12
 have D_lh:=xJz FD_law_holds B D_lw 12
 have D_way:=xZl FD_law_way B D_take (qAz FD_law_expression B D_take 3)
 have D_cond:=qId FD_law_condition B (qAz FD_law_expression B D_take 2) D_take 3
 have D_deeds:=qPb FD_law_deeds B D_take D_way D_cond
 have D_right:=qPj FD_law_right B B_sorted D_may D_bk D_lh (qIb FD_law_comes B D_lw)
 exact xXl F32 B (qUb (P:=l.prog) (w:=w) (base:=base) FD_law_deck B B_enumerate B_abs) D_take D_deeds D_world (qUw (P:=l.prog) (w:=w) (base:=base) FD_law_all B) D_lh D_right
theorem walk {l:PySem.W.OpenLaw}{q:Program}{loose:List Str}{XP:(Str→Option Value)→Heap→Prop}{YP:World→Heap→Prop}{d:DefRec}{K:Params→yZO}(hn:l.most=some 63)(hdf:d.params.defaults=[])
  (hY:∀(w:World) (h:Heap),YP w h→(K w.params).In h)
  (F:∀(w:World) (mg:Str→Option Value) (fa:Addr) (h:Heap),(K w.params).In h→h.Ns mainGlobals mg→mg d.name=some (.ref fa)→
   ∃fd:FuncData,(∀(s:Shared) (u:Value),BindsTo s fd ⟨[u],[]⟩ [("script",u)])∧∀base:Heap,(K w.params).In base→base.Ns mainGlobals mg→FnOk l.prog w (K w.params) mg base CX0 60 fa fd ["script"] (spLaw (K w.params))):
  PySem.W.WalkO q loose XP YP l.row.toRowW d [] (fun f vs=>PySem.call f vs):=
 L2.qSa (n:=63) (k:=60) (x := "script") (CX:=fun _=>CX0) (sp:=fun w=>spLaw (K w.params)) hn (by decide) hdf ⟨rfl,by decide,by decide⟩ hY F (fun _ _ a ns hl _ hS=>⟨a,ns,rfl,hS,hl,fun _=>rfl⟩) fun _ _ _ _ _ z=>z
end FP
open PySem PySem.W PyProof.Rows
set_option maxRecDepth 100000 in
set_option maxHeartbeats 0 in
theorem PySem.Challenge.cw_forkplan_k16_behind_deeds_holds : PySem.Challenge.rw_forkplan_k16_behind_deeds.Holds := by
 w_on
 refine PySem.W.holds_law (by decide +kernel) fun said=>?_
 refine PySem.W.holds_open (q:=FP.wR) (loose:=[]) (N:=4084) (YP:=InK FP.qVi) (XP:=XL FP.wR [])
  (Xt:=fun s=>xlAt FP.wR [] s && recOk (RowW.records (OpenRow.toRowW (PySem.W.OpenLaw.row PySem.Challenge.rw_forkplan_k16_behind_deeds))) s)
  (Yf:=Hook.obs FP.vP) (Ya:=Hook.val FP.vP) FP.qSd
  (Hook.of FP.vP) (Hook.keeps FP.vP) (fun s e=>xl_of s (Bool.and_eq_true_iff.mp e).1)
  XL.keeps (by rfl) (by rfl) (by rfl) (fun s e=>recFacts_of (Bool.and_eq_true_iff.mp e).2)
  (by rfl) (by first | assumption | decide +kernel) (by decide +kernel)
  ⟨rfl,rfl,rfl,rfl,rfl,by decide +kernel⟩ ?hw ?hc
 case hw=>w_witness2
 k_fill
 refine FP.walk (l:=PySem.Challenge.rw_forkplan_k16_behind_deeds) (K:=FP.qVi) rfl rfl (fun w h Y=>Y) ?F
 case F=>
  intro w mg fa h KX G hmg
  refine' FP.xJc KX G hmg ?a0 ?l0 ?c0 ?k0 ?a1 ?l1 ?c1 ?k1 ?a2 ?l2 ?c2 ?k2 ?a3 ?l3 ?c3 ?k3 ?a4 ?l4 ?c4 ?k4 ?a5 ?l5 ?c5 ?k5 ?a6 ?l6 ?c6 ?k6 ?a7 ?l7 ?c7 ?k7 ?a8 ?l8 ?c8 ?k8 ?a9 ?l9 ?c9 ?k9 ?a10 ?l10 ?c10 ?k10 ?a11 ?l11 ?c11 ?k11 ?a12 ?l12 ?c12 ?k12 ?a13 ?l13 ?c13 ?k13 ?a14 ?l14 ?c14 ?k14 ?a15 ?l15 ?c15 ?k15 ?a16 ?l16 ?c16 ?k16 ?a17 ?l17 ?c17 ?k17 ?a18 ?l18 ?c18 ?k18 ?a19 ?l19 ?c19 ?k19 ?a20 ?l20 ?c20 ?k20 ?a21 ?l21 ?c21 ?k21 ?a22 ?l22 ?c22 ?k22 ?a23 ?l23 ?c23 ?k23 ?a24 ?l24 ?c24 ?k24 ?a25 ?l25 ?c25 ?k25 ?a26 ?l26 ?c26 ?k26 ?a27 ?l27 ?c27 ?k27 ?a28 ?l28 ?c28 ?k28 ?a29 ?l29 ?c29 ?k29 ?a30 ?l30 ?c30 ?k30 ?a31 ?l31 ?c31 ?k31 ?a32 ?l32 ?c32 ?k32 ?g_LEAST_SIZE ?g_GREATEST_SIZE ?g_LEAST_PRICE ?g_WORDS_OF_CONDITIONS ?g2_WORDS_OF_CONDITIONS ?g3_WORDS_OF_CONDITIONS ?g4_WORDS_OF_CONDITIONS ?z_len ?z_range ?z_min ?z_isinstance ?z_list ?z_reversed ?z_tuple ?z_int ?z_bool ?z_dict ?z_zip ?z_set ?z_enumerate ?z_abs ?z_sorted
  (case a0=>k_is);(case l0=>k_is);(case c0=>k_is);(case k0=>k_is)
  (case a1=>k_is);(case l1=>k_is);(case c1=>k_is);(case k1=>k_is)
  (case a2=>k_is);(case l2=>k_is);(case c2=>k_is);(case k2=>k_is)
  (case a3=>k_is);(case l3=>k_is);(case c3=>k_is);(case k3=>k_is)
  (case a4=>k_is);(case l4=>k_is);(case c4=>k_is);(case k4=>k_is)
  (case a5=>k_is);(case l5=>k_is);(case c5=>k_is);(case k5=>k_is)
  (case a6=>k_is);(case l6=>k_is);(case c6=>k_is);(case k6=>k_is)
  (case a7=>k_is);(case l7=>k_is);(case c7=>k_is);(case k7=>k_is)
  (case a8=>k_is);(case l8=>k_is);(case c8=>k_is);(case k8=>k_is)
  (case a9=>k_is);(case l9=>k_is);(case c9=>k_is);(case k9=>k_is)
  (case a10=>k_is);(case l10=>k_is);(case c10=>k_is);(case k10=>k_is)
  (case a11=>k_is);(case l11=>k_is);(case c11=>k_is);(case k11=>k_is)
  (case a12=>k_is);(case l12=>k_is);(case c12=>k_is);(case k12=>k_is)
  (case a13=>k_is);(case l13=>k_is);(case c13=>k_is);(case k13=>k_is)
  (case a14=>k_is);(case l14=>k_is);(case c14=>k_is);(case k14=>k_is)
  (case a15=>k_is);(case l15=>k_is);(case c15=>k_is);(case k15=>k_is)
  (case a16=>k_is);(case l16=>k_is);(case c16=>k_is);(case k16=>k_is)
  (case a17=>k_is);(case l17=>k_is);(case c17=>k_is);(case k17=>k_is)
  (case a18=>k_is);(case l18=>k_is);(case c18=>k_is);(case k18=>k_is)
  (case a19=>k_is);(case l19=>k_is);(case c19=>k_is);(case k19=>k_is)
  (case a20=>k_is);(case l20=>k_is);(case c20=>k_is);(case k20=>k_is)
  (case a21=>k_is);(case l21=>k_is);(case c21=>k_is);(case k21=>k_is)
  (case a22=>k_is);(case l22=>k_is);(case c22=>k_is);(case k22=>k_is)
  (case a23=>k_is);(case l23=>k_is);(case c23=>k_is);(case k23=>k_is)
  (case a24=>k_is);(case l24=>k_is);(case c24=>k_is);(case k24=>k_is)
  (case a25=>k_is);(case l25=>k_is);(case c25=>k_is);(case k25=>k_is)
  (case a26=>k_is);(case l26=>k_is);(case c26=>k_is);(case k26=>k_is)
  (case a27=>k_is);(case l27=>k_is);(case c27=>k_is);(case k27=>k_is)
  (case a28=>k_is);(case l28=>k_is);(case c28=>k_is);(case k28=>k_is)
  (case a29=>k_is);(case l29=>k_is);(case c29=>k_is);(case k29=>k_is)
  (case a30=>k_is);(case l30=>k_is);(case c30=>k_is);(case k30=>k_is)
  (case a31=>k_is);(case l31=>k_is);(case c31=>k_is);(case k31=>k_is)
  (case a32=>k_is);(case l32=>k_is);(case c32=>k_is);(case k32=>k_is)
  (case g_LEAST_SIZE=>first | k_is | rfl | decide)
  (case g_GREATEST_SIZE=>first | k_is | rfl | decide)
  (case g_LEAST_PRICE=>first | k_is | rfl | decide)
  (case g_WORDS_OF_CONDITIONS=>first | k_is | rfl | decide)
  (case g2_WORDS_OF_CONDITIONS=>first | k_is | rfl | decide)
  (case g3_WORDS_OF_CONDITIONS=>first | k_is | rfl | decide)
  (case g4_WORDS_OF_CONDITIONS=>first | k_is | rfl | decide)
  (case z_len=>k_is);(case z_range=>k_is);(case z_min=>k_is);(case z_isinstance=>k_is);(case z_list=>k_is);(case z_reversed=>k_is);(case z_tuple=>k_is);(case z_int=>k_is);(case z_bool=>k_is);(case z_dict=>k_is);(case z_zip=>k_is);(case z_set=>k_is);(case z_enumerate=>k_is);(case z_abs=>k_is);(case z_sorted=>k_is)
