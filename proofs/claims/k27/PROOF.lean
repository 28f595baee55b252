import PyProof.Rows.All
import Wide.All
import OpenK.AllK
import Wide.FinOn
import Lean
import PyProof.EqAt
import PyProof.EqKinds
import PyProof.TupleCall
import PyProof.NeKinds
import PyProof.ConsumeWalk
import PyProof.FitsBits
import PyProof.Rows.Range3
import PyProof.Rows.TupAdd
import PyProof.ListRange
import PyProof.Rows.CallKwBuiltin
import KE.KSortAsk
import KE.KSortTup
import PyProof.Rows.RuleN_abs
import PyProof.DictWalks
import KE.KDictList
import KE.KRevIter
import PySem.Challenge.RW_waithouse_k27_names_of_gaps
set_option Elab.async false
set_option linter.all false
set_option maxRecDepth 100000
namespace Hd
open PySem PySem.Spec PyProof.Rows PySem.W
def top (i : Nat) : Stmt := PySem.Challenge.pw_waithouse_k27_names_of_gaps.main.body.getD i (.Pass ⟨0, 0, 0, 0⟩)
def inClass (s : Stmt) (j : Nat) : Stmt := match s with
  | .ClassDef _ _ _ bd _ _ _ _ _ _ _ => bd.getD j (.Pass ⟨0, 0, 0, 0⟩)
  | _ => .Pass ⟨0, 0, 0, 0⟩
def defArgs (s : Stmt) : Arguments := match s with
  | .FunctionDef _ as _ _ _ _ _ _ _ _ => as
  | _ => { posonlyargs := [], args := [], vararg := none, kwonlyargs := [], kw_defaults := [], kwarg := none, defaults := [] }
def defBody (s : Stmt) : List Stmt := match s with
  | .FunctionDef _ _ bd _ _ _ _ _ _ _ => bd
  | _ => []
def defScope (s : Stmt) : Scope := match s with
  | .FunctionDef _ _ _ _ _ _ scp _ _ _ => scp
  | _ => { kind := .function, names := [], isGenerator := false, isCoroutine := false }
abbrev kE (P : PySem.Params) (x : Str) (t : Nat) (v : Value) : PySem.DictEntry := PySem.DictEntry.mk (PySem.PyData.keyHash P x) (PySem.Value.str x t) v
abbrev kS (x : Str) (t : Nat) : Value := PySem.Value.str x t
abbrev kR (a : Nat) : Value := PySem.Value.ref a
abbrev kN (x : String) : Str := PySem.Str.ofString x
/-- the objects that stand behind the program's top -/
def KF : PySem.Params → PySem.W.Frag := fun P => (nat_lit 2, PySem.Obj.mk PySem.Value.none Option.none (PySem.Data.dict #[]) #[]) ::
  (nat_lit 3, PySem.Obj.mk (PySem.Value.type "dict") Option.none (PySem.Data.dict #[kE P "__name__" 165 (kS "law_waithouse_k27_names_of_gaps" 581), kE P "__doc__" 166 PySem.Value.none, kE P "__package__" 167 PySem.Value.none, kE P "__loader__" 168 (PySem.Value.builtin "__main__.__loader__#opaque"), kE P "__spec__" 169 PySem.Value.none, kE P "__annotations__" 170 (kR 6), kE P "__builtins__" 171 (kR 4), kE P "__file__" 173 (kS "/claim/cut.py" 172), kE P "__cached__" 174 PySem.Value.none, kE P "WaitError" 206 (kR 24), kE P "NoLink" 222 (kR 37), kE P "NoRoom" 238 (kR 49), kE P "NoTime" 254 (kR 61), kE P "NoName" 270 (kR 73), kE P "NoKeep" 295 (kR 92), kE P "NoRow" 311 (kR 104), kE P "bounds_of" 325 (kR 113), kE P "wide" 333 (kR 118), kE P "wide_row" 339 (kR 123), kE P "table_of" 349 (kR 130), kE P "held" 355 (kR 135), kE P "shuts" 364 (kR 142), kE P "held_row" 370 (kR 147), kE P "total" 378 (kR 154), kE P "lesser" 386 (kR 161), kE P "ring" 396 (kR 168), kE P "ring_rings" 397 (kR 168), kE P "chain" 408 (kR 175), kE P "chain_rings" 409 (kR 175), kE P "search" 415 (kR 180), kE P "first_ways" 421 (kR 185), kE P "narrowed" 427 (kR 190), kE P "led" 433 (kR 195), kE P "by_way" 444 (kR 202), kE P "House" 551 (kR 283), kE P "all_bounds" 560 (kR 294), kE P "all_bound_names" 566 (kR 299), kE P "ends_of" 574 (kR 306), kE P "names_at" 580 (kR 311), kE P "_law_cell" 592 (kR 318), kE P "_law_whole" 599 (kR 325), kE P "_law_spread" 607 (kR 332), kE P "_law_big" 614 (kR 339), kE P "_law_names" 620 (kR 344), kE P "_law_gap" 630 (kR 351), kE P "_law_added" 643 (kR 358), kE P "_law_deed" 653 (kR 365), kE P "_law_refused" 664 (kR 372), kE P "_law_right" 676 (kR 379), kE P "law" 682 (kR 384)] 50) #[]) ::
  (nat_lit 15, PySem.Obj.mk (PySem.Value.type "tuple") Option.none (PySem.Data.seq #[PySem.Value.type "ValueError"]) #[]) ::
  (nat_lit 22, PySem.Obj.mk (PySem.Value.type "tuple") Option.none (PySem.Data.seq #[]) #[]) ::
  (nat_lit 23, PySem.Obj.mk (PySem.Value.type "dict") Option.none (PySem.Data.dict #[kE P "__module__" 196 (kS "waithouse.errors" 187), kE P "__firstlineno__" 200 (PySem.Value.int 2 199), kE P "__static_attributes__" 201 (kR 22), kE P "__weakref__" 203 (kR 25), kE P "__doc__" 204 PySem.Value.none] 3) #[]) ::
  (nat_lit 24, PySem.Obj.mk (PySem.Value.type "type") Option.none (PySem.Data.cls (PySem.ClassData.mk (kN "WaitError") [PySem.Value.type "ValueError"] [kR 24, PySem.Value.type "ValueError", PySem.Value.type "Exception", PySem.Value.type "BaseException", PySem.Value.type "object"] 23 (kN "WaitError") Bool.true [] [kR 37, kR 49, kR 61, kR 73, kR 92, kR 104] Bool.false Option.none Bool.false)) #[Option.some (kR 15), Option.none, Option.some (kS "WaitError" 189), Option.some (kS "WaitError" 197), Option.some (PySem.Value.builtin "ValueError.__new__"), Option.some (PySem.Value.bool Bool.true)]) ::
  (nat_lit 25, PySem.Obj.mk (PySem.Value.type "getset_descriptor") Option.none (PySem.Data.fields #[kS "__weakref__" 202, kR 24, PySem.Value.builtin "ExceptionGroup.__weakref__", PySem.Value.none]) #[]) ::
  (nat_lit 28, PySem.Obj.mk (PySem.Value.type "tuple") Option.none (PySem.Data.seq #[kR 24]) #[]) ::
  (nat_lit 35, PySem.Obj.mk (PySem.Value.type "tuple") Option.none (PySem.Data.seq #[]) #[]) ::
  (nat_lit 36, PySem.Obj.mk (PySem.Value.type "dict") Option.none (PySem.Data.dict #[kE P "__module__" 214 (kS "waithouse.errors" 187), kE P "__firstlineno__" 218 (PySem.Value.int 4 217), kE P "__static_attributes__" 219 (kR 35), kE P "__doc__" 220 PySem.Value.none] 2) #[]) ::
  (nat_lit 37, PySem.Obj.mk (PySem.Value.type "type") Option.none (PySem.Data.cls (PySem.ClassData.mk (kN "NoLink") [kR 24] [kR 37, kR 24, PySem.Value.type "ValueError", PySem.Value.type "Exception", PySem.Value.type "BaseException", PySem.Value.type "object"] 36 (kN "NoLink") Bool.true [] [] Bool.false Option.none Bool.false)) #[Option.some (kR 28), Option.none, Option.some (kS "NoLink" 207), Option.some (kS "NoLink" 215), Option.some (PySem.Value.builtin "ValueError.__new__"), Option.some (PySem.Value.bool Bool.true)]) ::
  (nat_lit 40, PySem.Obj.mk (PySem.Value.type "tuple") Option.none (PySem.Data.seq #[kR 24]) #[]) ::
  (nat_lit 47, PySem.Obj.mk (PySem.Value.type "tuple") Option.none (PySem.Data.seq #[]) #[]) ::
  (nat_lit 48, PySem.Obj.mk (PySem.Value.type "dict") Option.none (PySem.Data.dict #[kE P "__module__" 230 (kS "waithouse.errors" 187), kE P "__firstlineno__" 234 (PySem.Value.int 6 233), kE P "__static_attributes__" 235 (kR 47), kE P "__doc__" 236 PySem.Value.none] 2) #[]) ::
  (nat_lit 49, PySem.Obj.mk (PySem.Value.type "type") Option.none (PySem.Data.cls (PySem.ClassData.mk (kN "NoRoom") [kR 24] [kR 49, kR 24, PySem.Value.type "ValueError", PySem.Value.type "Exception", PySem.Value.type "BaseException", PySem.Value.type "object"] 48 (kN "NoRoom") Bool.true [] [] Bool.false Option.none Bool.false)) #[Option.some (kR 40), Option.none, Option.some (kS "NoRoom" 223), Option.some (kS "NoRoom" 231), Option.some (PySem.Value.builtin "ValueError.__new__"), Option.some (PySem.Value.bool Bool.true)]) ::
  (nat_lit 52, PySem.Obj.mk (PySem.Value.type "tuple") Option.none (PySem.Data.seq #[kR 24]) #[]) ::
  (nat_lit 59, PySem.Obj.mk (PySem.Value.type "tuple") Option.none (PySem.Data.seq #[]) #[]) ::
  (nat_lit 60, PySem.Obj.mk (PySem.Value.type "dict") Option.none (PySem.Data.dict #[kE P "__module__" 246 (kS "waithouse.errors" 187), kE P "__firstlineno__" 250 (PySem.Value.int 8 249), kE P "__static_attributes__" 251 (kR 59), kE P "__doc__" 252 PySem.Value.none] 2) #[]) ::
  (nat_lit 61, PySem.Obj.mk (PySem.Value.type "type") Option.none (PySem.Data.cls (PySem.ClassData.mk (kN "NoTime") [kR 24] [kR 61, kR 24, PySem.Value.type "ValueError", PySem.Value.type "Exception", PySem.Value.type "BaseException", PySem.Value.type "object"] 60 (kN "NoTime") Bool.true [] [] Bool.false Option.none Bool.false)) #[Option.some (kR 52), Option.none, Option.some (kS "NoTime" 239), Option.some (kS "NoTime" 247), Option.some (PySem.Value.builtin "ValueError.__new__"), Option.some (PySem.Value.bool Bool.true)]) ::
  (nat_lit 64, PySem.Obj.mk (PySem.Value.type "tuple") Option.none (PySem.Data.seq #[kR 24]) #[]) ::
  (nat_lit 71, PySem.Obj.mk (PySem.Value.type "tuple") Option.none (PySem.Data.seq #[]) #[]) ::
  (nat_lit 72, PySem.Obj.mk (PySem.Value.type "dict") Option.none (PySem.Data.dict #[kE P "__module__" 262 (kS "waithouse.errors" 187), kE P "__firstlineno__" 266 (PySem.Value.int 10 265), kE P "__static_attributes__" 267 (kR 71), kE P "__doc__" 268 PySem.Value.none] 2) #[]) ::
  (nat_lit 73, PySem.Obj.mk (PySem.Value.type "type") Option.none (PySem.Data.cls (PySem.ClassData.mk (kN "NoName") [kR 24] [kR 73, kR 24, PySem.Value.type "ValueError", PySem.Value.type "Exception", PySem.Value.type "BaseException", PySem.Value.type "object"] 72 (kN "NoName") Bool.true [] [] Bool.false Option.none Bool.false)) #[Option.some (kR 64), Option.none, Option.some (kS "NoName" 255), Option.some (kS "NoName" 263), Option.some (PySem.Value.builtin "ValueError.__new__"), Option.some (PySem.Value.bool Bool.true)]) ::
  (nat_lit 76, PySem.Obj.mk (PySem.Value.type "tuple") Option.none (PySem.Data.seq #[kR 24]) #[]) ::
  (nat_lit 83, PySem.Obj.mk (PySem.Value.type "tuple") Option.none (PySem.Data.seq #[]) #[]) ::
  (nat_lit 85, PySem.Obj.mk (PySem.Value.type "tuple") Option.none (PySem.Data.seq #[kS "self" 286, kS "steps" 287]) #[]) ::
  (nat_lit 86, PySem.Obj.mk (PySem.Value.type "tuple") Option.none (PySem.Data.seq #[]) #[]) ::
  (nat_lit 88, PySem.Obj.mk (PySem.Value.type "code") Option.none (PySem.Data.fields #[kS "__init__" 283, kS "NoKeep.__init__" 284, kS "/claim/cut.py" 285, PySem.Value.int 14 0, PySem.Value.int 2 0, PySem.Value.int 0 0, PySem.Value.int 0 0, PySem.Value.int 3 0, kR 83, PySem.Value.bool Bool.true, PySem.Value.int 181 0, kR 84, PySem.Value.none, kR 85, kR 86, kR 87, PySem.Value.int 288 0, PySem.Value.int 14 0, kS "/claim/cut.py" 289]) #[]) ::
  (nat_lit 89, PySem.Obj.mk (PySem.Value.type "function") Option.none (PySem.Data.func (PySem.FuncData.mk (kN "__init__") (kN "NoKeep.__init__") (defArgs (inClass (top 6) 0)) (PySem.FuncBody.stmts (defBody (inClass (top 6) 0))) (defScope (inClass (top 6) 0)) 3 [] PySem.Value.none PySem.Value.none PySem.Value.none (kS "waithouse.errors" 187) Option.none (kR 88) PySem.Value.none 0)) #[]) ::
  (nat_lit 90, PySem.Obj.mk (PySem.Value.type "tuple") Option.none (PySem.Data.seq #[kS "steps" 291]) #[]) ::
  (nat_lit 91, PySem.Obj.mk (PySem.Value.type "dict") Option.none (PySem.Data.dict #[kE P "__module__" 278 (kS "waithouse.errors" 187), kE P "__firstlineno__" 282 (PySem.Value.int 12 281), kE P "__init__" 290 (kR 89), kE P "__static_attributes__" 292 (kR 90), kE P "__doc__" 293 PySem.Value.none] 2) #[]) ::
  (nat_lit 92, PySem.Obj.mk (PySem.Value.type "type") Option.none (PySem.Data.cls (PySem.ClassData.mk (kN "NoKeep") [kR 24] [kR 92, kR 24, PySem.Value.type "ValueError", PySem.Value.type "Exception", PySem.Value.type "BaseException", PySem.Value.type "object"] 91 (kN "NoKeep") Bool.true [] [] Bool.false Option.none Bool.false)) #[Option.some (kR 76), Option.none, Option.some (kS "NoKeep" 271), Option.some (kS "NoKeep" 279), Option.some (PySem.Value.builtin "ValueError.__new__"), Option.some (PySem.Value.bool Bool.true)]) ::
  (nat_lit 95, PySem.Obj.mk (PySem.Value.type "tuple") Option.none (PySem.Data.seq #[kR 24]) #[]) ::
  (nat_lit 102, PySem.Obj.mk (PySem.Value.type "tuple") Option.none (PySem.Data.seq #[]) #[]) ::
  (nat_lit 103, PySem.Obj.mk (PySem.Value.type "dict") Option.none (PySem.Data.dict #[kE P "__module__" 303 (kS "waithouse.errors" 187), kE P "__firstlineno__" 307 (PySem.Value.int 17 306), kE P "__static_attributes__" 308 (kR 102), kE P "__doc__" 309 PySem.Value.none] 2) #[]) ::
  (nat_lit 104, PySem.Obj.mk (PySem.Value.type "type") Option.none (PySem.Data.cls (PySem.ClassData.mk (kN "NoRow") [kR 24] [kR 104, kR 24, PySem.Value.type "ValueError", PySem.Value.type "Exception", PySem.Value.type "BaseException", PySem.Value.type "object"] 103 (kN "NoRow") Bool.true [] [] Bool.false Option.none Bool.false)) #[Option.some (kR 95), Option.none, Option.some (kS "NoRow" 296), Option.some (kS "NoRow" 304), Option.some (PySem.Value.builtin "ValueError.__new__"), Option.some (PySem.Value.bool Bool.true)]) ::
  (nat_lit 107, PySem.Obj.mk (PySem.Value.type "tuple") Option.none (PySem.Data.seq #[]) #[]) ::
  (nat_lit 109, PySem.Obj.mk (PySem.Value.type "tuple") Option.none (PySem.Data.seq #[kS "gap" 317, kS "a" 318, kS "b" 319, kS "low" 320, kS "high" 321, kS "found" 322]) #[]) ::
  (nat_lit 110, PySem.Obj.mk (PySem.Value.type "tuple") Option.none (PySem.Data.seq #[]) #[]) ::
  (nat_lit 112, PySem.Obj.mk (PySem.Value.type "code") Option.none (PySem.Data.fields #[kS "bounds_of" 314, kS "bounds_of" 315, kS "/claim/cut.py" 316, PySem.Value.int 20 0, PySem.Value.int 1 0, PySem.Value.int 0 0, PySem.Value.int 0 0, PySem.Value.int 3 0, kR 107, PySem.Value.bool Bool.true, PySem.Value.int 181 0, kR 108, PySem.Value.none, kR 109, kR 110, kR 111, PySem.Value.int 323 0, PySem.Value.int 20 0, kS "/claim/cut.py" 324]) #[]) ::
  (nat_lit 113, PySem.Obj.mk (PySem.Value.type "function") Option.none (PySem.Data.func (PySem.FuncData.mk (kN "bounds_of") (kN "bounds_of") (defArgs (top 9)) (PySem.FuncBody.stmts (defBody (top 9))) (defScope (top 9)) 3 [] PySem.Value.none PySem.Value.none PySem.Value.none (kS "waithouse.bounds" 312) Option.none (kR 112) PySem.Value.none 0)) #[]) ::
  (nat_lit 114, PySem.Obj.mk (PySem.Value.type "tuple") Option.none (PySem.Data.seq #[]) #[]) ::
  (nat_lit 117, PySem.Obj.mk (PySem.Value.type "code") Option.none (PySem.Data.fields #[kS "wide" 328, kS "wide" 329, kS "/claim/cut.py" 330, PySem.Value.int 32 0, PySem.Value.int 1 0, PySem.Value.int 0 0, PySem.Value.int 0 0, PySem.Value.int 3 0, kR 114, PySem.Value.bool Bool.true, PySem.Value.int 181 0, kR 115, PySem.Value.none, PySem.Value.none, PySem.Value.none, kR 116, PySem.Value.int 331 0, PySem.Value.int 32 0, kS "/claim/cut.py" 332]) #[]) ::
  (nat_lit 118, PySem.Obj.mk (PySem.Value.type "function") Option.none (PySem.Data.func (PySem.FuncData.mk (kN "wide") (kN "wide") (defArgs (top 11)) (PySem.FuncBody.stmts (defBody (top 11))) (defScope (top 11)) 3 [] PySem.Value.none PySem.Value.none PySem.Value.none (kS "waithouse.tables" 326) Option.none (kR 117) PySem.Value.none 0)) #[]) ::
  (nat_lit 119, PySem.Obj.mk (PySem.Value.type "tuple") Option.none (PySem.Data.seq #[]) #[]) ::
  (nat_lit 122, PySem.Obj.mk (PySem.Value.type "code") Option.none (PySem.Data.fields #[kS "wide_row" 334, kS "wide_row" 335, kS "/claim/cut.py" 336, PySem.Value.int 34 0, PySem.Value.int 2 0, PySem.Value.int 0 0, PySem.Value.int 0 0, PySem.Value.int 3 0, kR 119, PySem.Value.bool Bool.true, PySem.Value.int 181 0, kR 120, PySem.Value.none, PySem.Value.none, PySem.Value.none, kR 121, PySem.Value.int 337 0, PySem.Value.int 34 0, kS "/claim/cut.py" 338]) #[]) ::
  (nat_lit 123, PySem.Obj.mk (PySem.Value.type "function") Option.none (PySem.Data.func (PySem.FuncData.mk (kN "wide_row") (kN "wide_row") (defArgs (top 12)) (PySem.FuncBody.stmts (defBody (top 12))) (defScope (top 12)) 3 [] PySem.Value.none PySem.Value.none PySem.Value.none (kS "waithouse.tables" 326) Option.none (kR 122) PySem.Value.none 0)) #[]) ::
  (nat_lit 124, PySem.Obj.mk (PySem.Value.type "tuple") Option.none (PySem.Data.seq #[]) #[]) ::
  (nat_lit 126, PySem.Obj.mk (PySem.Value.type "tuple") Option.none (PySem.Data.seq #[kS "count" 343, kS "bounds" 344, kS "table" 345, kS "bound" 346]) #[]) ::
  (nat_lit 127, PySem.Obj.mk (PySem.Value.type "tuple") Option.none (PySem.Data.seq #[]) #[]) ::
  (nat_lit 129, PySem.Obj.mk (PySem.Value.type "code") Option.none (PySem.Data.fields #[kS "table_of" 340, kS "table_of" 341, kS "/claim/cut.py" 342, PySem.Value.int 36 0, PySem.Value.int 2 0, PySem.Value.int 0 0, PySem.Value.int 0 0, PySem.Value.int 3 0, kR 124, PySem.Value.bool Bool.true, PySem.Value.int 181 0, kR 125, PySem.Value.none, kR 126, kR 127, kR 128, PySem.Value.int 347 0, PySem.Value.int 36 0, kS "/claim/cut.py" 348]) #[]) ::
  (nat_lit 130, PySem.Obj.mk (PySem.Value.type "function") Option.none (PySem.Data.func (PySem.FuncData.mk (kN "table_of") (kN "table_of") (defArgs (top 13)) (PySem.FuncBody.stmts (defBody (top 13))) (defScope (top 13)) 3 [] PySem.Value.none PySem.Value.none PySem.Value.none (kS "waithouse.tables" 326) Option.none (kR 129) PySem.Value.none 0)) #[]) ::
  (nat_lit 131, PySem.Obj.mk (PySem.Value.type "tuple") Option.none (PySem.Data.seq #[]) #[]) ::
  (nat_lit 134, PySem.Obj.mk (PySem.Value.type "code") Option.none (PySem.Data.fields #[kS "held" 350, kS "held" 351, kS "/claim/cut.py" 352, PySem.Value.int 41 0, PySem.Value.int 2 0, PySem.Value.int 0 0, PySem.Value.int 0 0, PySem.Value.int 3 0, kR 131, PySem.Value.bool Bool.true, PySem.Value.int 181 0, kR 132, PySem.Value.none, PySem.Value.none, PySem.Value.none, kR 133, PySem.Value.int 353 0, PySem.Value.int 41 0, kS "/claim/cut.py" 354]) #[]) ::
  (nat_lit 135, PySem.Obj.mk (PySem.Value.type "function") Option.none (PySem.Data.func (PySem.FuncData.mk (kN "held") (kN "held") (defArgs (top 14)) (PySem.FuncBody.stmts (defBody (top 14))) (defScope (top 14)) 3 [] PySem.Value.none PySem.Value.none PySem.Value.none (kS "waithouse.tables" 326) Option.none (kR 134) PySem.Value.none 0)) #[]) ::
  (nat_lit 136, PySem.Obj.mk (PySem.Value.type "tuple") Option.none (PySem.Data.seq #[]) #[]) ::
  (nat_lit 138, PySem.Obj.mk (PySem.Value.type "tuple") Option.none (PySem.Data.seq #[kS "bound" 359, kS "table" 360, kS "back" 361]) #[]) ::
  (nat_lit 139, PySem.Obj.mk (PySem.Value.type "tuple") Option.none (PySem.Data.seq #[]) #[]) ::
  (nat_lit 141, PySem.Obj.mk (PySem.Value.type "code") Option.none (PySem.Data.fields #[kS "shuts" 356, kS "shuts" 357, kS "/claim/cut.py" 358, PySem.Value.int 45 0, PySem.Value.int 2 0, PySem.Value.int 0 0, PySem.Value.int 0 0, PySem.Value.int 3 0, kR 136, PySem.Value.bool Bool.true, PySem.Value.int 181 0, kR 137, PySem.Value.none, kR 138, kR 139, kR 140, PySem.Value.int 362 0, PySem.Value.int 45 0, kS "/claim/cut.py" 363]) #[]) ::
  (nat_lit 142, PySem.Obj.mk (PySem.Value.type "function") Option.none (PySem.Data.func (PySem.FuncData.mk (kN "shuts") (kN "shuts") (defArgs (top 15)) (PySem.FuncBody.stmts (defBody (top 15))) (defScope (top 15)) 3 [] PySem.Value.none PySem.Value.none PySem.Value.none (kS "waithouse.tables" 326) Option.none (kR 141) PySem.Value.none 0)) #[]) ::
  (nat_lit 143, PySem.Obj.mk (PySem.Value.type "tuple") Option.none (PySem.Data.seq #[]) #[]) ::
  (nat_lit 146, PySem.Obj.mk (PySem.Value.type "code") Option.none (PySem.Data.fields #[kS "held_row" 365, kS "held_row" 366, kS "/claim/cut.py" 367, PySem.Value.int 48 0, PySem.Value.int 3 0, PySem.Value.int 0 0, PySem.Value.int 0 0, PySem.Value.int 3 0, kR 143, PySem.Value.bool Bool.true, PySem.Value.int 181 0, kR 144, PySem.Value.none, PySem.Value.none, PySem.Value.none, kR 145, PySem.Value.int 368 0, PySem.Value.int 48 0, kS "/claim/cut.py" 369]) #[]) ::
  (nat_lit 147, PySem.Obj.mk (PySem.Value.type "function") Option.none (PySem.Data.func (PySem.FuncData.mk (kN "held_row") (kN "held_row") (defArgs (top 16)) (PySem.FuncBody.stmts (defBody (top 16))) (defScope (top 16)) 3 [] PySem.Value.none PySem.Value.none PySem.Value.none (kS "waithouse.tables" 326) Option.none (kR 146) PySem.Value.none 0)) #[]) ::
  (nat_lit 148, PySem.Obj.mk (PySem.Value.type "tuple") Option.none (PySem.Data.seq #[]) #[]) ::
  (nat_lit 150, PySem.Obj.mk (PySem.Value.type "tuple") Option.none (PySem.Data.seq #[kS "one" 374, kS "other" 375]) #[]) ::
  (nat_lit 151, PySem.Obj.mk (PySem.Value.type "tuple") Option.none (PySem.Data.seq #[]) #[]) ::
  (nat_lit 153, PySem.Obj.mk (PySem.Value.type "code") Option.none (PySem.Data.fields #[kS "total" 371, kS "total" 372, kS "/claim/cut.py" 373, PySem.Value.int 52 0, PySem.Value.int 2 0, PySem.Value.int 0 0, PySem.Value.int 0 0, PySem.Value.int 3 0, kR 148, PySem.Value.bool Bool.true, PySem.Value.int 181 0, kR 149, PySem.Value.none, kR 150, kR 151, kR 152, PySem.Value.int 376 0, PySem.Value.int 52 0, kS "/claim/cut.py" 377]) #[]) ::
  (nat_lit 154, PySem.Obj.mk (PySem.Value.type "function") Option.none (PySem.Data.func (PySem.FuncData.mk (kN "total") (kN "total") (defArgs (top 17)) (PySem.FuncBody.stmts (defBody (top 17))) (defScope (top 17)) 3 [] PySem.Value.none PySem.Value.none PySem.Value.none (kS "waithouse.tables" 326) Option.none (kR 153) PySem.Value.none 0)) #[]) ::
  (nat_lit 155, PySem.Obj.mk (PySem.Value.type "tuple") Option.none (PySem.Data.seq #[]) #[]) ::
  (nat_lit 157, PySem.Obj.mk (PySem.Value.type "tuple") Option.none (PySem.Data.seq #[kS "one" 382, kS "other" 383]) #[]) ::
  (nat_lit 158, PySem.Obj.mk (PySem.Value.type "tuple") Option.none (PySem.Data.seq #[]) #[]) ::
  (nat_lit 160, PySem.Obj.mk (PySem.Value.type "code") Option.none (PySem.Data.fields #[kS "lesser" 379, kS "lesser" 380, kS "/claim/cut.py" 381, PySem.Value.int 56 0, PySem.Value.int 2 0, PySem.Value.int 0 0, PySem.Value.int 0 0, PySem.Value.int 3 0, kR 155, PySem.Value.bool Bool.true, PySem.Value.int 181 0, kR 156, PySem.Value.none, kR 157, kR 158, kR 159, PySem.Value.int 384 0, PySem.Value.int 56 0, kS "/claim/cut.py" 385]) #[]) ::
  (nat_lit 161, PySem.Obj.mk (PySem.Value.type "function") Option.none (PySem.Data.func (PySem.FuncData.mk (kN "lesser") (kN "lesser") (defArgs (top 18)) (PySem.FuncBody.stmts (defBody (top 18))) (defScope (top 18)) 3 [] PySem.Value.none PySem.Value.none PySem.Value.none (kS "waithouse.tables" 326) Option.none (kR 160) PySem.Value.none 0)) #[]) ::
  (nat_lit 162, PySem.Obj.mk (PySem.Value.type "tuple") Option.none (PySem.Data.seq #[]) #[]) ::
  (nat_lit 164, PySem.Obj.mk (PySem.Value.type "tuple") Option.none (PySem.Data.seq #[kS "count" 392, kS "bounds" 393]) #[]) ::
  (nat_lit 165, PySem.Obj.mk (PySem.Value.type "tuple") Option.none (PySem.Data.seq #[]) #[]) ::
  (nat_lit 167, PySem.Obj.mk (PySem.Value.type "code") Option.none (PySem.Data.fields #[kS "ring" 389, kS "ring" 390, kS "/claim/cut.py" 391, PySem.Value.int 63 0, PySem.Value.int 2 0, PySem.Value.int 0 0, PySem.Value.int 0 0, PySem.Value.int 3 0, kR 162, PySem.Value.bool Bool.true, PySem.Value.int 181 0, kR 163, PySem.Value.none, kR 164, kR 165, kR 166, PySem.Value.int 394 0, PySem.Value.int 63 0, kS "/claim/cut.py" 395]) #[]) ::
  (nat_lit 168, PySem.Obj.mk (PySem.Value.type "function") Option.none (PySem.Data.func (PySem.FuncData.mk (kN "ring") (kN "ring") (defArgs (top 20)) (PySem.FuncBody.stmts (defBody (top 20))) (defScope (top 20)) 3 [] PySem.Value.none PySem.Value.none PySem.Value.none (kS "waithouse.rings" 387) Option.none (kR 167) PySem.Value.none 0)) #[]) ::
  (nat_lit 169, PySem.Obj.mk (PySem.Value.type "tuple") Option.none (PySem.Data.seq #[]) #[]) ::
  (nat_lit 171, PySem.Obj.mk (PySem.Value.type "tuple") Option.none (PySem.Data.seq #[kS "count" 401, kS "bounds" 402, kS "a" 403, kS "b" 404, kS "ways" 405]) #[]) ::
  (nat_lit 172, PySem.Obj.mk (PySem.Value.type "tuple") Option.none (PySem.Data.seq #[]) #[]) ::
  (nat_lit 174, PySem.Obj.mk (PySem.Value.type "code") Option.none (PySem.Data.fields #[kS "chain" 398, kS "chain" 399, kS "/claim/cut.py" 400, PySem.Value.int 66 0, PySem.Value.int 4 0, PySem.Value.int 0 0, PySem.Value.int 0 0, PySem.Value.int 3 0, kR 169, PySem.Value.bool Bool.true, PySem.Value.int 181 0, kR 170, PySem.Value.none, kR 171, kR 172, kR 173, PySem.Value.int 406 0, PySem.Value.int 66 0, kS "/claim/cut.py" 407]) #[]) ::
  (nat_lit 175, PySem.Obj.mk (PySem.Value.type "function") Option.none (PySem.Data.func (PySem.FuncData.mk (kN "chain") (kN "chain") (defArgs (top 22)) (PySem.FuncBody.stmts (defBody (top 22))) (defScope (top 22)) 3 [] PySem.Value.none PySem.Value.none PySem.Value.none (kS "waithouse.rings" 387) Option.none (kR 174) PySem.Value.none 0)) #[]) ::
  (nat_lit 176, PySem.Obj.mk (PySem.Value.type "tuple") Option.none (PySem.Data.seq #[]) #[]) ::
  (nat_lit 179, PySem.Obj.mk (PySem.Value.type "code") Option.none (PySem.Data.fields #[kS "search" 410, kS "search" 411, kS "/claim/cut.py" 412, PySem.Value.int 72 0, PySem.Value.int 2 0, PySem.Value.int 0 0, PySem.Value.int 0 0, PySem.Value.int 3 0, kR 176, PySem.Value.bool Bool.true, PySem.Value.int 181 0, kR 177, PySem.Value.none, PySem.Value.none, PySem.Value.none, kR 178, PySem.Value.int 413 0, PySem.Value.int 72 0, kS "/claim/cut.py" 414]) #[]) ::
  (nat_lit 180, PySem.Obj.mk (PySem.Value.type "function") Option.none (PySem.Data.func (PySem.FuncData.mk (kN "search") (kN "search") (defArgs (top 24)) (PySem.FuncBody.stmts (defBody (top 24))) (defScope (top 24)) 3 [] PySem.Value.none PySem.Value.none PySem.Value.none (kS "waithouse.rings" 387) Option.none (kR 179) PySem.Value.none 0)) #[]) ::
  (nat_lit 181, PySem.Obj.mk (PySem.Value.type "tuple") Option.none (PySem.Data.seq #[]) #[]) ::
  (nat_lit 184, PySem.Obj.mk (PySem.Value.type "code") Option.none (PySem.Data.fields #[kS "first_ways" 416, kS "first_ways" 417, kS "/claim/cut.py" 418, PySem.Value.int 83 0, PySem.Value.int 1 0, PySem.Value.int 0 0, PySem.Value.int 0 0, PySem.Value.int 3 0, kR 181, PySem.Value.bool Bool.true, PySem.Value.int 181 0, kR 182, PySem.Value.none, PySem.Value.none, PySem.Value.none, kR 183, PySem.Value.int 419 0, PySem.Value.int 83 0, kS "/claim/cut.py" 420]) #[]) ::
  (nat_lit 185, PySem.Obj.mk (PySem.Value.type "function") Option.none (PySem.Data.func (PySem.FuncData.mk (kN "first_ways") (kN "first_ways") (defArgs (top 25)) (PySem.FuncBody.stmts (defBody (top 25))) (defScope (top 25)) 3 [] PySem.Value.none PySem.Value.none PySem.Value.none (kS "waithouse.rings" 387) Option.none (kR 184) PySem.Value.none 0)) #[]) ::
  (nat_lit 186, PySem.Obj.mk (PySem.Value.type "tuple") Option.none (PySem.Data.seq #[]) #[]) ::
  (nat_lit 189, PySem.Obj.mk (PySem.Value.type "code") Option.none (PySem.Data.fields #[kS "narrowed" 422, kS "narrowed" 423, kS "/claim/cut.py" 424, PySem.Value.int 85 0, PySem.Value.int 2 0, PySem.Value.int 0 0, PySem.Value.int 0 0, PySem.Value.int 3 0, kR 186, PySem.Value.bool Bool.true, PySem.Value.int 181 0, kR 187, PySem.Value.none, PySem.Value.none, PySem.Value.none, kR 188, PySem.Value.int 425 0, PySem.Value.int 85 0, kS "/claim/cut.py" 426]) #[]) ::
  (nat_lit 190, PySem.Obj.mk (PySem.Value.type "function") Option.none (PySem.Data.func (PySem.FuncData.mk (kN "narrowed") (kN "narrowed") (defArgs (top 26)) (PySem.FuncBody.stmts (defBody (top 26))) (defScope (top 26)) 3 [] PySem.Value.none PySem.Value.none PySem.Value.none (kS "waithouse.rings" 387) Option.none (kR 189) PySem.Value.none 0)) #[]) ::
  (nat_lit 191, PySem.Obj.mk (PySem.Value.type "tuple") Option.none (PySem.Data.seq #[]) #[]) ::
  (nat_lit 194, PySem.Obj.mk (PySem.Value.type "code") Option.none (PySem.Data.fields #[kS "led" 428, kS "led" 429, kS "/claim/cut.py" 430, PySem.Value.int 87 0, PySem.Value.int 5 0, PySem.Value.int 0 0, PySem.Value.int 0 0, PySem.Value.int 3 0, kR 191, PySem.Value.bool Bool.true, PySem.Value.int 181 0, kR 192, PySem.Value.none, PySem.Value.none, PySem.Value.none, kR 193, PySem.Value.int 431 0, PySem.Value.int 87 0, kS "/claim/cut.py" 432]) #[]) ::
  (nat_lit 195, PySem.Obj.mk (PySem.Value.type "function") Option.none (PySem.Data.func (PySem.FuncData.mk (kN "led") (kN "led") (defArgs (top 27)) (PySem.FuncBody.stmts (defBody (top 27))) (defScope (top 27)) 3 [] PySem.Value.none PySem.Value.none PySem.Value.none (kS "waithouse.rings" 387) Option.none (kR 194) PySem.Value.none 0)) #[]) ::
  (nat_lit 196, PySem.Obj.mk (PySem.Value.type "tuple") Option.none (PySem.Data.seq #[]) #[]) ::
  (nat_lit 198, PySem.Obj.mk (PySem.Value.type "tuple") Option.none (PySem.Data.seq #[kS "ways" 437, kS "a" 438, kS "b" 439, kS "bound" 440, kS "place" 441]) #[]) ::
  (nat_lit 199, PySem.Obj.mk (PySem.Value.type "tuple") Option.none (PySem.Data.seq #[]) #[]) ::
  (nat_lit 201, PySem.Obj.mk (PySem.Value.type "code") Option.none (PySem.Data.fields #[kS "by_way" 434, kS "by_way" 435, kS "/claim/cut.py" 436, PySem.Value.int 89 0, PySem.Value.int 5 0, PySem.Value.int 0 0, PySem.Value.int 0 0, PySem.Value.int 3 0, kR 196, PySem.Value.bool Bool.true, PySem.Value.int 181 0, kR 197, PySem.Value.none, kR 198, kR 199, kR 200, PySem.Value.int 442 0, PySem.Value.int 89 0, kS "/claim/cut.py" 443]) #[]) ::
  (nat_lit 202, PySem.Obj.mk (PySem.Value.type "function") Option.none (PySem.Data.func (PySem.FuncData.mk (kN "by_way") (kN "by_way") (defArgs (top 28)) (PySem.FuncBody.stmts (defBody (top 28))) (defScope (top 28)) 3 [] PySem.Value.none PySem.Value.none PySem.Value.none (kS "waithouse.rings" 387) Option.none (kR 201) PySem.Value.none 0)) #[]) ::
  (nat_lit 210, PySem.Obj.mk (PySem.Value.type "tuple") Option.none (PySem.Data.seq #[]) #[]) ::
  (nat_lit 212, PySem.Obj.mk (PySem.Value.type "tuple") Option.none (PySem.Data.seq #[kS "self" 462, kS "count" 463]) #[]) ::
  (nat_lit 213, PySem.Obj.mk (PySem.Value.type "tuple") Option.none (PySem.Data.seq #[]) #[]) ::
  (nat_lit 215, PySem.Obj.mk (PySem.Value.type "code") Option.none (PySem.Data.fields #[kS "__init__" 459, kS "House.__init__" 460, kS "/claim/cut.py" 461, PySem.Value.int 94 0, PySem.Value.int 2 0, PySem.Value.int 0 0, PySem.Value.int 0 0, PySem.Value.int 3 0, kR 210, PySem.Value.bool Bool.true, PySem.Value.int 181 0, kR 211, PySem.Value.none, kR 212, kR 213, kR 214, PySem.Value.int 464 0, PySem.Value.int 94 0, kS "/claim/cut.py" 465]) #[]) ::
  (nat_lit 216, PySem.Obj.mk (PySem.Value.type "function") Option.none (PySem.Data.func (PySem.FuncData.mk (kN "__init__") (kN "House.__init__") (defArgs (inClass (top 30) 0)) (PySem.FuncBody.stmts (defBody (inClass (top 30) 0))) (defScope (inClass (top 30) 0)) 3 [] PySem.Value.none PySem.Value.none PySem.Value.none (kS "waithouse.houses" 445) Option.none (kR 215) PySem.Value.none 0)) #[]) ::
  (nat_lit 217, PySem.Obj.mk (PySem.Value.type "tuple") Option.none (PySem.Data.seq #[PySem.Value.none, PySem.Value.none]) #[]) ::
  (nat_lit 218, PySem.Obj.mk (PySem.Value.type "tuple") Option.none (PySem.Data.seq #[]) #[]) ::
  (nat_lit 220, PySem.Obj.mk (PySem.Value.type "tuple") Option.none (PySem.Data.seq #[kS "self" 470, kS "name" 471, kS "a" 472, kS "b" 473, kS "low" 474, kS "high" 475]) #[]) ::
  (nat_lit 221, PySem.Obj.mk (PySem.Value.type "tuple") Option.none (PySem.Data.seq #[]) #[]) ::
  (nat_lit 223, PySem.Obj.mk (PySem.Value.type "code") Option.none (PySem.Data.fields #[kS "add" 467, kS "House.add" 468, kS "/claim/cut.py" 469, PySem.Value.int 98 0, PySem.Value.int 6 0, PySem.Value.int 0 0, PySem.Value.int 0 0, PySem.Value.int 3 0, kR 218, PySem.Value.bool Bool.true, PySem.Value.int 181 0, kR 219, PySem.Value.none, kR 220, kR 221, kR 222, PySem.Value.int 476 0, PySem.Value.int 98 0, kS "/claim/cut.py" 477]) #[]) ::
  (nat_lit 224, PySem.Obj.mk (PySem.Value.type "function") Option.none (PySem.Data.func (PySem.FuncData.mk (kN "add") (kN "House.add") (defArgs (inClass (top 30) 1)) (PySem.FuncBody.stmts (defBody (inClass (top 30) 1))) (defScope (inClass (top 30) 1)) 3 [] (kR 217) PySem.Value.none PySem.Value.none (kS "waithouse.houses" 445) Option.none (kR 223) PySem.Value.none 0)) #[]) ::
  (nat_lit 225, PySem.Obj.mk (PySem.Value.type "tuple") Option.none (PySem.Data.seq #[]) #[]) ::
  (nat_lit 227, PySem.Obj.mk (PySem.Value.type "tuple") Option.none (PySem.Data.seq #[kS "self" 482, kS "name" 483]) #[]) ::
  (nat_lit 228, PySem.Obj.mk (PySem.Value.type "tuple") Option.none (PySem.Data.seq #[]) #[]) ::
  (nat_lit 230, PySem.Obj.mk (PySem.Value.type "code") Option.none (PySem.Data.fields #[kS "drop" 479, kS "House.drop" 480, kS "/claim/cut.py" 481, PySem.Value.int 103 0, PySem.Value.int 2 0, PySem.Value.int 0 0, PySem.Value.int 0 0, PySem.Value.int 3 0, kR 225, PySem.Value.bool Bool.true, PySem.Value.int 181 0, kR 226, PySem.Value.none, kR 227, kR 228, kR 229, PySem.Value.int 484 0, PySem.Value.int 103 0, kS "/claim/cut.py" 485]) #[]) ::
  (nat_lit 231, PySem.Obj.mk (PySem.Value.type "function") Option.none (PySem.Data.func (PySem.FuncData.mk (kN "drop") (kN "House.drop") (defArgs (inClass (top 30) 2)) (PySem.FuncBody.stmts (defBody (inClass (top 30) 2))) (defScope (inClass (top 30) 2)) 3 [] PySem.Value.none PySem.Value.none PySem.Value.none (kS "waithouse.houses" 445) Option.none (kR 230) PySem.Value.none 0)) #[]) ::
  (nat_lit 232, PySem.Obj.mk (PySem.Value.type "tuple") Option.none (PySem.Data.seq #[]) #[]) ::
  (nat_lit 234, PySem.Obj.mk (PySem.Value.type "tuple") Option.none (PySem.Data.seq #[kS "self" 490, kS "name" 491]) #[]) ::
  (nat_lit 235, PySem.Obj.mk (PySem.Value.type "tuple") Option.none (PySem.Data.seq #[]) #[]) ::
  (nat_lit 237, PySem.Obj.mk (PySem.Value.type "code") Option.none (PySem.Data.fields #[kS "need" 487, kS "House.need" 488, kS "/claim/cut.py" 489, PySem.Value.int 107 0, PySem.Value.int 2 0, PySem.Value.int 0 0, PySem.Value.int 0 0, PySem.Value.int 3 0, kR 232, PySem.Value.bool Bool.true, PySem.Value.int 181 0, kR 233, PySem.Value.none, kR 234, kR 235, kR 236, PySem.Value.int 492 0, PySem.Value.int 107 0, kS "/claim/cut.py" 493]) #[]) ::
  (nat_lit 238, PySem.Obj.mk (PySem.Value.type "function") Option.none (PySem.Data.func (PySem.FuncData.mk (kN "need") (kN "House.need") (defArgs (inClass (top 30) 3)) (PySem.FuncBody.stmts (defBody (inClass (top 30) 3))) (defScope (inClass (top 30) 3)) 3 [] PySem.Value.none PySem.Value.none PySem.Value.none (kS "waithouse.houses" 445) Option.none (kR 237) PySem.Value.none 0)) #[]) ::
  (nat_lit 239, PySem.Obj.mk (PySem.Value.type "tuple") Option.none (PySem.Data.seq #[]) #[]) ::
  (nat_lit 241, PySem.Obj.mk (PySem.Value.type "tuple") Option.none (PySem.Data.seq #[kS "self" 498]) #[]) ::
  (nat_lit 242, PySem.Obj.mk (PySem.Value.type "tuple") Option.none (PySem.Data.seq #[]) #[]) ::
  (nat_lit 244, PySem.Obj.mk (PySem.Value.type "code") Option.none (PySem.Data.fields #[kS "names" 495, kS "House.names" 496, kS "/claim/cut.py" 497, PySem.Value.int 111 0, PySem.Value.int 1 0, PySem.Value.int 0 0, PySem.Value.int 0 0, PySem.Value.int 3 0, kR 239, PySem.Value.bool Bool.true, PySem.Value.int 181 0, kR 240, PySem.Value.none, kR 241, kR 242, kR 243, PySem.Value.int 499 0, PySem.Value.int 111 0, kS "/claim/cut.py" 500]) #[]) ::
  (nat_lit 245, PySem.Obj.mk (PySem.Value.type "function") Option.none (PySem.Data.func (PySem.FuncData.mk (kN "names") (kN "House.names") (defArgs (inClass (top 30) 4)) (PySem.FuncBody.stmts (defBody (inClass (top 30) 4))) (defScope (inClass (top 30) 4)) 3 [] PySem.Value.none PySem.Value.none PySem.Value.none (kS "waithouse.houses" 445) Option.none (kR 244) PySem.Value.none 0)) #[]) ::
  (nat_lit 246, PySem.Obj.mk (PySem.Value.type "tuple") Option.none (PySem.Data.seq #[]) #[]) ::
  (nat_lit 248, PySem.Obj.mk (PySem.Value.type "tuple") Option.none (PySem.Data.seq #[kS "self" 505, kS "name" 506]) #[]) ::
  (nat_lit 249, PySem.Obj.mk (PySem.Value.type "tuple") Option.none (PySem.Data.seq #[]) #[]) ::
  (nat_lit 251, PySem.Obj.mk (PySem.Value.type "code") Option.none (PySem.Data.fields #[kS "gap" 502, kS "House.gap" 503, kS "/claim/cut.py" 504, PySem.Value.int 114 0, PySem.Value.int 2 0, PySem.Value.int 0 0, PySem.Value.int 0 0, PySem.Value.int 3 0, kR 246, PySem.Value.bool Bool.true, PySem.Value.int 181 0, kR 247, PySem.Value.none, kR 248, kR 249, kR 250, PySem.Value.int 507 0, PySem.Value.int 114 0, kS "/claim/cut.py" 508]) #[]) ::
  (nat_lit 252, PySem.Obj.mk (PySem.Value.type "function") Option.none (PySem.Data.func (PySem.FuncData.mk (kN "gap") (kN "House.gap") (defArgs (inClass (top 30) 5)) (PySem.FuncBody.stmts (defBody (inClass (top 30) 5))) (defScope (inClass (top 30) 5)) 3 [] PySem.Value.none PySem.Value.none PySem.Value.none (kS "waithouse.houses" 445) Option.none (kR 251) PySem.Value.none 0)) #[]) ::
  (nat_lit 253, PySem.Obj.mk (PySem.Value.type "tuple") Option.none (PySem.Data.seq #[]) #[]) ::
  (nat_lit 255, PySem.Obj.mk (PySem.Value.type "tuple") Option.none (PySem.Data.seq #[kS "self" 513]) #[]) ::
  (nat_lit 256, PySem.Obj.mk (PySem.Value.type "tuple") Option.none (PySem.Data.seq #[]) #[]) ::
  (nat_lit 258, PySem.Obj.mk (PySem.Value.type "code") Option.none (PySem.Data.fields #[kS "table" 510, kS "House.table" 511, kS "/claim/cut.py" 512, PySem.Value.int 118 0, PySem.Value.int 1 0, PySem.Value.int 0 0, PySem.Value.int 0 0, PySem.Value.int 3 0, kR 253, PySem.Value.bool Bool.true, PySem.Value.int 181 0, kR 254, PySem.Value.none, kR 255, kR 256, kR 257, PySem.Value.int 514 0, PySem.Value.int 118 0, kS "/claim/cut.py" 515]) #[]) ::
  (nat_lit 259, PySem.Obj.mk (PySem.Value.type "function") Option.none (PySem.Data.func (PySem.FuncData.mk (kN "table") (kN "House.table") (defArgs (inClass (top 30) 6)) (PySem.FuncBody.stmts (defBody (inClass (top 30) 6))) (defScope (inClass (top 30) 6)) 3 [] PySem.Value.none PySem.Value.none PySem.Value.none (kS "waithouse.houses" 445) Option.none (kR 258) PySem.Value.none 0)) #[]) ::
  (nat_lit 260, PySem.Obj.mk (PySem.Value.type "tuple") Option.none (PySem.Data.seq #[]) #[]) ::
  (nat_lit 262, PySem.Obj.mk (PySem.Value.type "tuple") Option.none (PySem.Data.seq #[kS "self" 520]) #[]) ::
  (nat_lit 263, PySem.Obj.mk (PySem.Value.type "tuple") Option.none (PySem.Data.seq #[]) #[]) ::
  (nat_lit 265, PySem.Obj.mk (PySem.Value.type "code") Option.none (PySem.Data.fields #[kS "ring" 517, kS "House.ring" 518, kS "/claim/cut.py" 519, PySem.Value.int 121 0, PySem.Value.int 1 0, PySem.Value.int 0 0, PySem.Value.int 0 0, PySem.Value.int 3 0, kR 260, PySem.Value.bool Bool.true, PySem.Value.int 181 0, kR 261, PySem.Value.none, kR 262, kR 263, kR 264, PySem.Value.int 521 0, PySem.Value.int 121 0, kS "/claim/cut.py" 522]) #[]) ::
  (nat_lit 266, PySem.Obj.mk (PySem.Value.type "function") Option.none (PySem.Data.func (PySem.FuncData.mk (kN "ring") (kN "House.ring") (defArgs (inClass (top 30) 7)) (PySem.FuncBody.stmts (defBody (inClass (top 30) 7))) (defScope (inClass (top 30) 7)) 3 [] PySem.Value.none PySem.Value.none PySem.Value.none (kS "waithouse.houses" 445) Option.none (kR 265) PySem.Value.none 0)) #[]) ::
  (nat_lit 267, PySem.Obj.mk (PySem.Value.type "tuple") Option.none (PySem.Data.seq #[]) #[]) ::
  (nat_lit 269, PySem.Obj.mk (PySem.Value.type "tuple") Option.none (PySem.Data.seq #[kS "self" 527, kS "a" 528, kS "b" 529]) #[]) ::
  (nat_lit 270, PySem.Obj.mk (PySem.Value.type "tuple") Option.none (PySem.Data.seq #[]) #[]) ::
  (nat_lit 272, PySem.Obj.mk (PySem.Value.type "code") Option.none (PySem.Data.fields #[kS "chain" 524, kS "House.chain" 525, kS "/claim/cut.py" 526, PySem.Value.int 124 0, PySem.Value.int 3 0, PySem.Value.int 0 0, PySem.Value.int 0 0, PySem.Value.int 3 0, kR 267, PySem.Value.bool Bool.true, PySem.Value.int 181 0, kR 268, PySem.Value.none, kR 269, kR 270, kR 271, PySem.Value.int 530 0, PySem.Value.int 124 0, kS "/claim/cut.py" 531]) #[]) ::
  (nat_lit 273, PySem.Obj.mk (PySem.Value.type "function") Option.none (PySem.Data.func (PySem.FuncData.mk (kN "chain") (kN "House.chain") (defArgs (inClass (top 30) 8)) (PySem.FuncBody.stmts (defBody (inClass (top 30) 8))) (defScope (inClass (top 30) 8)) 3 [] PySem.Value.none PySem.Value.none PySem.Value.none (kS "waithouse.houses" 445) Option.none (kR 272) PySem.Value.none 0)) #[]) ::
  (nat_lit 274, PySem.Obj.mk (PySem.Value.type "tuple") Option.none (PySem.Data.seq #[]) #[]) ::
  (nat_lit 276, PySem.Obj.mk (PySem.Value.type "tuple") Option.none (PySem.Data.seq #[kS "self" 536, kS "name" 537, kS "others" 538]) #[]) ::
  (nat_lit 277, PySem.Obj.mk (PySem.Value.type "tuple") Option.none (PySem.Data.seq #[]) #[]) ::
  (nat_lit 279, PySem.Obj.mk (PySem.Value.type "code") Option.none (PySem.Data.fields #[kS "idle" 533, kS "House.idle" 534, kS "/claim/cut.py" 535, PySem.Value.int 127 0, PySem.Value.int 2 0, PySem.Value.int 0 0, PySem.Value.int 0 0, PySem.Value.int 3 0, kR 274, PySem.Value.bool Bool.true, PySem.Value.int 181 0, kR 275, PySem.Value.none, kR 276, kR 277, kR 278, PySem.Value.int 539 0, PySem.Value.int 127 0, kS "/claim/cut.py" 540]) #[]) ::
  (nat_lit 280, PySem.Obj.mk (PySem.Value.type "function") Option.none (PySem.Data.func (PySem.FuncData.mk (kN "idle") (kN "House.idle") (defArgs (inClass (top 30) 9)) (PySem.FuncBody.stmts (defBody (inClass (top 30) 9))) (defScope (inClass (top 30) 9)) 3 [] PySem.Value.none PySem.Value.none PySem.Value.none (kS "waithouse.houses" 445) Option.none (kR 279) PySem.Value.none 0)) #[]) ::
  (nat_lit 281, PySem.Obj.mk (PySem.Value.type "tuple") Option.none (PySem.Data.seq #[kS "count" 542, kS "gaps" 543]) #[]) ::
  (nat_lit 282, PySem.Obj.mk (PySem.Value.type "dict") Option.none (PySem.Data.dict #[kE P "__module__" 454 (kS "waithouse.houses" 445), kE P "__firstlineno__" 458 (PySem.Value.int 92 457), kE P "__init__" 466 (kR 216), kE P "add" 478 (kR 224), kE P "drop" 486 (kR 231), kE P "need" 494 (kR 238), kE P "names" 501 (kR 245), kE P "gap" 509 (kR 252), kE P "table" 516 (kR 259), kE P "ring" 523 (kR 266), kE P "chain" 532 (kR 273), kE P "idle" 541 (kR 280), kE P "__static_attributes__" 544 (kR 281), kE P "__dict__" 546 (kR 284), kE P "__weakref__" 548 (kR 285), kE P "__doc__" 549 PySem.Value.none] 4) #[]) ::
  (nat_lit 283, PySem.Obj.mk (PySem.Value.type "type") Option.none (PySem.Data.cls (PySem.ClassData.mk (kN "House") [PySem.Value.type "object"] [kR 283, PySem.Value.type "object"] 282 (kN "House") Bool.true [] [] Bool.false Option.none Bool.false)) #[Option.none, Option.none, Option.some (kS "House" 447), Option.some (kS "House" 455), Option.some (PySem.Value.builtin "object.__new__"), Option.some (PySem.Value.bool Bool.true)]) ::
  (nat_lit 284, PySem.Obj.mk (PySem.Value.type "getset_descriptor") Option.none (PySem.Data.fields #[kS "__dict__" 545, kR 283, PySem.Value.builtin "function.__dict__", PySem.Value.builtin "function.__dict__#set"]) #[]) ::
  (nat_lit 285, PySem.Obj.mk (PySem.Value.type "getset_descriptor") Option.none (PySem.Data.fields #[kS "__weakref__" 547, kR 283, PySem.Value.builtin "ExceptionGroup.__weakref__", PySem.Value.none]) #[]) ::
  (nat_lit 288, PySem.Obj.mk (PySem.Value.type "tuple") Option.none (PySem.Data.seq #[]) #[]) ::
  (nat_lit 290, PySem.Obj.mk (PySem.Value.type "tuple") Option.none (PySem.Data.seq #[kS "gaps" 555, kS "found" 556, kS "gap" 557]) #[]) ::
  (nat_lit 291, PySem.Obj.mk (PySem.Value.type "tuple") Option.none (PySem.Data.seq #[]) #[]) ::
  (nat_lit 293, PySem.Obj.mk (PySem.Value.type "code") Option.none (PySem.Data.fields #[kS "all_bounds" 552, kS "all_bounds" 553, kS "/claim/cut.py" 554, PySem.Value.int 132 0, PySem.Value.int 1 0, PySem.Value.int 0 0, PySem.Value.int 0 0, PySem.Value.int 3 0, kR 288, PySem.Value.bool Bool.true, PySem.Value.int 181 0, kR 289, PySem.Value.none, kR 290, kR 291, kR 292, PySem.Value.int 558 0, PySem.Value.int 132 0, kS "/claim/cut.py" 559]) #[]) ::
  (nat_lit 294, PySem.Obj.mk (PySem.Value.type "function") Option.none (PySem.Data.func (PySem.FuncData.mk (kN "all_bounds") (kN "all_bounds") (defArgs (top 31)) (PySem.FuncBody.stmts (defBody (top 31))) (defScope (top 31)) 3 [] PySem.Value.none PySem.Value.none PySem.Value.none (kS "waithouse.houses" 445) Option.none (kR 293) PySem.Value.none 0)) #[]) ::
  (nat_lit 295, PySem.Obj.mk (PySem.Value.type "tuple") Option.none (PySem.Data.seq #[]) #[]) ::
  (nat_lit 298, PySem.Obj.mk (PySem.Value.type "code") Option.none (PySem.Data.fields #[kS "all_bound_names" 561, kS "all_bound_names" 562, kS "/claim/cut.py" 563, PySem.Value.int 137 0, PySem.Value.int 1 0, PySem.Value.int 0 0, PySem.Value.int 0 0, PySem.Value.int 3 0, kR 295, PySem.Value.bool Bool.true, PySem.Value.int 181 0, kR 296, PySem.Value.none, PySem.Value.none, PySem.Value.none, kR 297, PySem.Value.int 564 0, PySem.Value.int 137 0, kS "/claim/cut.py" 565]) #[]) ::
  (nat_lit 299, PySem.Obj.mk (PySem.Value.type "function") Option.none (PySem.Data.func (PySem.FuncData.mk (kN "all_bound_names") (kN "all_bound_names") (defArgs (top 32)) (PySem.FuncBody.stmts (defBody (top 32))) (defScope (top 32)) 3 [] PySem.Value.none PySem.Value.none PySem.Value.none (kS "waithouse.houses" 445) Option.none (kR 298) PySem.Value.none 0)) #[]) ::
  (nat_lit 300, PySem.Obj.mk (PySem.Value.type "tuple") Option.none (PySem.Data.seq #[]) #[]) ::
  (nat_lit 302, PySem.Obj.mk (PySem.Value.type "tuple") Option.none (PySem.Data.seq #[kS "gap" 570, kS "ends" 571]) #[]) ::
  (nat_lit 303, PySem.Obj.mk (PySem.Value.type "tuple") Option.none (PySem.Data.seq #[]) #[]) ::
  (nat_lit 305, PySem.Obj.mk (PySem.Value.type "code") Option.none (PySem.Data.fields #[kS "ends_of" 567, kS "ends_of" 568, kS "/claim/cut.py" 569, PySem.Value.int 142 0, PySem.Value.int 1 0, PySem.Value.int 0 0, PySem.Value.int 0 0, PySem.Value.int 3 0, kR 300, PySem.Value.bool Bool.true, PySem.Value.int 181 0, kR 301, PySem.Value.none, kR 302, kR 303, kR 304, PySem.Value.int 572 0, PySem.Value.int 142 0, kS "/claim/cut.py" 573]) #[]) ::
  (nat_lit 306, PySem.Obj.mk (PySem.Value.type "function") Option.none (PySem.Data.func (PySem.FuncData.mk (kN "ends_of") (kN "ends_of") (defArgs (top 33)) (PySem.FuncBody.stmts (defBody (top 33))) (defScope (top 33)) 3 [] PySem.Value.none PySem.Value.none PySem.Value.none (kS "waithouse.houses" 445) Option.none (kR 305) PySem.Value.none 0)) #[]) ::
  (nat_lit 307, PySem.Obj.mk (PySem.Value.type "tuple") Option.none (PySem.Data.seq #[]) #[]) ::
  (nat_lit 310, PySem.Obj.mk (PySem.Value.type "code") Option.none (PySem.Data.fields #[kS "names_at" 575, kS "names_at" 576, kS "/claim/cut.py" 577, PySem.Value.int 149 0, PySem.Value.int 2 0, PySem.Value.int 0 0, PySem.Value.int 0 0, PySem.Value.int 3 0, kR 307, PySem.Value.bool Bool.true, PySem.Value.int 181 0, kR 308, PySem.Value.none, PySem.Value.none, PySem.Value.none, kR 309, PySem.Value.int 578 0, PySem.Value.int 149 0, kS "/claim/cut.py" 579]) #[]) ::
  (nat_lit 311, PySem.Obj.mk (PySem.Value.type "function") Option.none (PySem.Data.func (PySem.FuncData.mk (kN "names_at") (kN "names_at") (defArgs (top 34)) (PySem.FuncBody.stmts (defBody (top 34))) (defScope (top 34)) 3 [] PySem.Value.none PySem.Value.none PySem.Value.none (kS "waithouse.houses" 445) Option.none (kR 310) PySem.Value.none 0)) #[]) ::
  (nat_lit 312, PySem.Obj.mk (PySem.Value.type "tuple") Option.none (PySem.Data.seq #[]) #[]) ::
  (nat_lit 314, PySem.Obj.mk (PySem.Value.type "tuple") Option.none (PySem.Data.seq #[kS "_law_script" 586, kS "_law_k" 587, kS "_law_seed" 588, kS "_law_some" 589]) #[]) ::
  (nat_lit 315, PySem.Obj.mk (PySem.Value.type "tuple") Option.none (PySem.Data.seq #[]) #[]) ::
  (nat_lit 317, PySem.Obj.mk (PySem.Value.type "code") Option.none (PySem.Data.fields #[kS "_law_cell" 583, kS "_law_cell" 584, kS "/claim/cut.py" 585, PySem.Value.int 155 0, PySem.Value.int 2 0, PySem.Value.int 0 0, PySem.Value.int 0 0, PySem.Value.int 3 0, kR 312, PySem.Value.bool Bool.true, PySem.Value.int 181 0, kR 313, PySem.Value.none, kR 314, kR 315, kR 316, PySem.Value.int 590 0, PySem.Value.int 155 0, kS "/claim/cut.py" 591]) #[]) ::
  (nat_lit 318, PySem.Obj.mk (PySem.Value.type "function") Option.none (PySem.Data.func (PySem.FuncData.mk (kN "_law_cell") (kN "_law_cell") (defArgs (top 36)) (PySem.FuncBody.stmts (defBody (top 36))) (defScope (top 36)) 3 [] PySem.Value.none PySem.Value.none PySem.Value.none (kS "law_waithouse_k27_names_of_gaps" 581) Option.none (kR 317) PySem.Value.none 0)) #[]) ::
  (nat_lit 319, PySem.Obj.mk (PySem.Value.type "tuple") Option.none (PySem.Data.seq #[]) #[]) ::
  (nat_lit 321, PySem.Obj.mk (PySem.Value.type "tuple") Option.none (PySem.Data.seq #[kS "_law_found" 596]) #[]) ::
  (nat_lit 322, PySem.Obj.mk (PySem.Value.type "tuple") Option.none (PySem.Data.seq #[]) #[]) ::
  (nat_lit 324, PySem.Obj.mk (PySem.Value.type "code") Option.none (PySem.Data.fields #[kS "_law_whole" 593, kS "_law_whole" 594, kS "/claim/cut.py" 595, PySem.Value.int 163 0, PySem.Value.int 1 0, PySem.Value.int 0 0, PySem.Value.int 0 0, PySem.Value.int 3 0, kR 319, PySem.Value.bool Bool.true, PySem.Value.int 181 0, kR 320, PySem.Value.none, kR 321, kR 322, kR 323, PySem.Value.int 597 0, PySem.Value.int 163 0, kS "/claim/cut.py" 598]) #[]) ::
  (nat_lit 325, PySem.Obj.mk (PySem.Value.type "function") Option.none (PySem.Data.func (PySem.FuncData.mk (kN "_law_whole") (kN "_law_whole") (defArgs (top 37)) (PySem.FuncBody.stmts (defBody (top 37))) (defScope (top 37)) 3 [] PySem.Value.none PySem.Value.none PySem.Value.none (kS "law_waithouse_k27_names_of_gaps" 581) Option.none (kR 324) PySem.Value.none 0)) #[]) ::
  (nat_lit 326, PySem.Obj.mk (PySem.Value.type "tuple") Option.none (PySem.Data.seq #[]) #[]) ::
  (nat_lit 328, PySem.Obj.mk (PySem.Value.type "tuple") Option.none (PySem.Data.seq #[kS "_law_cell_here" 603, kS "_law_k" 604]) #[]) ::
  (nat_lit 329, PySem.Obj.mk (PySem.Value.type "tuple") Option.none (PySem.Data.seq #[]) #[]) ::
  (nat_lit 331, PySem.Obj.mk (PySem.Value.type "code") Option.none (PySem.Data.fields #[kS "_law_spread" 600, kS "_law_spread" 601, kS "/claim/cut.py" 602, PySem.Value.int 165 0, PySem.Value.int 2 0, PySem.Value.int 0 0, PySem.Value.int 0 0, PySem.Value.int 3 0, kR 326, PySem.Value.bool Bool.true, PySem.Value.int 181 0, kR 327, PySem.Value.none, kR 328, kR 329, kR 330, PySem.Value.int 605 0, PySem.Value.int 165 0, kS "/claim/cut.py" 606]) #[]) ::
  (nat_lit 332, PySem.Obj.mk (PySem.Value.type "function") Option.none (PySem.Data.func (PySem.FuncData.mk (kN "_law_spread") (kN "_law_spread") (defArgs (top 38)) (PySem.FuncBody.stmts (defBody (top 38))) (defScope (top 38)) 3 [] PySem.Value.none PySem.Value.none PySem.Value.none (kS "law_waithouse_k27_names_of_gaps" 581) Option.none (kR 331) PySem.Value.none 0)) #[]) ::
  (nat_lit 333, PySem.Obj.mk (PySem.Value.type "tuple") Option.none (PySem.Data.seq #[]) #[]) ::
  (nat_lit 335, PySem.Obj.mk (PySem.Value.type "tuple") Option.none (PySem.Data.seq #[kS "_law_cell_here" 611]) #[]) ::
  (nat_lit 336, PySem.Obj.mk (PySem.Value.type "tuple") Option.none (PySem.Data.seq #[]) #[]) ::
  (nat_lit 338, PySem.Obj.mk (PySem.Value.type "code") Option.none (PySem.Data.fields #[kS "_law_big" 608, kS "_law_big" 609, kS "/claim/cut.py" 610, PySem.Value.int 169 0, PySem.Value.int 1 0, PySem.Value.int 0 0, PySem.Value.int 0 0, PySem.Value.int 3 0, kR 333, PySem.Value.bool Bool.true, PySem.Value.int 181 0, kR 334, PySem.Value.none, kR 335, kR 336, kR 337, PySem.Value.int 612 0, PySem.Value.int 169 0, kS "/claim/cut.py" 613]) #[]) ::
  (nat_lit 339, PySem.Obj.mk (PySem.Value.type "function") Option.none (PySem.Data.func (PySem.FuncData.mk (kN "_law_big") (kN "_law_big") (defArgs (top 39)) (PySem.FuncBody.stmts (defBody (top 39))) (defScope (top 39)) 3 [] PySem.Value.none PySem.Value.none PySem.Value.none (kS "law_waithouse_k27_names_of_gaps" 581) Option.none (kR 338) PySem.Value.none 0)) #[]) ::
  (nat_lit 340, PySem.Obj.mk (PySem.Value.type "tuple") Option.none (PySem.Data.seq #[]) #[]) ::
  (nat_lit 343, PySem.Obj.mk (PySem.Value.type "code") Option.none (PySem.Data.fields #[kS "_law_names" 615, kS "_law_names" 616, kS "/claim/cut.py" 617, PySem.Value.int 173 0, PySem.Value.int 1 0, PySem.Value.int 0 0, PySem.Value.int 0 0, PySem.Value.int 3 0, kR 340, PySem.Value.bool Bool.true, PySem.Value.int 181 0, kR 341, PySem.Value.none, PySem.Value.none, PySem.Value.none, kR 342, PySem.Value.int 618 0, PySem.Value.int 173 0, kS "/claim/cut.py" 619]) #[]) ::
  (nat_lit 344, PySem.Obj.mk (PySem.Value.type "function") Option.none (PySem.Data.func (PySem.FuncData.mk (kN "_law_names") (kN "_law_names") (defArgs (top 40)) (PySem.FuncBody.stmts (defBody (top 40))) (defScope (top 40)) 3 [] PySem.Value.none PySem.Value.none PySem.Value.none (kS "law_waithouse_k27_names_of_gaps" 581) Option.none (kR 343) PySem.Value.none 0)) #[]) ::
  (nat_lit 345, PySem.Obj.mk (PySem.Value.type "tuple") Option.none (PySem.Data.seq #[]) #[]) ::
  (nat_lit 347, PySem.Obj.mk (PySem.Value.type "tuple") Option.none (PySem.Data.seq #[kS "_law_cell_here" 624, kS "_law_count" 625, kS "_law_least" 626, kS "_law_most" 627]) #[]) ::
  (nat_lit 348, PySem.Obj.mk (PySem.Value.type "tuple") Option.none (PySem.Data.seq #[]) #[]) ::
  (nat_lit 350, PySem.Obj.mk (PySem.Value.type "code") Option.none (PySem.Data.fields #[kS "_law_gap" 621, kS "_law_gap" 622, kS "/claim/cut.py" 623, PySem.Value.int 187 0, PySem.Value.int 2 0, PySem.Value.int 0 0, PySem.Value.int 0 0, PySem.Value.int 3 0, kR 345, PySem.Value.bool Bool.true, PySem.Value.int 181 0, kR 346, PySem.Value.none, kR 347, kR 348, kR 349, PySem.Value.int 628 0, PySem.Value.int 187 0, kS "/claim/cut.py" 629]) #[]) ::
  (nat_lit 351, PySem.Obj.mk (PySem.Value.type "function") Option.none (PySem.Data.func (PySem.FuncData.mk (kN "_law_gap") (kN "_law_gap") (defArgs (top 41)) (PySem.FuncBody.stmts (defBody (top 41))) (defScope (top 41)) 3 [] PySem.Value.none PySem.Value.none PySem.Value.none (kS "law_waithouse_k27_names_of_gaps" 581) Option.none (kR 350) PySem.Value.none 0)) #[]) ::
  (nat_lit 352, PySem.Obj.mk (PySem.Value.type "tuple") Option.none (PySem.Data.seq #[]) #[]) ::
  (nat_lit 354, PySem.Obj.mk (PySem.Value.type "tuple") Option.none (PySem.Data.seq #[kS "_law_house" 634, kS "_law_name" 635, kS "_law_gap_here" 636, kS "_law_a" 637, kS "_law_b" 638, kS "_law_least" 639, kS "_law_most" 640]) #[]) ::
  (nat_lit 355, PySem.Obj.mk (PySem.Value.type "tuple") Option.none (PySem.Data.seq #[]) #[]) ::
  (nat_lit 357, PySem.Obj.mk (PySem.Value.type "code") Option.none (PySem.Data.fields #[kS "_law_added" 631, kS "_law_added" 632, kS "/claim/cut.py" 633, PySem.Value.int 195 0, PySem.Value.int 3 0, PySem.Value.int 0 0, PySem.Value.int 0 0, PySem.Value.int 3 0, kR 352, PySem.Value.bool Bool.true, PySem.Value.int 181 0, kR 353, PySem.Value.none, kR 354, kR 355, kR 356, PySem.Value.int 641 0, PySem.Value.int 195 0, kS "/claim/cut.py" 642]) #[]) ::
  (nat_lit 358, PySem.Obj.mk (PySem.Value.type "function") Option.none (PySem.Data.func (PySem.FuncData.mk (kN "_law_added") (kN "_law_added") (defArgs (top 42)) (PySem.FuncBody.stmts (defBody (top 42))) (defScope (top 42)) 3 [] PySem.Value.none PySem.Value.none PySem.Value.none (kS "law_waithouse_k27_names_of_gaps" 581) Option.none (kR 357) PySem.Value.none 0)) #[]) ::
  (nat_lit 359, PySem.Obj.mk (PySem.Value.type "tuple") Option.none (PySem.Data.seq #[]) #[]) ::
  (nat_lit 361, PySem.Obj.mk (PySem.Value.type "tuple") Option.none (PySem.Data.seq #[kS "_law_house" 647, kS "_law_kind" 648, kS "_law_name" 649, kS "_law_gap_here" 650]) #[]) ::
  (nat_lit 362, PySem.Obj.mk (PySem.Value.type "tuple") Option.none (PySem.Data.seq #[]) #[]) ::
  (nat_lit 364, PySem.Obj.mk (PySem.Value.type "code") Option.none (PySem.Data.fields #[kS "_law_deed" 644, kS "_law_deed" 645, kS "/claim/cut.py" 646, PySem.Value.int 205 0, PySem.Value.int 4 0, PySem.Value.int 0 0, PySem.Value.int 0 0, PySem.Value.int 3 0, kR 359, PySem.Value.bool Bool.true, PySem.Value.int 181 0, kR 360, PySem.Value.none, kR 361, kR 362, kR 363, PySem.Value.int 651 0, PySem.Value.int 205 0, kS "/claim/cut.py" 652]) #[]) ::
  (nat_lit 365, PySem.Obj.mk (PySem.Value.type "function") Option.none (PySem.Data.func (PySem.FuncData.mk (kN "_law_deed") (kN "_law_deed") (defArgs (top 43)) (PySem.FuncBody.stmts (defBody (top 43))) (defScope (top 43)) 3 [] PySem.Value.none PySem.Value.none PySem.Value.none (kS "law_waithouse_k27_names_of_gaps" 581) Option.none (kR 364) PySem.Value.none 0)) #[]) ::
  (nat_lit 366, PySem.Obj.mk (PySem.Value.type "tuple") Option.none (PySem.Data.seq #[]) #[]) ::
  (nat_lit 368, PySem.Obj.mk (PySem.Value.type "tuple") Option.none (PySem.Data.seq #[kS "_law_house" 657, kS "_law_kind" 658, kS "_law_name" 659, kS "_law_gap_here" 660, kS "e" 661]) #[]) ::
  (nat_lit 369, PySem.Obj.mk (PySem.Value.type "tuple") Option.none (PySem.Data.seq #[]) #[]) ::
  (nat_lit 371, PySem.Obj.mk (PySem.Value.type "code") Option.none (PySem.Data.fields #[kS "_law_refused" 654, kS "_law_refused" 655, kS "/claim/cut.py" 656, PySem.Value.int 214 0, PySem.Value.int 4 0, PySem.Value.int 0 0, PySem.Value.int 0 0, PySem.Value.int 3 0, kR 366, PySem.Value.bool Bool.true, PySem.Value.int 181 0, kR 367, PySem.Value.none, kR 368, kR 369, kR 370, PySem.Value.int 662 0, PySem.Value.int 214 0, kS "/claim/cut.py" 663]) #[]) ::
  (nat_lit 372, PySem.Obj.mk (PySem.Value.type "function") Option.none (PySem.Data.func (PySem.FuncData.mk (kN "_law_refused") (kN "_law_refused") (defArgs (top 44)) (PySem.FuncBody.stmts (defBody (top 44))) (defScope (top 44)) 3 [] PySem.Value.none PySem.Value.none PySem.Value.none (kS "law_waithouse_k27_names_of_gaps" 581) Option.none (kR 371) PySem.Value.none 0)) #[]) ::
  (nat_lit 373, PySem.Obj.mk (PySem.Value.type "tuple") Option.none (PySem.Data.seq #[]) #[]) ::
  (nat_lit 375, PySem.Obj.mk (PySem.Value.type "tuple") Option.none (PySem.Data.seq #[kS "_law_house" 668, kS "_law_due" 669, kS "_law_names_here" 670, kS "_law_name" 671, kS "_law_found" 672, kS "_law_part" 673]) #[]) ::
  (nat_lit 376, PySem.Obj.mk (PySem.Value.type "tuple") Option.none (PySem.Data.seq #[]) #[]) ::
  (nat_lit 378, PySem.Obj.mk (PySem.Value.type "code") Option.none (PySem.Data.fields #[kS "_law_right" 665, kS "_law_right" 666, kS "/claim/cut.py" 667, PySem.Value.int 222 0, PySem.Value.int 2 0, PySem.Value.int 0 0, PySem.Value.int 0 0, PySem.Value.int 3 0, kR 373, PySem.Value.bool Bool.true, PySem.Value.int 181 0, kR 374, PySem.Value.none, kR 375, kR 376, kR 377, PySem.Value.int 674 0, PySem.Value.int 222 0, kS "/claim/cut.py" 675]) #[]) ::
  (nat_lit 379, PySem.Obj.mk (PySem.Value.type "function") Option.none (PySem.Data.func (PySem.FuncData.mk (kN "_law_right") (kN "_law_right") (defArgs (top 45)) (PySem.FuncBody.stmts (defBody (top 45))) (defScope (top 45)) 3 [] PySem.Value.none PySem.Value.none PySem.Value.none (kS "law_waithouse_k27_names_of_gaps" 581) Option.none (kR 378) PySem.Value.none 0)) #[]) ::
  (nat_lit 380, PySem.Obj.mk (PySem.Value.type "tuple") Option.none (PySem.Data.seq #[]) #[]) ::
  (nat_lit 383, PySem.Obj.mk (PySem.Value.type "code") Option.none (PySem.Data.fields #[kS "law" 677, kS "law" 678, kS "/claim/cut.py" 679, PySem.Value.int 236 0, PySem.Value.int 1 0, PySem.Value.int 0 0, PySem.Value.int 0 0, PySem.Value.int 3 0, kR 380, PySem.Value.bool Bool.true, PySem.Value.int 181 0, kR 381, PySem.Value.none, PySem.Value.none, PySem.Value.none, kR 382, PySem.Value.int 680 0, PySem.Value.int 236 0, kS "/claim/cut.py" 681]) #[]) ::
  (nat_lit 384, PySem.Obj.mk (PySem.Value.type "function") Option.none (PySem.Data.func (PySem.FuncData.mk (kN "law") (kN "law") (defArgs (top 46)) (PySem.FuncBody.stmts (defBody (top 46))) (defScope (top 46)) 3 [] PySem.Value.none PySem.Value.none PySem.Value.none (kS "law_waithouse_k27_names_of_gaps" 581) Option.none (kR 383) PySem.Value.none 0)) #[]) :: []
def KA : List Addr := [2, 3, 15, 22, 23, 24, 25, 28, 35, 36, 37, 40, 47, 48, 49, 52, 59, 60, 61, 64, 71, 72, 73, 76, 83, 85, 86, 88, 89, 90, 91, 92, 95, 102, 103, 104, 107, 109, 110, 112, 113, 114, 117, 118, 119, 122, 123, 124, 126, 127, 129, 130, 131, 134, 135, 136, 138, 139, 141, 142, 143, 146, 147, 148, 150, 151, 153, 154, 155, 157, 158, 160, 161, 162, 164, 165, 167, 168, 169, 171, 172, 174, 175, 176, 179, 180, 181, 184, 185, 186, 189, 190, 191, 194, 195, 196, 198, 199, 201, 202, 210, 212, 213, 215, 216, 217, 218, 220, 221, 223, 224, 225, 227, 228, 230, 231, 232, 234, 235, 237, 238, 239, 241, 242, 244, 245, 246, 248, 249, 251, 252, 253, 255, 256, 258, 259, 260, 262, 263, 265, 266, 267, 269, 270, 272, 273, 274, 276, 277, 279, 280, 281, 282, 283, 284, 285, 288, 290, 291, 293, 294, 295, 298, 299, 300, 302, 303, 305, 306, 307, 310, 311, 312, 314, 315, 317, 318, 319, 321, 322, 324, 325, 326, 328, 329, 331, 332, 333, 335, 336, 338, 339, 340, 343, 344, 345, 347, 348, 350, 351, 352, 354, 355, 357, 358, 359, 361, 362, 364, 365, 366, 368, 369, 371, 372, 373, 375, 376, 378, 379, 380, 383, 384]
theorem KA_eq : ∀ P, KA = (KF P).map (·.1) := fun _ => by kernel_rfl
def QV : Program := { PySem.Challenge.pw_waithouse_k27_names_of_gaps with main := { PySem.Challenge.pw_waithouse_k27_names_of_gaps.main with body := [top 1, top 2, top 3, top 4, top 5, top 6, top 7, top 9, top 11, top 12, top 13, top 14, top 15, top 16, top 17, top 18, top 20, top 21, top 22, top 23, top 24, top 25, top 26, top 27, top 28, top 30, top 31, top 32, top 33, top 34, top 36, top 37, top 38, top 39, top 40, top 41, top 42, top 43, top 44, top 45, top 46] } }
lay_quick PySem.W.openEnds PySem.Challenge.pw_waithouse_k27_names_of_gaps
set_option maxHeartbeats 0 in
theorem left : LeftO PySem.Challenge.pw_waithouse_k27_names_of_gaps QV ["ring_rings", "chain_rings"] (fun s => xlAt QV [] s && recOk (RowW.records (OpenRow.toRowW (OpenLaw.row PySem.Challenge.rw_waithouse_k27_names_of_gaps))) s) (Hook.obs (kHook KF KA KA_eq)) (Hook.val (kHook KF KA KA_eq)) 6120 := by
  intro w
  rw [PySem.W.Fast.te15552708684749139287, PySem.W.Fast.te14364793385576792824, PySem.W.Fast.te8551494872276600361]
  kernel_rfl
end Hd

set_option Elab.async false
set_option linter.all false
set_option maxRecDepth 100000
/-! THE HAND LAYER, for ints, bools, texts, own classes, LISTS and tuples (index, slices, in, append, pop ..), calls, loops. Paste it whole ahead of your own text; what your proof does not reach may be deleted. -/
namespace L2
open PySem PySem.Spec PyProof.Rows

/-- a key: an int or a str -/
abbrev Key := Sum Int Str
def keyIs : Key → Value → Bool
  | .inl k, v => Value.isInt k v
  | .inr x, v => Value.isStrOf x v
def keyH (w : World) : Key → Int
  | .inl k => hashInt k
  | .inr x => hashStr w x
theorem keyIs_shape : ∀ {k : Key} {v : Value}, keyIs k v = true → (∃ i t, k = Sum.inl i ∧ v = Value.int i t) ∨ (∃ x t, k = Sum.inr x ∧ v = Value.str x t)
  | .inl i, v, h => by
    obtain ⟨t, e⟩ := Value.isInt_shape (k := i) (v := v) h
    exact .inl ⟨i, t, rfl, e⟩
  | .inr x, v, h => by
    obtain ⟨t, e⟩ := Value.isStrOf_shape (x := x) (v := v) h
    exact .inr ⟨x, t, rfl, e⟩
theorem keyIs_int (i : Int) (t : Tok) : keyIs (.inl i) (.int i t) = true := by simp [keyIs, Value.isInt]
theorem keyIs_str (x : Str) (t : Tok) : keyIs (.inr x) (.str x t) = true := by simp [keyIs, Value.isStrOf]
theorem key_ll (a b : Int) : decide ((Sum.inl a : Key) = Sum.inl b) = (a == b) := by
  by_cases e : a = b
  · subst e; simp
  · have h : ¬ (Sum.inl a : Key) = Sum.inl b := fun q => e (Sum.inl.inj q)
    rw [decide_eq_false h]
    exact (beq_eq_false_iff_ne.mpr e).symm
theorem key_rr (a b : Str) : decide ((Sum.inr a : Key) = Sum.inr b) = decide (a = b) := by
  by_cases e : a = b
  · subst e; simp
  · have h : ¬ (Sum.inr a : Key) = Sum.inr b := fun q => e (Sum.inr.inj q)
    rw [decide_eq_false h, decide_eq_false e]
theorem key_lr (a : Int) (b : Str) : decide ((Sum.inl a : Key) = Sum.inr b) = false := decide_eq_false (fun q => nomatch q)
theorem key_rl (a : Str) (b : Int) : decide ((Sum.inr a : Key) = Sum.inl b) = false := decide_eq_false (fun q => nomatch q)

def mixKind (prog : Program) (w : World) : PySem.KeyKind prog w Key where
  is := keyIs
  hash := keyH w
  inj := fun v a b ha hb => by
    rcases keyIs_shape ha with ⟨i, t, rfl, rfl⟩ | ⟨x, t, rfl, rfl⟩
    · rcases keyIs_shape hb with ⟨j, u, rfl, e⟩ | ⟨y, u, rfl, e⟩
      · injection e with e1 _; rw [e1]
      · exact nomatch e
    · rcases keyIs_shape hb with ⟨j, u, rfl, e⟩ | ⟨y, u, rfl, e⟩
      · exact nomatch e
      · injection e with e1 _; rw [e1]
  byValue := fun k v h => by
    rcases keyIs_shape h with ⟨i, t, rfl, rfl⟩ | ⟨x, t, rfl, rfl⟩ <;> rfl
  pyHash := fun hv h => by
    rcases keyIs_shape hv with ⟨i, t, rfl, rfl⟩ | ⟨x, t, rfl, rfl⟩
    · exact wpAny_pyHash_int h
    · exact wpAny_pyHash_str h
  eqBool := fun hu hv h => by
    rcases keyIs_shape hu with ⟨i, t, rfl, rfl⟩ | ⟨x, t, rfl, rfl⟩
    · rcases keyIs_shape hv with ⟨j, u, rfl, rfl⟩ | ⟨y, u, rfl, rfl⟩
      · rw [key_ll] at h; exact wpAny_eqBool_int h
      · rw [key_lr] at h; exact SeqAt.EqAt.int_str i t y u _ _ _ _ h
    · rcases keyIs_shape hv with ⟨j, u, rfl, rfl⟩ | ⟨y, u, rfl, rfl⟩
      · rw [key_rl] at h; exact SeqAt.EqAt.str_int x t j u _ _ _ _ h
      · rw [key_rr] at h; exact wpAny_eqBool_str h
  «strs» := fun k x t v h => by
    rcases keyIs_shape h with ⟨i, u, rfl, e⟩ | ⟨y, u, rfl, e⟩
    · exact nomatch e
    · injection e with e1 _
      subst e1
      cases v <;> rfl

theorem mixKind_is (prog : Program) (w : World) (k : Key) (v : Value) : (mixKind prog w).is k v = keyIs k v := rfl
theorem mixKind_int (prog : Program) (w : World) (i : Int) (t : Tok) : (mixKind prog w).is (.inl i) (.int i t) = true := keyIs_int i t
theorem mixKind_str (prog : Program) (w : World) (x : Str) (t : Tok) : (mixKind prog w).is (.inr x) (.str x t) = true := keyIs_str x t
end L2

namespace L2
open PySem PySem.Spec PyProof.Rows

/-- a value, without the heap -/
inductive V where
  | non | bl (b : Bool) | int (i : Int) | str (x : Str) | byt (b : Array UInt8) | flt (b : UInt64) | ref (a : Addr) | ty (n : String)
  deriving DecidableEq

def RelV : V → Value → Prop
  | .non, u => u = Value.none
  | .bl b, u => u = Value.bool b
  | .int i, u => ∃ t, u = Value.int i t
  | .str x, u => ∃ t, u = Value.str x t
  | .byt b, u => ∃ t, u = Value.bytes b t
  | .flt b, u => ∃ t, u = Value.float b t
  | .ref a, u => u = Value.ref a
  | .ty n, u => u = Value.type n

abbrev Vals : List V → List Value → Prop := Paired RelV
theorem Vals.length {xs : List V} {us : List Value} (r : Vals xs us) : xs.length = us.length := Paired.length r
theorem Vals.get : ∀ {xs : List V} {us : List Value} {i : Nat} {x : V}, Vals xs us → xs[i]? = some x → ∃ u, us[i]? = some u ∧ RelV x u
  | _, _, _, _, .nil, e => by simp at e
  | _, _, 0, _, .cons r _, e => by simp at e; subst e; exact ⟨_, rfl, r⟩
  | _, _, i + 1, x, .cons _ t, e => by
    obtain ⟨u, h1, h2⟩ := Vals.get (i := i) (x := x) t (by simpa using e)
    exact ⟨u, by simpa using h1, h2⟩
theorem Vals.append : ∀ {xs ys : List V} {us ws : List Value}, Vals xs us → Vals ys ws → Vals (xs ++ ys) (us ++ ws)
  | _, _, _, _, .nil, s => s
  | _, _, _, _, .cons r t, s => .cons r (Vals.append t s)
theorem Vals.take : ∀ {xs : List V} {us : List Value} (n : Nat), Vals xs us → Vals (xs.take n) (us.take n)
  | _, _, 0, _ => .nil
  | _, _, _ + 1, .nil => .nil
  | _, _, n + 1, .cons r t => .cons r (Vals.take n t)
theorem Vals.drop : ∀ {xs : List V} {us : List Value} (n : Nat), Vals xs us → Vals (xs.drop n) (us.drop n)
  | _, _, 0, r => r
  | _, _, _ + 1, .nil => .nil
  | _, _, n + 1, .cons _ t => Vals.drop n t
def RelO : Option V → Option Value → Prop
  | some v, some u => RelV v u
  | none, none => True
  | _, _ => False
def KV {κ : Type} : List (κ × V) → List (κ × Value) → Prop := Paired fun (p : κ × V) (q : κ × Value) => p.1 = q.1 ∧ RelV p.2 q.2

/-- a key of a dict (00_mix): an int or a text -/
def kV : Key → V
  | .inl i => .int i
  | .inr x => .str x

/-- what stands at a tracked address -/
inductive HO where
  /-- a list -/
  | lst (xs : List V)
  /-- a tuple (never changes) -/
  | tup (xs : List V)
  /-- a dict whose keys are ints and texts; one whose keys are tuples of ints and texts (the empty one is both) -/
  | dK (kvs : List (Key × V)) | dT (kvs : List (List Key × V))
  /-- a set of ints: its members, its size -/
  | set (S : Int → Bool) (n : Nat)
  /-- an instance of the class at C, its dict at dx, its attributes -/
  | ins (C dx : Addr) (fs : List (Str × V))
  /-- the dict of the instance at x -/
  | own (x : Addr)
  /-- the dict of an exception -/
  | xd (fs : List (Str × V))
  /-- a bound method, f of x -/
  | met (f x : Addr)
  /-- a range object lo, lo + 1, .. below hi -/
  | rng (lo hi : Int)
  /-- a thing that is known to the object (the script; a dict while a loop walks it): read, never written while it is so -/
  | frz (o : Obj) (u : HO)
  /-- a code object's table -/
  | tbl (ps : Array Value)
  /-- any other thing, by what is true of its one object (a def of one's own: SetO a S n := HO.ext fun h => ..) -/
  | ext (φ : Heap → Prop)

abbrev Hp := Addr → Option HO
def upd (H : Hp) (a : Addr) (o : HO) : Hp := fun b => if b = a then some o else H b
theorem upd_same {H : Hp} {a : Addr} {o : HO} : upd H a o a = some o := by unfold upd; rw [if_pos rfl]
theorem upd_ne {H : Hp} {a b : Addr} {o : HO} (h : b ≠ a) : upd H a o b = H b := by unfold upd; rw [if_neg h]
/-- two objects of different content stand apart -/
theorem ne_of {H : Hp} {a b : Addr} {o u : HO} (h : H a = some o) (h' : H b = some u) (d : o ≠ u) : a ≠ b := by
  intro e; subst e; rw [h] at h'; exact d (Option.some.inj h')
theorem ne_of_none {H : Hp} {a b : Addr} {o : HO} (h : H a = some o) (h' : H b = none) : a ≠ b := by
  intro e; subst e; rw [h] at h'; cases h'

section
variable (P : Program) (w : World)
def ObjOk (H : Hp) (h : Heap) (a : Addr) : HO → Prop
  | .lst xs => xs.length ≤ sizeLine ∧ ∃ (its : List Value) (n : Nat), Vals xs its ∧ h.get? a = some { cls := .type "list", data := .seq its.toArray n }
  | .tup xs => xs.length ≤ sizeLine ∧ ∃ its : List Value, Vals xs its ∧ IsTup h a its.toArray
  | .dK kvs => kvs.length ≤ sizeLine ∧ (a == sysModules) = false ∧ ∃ vs, KV kvs vs ∧ h.DictOf (mixKind P w) a vs
  | .dT kvs => kvs.length ≤ sizeLine ∧ (a == sysModules) = false ∧ ∃ xs : List (List Key × Addr × Value),
      Paired (fun (p : List Key × V) (q : List Key × Addr × Value) => p.1 = q.1 ∧ H q.2.1 = some (.tup (p.1.map kV)) ∧ RelV p.2 q.2.2) kvs xs ∧
      ∃ o es ep, h.get? a = some o ∧ o.ExactDict ∧ o.data = .dict es ep ∧ es.toList = xs.map (entryOfKey (tupleKind (mixKind P w))) ∧ (xs.map (·.1)).Nodup
  | .set S n => h.SetOf (intKind P w) a S n
  | .ins C dx fs => H dx = some (.own a) ∧ fs.length ≤ 1000 ∧ dx ≠ a ∧ h.get? a = some (PySem.W.instObj C dx) ∧
      ∃ mA, h.Ns1 dx mA ∧ (∀ f, RelO (fs.lookup f) (mA f)) ∧ PySem.Within mA (fs.map (·.1))
  | .own _ => ∃ o, h.get? a = some o
  | .xd fs => ∃ mA, h.Ns1 a mA ∧ ∀ f, RelO (fs.lookup f) (mA f)
  | .rng lo hi => ∃ t u v, h.get? a = some { cls := .type "range", data := .fields #[.int lo t, .int hi u, .int 1 v] }
  | .frz o u => h.get? a = some o ∧ ObjOk H h a u
  | .tbl ps => h.get? a = some { cls := .none, data := .fields ps }
  | .met f x => h.get? a = some (PySem.W.methodObj (.ref f) (.ref x))
  | .ext φ => φ h ∧ (∃ o, h.get? a = some o) ∧ ∀ h1 h2 : Heap, φ h1 → (∀ o, h1.get? a = some o → h2.get? a = some o) → φ h2
/-- the abstract heap is held -/
def HOk (H : Hp) (h : Heap) : Prop := ∀ a o, H a = some o → ObjOk P w H h a o
end

section
variable {P : Program} {w : World} {H H' : Hp} {h h' : Heap} {a : Addr} {o : HO}
theorem ObjOk.lt (x : ObjOk P w H h a o) : a < h.objs.size := by
  cases o with
  | lst xs => obtain ⟨_, _, _, _, e⟩ := x; exact Heap.lt_size e
  | tup xs => obtain ⟨_, _, _, p⟩ := x; exact p.lt
  | dK kvs => obtain ⟨_, _, _, _, o, _, _, e, _⟩ := x; exact Heap.lt_size e
  | dT kvs => obtain ⟨_, _, _, _, o, _, _, e, _⟩ := x; exact Heap.lt_size e
  | set S n => obtain ⟨o, _, _, _, e, _⟩ := x; exact Heap.lt_size e
  | ins C dx fs => obtain ⟨_, _, _, e, _⟩ := x; exact Heap.lt_size e
  | own y => obtain ⟨_, e⟩ := x; exact Heap.lt_size e
  | xd fs => obtain ⟨_, ⟨_, _, _, e, _⟩, _⟩ := x; exact Heap.lt_size e
  | rng lo hi => obtain ⟨_, _, _, e⟩ := x; exact Heap.lt_size e
  | frz ob u => obtain ⟨e, _⟩ := x; exact Heap.lt_size e
  | tbl ps => exact Heap.lt_size (show h.get? a = some _ from x)
  | met f y => exact Heap.lt_size (show h.get? a = some _ from x)
  | ext φ => obtain ⟨_, ⟨_, e⟩, _⟩ := x; exact Heap.lt_size e
theorem Paired.mapP {α β : Type} {F G : α → β → Prop} : ∀ {l₁ : List α} {l₂ : List β}, Paired F l₁ l₂ → (∀ a b, F a b → G a b) → Paired G l₁ l₂
  | _, _, .nil, _ => .nil
  | _, _, .cons r t, f => .cons (f _ _ r) (Paired.mapP t f)
/-- what an object's description leans on: its own object, its own dict, the tuples -/
theorem ObjOk.stay (x : ObjOk P w H h a o) (k : ∀ b u, (b = a ∨ H b = some (.own a)) → h.get? b = some u → h'.get? b = some u)
    (ho : ∀ b, H b = some (.own a) → H' b = some (.own a)) (ht : ∀ b xs, H b = some (.tup xs) → H' b = some (.tup xs)) : ObjOk P w H' h' a o := by
  induction o with
  | lst xs => obtain ⟨z, its, n, r, e⟩ := x; exact ⟨z, its, n, r, k _ _ (.inl rfl) e⟩
  | tup xs => obtain ⟨z, its, r, ob, e, c⟩ := x; exact ⟨z, its, r, ob, k _ _ (.inl rfl) e, c⟩
  | dK kvs => obtain ⟨z, y, vs, r, ob, es, ep, e, c⟩ := x; exact ⟨z, y, vs, r, ob, es, ep, k _ _ (.inl rfl) e, c⟩
  | dT kvs =>
    obtain ⟨z, y, xs, r, ob, es, ep, e, c⟩ := x
    exact ⟨z, y, xs, Paired.mapP r fun p q z => ⟨z.1, ht _ _ z.2.1, z.2.2⟩, ob, es, ep, k _ _ (.inl rfl) e, c⟩
  | set S n => obtain ⟨ob, es, ep, t, e, c⟩ := x; exact ⟨ob, es, ep, t, k _ _ (.inl rfl) e, c⟩
  | ins C dx fs =>
    obtain ⟨d, z, ne, e, mA, ⟨od, es, ep, e2, c⟩, r⟩ := x
    exact ⟨ho _ d, z, ne, k _ _ (.inl rfl) e, mA, ⟨od, es, ep, k _ _ (.inr d) e2, c⟩, r⟩
  | own y => obtain ⟨ob, e⟩ := x; exact ⟨ob, k _ _ (.inl rfl) e⟩
  | xd fs => obtain ⟨mA, ⟨od, es, ep, e, c⟩, r⟩ := x; exact ⟨mA, ⟨od, es, ep, k _ _ (.inl rfl) e, c⟩, r⟩
  | rng lo hi => obtain ⟨t, u, v, e⟩ := x; exact ⟨t, u, v, k _ _ (.inl rfl) e⟩
  | frz ob u ih => obtain ⟨e, q⟩ := x; exact ⟨k _ _ (.inl rfl) e, ih q⟩
  | tbl ps =>
    have e : h.get? a = some { cls := .none, data := .fields ps } := x
    show h'.get? a = some { cls := .none, data := .fields ps }
    exact k a _ (.inl rfl) e
  | met f y =>
    have e : h.get? a = some (PySem.W.methodObj (.ref f) (.ref y)) := x
    show h'.get? a = some (PySem.W.methodObj (.ref f) (.ref y))
    exact k a _ (.inl rfl) e
  | ext φ => obtain ⟨p, ⟨o, e⟩, st⟩ := x; exact ⟨st _ _ p fun o q => k _ _ (.inl rfl) q, ⟨o, k _ _ (.inl rfl) e⟩, st⟩
theorem HOk.lt (x : HOk P w H h) (e : H a = some o) : a < h.objs.size := (x a o e).lt
theorem HOk.fresh (x : HOk P w H h) (e : h.objs.size ≤ a) : H a = none := by
  cases q : H a with
  | none => rfl
  | some u => exact absurd (Nat.lt_of_lt_of_le (x.lt q) e) (Nat.lt_irrefl _)
/-- every object of the heap is kept -/
theorem HOk.kept (x : HOk P w H h) (k : ∀ b u, h.get? b = some u → h'.get? b = some u) : HOk P w H h' := fun a o e =>
  (x a o e).stay (fun b u _ q => k b u q) (fun _ q => q) fun _ _ q => q
/-- a new object is laid and tracked -/
theorem HOk.laid (x : HOk P w H h) (k : ∀ b u, h.get? b = some u → h'.get? b = some u) (hp : h.objs.size ≤ a) (new : ObjOk P w (upd H a o) h' a o) : HOk P w (upd H a o) h' := fun b u e => by
  have hn := x.fresh hp
  by_cases hb : b = a
  · subst hb; rw [upd_same] at e; cases e; exact new
  · rw [upd_ne hb] at e
    exact (x b u e).stay (fun c v _ q => k c v q) (fun c q => by rw [upd_ne (ne_of_none q hn)]; exact q) fun c xs q => by rw [upd_ne (ne_of_none q hn)]; exact q
end

/-- what may be read as u: it is u, or a known u -/
def Rd (H : Hp) (a : Addr) (u : HO) : Prop := H a = some u ∨ ∃ o, H a = some (.frz o u)
theorem Rd.ok {P : Program} {w : World} {H : Hp} {h : Heap} {a : Addr} {u : HO} (r : Rd H a u) (x : HOk P w H h) : ObjOk P w H h a u := by
  rcases r with r | ⟨o, r⟩
  · exact x a u r
  · obtain ⟨_, q⟩ := x a _ r
    exact q
/-- what may be written -/
def Mut : Option HO → Prop
  | some (.lst _) => True
  | some (.dK _) => True
  | some (.dT _) => True
  | some (.set _ _) => True
  | some (.ins _ _ _) => True
  | some (.ext _) => True
  | _ => False
section
variable {P : Program} {w : World} {H : Hp} {h h' : Heap} {x e : Addr} {o' : HO}
/-- the object at e is changed: x itself, or the dict of the instance x -/
theorem HOk.write (ok : HOk P w H h) (mu : Mut (H x)) (he : e = x ∨ H e = some (.own x)) (k : ∀ b u, b ≠ e → h.get? b = some u → h'.get? b = some u) (heo : ∃ u, h'.get? e = some u)
    (new : ObjOk P w (upd H x o') h' x o') : HOk P w (upd H x o') h' := fun b u q => by
  have nown : ∀ c y, H c = some (.own y) → c ≠ x := fun c y r z => by subst z; rw [r] at mu; exact mu
  have ntup : ∀ c xs, H c = some (.tup xs) → c ≠ x := fun c xs r z => by subst z; rw [r] at mu; exact mu
  by_cases hb : b = x
  · subst hb; rw [upd_same] at q; cases q; exact new
  · rw [upd_ne hb] at q
    by_cases hbe : b = e
    · have q' : H b = some (.own x) := by
        rcases he with z | z
        · exact absurd (hbe.trans z) hb
        · rw [hbe]; exact z
      rw [q] at q'; cases q'
      obtain ⟨v, hv⟩ := heo
      exact ⟨v, by rw [hbe]; exact hv⟩
    · refine (ok b u q).stay (fun c v hc r => k c v ?_ r) (fun c r => by rw [upd_ne (nown c b r)]; exact r) fun c xs r => by rw [upd_ne (ntup c xs r)]; exact r
      rcases hc with rfl | hc
      · exact hbe
      · rintro rfl
        rcases he with z | z
        · exact nown c b hc z
        · rw [hc] at z; cases z; exact hb rfl
end

/-! ### kept unless tracked; of the frames at fs (the callers') the slots may change (an exception that passes writes there); of the records at ex (iterators) nothing is said -/
structure Un (fs ex : List Addr) (H H' : Hp) (h h' : Heap) : Prop where
  keep : ∀ b o, h.get? b = some o → H b = none → b ∉ fs → b ∉ ex → h'.get? b = some o
  slot : ∀ b o, h.get? b = some o → H b = none → b ∈ fs → b ∉ ex → ∃ sl, h'.get? b = some { o with slots := sl }
  free : ∀ b o, h.get? b = some o → H b = none → b ∉ ex → H' b = none
  there : ∀ b o, h.get? b = some o → b ∉ ex → ∃ o', h'.get? b = some o'
  tups : ∀ b xs, H b = some (.tup xs) → H' b = some (.tup xs)
  frzs : ∀ b o u, H b = some (.frz o u) → H' b = some (.frz o u)
  tbls : ∀ b ps, H b = some (.tbl ps) → ∃ more, H' b = some (.tbl (ps ++ more))
section
variable {fs fs' ex ex' : List Addr} {H H1 H2 : Hp} {h h1 h2 h' : Heap} {a x e : Addr} {o : HO}
theorem Un.any (u : Un fs ex H H1 h h1) {b : Addr} {ob : Obj} (q : h.get? b = some ob) (n : H b = none) (hx : b ∉ ex) : ∃ sl, h1.get? b = some { ob with slots := sl } := by
  by_cases hb : b ∈ fs
  · exact u.slot b ob q n hb hx
  · exact ⟨ob.slots, u.keep b ob q n hb hx⟩
theorem Un.kept (k : ∀ b u, h.get? b = some u → h'.get? b = some u) : Un fs ex H H h h' :=
  ⟨fun b ob q _ _ _ => k b ob q, fun b ob q _ _ _ => ⟨ob.slots, k b ob q⟩, fun _ _ _ n _ => n, fun b ob q _ => ⟨ob, k b ob q⟩, fun _ _ q => q, fun _ _ _ q => q, fun _ ps q => ⟨#[], by rw [q]; simp⟩⟩
theorem Un.refl : Un fs ex H H h h := Un.kept fun _ _ q => q
theorem Un.laid (k : ∀ b u, h.get? b = some u → h'.get? b = some u) (hp : h.objs.size ≤ a) (hn : H a = none) : Un fs ex H (upd H a o) h h' where
  keep := fun b u q _ _ _ => k b u q
  slot := fun b u q _ _ _ => ⟨u.slots, k b u q⟩
  free := fun b u q n _ => by rw [upd_ne (Nat.ne_of_lt (Nat.lt_of_lt_of_le (Heap.lt_size q) hp))]; exact n
  there := fun b u q _ => ⟨u, k b u q⟩
  tups := fun b xs q => by rw [upd_ne (ne_of_none q hn)]; exact q
  frzs := fun b u xs q => by rw [upd_ne (ne_of_none q hn)]; exact q
  tbls := fun b ps q => ⟨#[], by rw [upd_ne (ne_of_none q hn), q]; simp⟩
theorem Un.write (mu : Mut (H x)) (he : e = x ∨ H e = some (.own x)) (k : ∀ b u, b ≠ e → h.get? b = some u → h'.get? b = some u) (heo : ∃ u, h'.get? e = some u) : Un fs ex H (upd H x o) h h' := by
  have hx : ∀ b, H b = none → b ≠ x := fun b n z => by subst z; rw [n] at mu; exact mu
  have hb : ∀ b, H b = none → b ≠ e := fun b n z => by
    subst z
    rcases he with r | r
    · exact hx b n r
    · rw [n] at r; cases r
  have hm : ∀ b u, H b = some u → ¬ Mut (some u) → b ≠ x := fun b u q nm z => by subst z; rw [q] at mu; exact nm mu
  refine ⟨fun b u q n _ _ => k b u (hb b n) q, fun b u q n _ _ => ⟨u.slots, k b u (hb b n) q⟩, fun b u q n _ => by rw [upd_ne (hx b n)]; exact n, fun b u q _ => ?_,
    fun b xs q => by rw [upd_ne (hm b _ q fun z => z)]; exact q, fun b u xs q => by rw [upd_ne (hm b _ q fun z => z)]; exact q, fun b ps q => ⟨#[], by rw [upd_ne (hm b _ q fun z => z), q]; simp⟩⟩
  by_cases hbe : b = e
  · subst hbe; exact heo
  · exact ⟨u, k b u hbe q⟩
end

/-! ### the heap without what is tracked -/
def trk (h : Heap) (H : Hp) : List Addr := (List.range h.objs.size).filter fun a => (H a).isSome
def hidT (h : Heap) (H : Hp) : Heap := PySem.W.hideAll h (trk h H)
theorem hidT_size (h : Heap) (H : Hp) : (hidT h H).objs.size = h.objs.size := PySem.W.hideAll_size _ _
theorem hidT_get {h : Heap} {H : Hp} {b : Addr} {o : Obj} (e : h.get? b = some o) (n : H b = none) : (hidT h H).get? b = some o :=
  PySem.W.hideAll_get _ e fun hm => by
    have q : (H b).isSome = true := (List.mem_filter.mp hm).2
    rw [n] at q; simp at q
theorem of_hidT {h : Heap} {H : Hp} {b : Addr} {o : Obj} (e : (hidT h H).get? b = some o) : h.get? b = some o ∧ H b = none := by
  have e' : h.get? b = some o := PySem.W.of_hideAll (trk h H) e
  refine ⟨e', ?_⟩
  cases q : H b with
  | none => rfl
  | some x =>
    have hm : b ∈ trk h H := List.mem_filter.mpr ⟨List.mem_range.mpr (Heap.lt_size e'), by simp [q]⟩
    have z : (hidT h H).get? b = none := PySem.W.hideAll_none (trk h H) hm
    rw [z] at e; cases e

/-! ### OpenK's ledger, filled with every new object but one -/
end L2

namespace L2
open PySem PySem.Spec PyProof.Rows

/-- the module's facts, over the base: the heap at the law's entry without what is tracked there -/
structure Mod (K : PySem.W.Frag) (mg : Str → Option Value) (base : Heap) : Prop where
  kin : K.In base
  glob : base.Ns mainGlobals mg
  blt : ∃ mb, base.Ns builtinsNs mb ∧ ∀ x : Str, x ≠ "__name__" → mb x = bootBuiltins x
  nolimit : base.NoLimit

/-- the context: a def's body (or a comprehension's block) running. base: fixed through the whole law; s₀, H₀: the entry; outer: the frames whose slots others may change (a def's callers); stack: all frames that run;
   ex: iterators that were made ahead of the entry and are walked here (a comprehension's); fn: the names whose cells were made at the entry (a def: all; a comprehension's block: its own); calm: not within an except suite; pn: pins that every state bears; xe: what is wanted of an exception that leaves the code -/
structure Cx where
  prog : Program
  w : World
  K : PySem.W.Frag
  mg : Str → Option Value
  base : Heap
  A : Around
  N : List Str
  s₀ : Shared
  H₀ : Hp
  env : Env
  outer : List Env
  stack : List Env
  ex : List Addr
  fn : Str → Bool
  calm : Bool
  pn : List (Addr × Obj)
  xe : Value → Shared → Prop
/-- the callers' frames -/
def frs (l : List Env) : List Addr := l.filterMap (·.frame)
abbrev Cx.fs (X : Cx) : List Addr := frs X.outer

def Vis (sc : Scope) (x : Str) : Prop := sc.names.lookup x = some .local ∨ sc.names.lookup x = some .cell ∨ sc.names.lookup x = some .free
def Loc (sc : Scope) (x : Str) : Prop := sc.names.lookup x = some .local ∨ sc.names.lookup x = some .cell
def Look (env : Env) (h : Heap) (m : Str → Option Value) (x : Str) (u : Value) : Prop :=
  (env.kindOf x = some .local ∧ m x = some u) ∨ ((env.kindOf x = some .cell ∨ env.kindOf x = some .free) ∧ ∃ c, env.cells.lookup x = some c ∧ h.IsCell c (some u))

structure Cx.Ok (X : Cx) : Prop where
  mod : Mod X.K X.mg X.base
  kind : X.env.scope.kind = .function
  glob : X.env.globals = mainGlobals
  blt : X.env.builtins = builtinsNs
  above : X.s₀.heap.objs.size ≤ X.env.locals
  inj : ∀ x y c, X.env.cells.lookup x = some c → X.env.cells.lookup y = some c → x = y
  has : ∀ x, (X.env.kindOf x = some .cell ∨ X.env.kindOf x = some .free) → ∃ c, X.env.cells.lookup x = some c
  cab : ∀ x c, X.fn x = true → X.env.cells.lookup x = some c → X.s₀.heap.objs.size ≤ c
  hd : X.calm = true → X.A.handled = none
  frames : X.A.frames = some X.stack
  stk : X.stack = X.outer ∨ (X.stack = X.env :: X.outer ∧ X.env.frame = some X.env.locals)
  exf : ∀ b ∈ X.ex, b ≠ X.env.locals ∧ ∀ x c, X.env.cells.lookup x = some c → c ≠ b
  bs : ∀ b o, X.base.get? b = some o → X.s₀.heap.get? b = some o ∧ X.H₀ b = none
  bsz : X.base.objs.size ≤ X.s₀.heap.objs.size
  noex : ∀ b o, X.base.get? b = some o → b ∉ X.ex
  exfs : ∀ b ∈ X.ex, b ∉ X.fs
  funs : X.s₀.heap.FunFrames X.base X.outer
  frf : ∀ b ∈ X.fs, X.H₀ b = none

structure Inv (X : Cx) (pins : List (Addr × Obj)) (σ : List (Option V)) (H : Hp) (s : Shared) : Prop where
  ok : X.Ok
  os : s.os = X.s₀.os
  bare : AllBare s.gens
  base : Un X.fs X.ex X.H₀ H X.s₀.heap s.heap
  loc : ∃ m, s.heap.Ns X.env.locals m ∧ ∀ (i : Nat) (x : Str) (v : V), X.N[i]? = some x → σ[i]? = some (some v) → Vis X.env.scope x → ∃ u, RelV v u ∧ Look X.env s.heap m x u
  cell : ∀ x c, X.env.cells.lookup x = some c → ∃ v, s.heap.IsCell c v
  free : H X.env.locals = none
  freeC : ∀ x c, X.env.cells.lookup x = some c → H c = none
  pin : ∀ p ∈ X.pn ++ pins, s.heap.get? p.1 = some p.2 ∧ H p.1 = none ∧ p.1 ≠ X.env.locals ∧ p.1 ∉ X.fs ∧ ∀ v, p.2.data ≠ .cell v
  hok : HOk X.prog X.w H s.heap
  len : σ.length = X.N.length

section
variable {X : Cx} {pins : List (Addr × Obj)} {σ : List (Option V)} {H H' : Hp} {s : Shared} {h' : Heap}

theorem Cx.Ok.nofr (ok : X.Ok) {b : Addr} {o : Obj} (e : X.base.get? b = some o) : b ∉ X.fs := fun hb => by
  have := (ok.funs.mem hb).1
  rw [e] at this; cases this
theorem Inv.bs (I : Inv X pins σ H s) : ∀ b o, X.base.get? b = some o → s.heap.get? b = some o ∧ H b = none := fun b o e =>
  ⟨I.base.keep b o (I.ok.bs b o e).1 (I.ok.bs b o e).2 (I.ok.nofr e) (I.ok.noex b o e), I.base.free b o (I.ok.bs b o e).1 (I.ok.bs b o e).2 (I.ok.noex b o e)⟩
theorem Inv.bk (I : Inv X pins σ H s) : ∀ b o, X.base.get? b = some o → s.heap.get? b = some o := fun b o e => (I.bs b o e).1
theorem Inv.mod (I : Inv X pins σ H s) : Mod X.K X.mg X.base := I.ok.mod
theorem Inv.kIn (I : Inv X pins σ H s) : X.K.In s.heap := I.ok.mod.kin.keeps I.bk
theorem Inv.lt (I : Inv X pins σ H s) : X.env.locals < s.heap.objs.size := let ⟨_, hn, _⟩ := I.loc; hn.lt
theorem Inv.sz (I : Inv X pins σ H s) : X.s₀.heap.objs.size ≤ s.heap.objs.size := Nat.le_trans I.ok.above (Nat.le_of_lt I.lt)
theorem Inv.nofs (I : Inv X pins σ H s) {a : Addr} (h : s.heap.objs.size ≤ a) : a ∉ X.fs := fun hb => by
  obtain ⟨_, o, ho, _⟩ := I.ok.funs.mem hb
  exact absurd (Nat.lt_of_lt_of_le (Heap.lt_size ho) (Nat.le_trans I.sz h)) (Nat.lt_irrefl _)
theorem Inv.cne (I : Inv X pins σ H s) : ∀ x c, X.env.cells.lookup x = some c → c ≠ X.env.locals := fun x c e z => by
  obtain ⟨v, o, ho, hd⟩ := I.cell x c e
  obtain ⟨m, ⟨o', es, ep, ho', hd', _⟩, _⟩ := I.loc
  rw [z, ho'] at ho; cases ho; rw [hd'] at hd; cases hd
theorem Inv.funs (I : Inv X pins σ H s) : s.heap.FunFrames X.base X.outer := by
  have all : ∀ (l : List Env), (∀ b ∈ frs l, b ∈ X.fs) → X.s₀.heap.FunFrames X.base l → s.heap.FunFrames X.base l := by
    intro l
    induction l with
    | nil => intro _ _; trivial
    | cons env r ih =>
      intro hs hl
      obtain ⟨hk, ⟨L, o, hf, hn, ho, hd⟩, hr⟩ := hl
      have hL : L ∈ X.fs := hs L (by unfold frs; rw [List.filterMap_cons, hf]; exact List.mem_cons_self)
      obtain ⟨sl, e⟩ := I.base.slot L o ho (I.ok.frf L hL) hL fun z => I.ok.exfs L z hL
      exact ⟨hk, ⟨L, _, hf, hn, e, hd⟩, ih (fun b hb => hs b (by unfold frs; rw [List.filterMap_cons, hf]; exact List.mem_cons_of_mem _ hb)) hr⟩
  exact all X.outer (fun _ hb => hb) I.ok.funs

/-- the frames that run, for a call -/
theorem Inv.stack (I : Inv X pins σ H s) : s.heap.FunFrames X.base X.stack := by
  rcases I.ok.stk with e | ⟨e, hf⟩
  · rw [e]; exact I.funs
  · rw [e]
    obtain ⟨m, hn, _⟩ := I.loc
    refine .cons (by rw [I.ok.kind]; decide) hf hn ?_ I.funs
    exact Heap.get?_none_of_le (Nat.le_trans I.ok.bsz I.ok.above)
theorem Inv.stkSub (I : Inv X pins σ H s) : ∀ b ∈ frs X.stack, b ∈ X.env.locals :: X.fs := fun b hb => by
  rcases I.ok.stk with e | ⟨e, hf⟩
  · rw [e] at hb; exact List.mem_cons_of_mem _ hb
  · rw [e] at hb
    unfold frs at hb
    rw [List.filterMap_cons, hf] at hb
    exact hb
theorem Inv.stkFree (I : Inv X pins σ H s) : ∀ b ∈ frs X.stack, H b = none := fun b hb => by
  rcases List.mem_cons.mp (I.stkSub b hb) with e | hb
  · rw [e]; exact I.free
  · obtain ⟨_, o, ho, _⟩ := I.ok.funs.mem hb
    exact I.base.free b o ho (I.ok.frf b hb) fun z => I.ok.exfs b z hb

/-- THE STEP: the untracked objects but the frame and the records at ch are kept (the callers' frames up to slots), the frame's map is kept, the new abstract heap is held -/
theorem Inv.step {g' : Array GenState} {t' : Nat} {d' : Drawn} {ch : List Addr} (I : Inv X pins σ H s)
    (hch : ∀ b ∈ ch, (b ∈ X.ex ∨ X.s₀.heap.objs.size ≤ b) ∧ b ≠ X.env.locals ∧ (∀ x c, X.env.cells.lookup x = some c → c ≠ b) ∧ ∀ p ∈ X.pn ++ pins, p.1 ≠ b)
    (keep : ∀ b o, b ≠ X.env.locals → b ∉ X.fs → b ∉ ch → s.heap.get? b = some o → H b = none → h'.get? b = some o)
    (slot : ∀ b o, b ≠ X.env.locals → b ∈ X.fs → b ∉ ch → s.heap.get? b = some o → H b = none → ∃ sl, h'.get? b = some { o with slots := sl }) (free : ∀ b o, b ∉ ch → s.heap.get? b = some o → H b = none → H' b = none)
    (there : ∀ b o, b ∉ ch → s.heap.get? b = some o → ∃ o', h'.get? b = some o')
    (tups : ∀ b xs, H b = some (.tup xs) → H' b = some (.tup xs)) (frzs : ∀ b o u, H b = some (.frz o u) → H' b = some (.frz o u)) (tbls : ∀ b ps, H b = some (.tbl ps) → ∃ more, H' b = some (.tbl (ps ++ more)))
    (ns : ∀ m, s.heap.Ns X.env.locals m → h'.Ns X.env.locals m) (hok : HOk X.prog X.w H' h') (hg : AllBare g') :
    Inv X pins σ H' { s with heap := h', gens := g', drawn := d', toks := t' } := by
  have neL : ∀ b o, X.s₀.heap.get? b = some o → b ≠ X.env.locals := fun b o e => Nat.ne_of_lt (Nat.lt_of_lt_of_le (Heap.lt_size e) I.ok.above)
  have neC : ∀ b o, X.s₀.heap.get? b = some o → b ∉ X.ex → b ∉ ch := fun b o e hx hb => by
    rcases (hch b hb).1 with z | z
    · exact hx z
    · exact absurd (Nat.lt_of_lt_of_le (Heap.lt_size e) z) (Nat.lt_irrefl _)
  have cellK : ∀ x c, X.env.cells.lookup x = some c → ∀ v, s.heap.IsCell c v → h'.IsCell c v := fun x c e v ⟨o, ho, hd⟩ => by
    have nch : c ∉ ch := fun z => (hch c z).2.2.1 x c e rfl
    by_cases hc : c ∈ X.fs
    · obtain ⟨sl, q⟩ := slot c o (I.cne x c e) hc nch ho (I.freeC x c e)
      exact ⟨_, q, hd⟩
    · exact ⟨o, keep c o (I.cne x c e) hc nch ho (I.freeC x c e), hd⟩
  refine ⟨I.ok, I.os, hg, ⟨fun b o e n hb hx => ?_, fun b o e n hb hx => ?_, fun b o e n hx => ?_, fun b o e hx => ?_, fun b xs e => tups b xs (I.base.tups b xs e), fun b o xs e => frzs b o xs (I.base.frzs b o xs e), fun b ps e => ?_⟩, ?_, fun x c e => ?_, ?_, fun x c e => ?_, fun p hp => ?_, hok, I.len⟩
  · exact keep b o (neL b o e) hb (neC b o e hx) (I.base.keep b o e n hb hx) (I.base.free b o e n hx)
  · obtain ⟨sl, e1⟩ := I.base.slot b o e n hb hx
    obtain ⟨sl', e2⟩ := slot b _ (neL b o e) hb (neC b o e hx) e1 (I.base.free b o e n hx)
    exact ⟨sl', e2⟩
  · obtain ⟨o', e1⟩ := I.base.there b o e hx
    exact free b o' (neC b o e hx) e1 (I.base.free b o e n hx)
  · obtain ⟨o', e1⟩ := I.base.there b o e hx
    exact there b o' (neC b o e hx) e1
  · obtain ⟨m1, e1⟩ := I.base.tbls b ps e
    obtain ⟨m2, e2⟩ := tbls b _ e1
    exact ⟨m1 ++ m2, by rw [e2, Array.append_assoc]⟩
  · obtain ⟨m, hn, hl⟩ := I.loc
    refine ⟨m, ns m hn, fun i x v e1 e2 e3 => ?_⟩
    obtain ⟨u, r, l⟩ := hl i x v e1 e2 e3
    refine ⟨u, r, ?_⟩
    rcases l with l | ⟨k, c, e, z⟩
    · exact .inl l
    · exact .inr ⟨k, c, e, cellK x c e _ z⟩
  · obtain ⟨v, z⟩ := I.cell x c e
    exact ⟨v, cellK x c e v z⟩
  · obtain ⟨m, ⟨o, _, _, ho, _⟩, _⟩ := I.loc
    exact free _ o (fun z => (hch _ z).2.1 rfl) ho I.free
  · obtain ⟨v, o, ho, hd⟩ := I.cell x c e
    exact free c o (fun z => (hch c z).2.2.1 x c e rfl) ho (I.freeC x c e)
  · obtain ⟨e, n, ne, nf, d⟩ := I.pin p hp
    have nch : p.1 ∉ ch := fun z => (hch p.1 z).2.2.2 p hp rfl
    exact ⟨keep p.1 p.2 ne nf nch e n, free p.1 p.2 nch e n, ne, nf, d⟩
/-- .. where the frame's own object is kept too -/
theorem Inv.un {t' : Nat} (I : Inv X pins σ H s) (u : Un X.fs [] H H' s.heap h') (hok : HOk X.prog X.w H' h') : Inv X pins σ H' { s with heap := h', toks := t' } := by
  obtain ⟨m, ⟨o, es, ep, ho, r⟩, _⟩ := id I.loc
  obtain ⟨sl, hL⟩ := u.any ho I.free (by simp)
  exact I.step (g' := s.gens) (d' := s.drawn) (ch := []) (fun _ z => nomatch z) (fun b o _ hb _ e n => u.keep b o e n hb (by simp)) (fun b o _ hb _ e n => u.slot b o e n hb (by simp)) (fun b o _ e n => u.free b o e n (by simp)) (fun b o _ e => u.there b o e (by simp)) u.tups u.frzs u.tbls (fun m' hm => by
    obtain ⟨o', es', ep', ho', r'⟩ := hm
    rw [ho] at ho'; cases ho'
    exact ⟨_, es', ep', hL, r'⟩) hok I.bare
/-- behind a call (or a comprehension's block): the slots of this frame may have changed too, the records at ch may have turned -/
theorem Inv.call {g' : Array GenState} {t' : Nat} {d' : Drawn} {ch : List Addr} (I : Inv X pins σ H s) (u : Un (frs X.stack) ch H H' s.heap h') (hok : HOk X.prog X.w H' h') (hg : AllBare g')
    (hch : ∀ b ∈ ch, (b ∈ X.ex ∨ X.s₀.heap.objs.size ≤ b) ∧ b ≠ X.env.locals ∧ (∀ x c, X.env.cells.lookup x = some c → c ≠ b) ∧ ∀ p ∈ X.pn ++ pins, p.1 ≠ b) :
    Inv X pins σ H' { s with heap := h', gens := g', drawn := d', toks := t' } := by
  obtain ⟨m, ⟨o, es, ep, ho, r⟩, _⟩ := id I.loc
  obtain ⟨sl, hL⟩ := u.any ho I.free fun z => (hch _ z).2.1 rfl
  exact I.step (ch := ch) hch (fun b o hL hb hc e n => u.keep b o e n (fun z => (List.mem_cons.mp (I.stkSub b z)).elim hL hb) hc) (fun b o _ _ hc e n => u.any e n hc) (fun b o hc e n => u.free b o e n hc) (fun b o hc e => u.there b o e hc) u.tups u.frzs u.tbls (fun m' hm => by
    obtain ⟨o', es', ep', ho', r'⟩ := hm
    rw [ho] at ho'; cases ho'
    exact ⟨_, es', ep', hL, r'⟩) hok hg
/-- an untracked record of ours (an iterator) has turned -/
theorem Inv.turned {t' : Nat} {it : Addr} (I : Inv X pins σ H s) (k : ∀ b o, b ≠ it → s.heap.get? b = some o → h'.get? b = some o) (hn : H it = none) (hL : it ≠ X.env.locals)
    (h1 : it ∈ X.ex ∨ X.s₀.heap.objs.size ≤ it) (h2 : ∀ x c, X.env.cells.lookup x = some c → c ≠ it) (h3 : ∀ p ∈ X.pn ++ pins, p.1 ≠ it) : Inv X pins σ H { s with heap := h', toks := t' } := by
  have nit : ∀ b u, H b = some u → b ≠ it := fun b u e z => by rw [z, hn] at e; cases e
  refine I.step (g' := s.gens) (d' := s.drawn) (ch := [it]) (fun b hb => ?_) (fun b o _ _ hc e _ => k b o (fun z => hc (by simp [z])) e) (fun b o _ _ hc e _ => ⟨o.slots, k b o (fun z => hc (by simp [z])) e⟩) (fun _ _ _ _ n => n)
    (fun b o hc e => ⟨o, k b o (fun z => hc (by simp [z])) e⟩) (fun _ _ e => e) (fun _ _ _ e => e) (fun b ps e => ⟨#[], by rw [e]; simp⟩) (fun m hm => ?_) (fun b u e => ?_) I.bare
  · have e : b = it := by simpa using hb
    subst e
    exact ⟨h1, hL, h2, h3⟩
  · obtain ⟨o, es, ep, ho, r⟩ := hm
    exact ⟨o, es, ep, k _ o (Ne.symm hL) ho, r⟩
  · refine (I.hok b u e).stay (fun c v hc q => k c v ?_ q) (fun _ q => q) fun _ _ q => q
    rcases hc with z | z
    · rw [z]; exact nit b u e
    · exact nit c _ z
theorem Inv.tok (I : Inv X pins σ H s) (t : Nat) : Inv X pins σ H { s with toks := t } := I.un (h' := s.heap) (t' := t) Un.refl I.hok
/-- all objects kept -/
theorem Inv.kept {t' : Nat} (I : Inv X pins σ H s) (k : ∀ b u, s.heap.get? b = some u → h'.get? b = some u) : Inv X pins σ H { s with heap := h', toks := t' } := I.un (Un.kept k) (I.hok.kept k)
/-- a new object laid and tracked -/
theorem Inv.laid {a : Addr} {o : HO} {t' : Nat} (I : Inv X pins σ H s) (k : ∀ b u, s.heap.get? b = some u → h'.get? b = some u) (hp : s.heap.objs.size ≤ a) (new : ObjOk X.prog X.w (upd H a o) h' a o) :
    Inv X pins σ (upd H a o) { s with heap := h', toks := t' } := I.un (Un.laid k hp (I.hok.fresh hp)) (I.hok.laid k hp new)
/-- an object written -/
theorem Inv.write {x e : Addr} {o : HO} {t' : Nat} (I : Inv X pins σ H s) (mu : Mut (H x)) (he : e = x ∨ H e = some (.own x)) (k : ∀ b u, b ≠ e → s.heap.get? b = some u → h'.get? b = some u) (heo : ∃ u, h'.get? e = some u)
    (new : ObjOk X.prog X.w (upd H x o) h' x o) : Inv X pins σ (upd H x o) { s with heap := h', toks := t' } := I.un (Un.write mu he k heo) (I.hok.write mu he k heo new)
/-- forgetting slots, pins -/
theorem Inv.weak {σ' : List (Option V)} (I : Inv X pins σ H s) (hl : σ'.length = σ.length) (w : ∀ (i : Nat) v, σ'[i]? = some (some v) → σ[i]? = some (some v)) : Inv X pins σ' H s :=
  ⟨I.ok, I.os, I.bare, I.base, let ⟨m, hn, hl'⟩ := I.loc; ⟨m, hn, fun i x v e1 e2 e3 => hl' i x v e1 (w i v e2) e3⟩, I.cell, I.free, I.freeC, I.pin, I.hok, hl.trans I.len⟩
theorem Inv.pins_of {pins' : List (Addr × Obj)} (I : Inv X pins σ H s) (h : ∀ p ∈ pins', s.heap.get? p.1 = some p.2 ∧ H p.1 = none ∧ p.1 ≠ X.env.locals ∧ p.1 ∉ X.fs ∧ ∀ v, p.2.data ≠ .cell v) : Inv X pins' σ H s :=
  ⟨I.ok, I.os, I.bare, I.base, I.loc, I.cell, I.free, I.freeC, fun p hp => (List.mem_append.mp hp).elim (fun z => I.pin p (List.mem_append_left _ z)) (h p), I.hok, I.len⟩

theorem nodup_ix {N : List Str} (hN : N.Nodup) {i j : Nat} {x : Str} (a : N[i]? = some x) (b : N[j]? = some x) : i = j := by
  obtain ⟨h1, e1⟩ := List.getElem?_eq_some_iff.mp a
  obtain ⟨h2, e2⟩ := List.getElem?_eq_some_iff.mp b
  exact (List.getElem_inj hN).mp (e1.trans e2.symm)

/-- a name is stored; what changed -/
theorem store_ok2 {M : Model} {A : Around} {E : Value → Shared → Prop} {i : Nat} {x : Str} {v : V} {u : Value} {Q : Unit → Shared → Prop} (I : Inv X pins σ H s) (hN : X.N.Nodup) (hi : X.N[i]? = some x) (hx : Loc X.env.scope x) (r : RelV v u)
    (h : ∀ s', Inv X pins (σ.set i (some v)) H s' → (∃ a, Heap.SameBut a s.heap s'.heap ∧ (a = X.env.locals ∨ X.env.cells.lookup x = some a)) → Q () s') (hf : X.fn x = true ∨ X.env.scope.names.lookup x = some .local := by first | exact .inl rfl | exact .inr rfl | assumption) : wpAny M A (storeName X.env x u) Q E s := by
  obtain ⟨m, hn, hl⟩ := id I.loc
  have hcls : (X.env.scope.kind == .class || (X.env.scope.kind == .module && X.env.locals != X.env.globals)) = false := by rw [I.ok.kind]; rfl
  have hiσ : i < σ.length := by rw [I.len]; exact (List.getElem?_eq_some_iff.mp hi).1
  have cne := I.cne
  have tracked : ∀ {a : Addr} {h' : Heap}, (∃ o, s.heap.get? a = some o ∧ H a = none) → Heap.SameBut a s.heap h' → HOk X.prog X.w H h' := fun {a h'} ha hs b ob e => by
    obtain ⟨_, _, hfree⟩ := ha
    refine (I.hok b ob e).stay (fun c w' hc q => (hs.2 c ?_).trans q) (fun _ q => q) fun _ _ q => q
    rintro rfl
    rcases hc with rfl | hc
    · rw [hfree] at e; cases e
    · rw [hfree] at hc; cases hc
  rcases hx with hk | hk
  · refine wpAny_storeName_local hk hn (fun h' hn' hs => ?_) hcls
    obtain ⟨oL, _, _, hoL, _⟩ := id hn
    refine h _ ⟨I.ok, I.os, I.bare, ⟨fun b o e n hb hx => ?_, fun b o e n hb hx => ?_, I.base.free, fun b o e hx => ?_, I.base.tups, I.base.frzs, I.base.tbls⟩, ⟨_, hn', fun j y v' e1 e2 e3 => ?_⟩, fun y c e => ?_, I.free, I.freeC, fun p hp => ?_, tracked ⟨oL, hoL, I.free⟩ hs, by simpa using I.len⟩ ⟨_, hs, .inl rfl⟩
    · exact (hs.2 b (Nat.ne_of_lt (Nat.lt_of_lt_of_le (Heap.lt_size e) I.ok.above))).trans (I.base.keep b o e n hb hx)
    · obtain ⟨sl, e1⟩ := I.base.slot b o e n hb hx
      exact ⟨sl, (hs.2 b (Nat.ne_of_lt (Nat.lt_of_lt_of_le (Heap.lt_size e) I.ok.above))).trans e1⟩
    · obtain ⟨o', e1⟩ := I.base.there b o e hx
      exact ⟨o', (hs.2 b (Nat.ne_of_lt (Nat.lt_of_lt_of_le (Heap.lt_size e) I.ok.above))).trans e1⟩
    · by_cases hj : j = i
      · subst hj
        rw [hi] at e1; cases e1
        rw [List.getElem?_set_self hiσ] at e2
        cases e2
        exact ⟨u, r, .inl ⟨hk, by simp⟩⟩
      · rw [List.getElem?_set_ne (Ne.symm hj)] at e2
        obtain ⟨u', r', q⟩ := hl j y v' e1 e2 e3
        refine ⟨u', r', ?_⟩
        rcases q with ⟨k, e⟩ | ⟨k, c, e, z⟩
        · refine .inl ⟨k, ?_⟩
          have : y ≠ x := fun e => hj (nodup_ix hN e1 (e ▸ hi))
          simp [this, e]
        · exact .inr ⟨k, c, e, z.sameBut hs (cne y c e)⟩
    · obtain ⟨w', z⟩ := I.cell y c e
      exact ⟨w', z.sameBut hs (cne y c e)⟩
    · obtain ⟨e, n, ne, nf, d⟩ := I.pin p hp
      exact ⟨(hs.2 p.1 ne).trans e, n, ne, nf, d⟩
  · have hfn : X.fn x = true := by
      rcases hf with z | z
      · exact z
      · rw [z] at hk; cases hk
    obtain ⟨c, hc⟩ := I.ok.has x (.inl hk)
    obtain ⟨w', z⟩ := I.cell x c hc
    refine wpAny_storeName_cell I.ok.kind hk hc z (fun h' hc' hs => ?_)
    obtain ⟨oc, hoc, hocd⟩ := id z
    refine h { s with heap := h' } ⟨I.ok, I.os, I.bare, ⟨fun b o e n hb hx => ?_, fun b o e n hb hx => ?_, I.base.free, fun b o e hx => ?_, I.base.tups, I.base.frzs, I.base.tbls⟩, ⟨m, hn.sameBut hs (Ne.symm (cne x c hc)), fun j y v' e1 e2 e3 => ?_⟩, fun y c' e => ?_, I.free, I.freeC, fun p hp => ?_, tracked ⟨oc, hoc, I.freeC x c hc⟩ hs, by simpa using I.len⟩ ⟨c, hs, .inr hc⟩
    · exact (hs.2 b (Nat.ne_of_lt (Nat.lt_of_lt_of_le (Heap.lt_size e) (I.ok.cab x c hfn hc)))).trans (I.base.keep b o e n hb hx)
    · obtain ⟨sl, e1⟩ := I.base.slot b o e n hb hx
      exact ⟨sl, (hs.2 b (Nat.ne_of_lt (Nat.lt_of_lt_of_le (Heap.lt_size e) (I.ok.cab x c hfn hc)))).trans e1⟩
    · obtain ⟨o', e1⟩ := I.base.there b o e hx
      exact ⟨o', (hs.2 b (Nat.ne_of_lt (Nat.lt_of_lt_of_le (Heap.lt_size e) (I.ok.cab x c hfn hc)))).trans e1⟩
    · by_cases hj : j = i
      · subst hj
        rw [hi] at e1; cases e1
        rw [List.getElem?_set_self hiσ] at e2
        cases e2
        exact ⟨u, r, .inr ⟨.inl hk, c, hc, hc'⟩⟩
      · rw [List.getElem?_set_ne (Ne.symm hj)] at e2
        obtain ⟨u', r', q⟩ := hl j y v' e1 e2 e3
        refine ⟨u', r', ?_⟩
        rcases q with q | ⟨k, c', e, z'⟩
        · exact .inl q
        · refine .inr ⟨k, c', e, z'.sameBut hs ?_⟩
          rintro rfl
          exact hj (nodup_ix hN e1 (I.ok.inj _ _ _ e hc ▸ hi))
    · by_cases hcc : c' = c
      · subst hcc; exact ⟨_, hc'⟩
      · obtain ⟨w2, z2⟩ := I.cell y c' e
        exact ⟨w2, z2.sameBut hs hcc⟩
    · obtain ⟨e, n, ne, nf, d⟩ := I.pin p hp
      refine ⟨(hs.2 p.1 ?_).trans e, n, ne, nf, d⟩
      intro q
      rw [q, hoc] at e
      have q' : oc = p.2 := Option.some.inj e
      exact d w' (by rw [← q']; exact hocd)
theorem store_ok {M : Model} {A : Around} {E : Value → Shared → Prop} {i : Nat} {x : Str} {v : V} {u : Value} {Q : Unit → Shared → Prop} (I : Inv X pins σ H s) (hN : X.N.Nodup) (hi : X.N[i]? = some x) (hx : Loc X.env.scope x) (r : RelV v u)
    (h : ∀ s', Inv X pins (σ.set i (some v)) H s' → Q () s') (hf : X.fn x = true ∨ X.env.scope.names.lookup x = some .local := by first | exact .inl rfl | exact .inr rfl | assumption) : wpAny M A (storeName X.env x u) Q E s :=
  store_ok2 I hN hi hx r (fun s' I' _ => h s' I') hf
/-- behind a call or a block, the state as it is -/
theorem Inv.call' {s' : Shared} {ch : List Addr} (I : Inv X pins σ H s) (ho : s'.os = s.os) (u : Un (frs X.stack) ch H H' s.heap s'.heap) (hok : HOk X.prog X.w H' s'.heap) (hg : AllBare s'.gens)
    (hch : ∀ b ∈ ch, (b ∈ X.ex ∨ X.s₀.heap.objs.size ≤ b) ∧ b ≠ X.env.locals ∧ (∀ x c, X.env.cells.lookup x = some c → c ≠ b) ∧ ∀ p ∈ X.pn ++ pins, p.1 ≠ b) : Inv X pins σ H' s' := by
  obtain ⟨h', g', d', t', o'⟩ := s'
  have e : o' = s.os := ho
  subst e
  exact I.call (g' := g') (t' := t') (d' := d') u hok hg hch
end

/-! ### the judgements -/
/-- an exception: its class, its own dict's address (where it has one), the abstract heap behind it -/
abbrev XK := Value → Option Addr → Hp → Prop
abbrev St := List (Option V)
abbrev VK := V → Hp → Prop
/-- an expression's reading; a test's; an argument list's -/
abbrev TE := St → Hp → VK → Prop
abbrev TT := St → Hp → (Bool → Hp → Prop) → Prop
abbrev TA := St → Hp → (List V → Hp → Prop) → Prop
/-- what is wanted behind a statement -/
structure Ends where
  nx : St → Hp → Prop
  rt : VK
  bk : St → Hp → Prop := fun _ _ => False
  ct : St → Hp → Prop := fun _ _ => False
abbrev TS := Ends → St → Hp → Prop

def EP (X : Cx) (pins : List (Addr × Obj)) (σ : St) (Q : VK) (u : Value) (s' : Shared) : Prop := ∃ v H', Inv X pins σ H' s' ∧ RelV v u ∧ Q v H'
def TP (X : Cx) (pins : List (Addr × Obj)) (σ : St) (Q : Bool → Hp → Prop) (b : Bool) (s' : Shared) : Prop := ∃ H', Inv X pins σ H' s' ∧ Q b H'
def AP (X : Cx) (pins : List (Addr × Obj)) (σ : St) (Q : List V → Hp → Prop) (us : List Value) (s' : Shared) : Prop := ∃ vs H', Inv X pins σ H' s' ∧ Vals vs us ∧ Q vs H'
def SP (X : Cx) (pins : List (Addr × Obj)) (D : Ends) (f : Flow) (s' : Shared) : Prop :=
  match f with
  | .next => ∃ σ' H', Inv X pins σ' H' s' ∧ D.nx σ' H'
  | .brk => ∃ σ' H', Inv X pins σ' H' s' ∧ D.bk σ' H'
  | .cont => ∃ σ' H', Inv X pins σ' H' s' ∧ D.ct σ' H'
  | .ret u => ∃ v σ' H', Inv X pins σ' H' s' ∧ RelV v u ∧ D.rt v H'

def PE (X : Cx) (e : Expr) (t : TE) : Prop :=
  ∀ (pins : List (Addr × Obj)) (s : Shared) (σ : St) (H : Hp) (Q : VK), Inv X pins σ H s → t σ H Q → wpAny (model X.prog X.w) X.A (eval e X.env) (EP X pins σ Q) X.xe s
def PT (X : Cx) (e : Expr) (t : TT) : Prop :=
  ∀ (pins : List (Addr × Obj)) (s : Shared) (σ : St) (H : Hp) (Q : Bool → Hp → Prop), Inv X pins σ H s → t σ H Q → wpAny (model X.prog X.w) X.A (isTrue e X.env (eval e X.env)) (TP X pins σ Q) X.xe s
/-- a test whatever its 'whole' is (and, or) -/
def PW (X : Cx) (e : Expr) (t : TT) : Prop :=
  ∀ (whole : Sem Value) (pins : List (Addr × Obj)) (s : Shared) (σ : St) (H : Hp) (Q : Bool → Hp → Prop), Inv X pins σ H s → t σ H Q → wpAny (model X.prog X.w) X.A (isTrue e X.env whole) (TP X pins σ Q) X.xe s
theorem PW.pt {X : Cx} {e : Expr} {t : TT} (h : PW X e t) : PT X e t := h _
/-- an argument list (no star), from the left -/
def PA (X : Cx) (es : List Expr) (t : TA) : Prop :=
  ∀ (pos : Pos) (pins : List (Addr × Obj)) (s : Shared) (σ : St) (H : Hp) (Q : List V → Hp → Prop), Inv X pins σ H s → t σ H Q → wpAny (model X.prog X.w) X.A (spliced (backTo pos (starEach es X.env))) (AP X pins σ Q) X.xe s
def PS (X : Cx) (st : Stmt) (t : TS) : Prop :=
  ∀ (pins : List (Addr × Obj)) (s : Shared) (σ : St) (H : Hp) (D : Ends), Inv X pins σ H s → t D σ H → wpAny (model X.prog X.w) X.A (exec st X.env) (SP X pins D) X.xe s
def PSs (X : Cx) (st : List Stmt) (t : TS) : Prop :=
  ∀ (pins : List (Addr × Obj)) (s : Shared) (σ : St) (H : Hp) (D : Ends), Inv X pins σ H s → t D σ H → wpAny (model X.prog X.w) X.A (execs st X.env) (SP X pins D) X.xe s
/-- weaken the end -/
theorem thn {α : Type} {t : Sem α} {Q Q' : α → Shared → Prop} {M : Model} {A : Around} {E : Value → Shared → Prop} {s : Shared} (h : wpAny M A t Q E s) (hQ : ∀ a s, Q a s → Q' a s) : wpAny M A t Q' E s := wpAny_mono h hQ fun _ _ x => x
end L2

namespace L2
open PySem PySem.Spec PyProof.Rows
section
variable {X : Cx}

/-! ### names and constants -/
def tVar (i : Nat) : TE := fun σ H Q => ∃ v, σ[i]? = some (some v) ∧ Q v H
def tC (v : V) : TE := fun _ H Q => Q v H
theorem pe_var {i : Nat} {x : Str} {pos : Pos} (hN : X.N[i]? = some x) (hv : Vis X.env.scope x) (hd : (x == ("__debug__" : Str)) = false := by decide) (hcd : (x == ("__classdict__" : Str)) = false := by decide) : PE X (.Name x pos) (tVar i) := by
  intro pins s σ H Q I h
  obtain ⟨v, e, h⟩ := h
  obtain ⟨m, hn, hl⟩ := I.loc
  obtain ⟨u, r, l⟩ := hl i x v hN e hv
  have fin : EP X pins σ Q u s := ⟨v, H, I, r, h⟩
  rcases l with ⟨hk, hm⟩ | ⟨hk, c, hc, hcell⟩
  · exact wpAny_Name (wpAny_loadName_local I.ok.kind hk hn hm fin) hd
  · rcases hk with hk | hk
    · exact wpAny_Name (wpAny_loadName_cell I.ok.kind hk hc hcell fin) hd
    · exact wpAny_Name (wpAny_loadName_free I.ok.kind hk hc hcell fin hcd) hd
theorem pe_int {i j pos} : PE X (.Constant (.int i) j pos) (tC (.int i)) := fun _ _ _ H _ I h => wpAny_Constant_int ⟨.int i, H, I.tok _, ⟨_, rfl⟩, h⟩
theorem pe_bl {b j pos} : PE X (.Constant (.bool b) j pos) (tC (.bl b)) := fun _ _ _ H _ I h => Constant_bool ⟨.bl b, H, I, rfl, h⟩
theorem pe_non {j pos} : PE X (.Constant .none j pos) (tC .non) := fun _ _ _ H _ I h => Constant_none ⟨.non, H, I, rfl, h⟩
theorem pe_str {x j pos} : PE X (.Constant (.str x) j pos) (tC (.str x)) := fun _ _ _ H _ I h => Calls.Constant_str ⟨.str x, H, I.tok _, ⟨_, rfl⟩, h⟩

/-- a global name of the def -/
def Gl (X : Cx) (x : Str) : Prop := X.env.kindOf x = some .globalImplicit
theorem ld_glob {E : Value → Shared → Prop} {pins : List (Addr × Obj)} {s : Shared} {σ : St} {H : Hp} {x : Str} {u : Value} {pos : Pos} {Q : Value → Shared → Prop} (I : Inv X pins σ H s) (hg : Gl X x) (hm : X.mg x = some u) (h : Q u s)
    (hd : (x == ("__debug__" : Str)) = false := by decide) : wpAny (model X.prog X.w) X.A (eval (.Name x pos) X.env) Q E s :=
  Calls.Name_function_global I.ok.kind hg (Calls.loadGlobal_global (by rw [I.ok.glob]; exact I.mod.glob.keeps I.bk) hm h) hd
theorem ld_blt {E : Value → Shared → Prop} {pins : List (Addr × Obj)} {s : Shared} {σ : St} {H : Hp} {x : Str} {u : Value} {pos : Pos} {Q : Value → Shared → Prop} (I : Inv X pins σ H s) (hg : Gl X x) (hm : X.mg x = none) (hv : bootBuiltins x = some u) (h : Q u s)
    (hn : x ≠ "__name__" := by decide) (hd : (x == ("__debug__" : Str)) = false := by decide) : wpAny (model X.prog X.w) X.A (eval (.Name x pos) X.env) Q E s := by
  obtain ⟨mb, h1, h2⟩ := I.mod.blt
  exact Calls.Name_function_global I.ok.kind hg (Calls.loadGlobal_builtin (by rw [I.ok.glob]; exact I.mod.glob.keeps I.bk) hm (by rw [I.ok.blt]; exact h1.keeps I.bk) ((h2 x hn).trans hv) h) hd
/-- a module's constant, a class, a function, as a value -/
theorem pe_glob {x : Str} {v : V} {u : Value} {pos : Pos} (hg : Gl X x) (hm : X.mg x = some u) (r : RelV v u) (hd : (x == ("__debug__" : Str)) = false := by decide) : PE X (.Name x pos) (tC v) :=
  fun _ _ _ H _ I h => ld_glob I hg hm ⟨v, H, I, r, h⟩ hd
theorem pe_bltn {x : Str} {v : V} {u : Value} {pos : Pos} (hg : Gl X x) (hm : X.mg x = none) (hv : bootBuiltins x = some u) (r : RelV v u) (hn : x ≠ "__name__" := by decide) (hd : (x == ("__debug__" : Str)) = false := by decide) : PE X (.Name x pos) (tC v) :=
  fun _ _ _ H _ I h => ld_blt I hg hm hv ⟨v, H, I, r, h⟩ hn hd

/-! ### arithmetic -/
variable {a b : Expr} {ta tb : TE} {pos : Pos}
/-! ### comparisons -/
def PC (X : Cx) (op : CmpOp) (a b : Expr) (t : TE) : Prop :=
  ∀ (pins : List (Addr × Obj)) (s : Shared) (σ : St) (H : Hp) (Q : VK), Inv X pins σ H s → t σ H Q →
    wpAny (model X.prog X.w) X.A (eval a X.env) (fun v s₁ => wpAny (model X.prog X.w) X.A (eval b X.env) (fun u s₂ => wpAny (model X.prog X.w) X.A (compareOp op v u) (EP X pins σ Q) X.xe s₂) X.xe s₁) X.xe s
/-- a comparison as a value, as a test -/
def tB (t : TE) : TT := fun σ H Q => t σ H fun x H1 => ∃ c, x = .bl c ∧ Q c H1
theorem pe_cmp {op : CmpOp} {t : TE} (h : PC X op a b t) (h1 : behindInMarks op b = false := by first | exact nobehind _ (by decide) (by decide) | rfl) : PE X (.Compare a [op] [b] pos) t := fun pins s σ H Q I hw => wpAny_Compare1 (h pins s σ H Q I hw) h1
theorem pt_cmp {op : CmpOp} {t : TE} (h : PC X op a b t) (h1 : behindInMarks op b = false := by first | exact nobehind _ (by decide) (by decide) | rfl) : PT X (.Compare a [op] [b] pos) (tB t) := by
  intro pins s σ H Q I hw
  refine wpAny_isTrue_Compare1 (thn (h pins s σ H _ I hw) fun v s1 h1 => thn h1 fun u s2 h2 => thn h2 fun c s3 ⟨x, H1, I1, r1, q1⟩ => ?_) h1
  obtain ⟨d, rfl, q⟩ := q1
  cases r1
  exact wpAny_truthy_bool ⟨H1, I1, q⟩
/-- an expression whose value is a bool, as a test -/
theorem pt_val {e : Expr} {t : TE} (h : PE X e t) (he : ∀ whole, isTrue e X.env whole = (do let v ← whole; standAt e.pos; holding [v] (truthy v)) := by intro _; rfl) : PT X e (tB t) := by
  intro pins s σ H Q I hw
  refine isTrue_plain (thn (h pins s σ H _ I hw) fun v s1 ⟨x, H1, I1, r1, q1⟩ => ?_) (he _)
  obtain ⟨d, rfl, q⟩ := q1
  cases r1
  exact wpAny_truthy_bool ⟨H1, I1, q⟩

/-! ### and, or, not -/
variable {tA tB' : TT} {rest : List Expr}
def tAnd (t u : TT) : TT := fun σ H Q => t σ H fun c H1 => if c = true then u σ H1 Q else Q false H1
def tOr (t u : TT) : TT := fun σ H Q => t σ H fun c H1 => if c = true then Q true H1 else u σ H1 Q
def tNot (t : TT) : TT := fun σ H Q => t σ H fun c H1 => Q (!c) H1
theorem pw_and1 (ha : PT X a tA) : PW X (.BoolOp .And [a] pos) tA := by
  intro wh pins s σ H Q I h
  refine isTrue_and (thn (ha pins s σ H Q I h) fun c s1 e => ?_)
  cases c with
  | true => exact isTrue_and_nil e
  | false => exact e
theorem pw_or1 (ha : PT X a tA) : PW X (.BoolOp .Or [a] pos) tA := by
  intro wh pins s σ H Q I h
  refine isTrue_or (thn (ha pins s σ H Q I h) fun c s1 e => ?_)
  cases c with
  | false => exact isTrue_or_nil e
  | true => exact e
theorem pw_and (ha : PT X a tA) (hb : PW X (.BoolOp .And (b :: rest) pos) tB') : PW X (.BoolOp .And (a :: b :: rest) pos) (tAnd tA tB') := by
  intro wh pins s σ H Q I h
  refine isTrue_and (thn (ha pins s σ H _ I h) fun c s1 ⟨H1, I1, q1⟩ => ?_)
  cases c with
  | true => exact hb wh pins s1 σ H1 Q I1 q1
  | false => exact ⟨H1, I1, q1⟩
theorem pw_or (ha : PT X a tA) (hb : PW X (.BoolOp .Or (b :: rest) pos) tB') : PW X (.BoolOp .Or (a :: b :: rest) pos) (tOr tA tB') := by
  intro wh pins s σ H Q I h
  refine isTrue_or (thn (ha pins s σ H _ I h) fun c s1 ⟨H1, I1, q1⟩ => ?_)
  cases c with
  | true => exact ⟨H1, I1, q1⟩
  | false => exact hb wh pins s1 σ H1 Q I1 q1
theorem pt_not (ha : PT X a tA) : PT X (.UnaryOp .Not a pos) (tNot tA) := by
  intro pins s σ H Q I h
  exact isTrue_not (ha pins s σ H (fun c H1 => Q (!c) H1) I h)
/-- .. as values (bools) -/
def tAndV (ta tb : TE) : TE := fun σ H Q => ta σ H fun x H1 => ∃ c, x = .bl c ∧ if c = true then tb σ H1 Q else Q (.bl false) H1
def tNotV (ta : TE) : TE := fun σ H Q => ta σ H fun x H1 => ∃ c, x = .bl c ∧ Q (.bl (!c)) H1
theorem pe_one {op} {t : TE} (h : PE X a t) : PE X (.BoolOp op [a] pos) t := fun pins s σ H Q I hw => BoolOp_one (h pins s σ H Q I hw)
theorem pe_and (ha : PE X a ta) (hb : PE X (.BoolOp .And (b :: rest) pos) tb) : PE X (.BoolOp .And (a :: b :: rest) pos) (tAndV ta tb) := by
  intro pins s σ H Q I h
  refine BoolOp_and (thn (ha pins s σ H _ I h) fun v s1 ⟨x, H1, I1, r1, q1⟩ => ?_)
  obtain ⟨c, rfl, q1⟩ := q1
  cases r1
  refine wpAny_truthy_bool ?_
  cases c with
  | true => exact hb pins s1 σ H1 Q I1 q1
  | false => exact ⟨.bl false, H1, I1, rfl, q1⟩
theorem pe_not (ha : PE X a ta) : PE X (.UnaryOp .Not a pos) (tNotV ta) := by
  intro pins s σ H Q I h
  refine UnaryOp_ (thn (ha pins s σ H _ I h) fun v s1 ⟨x, H1, I1, r1, q1⟩ => ?_)
  obtain ⟨c, rfl, q1⟩ := q1
  cases r1
  exact not_of (wpAny_truthy_bool ⟨.bl (!c), H1, I1, rfl, q1⟩)
/-- a if t else b -/
def tIf (t : TT) (ta tb : TE) : TE := fun σ H Q => t σ H fun c H1 => if c = true then ta σ H1 Q else tb σ H1 Q
theorem pe_ifExp {c : Expr} (hc : PT X c tA) (ha : PE X a ta) (hb : PE X b tb) : PE X (.IfExp c a b pos) (tIf tA ta tb) := by
  intro pins s σ H Q I h
  refine wpAny_IfExp (thn (hc pins s σ H _ I h) fun d s1 ⟨H1, I1, q1⟩ => ?_)
  cases d with
  | true => exact ha pins s1 σ H1 Q I1 q1
  | false => exact hb pins s1 σ H1 Q I1 q1
end
end L2

namespace L2
open PySem PySem.Spec PyProof.Rows

/-! ### a list, a tuple that is read: tracked, frozen, or an object of the module -/
def SqL (K : PySem.W.Frag) (H : Hp) (a : Addr) (xs : List V) : Prop :=
  Rd H a (.lst xs) ∨
    ∃ (o : Obj) (its : Array Value) (n : Nat), K.lookup a = some o ∧ o.cls = .type "list" ∧ o.dict = none ∧ o.data = .seq its n ∧ its.size ≤ sizeLine ∧ Vals xs its.toList
def SqT (K : PySem.W.Frag) (H : Hp) (a : Addr) (xs : List V) : Prop :=
  Rd H a (.tup xs) ∨
    ∃ (o : Obj) (its : Array Value) (n : Nat), K.lookup a = some o ∧ o.cls = .type "tuple" ∧ o.data = .seq its n ∧ its.size ≤ sizeLine ∧ Vals xs its.toList
def absV : Value → Option V
  | .none => some .non
  | .bool b => some (.bl b)
  | .int i _ => some (.int i)
  | .str x _ => some (.str x)
  | .bytes b _ => some (.byt b)
  | .float b _ => some (.flt b)
  | .ref a => some (.ref a)
  | .type n => some (.ty n)
  | _ => none
theorem RelV.abs {x : V} {u : Value} (r : RelV x u) : absV u = some x := by
  cases x with
  | non => cases r; rfl
  | bl _ => cases r; rfl
  | int _ => obtain ⟨t, rfl⟩ := r; rfl
  | str _ => obtain ⟨t, rfl⟩ := r; rfl
  | byt _ => obtain ⟨t, rfl⟩ := r; rfl
  | flt _ => obtain ⟨t, rfl⟩ := r; rfl
  | ref _ => cases r; rfl
  | ty _ => cases r; rfl
theorem RelV.inj {x y : V} {u : Value} (r : RelV x u) (q : RelV y u) : x = y := Option.some.inj (r.abs.symm.trans q.abs)
theorem Vals.inj : ∀ {xs ys : List V} {us : List Value}, Vals xs us → Vals ys us → xs = ys
  | _, _, _, .nil, .nil => rfl
  | _, _, _, .cons r t, .cons r' t' => by rw [r.inj r', Vals.inj t t']
section
variable {X : Cx} {pins : List (Addr × Obj)} {σ : St} {H : Hp} {s : Shared} {a : Addr} {xs ys : List V}
theorem SqL.of {K : PySem.W.Frag} (h : H a = some (.lst xs)) : SqL K H a xs := .inl (.inl h)
theorem SqT.of {K : PySem.W.Frag} (h : H a = some (.tup xs)) : SqT K H a xs := .inl (.inl h)
theorem Inv.list (I : Inv X pins σ H s) (h : SqL X.K H a xs) : ∃ its : List Value, Vals xs its ∧ PlainL s.heap a its.toArray ∧ xs.length ≤ sizeLine := by
  rcases h with h | ⟨o, its, n, hk, hc, hd, hs, hz, r⟩
  · obtain ⟨z, its, n, r, e⟩ := h.ok I.hok
    exact ⟨its, r, ⟨_, n, e, rfl, rfl, rfl⟩, z⟩
  · refine ⟨its.toList, r, ⟨o, n, I.kIn a o hk, hc, hd, by simpa using hs⟩, ?_⟩
    have e := r.length
    simp only [Array.length_toList] at e
    omega
theorem Inv.tuple (I : Inv X pins σ H s) (h : SqT X.K H a xs) : ∃ its : List Value, Vals xs its ∧ IsTup s.heap a its.toArray ∧ xs.length ≤ sizeLine := by
  rcases h with h | ⟨o, its, n, hk, hc, hs, hz, r⟩
  · obtain ⟨z, its, r, p⟩ := h.ok I.hok
    exact ⟨its, r, p, z⟩
  · refine ⟨its.toList, r, ⟨o, I.kIn a o hk, hc, n, by simpa using hs⟩, ?_⟩
    have e := r.length
    simp only [Array.length_toList] at e
    omega
theorem Inv.list_inj (I : Inv X pins σ H s) (h : SqL X.K H a xs) (h' : SqL X.K H a ys) : xs = ys := by
  obtain ⟨its, r, ⟨o, n, e, _, _, d⟩, _⟩ := I.list h
  obtain ⟨its', r', ⟨o', n', e', _, _, d'⟩, _⟩ := I.list h'
  rw [e] at e'; cases e'
  rw [d] at d'
  injection d' with d1 _
  have : its = its' := by simpa using congrArg Array.toList d1
  subst this
  exact r.inj r'
theorem Inv.tuple_inj (I : Inv X pins σ H s) (h : SqT X.K H a xs) (h' : SqT X.K H a ys) : xs = ys := by
  obtain ⟨its, r, ⟨o, e, _, n, d⟩, _⟩ := I.tuple h
  obtain ⟨its', r', ⟨o', e', _, n', d'⟩, _⟩ := I.tuple h'
  rw [e] at e'; cases e'
  rw [d] at d'
  injection d' with d1 _
  have : its = its' := by simpa using congrArg Array.toList d1
  subst this
  exact r.inj r'
end

/-! ### another wish about exceptions -/
abbrev Cx.wish (X : Cx) (E : Value → Shared → Prop) : Cx := { X with xe := E }
/-- no exception leaves -/
abbrev Cx.nox (X : Cx) : Cx := X.wish fun _ _ => False
theorem Cx.Ok.wish {X : Cx} (ok : X.Ok) (E : Value → Shared → Prop) : (X.wish E).Ok :=
  ⟨ok.mod, ok.kind, ok.glob, ok.blt, ok.above, ok.inj, ok.has, ok.cab, ok.hd, ok.frames, ok.stk, ok.exf, ok.bs, ok.bsz, ok.noex, ok.exfs, ok.funs, ok.frf⟩
theorem Cx.Ok.unwish {X : Cx} {E : Value → Shared → Prop} (ok : (X.wish E).Ok) : X.Ok :=
  ⟨ok.mod, ok.kind, ok.glob, ok.blt, ok.above, ok.inj, ok.has, ok.cab, ok.hd, ok.frames, ok.stk, ok.exf, ok.bs, ok.bsz, ok.noex, ok.exfs, ok.funs, ok.frf⟩
section
variable {X : Cx} {pins : List (Addr × Obj)} {σ : St} {H : Hp} {s : Shared} {E : Value → Shared → Prop}
theorem Inv.wish (I : Inv X pins σ H s) (E : Value → Shared → Prop) : Inv (X.wish E) pins σ H s := ⟨I.ok.wish E, I.os, I.bare, I.base, I.loc, I.cell, I.free, I.freeC, I.pin, I.hok, I.len⟩
theorem Inv.unwish (I : Inv (X.wish E) pins σ H s) : Inv X pins σ H s := ⟨I.ok.unwish, I.os, I.bare, I.base, I.loc, I.cell, I.free, I.freeC, I.pin, I.hok, I.len⟩
theorem SP.unwish {D : Ends} {f : Flow} {s' : Shared} (h : SP (X.wish E) pins D f s') : SP X pins D f s' := by
  cases f with
  | next => obtain ⟨σ', H', I, q⟩ := h; exact ⟨σ', H', I.unwish, q⟩
  | brk => obtain ⟨σ', H', I, q⟩ := h; exact ⟨σ', H', I.unwish, q⟩
  | cont => obtain ⟨σ', H', I, q⟩ := h; exact ⟨σ', H', I.unwish, q⟩
  | ret u => obtain ⟨v, σ', H', I, r, q⟩ := h; exact ⟨v, σ', H', I.unwish, r, q⟩
theorem PSs.nox {st : List Stmt} {t : TS} (h : PSs X.nox st t) : PSs X st t := fun pins s σ H D I hw =>
  wpAny_mono (h pins s σ H D (I.wish _) hw) (fun _ _ q => q.unwish) fun _ _ z => False.elim z
end

/-! ### blocks and small statements -/
section
variable {X : Cx} {st : Stmt} {rest : List Stmt} {t u : TS} {e : Expr} {te : TE} {pos : Pos}
def tNext : TS := fun D σ H => D.nx σ H
def tSeq (t u : TS) : TS := fun D σ H => t { D with nx := u D } σ H
theorem pss_nil : PSs X [] tNext := fun _ _ σ H _ I h => wpAny_execs_nil ⟨σ, H, I, h⟩
theorem pss_cons (h1 : PS X st t) (h2 : PSs X rest u) : PSs X (st :: rest) (tSeq t u) := by
  intro pins s σ H D I h
  refine wpAny_execs_cons (thn (h1 pins s σ H { D with nx := u D } I h) fun f s1 q => ?_)
  cases f with
  | next =>
    obtain ⟨σ', H', I', q⟩ := q
    exact h2 pins s1 σ' H' D I' q
  | ret v => exact q
  | brk => exact q
  | cont => exact q
theorem pss_one (h1 : PS X st t) : PSs X [st] t := by
  intro pins s σ H D I h
  refine wpAny_execs_cons (thn (h1 pins s σ H D I h) fun f s1 q => ?_)
  cases f with
  | next => exact wpAny_execs_nil q
  | ret v => exact q
  | brk => exact q
  | cont => exact q
/-- in a def's body nothing is shown -/
theorem Inv.quiet {pins : List (Addr × Obj)} {σ : St} {H : Hp} {s : Shared} (I : Inv X pins σ H s) : interactive X.env = false := by simp [interactive, I.ok.kind]
/-- an expression whose value is dropped -/
def tDrop (te : TE) : TS := fun D σ H => te σ H fun _ H1 => D.nx σ H1
theorem ps_expr (he : PE X e te) (hs : swapsWith e none pos.line X.env = pure false := by rfl) : PS X (.Expr e pos) (tDrop te) := by
  intro pins s σ H D I h
  exact wpAny_Expr_any (thn (he pins s σ H _ I h) fun v s1 ⟨x, H1, I1, r1, q1⟩ => ⟨σ, H1, I1, q1⟩) I.quiet hs
def tRet (te : TE) : TS := fun D σ H => te σ H D.rt
theorem ps_ret (he : PE X e te) : PS X (.Return (some e) pos) (tRet te) := by
  intro pins s σ H D I h
  exact wpAny_Return_some (thn (he pins s σ H _ I h) fun v s1 ⟨x, H1, I1, r1, q1⟩ => ⟨x, σ, H1, I1, r1, q1⟩)
def tIfS (c : TT) (t u : TS) : TS := fun D σ H => c σ H fun b H1 => if b = true then t D σ H1 else u D σ H1
theorem ps_if {c : Expr} {a b : List Stmt} {tc : TT} (hc : PT X c tc) (ha : PSs X a t) (hb : PSs X b u) : PS X (.If c a b pos) (tIfS tc t u) := by
  intro pins s σ H D I h
  refine wpAny_If (thn (hc pins s σ H _ I h) fun d s1 ⟨H1, I1, q1⟩ => ?_)
  cases d with
  | true => exact ha pins s1 σ H1 D I1 q1
  | false => exact hb pins s1 σ H1 D I1 q1
end

/-! ### targets -/
abbrev TG := V → St → Hp → (St → Hp → Prop) → Prop
abbrev TGs := List V → St → Hp → (St → Hp → Prop) → Prop
def PG (X : Cx) (target : Expr) (t : TG) : Prop :=
  ∀ (pins : List (Addr × Obj)) (s : Shared) (σ : St) (H : Hp) (v : V) (u : Value) (Q : St → Hp → Prop), Inv X pins σ H s → RelV v u → t v σ H Q →
    wpAny (model X.prog X.w) X.A (assign target X.env u) (fun _ s' => ∃ σ' H', Inv X pins σ' H' s' ∧ Q σ' H') X.xe s
/-- several targets, one after another -/
def PGs (X : Cx) (ts : List Expr) (t : TGs) : Prop :=
  ∀ (pins : List (Addr × Obj)) (s : Shared) (σ : St) (H : Hp) (vs : List V) (us : List Value) (Q : St → Hp → Prop), Inv X pins σ H s → Vals vs us → t vs σ H Q →
    wpAny (model X.prog X.w) X.A (assignInOrder ((assignEach ts X.env).map (·.2)) us) (fun _ s' => ∃ σ' H', Inv X pins σ' H' s' ∧ Q σ' H') X.xe s
section
variable {X : Cx} {pos : Pos}
def gName (i : Nat) : TG := fun v σ H Q => Q (σ.set i (some v)) H
theorem pg_name {i : Nat} {x : Str} (hN : X.N.Nodup) (hi : X.N[i]? = some x) (hx : Loc X.env.scope x) (hf : X.fn x = true ∨ X.env.scope.names.lookup x = some .local := by first | exact .inl rfl | exact .inr rfl | assumption) : PG X (.Name x pos) (gName i) := by
  intro pins s σ H v u Q I r h
  exact wpAny_assign_Name (store_ok I hN hi hx r (fun s' I' => ⟨_, H, I', h⟩) hf)
def gNil : TGs := fun vs σ H Q => vs = [] ∧ Q σ H
def gCons (t : TG) (u : TGs) : TGs := fun vs σ H Q => ∃ v r, vs = v :: r ∧ t v σ H fun σ' H' => u r σ' H' Q
theorem pgs_nil : PGs X [] gNil := by
  intro pins s σ H vs us Q I r h
  obtain ⟨e, h⟩ := h
  subst e
  cases r
  exact assignInOrder_nil ⟨σ, H, I, h⟩
theorem pgs_cons {e : Expr} {es : List Expr} {t : TG} {u : TGs} (h1 : PG X e t) (h2 : PGs X es u)
    (hs : (assignEach (e :: es) X.env).map (·.2) = assign e X.env :: (assignEach es X.env).map (·.2) := by rfl) : PGs X (e :: es) (gCons t u) := by
  intro pins s σ H vs us Q I r h
  obtain ⟨v, vr, e1, h⟩ := h
  subst e1
  cases r with
  | cons r rr =>
    rw [hs]
    refine assignInOrder_cons (thn (h1 pins s σ H _ _ _ I r h) fun _ s1 ⟨σ1, H1, I1, q1⟩ => ?_)
    exact h2 pins s1 σ1 H1 _ _ Q I1 rr q1
/-- (a, b, ..) = a tuple of that length -/
def gTup (K : PySem.W.Frag) (n : Nat) (t : TGs) : TG := fun v σ H Q => ∃ a xs, v = .ref a ∧ SqT K H a xs ∧ xs.length = n ∧ t xs σ H Q
theorem pg_tup {es : List Expr} {k : Nat} {t : TGs} {n : Nat} (hc : X.calm = true) (h : PGs X es t)
    (hn : (assignEach es X.env).length = n := by rfl) (hst : (assignEach es X.env).findIdx? (·.1) = none := by rfl) : PG X (.Tuple es k pos) (gTup X.K n t) := by
  intro pins s σ H v u Q I r hw
  obtain ⟨a, xs, e1, hq, hl, hw⟩ := hw
  subst e1
  cases r
  obtain ⟨its, rv, ht, hz⟩ := I.tuple hq
  refine assign_Tuple_tuple (I.ok.hd hc) ht (by simp [hn, ← hl, rv.length]) hst fun h' hx => ?_
  have I1 : Inv X pins σ H { s with heap := h' } := I.kept (t' := s.toks) fun b o e => hx b o (Nat.ne_of_lt (Heap.lt_size e)) e
  exact h pins _ σ H xs _ Q I1 (by simpa using rv) hw
/-- target = value -/
def tAsg (te : TE) (g : TG) : TS := fun D σ H => te σ H fun x H1 => g x σ H1 D.nx
theorem ps_asg {tg e : Expr} {te : TE} {g : TG} (he : PE X e te) (hg : PG X tg g) (hs : swapsWithSole [tg] e pos.line X.env = pure false := by rfl) (hw : swappedStores [tg] e X.env = pure none := by rfl)
    (h1 : (assignEach [tg] X.env).map (·.2) = [assign tg X.env] := by rfl) : PS X (.Assign [tg] e pos) (tAsg te g) := by
  intro pins s σ H D I h
  refine wpAny_Assign_stores (thn (he pins s σ H _ I h) fun v s1 ⟨x, H1, I1, r1, q1⟩ => ?_) hs hw
  rw [h1]
  exact thn (hg pins s1 σ H1 x v _ I1 r1 q1) fun _ s2 q => q
/-- name = value -/
theorem ps_set {i : Nat} {x : Str} {e : Expr} {te : TE} {pos' : Pos} (hN : X.N.Nodup) (hi : X.N[i]? = some x) (hx : Loc X.env.scope x) (he : PE X e te) (hs : swapsWith e (some (.Name x pos')) pos.line X.env = pure false := by rfl) (hf : X.fn x = true ∨ X.env.scope.names.lookup x = some .local := by first | exact .inl rfl | exact .inr rfl | assumption) :
    PS X (.Assign [.Name x pos'] e pos) (tAsg te (gName i)) := by
  intro pins s σ H D I h
  refine wpAny_Assign_Name (thn (he pins s σ H _ I h) fun v s1 ⟨y, H1, I1, r1, q1⟩ => ?_) hs
  exact store_ok I1 hN hi hx r1 (fun s2 I2 => ⟨_, H1, I2, q1⟩) hf
end

/-! ### while -/
section
variable {X : Cx} {pos : Pos}
end

/-! ### what a loop or a comprehension walks -/
/-- at turn i: it yields x (the heap may grow), or it stops -/
structure It where
  go : Nat → Hp → Prop
  yld : Nat → Hp → V → Hp → Prop
  stop : Nat → Hp → Prop
/-- the iterator's own objects may turn: they are not the frame's, not pinned, younger than the entry (or a comprehension's own) -/
def FpOk (X : Cx) (pins : List (Addr × Obj)) (H : Hp) (b : Addr) : Prop :=
  H b = none ∧ b ≠ X.env.locals ∧ b ∉ X.fs ∧ (b ∈ X.ex ∨ X.s₀.heap.objs.size ≤ b) ∧ (∀ x c, X.env.cells.lookup x = some c → c ≠ b) ∧ ∀ p ∈ X.pn ++ pins, p.1 ≠ b
theorem Inv.fpOk {X : Cx} {pins : List (Addr × Obj)} {σ : St} {H H' : Hp} {s : Shared} {b : Addr} (I : Inv X pins σ H s) (hb : s.heap.objs.size ≤ b) (hn : H' b = none) : FpOk X pins H' b := by
  refine ⟨hn, Nat.ne_of_gt (Nat.lt_of_lt_of_le I.lt hb), I.nofs hb, .inr (Nat.le_trans I.sz hb), fun x c e z => ?_, fun p hp z => ?_⟩
  · obtain ⟨v, q⟩ := I.cell x c e
    exact absurd (Nat.lt_of_lt_of_le q.lt (by rw [z]; exact hb)) (Nat.lt_irrefl _)
  · exact absurd (Nat.lt_of_lt_of_le (Heap.lt_size (I.pin p hp).1) (by rw [z]; exact hb)) (Nat.lt_irrefl _)
structure Turn (P : Program) (w : World) (K : PySem.W.Frag) (tg : Expr) (J : It) (fp : List Addr) (it : Addr) (tn : Nat → Heap → Prop) : Prop where
  mem : it ∈ fp
  obj : ∀ i h, tn i h → ∀ b ∈ fp, ∃ o, h.get? b = some o ∧ ∀ v, o.data ≠ .cell v
  keep : ∀ i h h', tn i h → (∀ b ∈ fp, ∀ o, h.get? b = some o → h'.get? b = some o) → tn i h'
  item : ∀ (X : Cx), X.prog = P → X.w = w → X.K = K → X.calm = true → ∀ (i : Nat) (pins : List (Addr × Obj)) (s : Shared) (σ : St) (H : Hp) (E : Value → Shared → Prop), Inv X pins σ H s → (∀ b ∈ fp, FpOk X pins H b) → tn i s.heap → J.go i H →
    wpAny (model P w) X.A (pyNext (.ref it)) (fun r s1 => ∃ u, r = some u ∧
      wpAny (model P w) X.A (letOwnedTupleGo tg (.ref it) u) (fun _ s2 => ∃ x H', Inv X pins σ H' s2 ∧ RelV x u ∧ J.yld i H x H' ∧ tn (i + 1) s2.heap ∧ ∀ b ∈ fp, H' b = none) E s1) E s
  done : ∀ (X : Cx), X.prog = P → X.w = w → X.K = K → X.calm = true → ∀ (i : Nat) (pins : List (Addr × Obj)) (s : Shared) (σ : St) (H : Hp) (E : Value → Shared → Prop), Inv X pins σ H s → (∀ b ∈ fp, FpOk X pins H b) → tn i s.heap → J.stop i H →
    wpAny (model P w) X.A (pyNext (.ref it)) (fun r s1 => r = none ∧ Inv X pins σ H s1) E s
  self : ∀ (A : Around) (i : Nat) (s : Shared) (Q : Value → Shared → Prop) (E : Value → Shared → Prop), tn i s.heap → Q (.ref it) s → wpAny (model P w) A (pyIter (.ref it)) Q E s
abbrev TI := St → Hp → (It → Hp → Prop) → Prop
/-- an iterator has come -/
def PIE (X : Cx) (pins : List (Addr × Obj)) (σ : St) (tg : Expr) (R : It → Hp → Prop) (itv : Value) (s2 : Shared) : Prop :=
  ∃ (it : Addr) (fp : List Addr) (tn : Nat → Heap → Prop) (J : It) (H' : Hp), itv = .ref it ∧ Inv X pins σ H' s2 ∧ Turn X.prog X.w X.K tg J fp it tn ∧ tn 0 s2.heap ∧ (∀ b ∈ fp, FpOk X pins H' b) ∧ R J H'
def PI (X : Cx) (tg iter : Expr) (wi : TI) : Prop :=
  ∀ (pins : List (Addr × Obj)) (s : Shared) (σ : St) (H : Hp) (R : It → Hp → Prop), Inv X pins σ H s → wi σ H R →
    wpAny (model X.prog X.w) X.A (eval iter X.env) (fun v s1 => wpAny (model X.prog X.w) X.A (pyIter v) (PIE X pins σ tg R) X.xe s1) X.xe s

/-- the step ahead of the store is nothing for an iterator that keeps no tuple -/
theorem go_of {M : Model} {A : Around} {E : Value → Shared → Prop} {s : Shared} {tg : Expr} {it : Addr} {u : Value} {o : Obj} {n : String} {vs : Array Value} {Q : Unit → Shared → Prop} (ho : s.heap.get? it = some o) (hc : o.cls = .type n) (hd : o.data = .fields vs)
    (hn : ["enumerate", "zip", "dict_itemiterator", "dict_reverseitemiterator", "odict_iterator", "itertools.zip_longest", "itertools.pairwise"].contains n = false) (hQ : Q () s) : wpAny M A (letOwnedTupleGo tg (.ref it) u) Q E s := by
  unfold letOwnedTupleGo
  cases tg <;> first
    | exact wpAny_pure hQ
    | (cases u <;> first
        | exact wpAny_pure hQ
        | (refine wpAny_bind (wpAny_load ho ?_)
           rw [hc, hd]
           show wpAny M A (if (["enumerate", "zip", "dict_itemiterator", "dict_reverseitemiterator", "odict_iterator", "itertools.zip_longest", "itertools.pairwise"].contains n && vs[0]? == some (rawInt _)) = true then _ else _) Q E s
           rw [if_neg (by intro h; rw [hn, Bool.false_and] at h; cases h)]
           exact wpAny_pure hQ))

/-- the list at a, as it stands at each turn (a loop may append to it) -/
def Itl (K : PySem.W.Frag) (a : Addr) : It :=
  ⟨fun i H => ∃ xs x, SqL K H a xs ∧ xs[i]? = some x, fun i H x H' => H' = H ∧ ∀ xs, SqL K H a xs → xs[i]? = some x, fun i H => ∃ xs, SqL K H a xs ∧ xs.length ≤ i⟩
def Itt (K : PySem.W.Frag) (a : Addr) : It :=
  ⟨fun i H => ∃ xs x, SqT K H a xs ∧ xs[i]? = some x, fun i H x H' => H' = H ∧ ∀ xs, SqT K H a xs → xs[i]? = some x, fun i H => ∃ xs, SqT K H a xs ∧ xs.length ≤ i⟩
/-- lo, lo + 1, .. (n of them) -/
def Itr (lo : Int) (n : Nat) : It := ⟨fun i _ => i < n, fun i H x H' => H' = H ∧ x = .int (lo + i), fun i _ => n ≤ i⟩
theorem turn_list {P : Program} {w : World} {K : PySem.W.Frag} {tg : Expr} (a it : Addr) : Turn P w K tg (Itl K a) [it] it (fun i h => h.IsListIter it a i) where
  mem := by simp
  obj := fun i h st b hb => by
    have e : b = it := by simpa using hb
    subst e
    obtain ⟨o, e, c, d⟩ := st
    exact ⟨o, e, fun v z => by rw [d] at z; cases z⟩
  keep := fun i h h' st k => st.at fun o e => k it (by simp) o e
  item := by
    intro X hP hw hK hc i pins s σ H E I hf st hg
    subst hP hw hK
    obtain ⟨xs, x, hq, hx⟩ := hg
    obtain ⟨its, rv, p, hz⟩ := I.list hq
    obtain ⟨u, hu, ru⟩ := rv.get hx
    obtain ⟨f0, f1, f2, f3, f4, f5⟩ := hf it (by simp)
    refine wpAny_pyNext_list_item st p.isList (x := u) (by simpa using hu) fun h' st' sb => ?_
    have I1 : Inv X pins σ H { s with heap := h' } := I.turned (t' := s.toks) (fun b o hb e => (sb.2 b hb).trans e) f0 f1 f3 f4 f5
    obtain ⟨o, e, c, d⟩ := id st'
    exact ⟨u, rfl, go_of (s := { s with heap := h' }) e c d (by decide) ⟨x, H, I1, ru, ⟨rfl, fun ys hy => by rw [I.list_inj hy hq]; exact hx⟩, st', fun b hb => (hf b hb).1⟩⟩
  done := by
    intro X hP hw hK hc i pins s σ H E I hf st hg
    subst hP hw hK
    obtain ⟨xs, hq, hx⟩ := hg
    obtain ⟨its, rv, p, hz⟩ := I.list hq
    obtain ⟨f0, f1, f2, f3, f4, f5⟩ := hf it (by simp)
    have hl := rv.length
    exact wpAny_pyNext_list_end (I.ok.hd hc) st p.isList (by simp; omega) fun h' eb => ⟨rfl, I.turned (t' := s.toks) (fun b o hb e => eb b o hb e) f0 f1 f3 f4 f5⟩
  self := fun _ _ _ _ _ st h => wpAny_pyIter_listiter st h
theorem turn_tuple {P : Program} {w : World} {K : PySem.W.Frag} {tg : Expr} (a it : Addr) : Turn P w K tg (Itt K a) [it] it (fun i h => h.IsTupleIter it a i) where
  mem := by simp
  obj := fun i h st b hb => by
    have e : b = it := by simpa using hb
    subst e
    obtain ⟨o, e, c, d⟩ := st
    exact ⟨o, e, fun v z => by rw [d] at z; cases z⟩
  keep := fun i h h' st k => st.at fun o e => k it (by simp) o e
  item := by
    intro X hP hw hK hc i pins s σ H E I hf st hg
    subst hP hw hK
    obtain ⟨xs, x, hq, hx⟩ := hg
    obtain ⟨its, rv, p, hz⟩ := I.tuple hq
    obtain ⟨u, hu, ru⟩ := rv.get hx
    obtain ⟨f0, f1, f2, f3, f4, f5⟩ := hf it (by simp)
    refine wpAny_pyNext_tuple_item st (show s.heap.IsTuple a its.toArray from p) (x := u) (by simpa using hu) fun h' st' sb => ?_
    have I1 : Inv X pins σ H { s with heap := h' } := I.turned (t' := s.toks) (fun b o hb e => (sb.2 b hb).trans e) f0 f1 f3 f4 f5
    obtain ⟨o, e, c, d⟩ := id st'
    exact ⟨u, rfl, go_of (s := { s with heap := h' }) e c d (by decide) ⟨x, H, I1, ru, ⟨rfl, fun ys hy => by rw [I.tuple_inj hy hq]; exact hx⟩, st', fun b hb => (hf b hb).1⟩⟩
  done := by
    intro X hP hw hK hc i pins s σ H E I hf st hg
    subst hP hw hK
    obtain ⟨xs, hq, hx⟩ := hg
    obtain ⟨its, rv, p, hz⟩ := I.tuple hq
    obtain ⟨f0, f1, f2, f3, f4, f5⟩ := hf it (by simp)
    have hl := rv.length
    exact wpAny_pyNext_tuple_end (I.ok.hd hc) st (show s.heap.IsTuple a its.toArray from p) (by simp; omega) fun h' eb => ⟨rfl, I.turned (t' := s.toks) (fun b o hb e => eb b o hb e) f0 f1 f3 f4 f5⟩
  self := fun _ _ _ _ _ st h => wpAny_pyIter_tupleiter st h
theorem turn_range {P : Program} {w : World} {K : PySem.W.Frag} {tg : Expr} (it : Addr) (lo : Int) (n : Nat) : Turn P w K tg (Itr lo n) [it] it (fun i h => IsRangeIter h it (lo + (i : Nat) * 1) ((n : Int) - (i : Nat)) 1) where
  mem := by simp
  obj := fun i h st b hb => by
    have e : b = it := by simpa using hb
    subst e
    exact ⟨_, st, fun v z => by
      have z' : Data.fields _ = Data.cell v := z
      cases z'⟩
  keep := fun i h h' st k => k it (by simp) _ st
  item := by
    intro X hP hw hK hc i pins s σ H E I hf st hg
    subst hP hw hK
    obtain ⟨f0, f1, f2, f3, f4, f5⟩ := hf it (by simp)
    have W := Walks.range (prog := X.prog) (w := X.w) (I.ok.hd hc) it lo 1 n
    refine W.item i s _ _ hg st fun v h' tk hv st' kk => ?_
    obtain ⟨t, rfl⟩ := hv
    have I1 : Inv X pins σ H { s with heap := h', toks := tk } := I.turned (fun b o hb e => kk b o (by simpa using hb) e) f0 f1 f3 f4 f5
    refine ⟨_, rfl, go_of (s := { s with heap := h', toks := tk }) (n := "range_iterator") st' rfl rfl (by decide) ⟨.int (lo + i), H, I1, ⟨t, ?_⟩, ⟨rfl, rfl⟩, st', fun b hb => (hf b hb).1⟩⟩
    rw [Int.mul_one]
  done := by
    intro X hP hw hK hc i pins s σ H E I hf st hg
    subst hP hw hK
    obtain ⟨f0, f1, f2, f3, f4, f5⟩ := hf it (by simp)
    exact wpAny_pyNext_range_end (I.ok.hd hc) st (by have : n ≤ i := hg; omega) fun h' eb => ⟨rfl, I.turned (t' := s.toks) (fun b o hb e => eb b o hb e) f0 f1 f3 f4 f5⟩
  self := fun _ _ _ _ _ st h => wpAny_pyIter_rangeiter st h
end L2

namespace L2
open PySem PySem.Spec PyProof.Rows
section
variable {X : Cx} {tg : Expr}
def iList (K : PySem.W.Frag) (tl : TE) : TI := fun σ H R => tl σ H fun x H1 => ∃ a, x = .ref a ∧ (∃ xs, SqL K H1 a xs) ∧ R (Itl K a) H1
def iTup (K : PySem.W.Frag) (tl : TE) : TI := fun σ H R => tl σ H fun x H1 => ∃ a, x = .ref a ∧ (∃ xs, SqT K H1 a xs) ∧ R (Itt K a) H1
theorem pi_list {l : Expr} {tl : TE} (hl : PE X l tl) : PI X tg l (iList X.K tl) := by
  intro pins s σ H R I h
  refine thn (hl pins s σ H _ I h) fun v s1 ⟨x, H1, I1, r1, q1⟩ => ?_
  obtain ⟨a, e, ⟨xs, hq⟩, q⟩ := q1
  subst e
  cases r1
  obtain ⟨its, rv, p, hz⟩ := I1.list hq
  refine wpAny_pyIter_list p.isList ?_
  refine ⟨s1.heap.objs.size, [s1.heap.objs.size], _, _, H1, rfl, I1.kept (t' := s1.toks) fun b o e => Heap.get?_push_of_some _ e, turn_list a _, ⟨_, Heap.get?_push_size _ rfl, rfl, rfl⟩, fun b hb => ?_, q⟩
  have e : b = s1.heap.objs.size := by simpa using hb
  subst e
  exact I1.fpOk (Nat.le_refl _) (I1.hok.fresh (Nat.le_refl _))
theorem pi_tup {l : Expr} {tl : TE} (hl : PE X l tl) : PI X tg l (iTup X.K tl) := by
  intro pins s σ H R I h
  refine thn (hl pins s σ H _ I h) fun v s1 ⟨x, H1, I1, r1, q1⟩ => ?_
  obtain ⟨a, e, ⟨xs, hq⟩, q⟩ := q1
  subst e
  cases r1
  obtain ⟨its, rv, p, hz⟩ := I1.tuple hq
  refine wpAny_pyIter_tuple (show s1.heap.IsTuple a its.toArray from p) ?_
  refine ⟨s1.heap.objs.size, [s1.heap.objs.size], _, _, H1, rfl, I1.kept (t' := s1.toks) fun b o e => Heap.get?_push_of_some _ e, turn_tuple a _, ⟨_, Heap.get?_push_size _ rfl, rfl, rfl⟩, fun b hb => ?_, q⟩
  have e : b = s1.heap.objs.size := by simpa using hb
  subst e
  exact I1.fpOk (Nat.le_refl _) (I1.hok.fresh (Nat.le_refl _))
/-- a range object just made, walked -/
theorem range_it {pins : List (Addr × Obj)} {σ : St} {H : Hp} {s : Shared} {R : It → Hp → Prop} {E : Value → Shared → Prop} {lo hi : Int} {t u v : Tok} {tk : Nat} (I : Inv X pins σ H s) (h1 : -(2 ^ 62) ≤ lo) (h2 : lo < 2 ^ 62) (h3 : -(2 ^ 62) ≤ hi) (h4 : hi < 2 ^ 62)
    (q : R (Itr lo (hi - lo).toNat) H) : wpAny (model X.prog X.w) X.A (pyIter (.ref s.heap.objs.size)) (PIE X pins σ tg R) E { s with heap := s.heap.push { cls := .type "range", data := .fields #[.int lo t, .int hi u, .int 1 v] }, toks := tk } := by
  refine wpAny_pyIter_range (IsRange.new ..) (small_one h1 h2 h3 h4) ?_
  have I1 : Inv X pins σ H { s with heap := s.heap.push { cls := .type "range", data := .fields #[.int lo t, .int hi u, .int 1 v] }, toks := tk } := I.kept fun b o e => Heap.get?_push_of_some _ e
  refine ⟨(s.heap.push { cls := .type "range", data := .fields #[.int lo t, .int hi u, .int 1 v] }).objs.size, [(s.heap.push { cls := .type "range", data := .fields #[.int lo t, .int hi u, .int 1 v] }).objs.size], _, _, H, rfl,
    I1.kept (t' := tk) fun b o e => Heap.get?_push_of_some _ e, turn_range _ lo (hi - lo).toNat, ?_, fun b hb => ?_, q⟩
  · have e1 : lo + ((0 : Nat) : Int) * 1 = lo := by simp
    have e2 : (((hi - lo).toNat : Nat) : Int) - ((0 : Nat) : Int) = Builtin.Range.rangeSize lo hi 1 := by rw [rangeSize_one]; split <;> omega
    show IsRangeIter _ _ (lo + ((0 : Nat) : Int) * 1) ((((hi - lo).toNat : Nat) : Int) - ((0 : Nat) : Int)) 1
    rw [e1, e2]
    exact Heap.get?_push_size _ rfl
  · have e : b = (s.heap.push { cls := .type "range", data := .fields #[.int lo t, .int hi u, .int 1 v] }).objs.size := by simpa using hb
    subst e
    exact I1.fpOk (Nat.le_refl _) (I1.hok.fresh (Nat.le_refl _))
def iRng1 (ta : TA) : TI := fun σ H R => ta σ H fun vs H1 => ∃ j : Int, vs = [.int j] ∧ -(2 ^ 62) ≤ j ∧ j < 2 ^ 62 ∧ R (Itr 0 j.toNat) H1
theorem pi_range1 {a : Expr} {ta : TA} {p pos : Pos} (hg : Gl X "range") (hm : X.mg "range" = none) (ha : PA X [a] ta) (hs : starEach [a] X.env = [(false, eval a X.env)] := by rfl) : PI X tg (.Call (.Name "range" p) [a] [] pos) (iRng1 ta) := by
  intro pins s σ H R I h
  refine Call_ (ld_blt I hg hm boot_range (PyProof.Rows.callWith_type1 (thn (ha pos pins s σ H _ I h) fun us s1 ⟨vs, H1, I1, r1, q1⟩ => ?_) hs rfl))
  obtain ⟨j, e, q1, q2, q⟩ := q1
  subst e
  cases r1 with
  | cons r rr =>
    cases rr
    obtain ⟨t, rfl⟩ := r
    exact call_range_1 (range_it I1 (by omega) (by omega) q1 q2 (by simpa using q))
/-! ### for -/
/-- W: the invariant by the turn and a measure; N: what the body is to reach -/
def tFor (wi : TI) (g : TG) (tb : TS) : TS := fun D σ H => wi σ H fun J H1 => ∃ W : Nat → Nat → St → Hp → Prop, (∃ m, W 0 m σ H1) ∧ ∀ i m σ H, W i m σ H →
  (J.stop i H ∧ D.nx σ H) ∨ (J.go i H ∧ ∃ N : St → Hp → Prop, (∀ σ' H', N σ' H' → ∃ m', m' < m ∧ W (i + 1) m' σ' H') ∧ ∀ x H', J.yld i H x H' → g x σ H' fun σ2 H2 => tb { D with nx := N, ct := N, bk := D.nx } σ2 H2)
/-- the records at fp as they stand -/
def pinsAt (fp : List Addr) (h : Heap) : List (Addr × Obj) := fp.filterMap fun b => (h.get? b).map fun o => (b, o)
theorem mem_pinsAt {fp : List Addr} {h : Heap} {b : Addr} {o : Obj} (hb : b ∈ fp) (e : h.get? b = some o) : (b, o) ∈ pinsAt fp h := List.mem_filterMap.mpr ⟨b, hb, by rw [e]; rfl⟩
theorem of_pinsAt {fp : List Addr} {h : Heap} {p : Addr × Obj} (hp : p ∈ pinsAt fp h) : p.1 ∈ fp ∧ h.get? p.1 = some p.2 := by
  obtain ⟨b, hb, e⟩ := List.mem_filterMap.mp hp
  cases q : h.get? b with
  | none => rw [q] at e; cases e
  | some o =>
    rw [q] at e
    have e' : (b, o) = p := Option.some.inj e
    subst e'
    exact ⟨hb, q⟩
theorem Inv.pinned {pins : List (Addr × Obj)} {σ : St} {H : Hp} {s : Shared} {fp : List Addr} (I : Inv X pins σ H s) (hf : ∀ b ∈ fp, FpOk X pins H b) (ho : ∀ b ∈ fp, ∃ o, s.heap.get? b = some o ∧ ∀ v, o.data ≠ .cell v) : Inv X (pins ++ pinsAt fp s.heap) σ H s :=
  I.pins_of fun p hp => (List.mem_append.mp hp).elim (fun z => I.pin p (List.mem_append_right _ z)) fun z => by
    obtain ⟨hb, e⟩ := of_pinsAt z
    obtain ⟨f0, f1, f2, _⟩ := hf p.1 hb
    obtain ⟨o, e', d⟩ := ho p.1 hb
    rw [e] at e'; cases e'
    exact ⟨e, f0, f1, f2, d⟩
theorem Inv.unpinned {pins pl : List (Addr × Obj)} {σ : St} {H : Hp} {s : Shared} (I : Inv X (pins ++ pl) σ H s) : Inv X pins σ H s := I.pins_of fun p hp => I.pin p (List.mem_append_right _ (List.mem_append_left _ hp))
theorem ps_for {iter : Expr} {body : List Stmt} {wi : TI} {g : TG} {tb : TS} {pos : Pos} (hp : PassesOwn (model X.prog X.w) X.A X.env X.xe) (hc : X.calm = true) (hi : PI X tg iter wi) (hg : PG X tg g) (hb : PSs X body tb)
    (hs : ∀ x, foldedSetIterable iter X.env x = pure x := by intro _; rfl) : PS X (.For tg iter body [] pos) (tFor wi g tb) := by
  intro pins s σ H D I h
  refine wpAny_For (thn (hi pins s σ H _ I h) fun v s1 h1 => thn h1 fun itv s2 h2 => ?_) hs
  obtain ⟨it, fp, tn, J, H2, e, I2, T, st2, f2, W, ⟨m0, w0⟩, turn⟩ := h2
  subst e
  -- what stays true of the iterator's objects through the loop
  have stat : ∀ {H' : Hp}, (∀ b ∈ fp, H' b = none) → ∀ b ∈ fp, FpOk X pins H' b := fun hn b hb => ⟨hn b hb, (f2 b hb).2⟩
  refine codeAny_forLoop_any (fun n s' => ∃ i σ' H', Inv X pins σ' H' s' ∧ tn i s'.heap ∧ (∀ b ∈ fp, H' b = none) ∧ W i n σ' H') ?_ m0 ⟨0, σ, H2, I2, st2, fun b hb => (f2 b hb).1, w0⟩
  rintro n s3 ⟨i, σ3, H3, I3, st3, fr3, w3⟩
  rcases turn i n σ3 H3 w3 with ⟨stop, qn⟩ | ⟨go, N, hN, step⟩
  · refine wpAny_passesOwn hp (thn (T.done X rfl rfl rfl hc i pins s3 σ3 H3 X.xe I3 (stat fr3) st3 stop) fun r s4 ⟨hr, I4⟩ => ?_)
    subst hr
    exact wpAny_execs_nil ⟨σ3, H3, I4, qn⟩
  · refine wpAny_passesOwn hp (thn (T.item X rfl rfl rfl hc i pins s3 σ3 H3 X.xe I3 (stat fr3) st3 go) fun r s4 ⟨u, hr, h4⟩ => ?_)
    subst hr
    refine wpAny_passesOwn hp (thn h4 fun _ s5 ⟨x, H5, I5, r5, y5, st5, fr5⟩ => ?_)
    have I5' := I5.pinned (stat fr5) (T.obj _ _ st5)
    refine wpAny_passesOwn hp (thn (hg _ s5 σ3 H5 x u _ I5' r5 (step x H5 y5)) fun _ s6 ⟨σ6, H6, I6, q6⟩ => ?_)
    refine wpAny_passesOwn hp (thn (hb _ s6 σ6 H6 _ I6 q6) fun f s7 q7 => ?_)
    have again : ∀ {σ7 : St} {H7 : Hp}, Inv X (pins ++ pinsAt fp s5.heap) σ7 H7 s7 → N σ7 H7 → ∃ m, m < n ∧ ∃ i σ' H', Inv X pins σ' H' s7 ∧ tn i s7.heap ∧ (∀ b ∈ fp, H' b = none) ∧ W i m σ' H' := fun {σ7 H7} I7 n7 => by
      obtain ⟨m', hm, w7⟩ := hN σ7 H7 n7
      refine ⟨m', hm, i + 1, σ7, H7, I7.unpinned, T.keep _ _ _ st5 fun b hb o e => (I7.pin (b, o) (List.mem_append_right _ (List.mem_append_right _ (mem_pinsAt hb e)))).1, fun b hb => ?_, w7⟩
      obtain ⟨o, e, d⟩ := T.obj _ _ st5 b hb
      exact (I7.pin (b, o) (List.mem_append_right _ (List.mem_append_right _ (mem_pinsAt hb e)))).2.1
    cases f with
    | next => obtain ⟨σ7, H7, I7, n7⟩ := q7; exact again I7 n7
    | cont => obtain ⟨σ7, H7, I7, n7⟩ := q7; exact again I7 n7
    | brk => obtain ⟨σ7, H7, I7, q7⟩ := q7; exact ⟨σ7, H7, I7.unpinned, q7⟩
    | ret v => obtain ⟨x7, σ7, H7, I7, r7, q7⟩ := q7; exact ⟨x7, σ7, H7, I7.unpinned, r7, q7⟩
end

/-! ### the forms one uses -/
/-- over a list that the body leaves as it is -/
theorem for_list {K : PySem.W.Frag} {a : Addr} {xs : List V} {g : TG} {tb : TS} {D : Ends} {σ : St} {H : Hp} (Pv : Nat → St → Hp → Prop) (h0 : Pv 0 σ H) (hl : ∀ i σ H, i ≤ xs.length → Pv i σ H → SqL K H a xs)
    (hs : ∀ i x σ H, xs[i]? = some x → Pv i σ H → g x σ H fun σ2 H2 => tb { D with nx := Pv (i + 1), ct := Pv (i + 1), bk := D.nx } σ2 H2) (hd : ∀ σ H, Pv xs.length σ H → D.nx σ H) :
    ∃ W : Nat → Nat → St → Hp → Prop, (∃ m, W 0 m σ H) ∧ ∀ i m σ H, W i m σ H →
      ((Itl K a).stop i H ∧ D.nx σ H) ∨ ((Itl K a).go i H ∧ ∃ N : St → Hp → Prop, (∀ σ' H', N σ' H' → ∃ m', m' < m ∧ W (i + 1) m' σ' H') ∧ ∀ x H', (Itl K a).yld i H x H' → g x σ H' fun σ2 H2 => tb { D with nx := N, ct := N, bk := D.nx } σ2 H2) := by
  refine ⟨fun i m σ H => m = xs.length - i ∧ i ≤ xs.length ∧ Pv i σ H, ⟨xs.length, by simp, Nat.zero_le _, h0⟩, ?_⟩
  rintro i m σ H ⟨rfl, hi, p⟩
  have q := hl i σ H hi p
  by_cases hlt : i < xs.length
  · refine .inr ⟨⟨xs, xs[i], q, by simp [hlt]⟩, Pv (i + 1), fun σ' H' p' => ⟨xs.length - (i + 1), by omega, rfl, hlt, p'⟩, fun x H' y => ?_⟩
    obtain ⟨e, y⟩ := y
    subst e
    exact hs i x σ _ (y xs q) p
  · have e : i = xs.length := by omega
    subst e
    exact .inl ⟨⟨xs, q, Nat.le_refl _⟩, hd σ H p⟩
theorem for_tup {K : PySem.W.Frag} {a : Addr} {xs : List V} {g : TG} {tb : TS} {D : Ends} {σ : St} {H : Hp} (Pv : Nat → St → Hp → Prop) (h0 : Pv 0 σ H) (hl : ∀ i σ H, i ≤ xs.length → Pv i σ H → SqT K H a xs)
    (hs : ∀ i x σ H, xs[i]? = some x → Pv i σ H → g x σ H fun σ2 H2 => tb { D with nx := Pv (i + 1), ct := Pv (i + 1), bk := D.nx } σ2 H2) (hd : ∀ σ H, Pv xs.length σ H → D.nx σ H) :
    ∃ W : Nat → Nat → St → Hp → Prop, (∃ m, W 0 m σ H) ∧ ∀ i m σ H, W i m σ H →
      ((Itt K a).stop i H ∧ D.nx σ H) ∨ ((Itt K a).go i H ∧ ∃ N : St → Hp → Prop, (∀ σ' H', N σ' H' → ∃ m', m' < m ∧ W (i + 1) m' σ' H') ∧ ∀ x H', (Itt K a).yld i H x H' → g x σ H' fun σ2 H2 => tb { D with nx := N, ct := N, bk := D.nx } σ2 H2) := by
  refine ⟨fun i m σ H => m = xs.length - i ∧ i ≤ xs.length ∧ Pv i σ H, ⟨xs.length, by simp, Nat.zero_le _, h0⟩, ?_⟩
  rintro i m σ H ⟨rfl, hi, p⟩
  have q := hl i σ H hi p
  by_cases hlt : i < xs.length
  · refine .inr ⟨⟨xs, xs[i], q, by simp [hlt]⟩, Pv (i + 1), fun σ' H' p' => ⟨xs.length - (i + 1), by omega, rfl, hlt, p'⟩, fun x H' y => ?_⟩
    obtain ⟨e, y⟩ := y
    subst e
    exact hs i x σ _ (y xs q) p
  · have e : i = xs.length := by omega
    subst e
    exact .inl ⟨⟨xs, q, Nat.le_refl _⟩, hd σ H p⟩
theorem for_range {lo : Int} {n : Nat} {g : TG} {tb : TS} {D : Ends} {σ : St} {H : Hp} (Pv : Nat → St → Hp → Prop) (h0 : Pv 0 σ H)
    (hs : ∀ i σ H, i < n → Pv i σ H → g (.int (lo + i)) σ H fun σ2 H2 => tb { D with nx := Pv (i + 1), ct := Pv (i + 1), bk := D.nx } σ2 H2) (hd : ∀ σ H, Pv n σ H → D.nx σ H) :
    ∃ W : Nat → Nat → St → Hp → Prop, (∃ m, W 0 m σ H) ∧ ∀ i m σ H, W i m σ H →
      ((Itr lo n).stop i H ∧ D.nx σ H) ∨ ((Itr lo n).go i H ∧ ∃ N : St → Hp → Prop, (∀ σ' H', N σ' H' → ∃ m', m' < m ∧ W (i + 1) m' σ' H') ∧ ∀ x H', (Itr lo n).yld i H x H' → g x σ H' fun σ2 H2 => tb { D with nx := N, ct := N, bk := D.nx } σ2 H2) := by
  refine ⟨fun i m σ H => m = n - i ∧ i ≤ n ∧ Pv i σ H, ⟨n, by simp, Nat.zero_le _, h0⟩, ?_⟩
  rintro i m σ H ⟨rfl, hi, p⟩
  by_cases hlt : i < n
  · refine .inr ⟨hlt, Pv (i + 1), fun σ' H' p' => ⟨n - (i + 1), by omega, rfl, hlt, p'⟩, fun x H' y => ?_⟩
    obtain ⟨e, y⟩ := y
    subst e y
    exact hs i σ _ hlt p
  · have e : i = n := by omega
    subst e
    exact .inl ⟨Nat.le_refl _, hd σ H p⟩
end L2

namespace L2
open PySem PySem.Spec PyProof.Rows

abbrev R2 := V → V → Hp → VK → Prop
/-- a two-place operation on values: f is binaryOp op, inplaceOp op or compareOp op -/
def OpR (X : Cx) (f : Value → Value → Sem Value) (r : R2) : Prop :=
  ∀ (pins : List (Addr × Obj)) (s : Shared) (σ : St) (H : Hp) (x y : V) (v u : Value) (Q : VK), Inv X pins σ H s → RelV x v → RelV y u → r x y H Q →
    wpAny (model X.prog X.w) X.A (f v u) (EP X pins σ Q) X.xe s
/-- a one-place operation -/
def UnR (X : Cx) (f : Value → Sem Value) (r : V → Hp → VK → Prop) : Prop :=
  ∀ (pins : List (Addr × Obj)) (s : Shared) (σ : St) (H : Hp) (x : V) (v : Value) (Q : VK), Inv X pins σ H s → RelV x v → r x H Q →
    wpAny (model X.prog X.w) X.A (f v) (EP X pins σ Q) X.xe s
/-- a call of a value that is known (a builtin, a type) with values -/
def CallR (X : Cx) (f : Value) (r : List V → Hp → VK → Prop) : Prop :=
  ∀ (pins : List (Addr × Obj)) (s : Shared) (σ : St) (H : Hp) (xs : List V) (us : List Value) (Q : VK), Inv X pins σ H s → Vals xs us → r xs H Q →
    wpAny (model X.prog X.w) X.A (call f us) (EP X pins σ Q) X.xe s
def tOp (r : R2) (ta tb : TE) : TE := fun σ H Q => ta σ H fun x H1 => tb σ H1 fun y H2 => r x y H2 Q
def tUn (r : V → Hp → VK → Prop) (ta : TE) : TE := fun σ H Q => ta σ H fun x H1 => r x H1 Q
/-- ints in, under C, and a value out -/
def rI (C : Int → Int → Prop) (g : Int → Int → V) : R2 := fun x y H Q => ∃ i j, x = .int i ∧ y = .int j ∧ C i j ∧ Q (g i j) H
def rI0 (g : Int → Int → V) : R2 := fun x y H Q => ∃ i j, x = .int i ∧ y = .int j ∧ Q (g i j) H
def rU (g : Int → V) : V → Hp → VK → Prop := fun x H Q => ∃ i, x = .int i ∧ Q (g i) H

section
variable {X : Cx} {a b c : Expr} {ta tb tc : TE} {pos : Pos}

theorem binT (ha : PE X a ta) (hb : PE X b tb) {pins : List (Addr × Obj)} {s : Shared} {σ : St} {H : Hp} {R : V → V → Hp → Prop} (I : Inv X pins σ H s)
    (h : ta σ H fun x H1 => tb σ H1 fun y H2 => R x y H2) {Q : Value → Shared → Prop} {f : Value → Value → Sem Value}
    (hf : ∀ v u s2 x y H2, Inv X pins σ H2 s2 → RelV x v → RelV y u → R x y H2 → wpAny (model X.prog X.w) X.A (f v u) Q X.xe s2) :
    wpAny (model X.prog X.w) X.A (eval a X.env) (fun v s₁ => wpAny (model X.prog X.w) X.A (eval b X.env) (fun u s₂ => wpAny (model X.prog X.w) X.A (f v u) Q X.xe s₂) X.xe s₁) X.xe s := by
  refine thn (ha pins s σ H _ I h) fun v s1 ⟨x, H1, I1, r1, q1⟩ => ?_
  refine thn (hb pins s1 σ H1 _ I1 q1) fun u s2 ⟨y, H2, I2, r2, q2⟩ => ?_
  exact hf v u s2 x y H2 I2 r1 r2 q2

theorem pe_op {op : Operator} {r : R2} (ho : OpR X (binaryOp op) r) (ha : PE X a ta) (hb : PE X b tb) : PE X (.BinOp a op b pos) (tOp r ta tb) := by
  intro pins s σ H Q I h
  exact wpAny_BinOp (binT ha hb I h fun v u s2 x y H2 I2 rx ry q => ho pins s2 σ H2 x y v u Q I2 rx ry q)
theorem pe_un {op : UnaryOp} {r : V → Hp → VK → Prop} (ho : UnR X (unaryOp op) r) (ha : PE X a ta) : PE X (.UnaryOp op a pos) (tUn r ta) := by
  intro pins s σ H Q I h
  exact UnaryOp_ (thn (ha pins s σ H _ I h) fun v s1 ⟨x, H1, I1, r1, q1⟩ => ho pins s1 σ H1 x v Q I1 r1 q1)
/-! ### ints -/
theorem opI {f : Value → Value → Sem Value} {C : Int → Int → Prop} {g : Int → Int → Int}
    (rule : ∀ (i j : Int) (t u : Tok) (s : Shared) (Q : Value → Shared → Prop) (E : Value → Shared → Prop), C i j → Q (.int (g i j) s.toks) { s with toks := s.toks + 1 } → wpAny (model X.prog X.w) X.A (f (.int i t) (.int j u)) Q E s) :
    OpR X f (rI C fun i j => .int (g i j)) := by
  intro pins s σ H x y v u Q I rx ry h
  obtain ⟨i, j, rfl, rfl, hc, q⟩ := h
  obtain ⟨t, rfl⟩ := rx
  obtain ⟨t', rfl⟩ := ry
  exact rule i j t t' s _ _ hc ⟨.int (g i j), H, I.tok _, ⟨_, rfl⟩, q⟩
theorem opI0 {f : Value → Value → Sem Value} {g : Int → Int → Int}
    (rule : ∀ (i j : Int) (t u : Tok) (s : Shared) (Q : Value → Shared → Prop) (E : Value → Shared → Prop), Q (.int (g i j) s.toks) { s with toks := s.toks + 1 } → wpAny (model X.prog X.w) X.A (f (.int i t) (.int j u)) Q E s) :
    OpR X f (rI0 fun i j => .int (g i j)) := by
  intro pins s σ H x y v u Q I rx ry h
  obtain ⟨i, j, rfl, rfl, q⟩ := h
  obtain ⟨t, rfl⟩ := rx
  obtain ⟨t', rfl⟩ := ry
  exact rule i j t t' s _ _ ⟨.int (g i j), H, I.tok _, ⟨_, rfl⟩, q⟩
theorem opB0 {f : Value → Value → Sem Value} {g : Int → Int → Bool}
    (rule : ∀ (i j : Int) (t u : Tok) (s : Shared) (Q : Value → Shared → Prop) (E : Value → Shared → Prop), Q (.bool (g i j)) s → wpAny (model X.prog X.w) X.A (f (.int i t) (.int j u)) Q E s) :
    OpR X f (rI0 fun i j => .bl (g i j)) := by
  intro pins s σ H x y v u Q I rx ry h
  obtain ⟨i, j, rfl, rfl, q⟩ := h
  obtain ⟨t, rfl⟩ := rx
  obtain ⟨t', rfl⟩ := ry
  exact rule i j t t' s _ _ ⟨.bl (g i j), H, I, rfl, q⟩

def CDiv (i j : Int) : Prop := 0 < j ∧ j < 1073741824
def CPow (i j : Int) : Prop := 0 ≤ j ∧ j ≤ 1000000 ∧ i.natAbs < 2 ^ 64
def CMul (i j : Int) : Prop := (-(2 ^ 64) < i ∧ i < 2 ^ 64) ∨ (-(2 ^ 64) < j ∧ j < 2 ^ 64)
theorem CMul.ok {i j : Int} (h : CMul i j) : IntMulOk i j := by
  rcases h with ⟨h1, h2⟩ | ⟨h1, h2⟩
  · exact .of_left (intBits_le_64 h1 h2)
  · exact .of_right (intBits_le_64 h1 h2)
theorem op_add : OpR X (binaryOp .Add) (rI0 fun i j => .int (i + j)) := opI0 fun _ _ _ _ _ _ _ q => add_int q
theorem op_sub : OpR X (binaryOp .Sub) (rI0 fun i j => .int (i - j)) := opI0 fun _ _ _ _ _ _ _ q => sub_int q
theorem op_mul : OpR X (binaryOp .Mult) (rI CMul fun i j => .int (i * j)) := opI fun _ _ _ _ _ _ _ hc q => mul_int q hc.ok
/-- // by a positive divisor -/
theorem op_fdiv : OpR X (binaryOp .FloorDiv) (rI CDiv fun i j => .int (i / j)) := opI fun i j _ _ _ _ _ hc q => by
  have h1 : (0 : Int) < j := hc.1
  have h2 : j < 1073741824 := hc.2
  exact floordiv_int (by omega) (by rw [Int.fdiv_eq_ediv_of_nonneg i (by omega)]; exact q) (.inl (PyProof.noPylong_small (by omega)))
/-- % by a positive divisor of any size -/
theorem op_mod : OpR X (binaryOp .Mod) (rI (fun _ j => 0 < j) fun i j => .int (i % j)) := opI fun i j _ _ _ _ _ hc q => by
  have h1 : (0 : Int) < j := hc
  exact mod_int' (by omega) (by rw [Int.fmod_eq_emod_of_nonneg i (by omega)]; exact q)
theorem op_pow : OpR X (binaryOp .Pow) (rI CPow fun i j => .int (i ^ j.toNat)) := opI fun _ _ _ _ _ _ _ hc q => pow_int_small hc.1 hc.2.1 hc.2.2 q
theorem unI {f : Value → Sem Value} {g : Int → Int}
    (rule : ∀ (i : Int) (t : Tok) (s : Shared) (Q : Value → Shared → Prop) (E : Value → Shared → Prop), Q (.int (g i) s.toks) { s with toks := s.toks + 1 } → wpAny (model X.prog X.w) X.A (f (.int i t)) Q E s) :
    UnR X f (rU fun i => .int (g i)) := by
  intro pins s σ H x v Q I rx h
  obtain ⟨i, rfl, q⟩ := h
  obtain ⟨t, rfl⟩ := rx
  exact rule i t s _ _ ⟨.int (g i), H, I.tok _, ⟨_, rfl⟩, q⟩
theorem un_neg : UnR X (unaryOp .USub) (rU fun i => .int (-i)) := unI fun _ _ _ _ _ q => neg_int q
/-! ### bools among ints: n += (a < b) -/
end

/-! ### comparisons -/
/-- the scalars that == tells apart as data does -/
def scal : V → V → Bool
  | .non, .non => true | .non, .int _ => true | .int _, .non => true | .non, .bl _ => true | .bl _, .non => true | .non, .str _ => true | .str _, .non => true
  | .int _, .int _ => true | .bl _, .bl _ => true | .str _, .str _ => true | .byt _, .byt _ => true
  | .int _, .str _ => true | .str _, .int _ => true | .bl _, .str _ => true | .str _, .bl _ => true
  | _, _ => false
def rEq : R2 := fun x y H Q => scal x y = true ∧ Q (.bl (decide (x = y))) H
theorem dec_int {i j : Int} : decide (V.int i = V.int j) = (i == j) := by
  rw [Bool.eq_iff_iff]
  simp
theorem dec_bl {i j : Bool} : decide (V.bl i = V.bl j) = (i == j) := by
  rw [Bool.eq_iff_iff]
  simp
theorem dec_str {i j : Str} : decide (V.str i = V.str j) = (i == j) := by
  rw [Bool.eq_iff_iff]
  simp
theorem dec_byt {i j : Array UInt8} : decide (V.byt i = V.byt j) = (i.toList == j.toList) := by
  rw [Bool.eq_iff_iff]
  cases i
  cases j
  simp

section
variable {X : Cx} {a b c : Expr} {ta tb tc : TE} {pos : Pos}
theorem fin_bl {pins : List (Addr × Obj)} {σ : St} {H : Hp} {s : Shared} {Q : VK} {k k' : Bool} (I : Inv X pins σ H s) (q : Q (.bl k) H) (e : k = k') : EP X pins σ Q (.bool k') s := by
  subst e
  exact ⟨.bl k, H, I, rfl, q⟩
theorem op_eq : OpR X (compareOp .Eq) rEq := by
  intro pins s σ H x y v u Q I rx ry h
  obtain ⟨hs, q⟩ := h
  cases x with
  | non =>
    cases rx
    cases y with
    | non => cases ry; exact PySem.EqNone.eq_none_none (fin_bl I q (by simp))
    | bl j => cases ry; exact PySem.EqNone.eq_none_bool (fin_bl I q (by simp))
    | int j => obtain ⟨t', rfl⟩ := ry; exact PySem.EqNone.eq_none_int (fin_bl I q (by simp))
    | str j => obtain ⟨t', rfl⟩ := ry; exact PySem.EqNone.eq_none_str (fin_bl I q (by simp))
    | _ => exact absurd (show false = true from hs) Bool.false_ne_true
  | bl i =>
    cases rx
    cases y with
    | non => cases ry; exact PySem.EqNone.eq_bool_none (fin_bl I q (by simp))
    | bl j => cases ry; exact eq_bool (fin_bl I q dec_bl)
    | str j => obtain ⟨t', rfl⟩ := ry; exact PySem.EqMixed.eq_bool_str (fin_bl I q (by simp))
    | _ => exact absurd (show false = true from hs) Bool.false_ne_true
  | int i =>
    obtain ⟨t, rfl⟩ := rx
    cases y with
    | non => cases ry; exact PySem.EqNone.eq_int_none (fin_bl I q (by simp))
    | int j => obtain ⟨t', rfl⟩ := ry; exact eq_int (fin_bl I q dec_int)
    | str j => obtain ⟨t', rfl⟩ := ry; exact PySem.EqMixed.eq_int_str (fin_bl I q (by simp))
    | _ => exact absurd (show false = true from hs) Bool.false_ne_true
  | str i =>
    obtain ⟨t, rfl⟩ := rx
    cases y with
    | non => cases ry; exact PySem.EqNone.eq_str_none (fin_bl I q (by simp))
    | bl j => cases ry; exact PySem.EqMixed.eq_str_bool (fin_bl I q (by simp))
    | int j => obtain ⟨t', rfl⟩ := ry; exact PySem.EqMixed.eq_str_int (fin_bl I q (by simp))
    | str j => obtain ⟨t', rfl⟩ := ry; exact eq_str (fin_bl I q dec_str)
    | _ => exact absurd (show false = true from hs) Bool.false_ne_true
  | byt i =>
    obtain ⟨t, rfl⟩ := rx
    cases y with
    | byt j => obtain ⟨t', rfl⟩ := ry; exact PySem.W.eq_bytes (fin_bl I q dec_byt)
    | _ => exact absurd (show false = true from hs) Bool.false_ne_true
  | _ => cases y <;> exact absurd (show false = true from hs) Bool.false_ne_true
theorem op_lt : OpR X (compareOp .Lt) (rI0 fun i j => .bl (decide (i < j))) := opB0 fun _ _ _ _ _ _ _ q => lt_int q
theorem op_gt : OpR X (compareOp .Gt) (rI0 fun i j => .bl (decide (j < i))) := opB0 fun _ _ _ _ _ _ _ q => gt_int q
/-- is None, is not None: the right side a value none -/
theorem op_isN : OpR X (compareOp .Is) (fun x y H Q => y = .non ∧ Q (.bl (decide (x = .non))) H) := by
  intro pins s σ H x y v u Q I rx ry h
  obtain ⟨rfl, q⟩ := h
  cases ry
  refine is_none_gen (fin_bl I q ?_)
  cases x <;> first
    | (cases rx; rfl)
    | (obtain ⟨t, rfl⟩ := rx; rfl)
theorem op_notN : OpR X (compareOp .IsNot) (fun x y H Q => y = .non ∧ Q (.bl (!decide (x = .non))) H) := by
  intro pins s σ H x y v u Q I rx ry h
  obtain ⟨rfl, q⟩ := h
  cases ry
  refine isnot_none_gen (fin_bl I q ?_)
  cases x <;> first
    | (cases rx; rfl)
    | (obtain ⟨t, rfl⟩ := rx; rfl)

/-- two rules for one operation: by cases -/
theorem OpR.or {f : Value → Value → Sem Value} {r r' : R2} (h : OpR X f r) (h' : OpR X f r') : OpR X f (fun x y H Q => r x y H Q ∨ r' x y H Q) := by
  intro pins s σ H x y v u Q I rx ry q
  rcases q with q | q
  · exact h pins s σ H x y v u Q I rx ry q
  · exact h' pins s σ H x y v u Q I rx ry q

theorem nomark (b : Expr) {op : CmpOp} (h : op ≠ .In := by decide) (h2 : op ≠ .NotIn := by decide) : behindInMarks op b = false := by
  have e1 : (op == CmpOp.In) = false := by cases op <;> first | rfl | exact absurd rfl h
  have e2 : (op == CmpOp.NotIn) = false := by cases op <;> first | rfl | exact absurd rfl h2
  cases b <;> simp [behindInMarks, e1, e2]
/-- a comparison as a value; hm: nomark b, or (for in, not in) by with_unfolding_all rfl -/
theorem pe_cmpR {op : CmpOp} {r : R2} (ho : OpR X (compareOp op) r) (ha : PE X a ta) (hb : PE X b tb) (hm : behindInMarks op b = false) : PE X (.Compare a [op] [b] pos) (tOp r ta tb) := by
  intro pins s σ H Q I h
  exact wpAny_Compare1 (binT ha hb I h fun v u s2 x y H2 I2 rx ry q => ho pins s2 σ H2 x y v u Q I2 rx ry q) hm
/-- a reading of a value as a test -/
def tTest (t : TE) : TT := fun σ H Q => t σ H fun x H' => ∃ k, x = .bl k ∧ Q k H'
theorem pt_cmpR {op : CmpOp} {r : R2} (ho : OpR X (compareOp op) r) (ha : PE X a ta) (hb : PE X b tb) (hm : behindInMarks op b = false) : PT X (.Compare a [op] [b] pos) (tTest (tOp r ta tb)) := by
  intro pins s σ H Q I h
  refine wpAny_isTrue_Compare1 (thn (ha pins s σ H _ I h) fun v s1 ⟨x, H1, I1, r1, q1⟩ => thn (hb pins s1 σ H1 _ I1 q1) fun u s2 ⟨y, H2, I2, r2, q2⟩ =>
    thn (ho pins s2 σ H2 x y v u _ I2 r1 r2 q2) fun c s3 ⟨z, H3, I3, r3, k, e, q3⟩ => ?_) hm
  subst e
  cases r3
  exact wpAny_truthy_bool ⟨H3, I3, q3⟩
/-- a op1 b op2 c -/
def tChain (r r' : R2) (ta tb tc : TE) : TE := fun σ H Q => ta σ H fun x H1 => tb σ H1 fun y H2 => r x y H2 fun z H3 => ∃ k, z = .bl k ∧
  (if k = true then tc σ H3 fun w' H4 => r' y w' H4 Q else Q (.bl false) H3)
theorem pt_chain {op op' : CmpOp} {r r' : R2} (ho : OpR X (compareOp op) r) (ho' : OpR X (compareOp op') r') (ha : PE X a ta) (hb : PE X b tb) (hc : PE X c tc)
    (hm : lastMarks [op, op'] [b, c] = false := by with_unfolding_all rfl) : PT X (.Compare a [op, op'] [b, c] pos) (tTest (tChain r r' ta tb tc)) := by
  intro pins s σ H Q I h
  refine isTrue_chain (thn (ha pins s σ H _ I h) fun v s1 ⟨x, H1, I1, r1, q1⟩ => test_link (thn (hb pins s1 σ H1 _ I1 q1) fun u s2 ⟨y, H2, I2, r2, q2⟩ =>
    thn (ho pins s2 σ H2 x y v u _ I2 r1 r2 q2) fun d s3 ⟨z, H3, I3, r3, k, e, q3⟩ => ?_)) hm
  subst e
  cases r3
  refine wpAny_truthy_bool ?_
  cases k with
  | false =>
    obtain ⟨k', e', q'⟩ := q3
    cases e'
    exact ite_ff ⟨H3, I3, q'⟩
  | true =>
    refine ite_tt (test_last (thn (hc pins s3 σ H3 _ I3 q3) fun w' s4 ⟨z', H4, I4, r4, q4⟩ => thn (ho' pins s4 σ H4 y z' u w' _ I4 r2 r4 q4) fun d' s5 ⟨z2, H5, I5, r5, k2, e2, q5⟩ => ?_))
    subst e2
    cases r5
    exact wpAny_truthy_bool ⟨H5, I5, q5⟩

/-! ### truth -/
theorem line63 : (sizeLine : Nat) < 2 ^ 63 := by rw [sizeLine_eq]; decide
/-! ### strs and bytes -/
theorem op_add_str : OpR X (binaryOp .Add) (fun x y H Q => ∃ i j, x = .str i ∧ y = .str j ∧ i.length + j.length ≤ sizeLine ∧ Q (.str (i ++ j)) H) := by
  intro pins s σ H x y v u Q I rx ry h
  obtain ⟨i, j, rfl, rfl, hz, q⟩ := h
  obtain ⟨t, rfl⟩ := rx
  obtain ⟨t', rfl⟩ := ry
  exact add_str (fun t' tk => ⟨.str (i ++ j), H, I.tok _, ⟨_, rfl⟩, q⟩) hz
/-! ### scalar builtins, by CallR -/
theorem vals1 {x : V} {us : List Value} (r : Vals [x] us) : ∃ u, us = [u] ∧ RelV x u := by
  cases r with
  | cons r1 r2 => cases r2; exact ⟨_, rfl, r1⟩
theorem vals2 {x y : V} {us : List Value} (r : Vals [x, y] us) : ∃ u w', us = [u, w'] ∧ RelV x u ∧ RelV y w' := by
  cases r with
  | cons r1 r2 =>
    cases r2 with
    | cons r3 r4 => cases r4; exact ⟨_, _, rfl, r1, r3⟩
theorem call_min2 (hc : X.calm = true) : CallR X (.builtin "min") (fun xs H Q => ∃ i j, xs = [.int i, .int j] ∧ Q (.int (if j < i then j else i)) H) := by
  intro pins s σ H xs us Q I r h
  obtain ⟨i, j, rfl, q⟩ := h
  obtain ⟨u, w', rfl, ⟨t, rfl⟩, ⟨t', rfl⟩⟩ := vals2 r
  refine min_two_ints (I.ok.hd hc) fun h' tk k => ⟨_, H, I.kept k, ?_, q⟩
  by_cases hj : j < i
  · rw [if_pos hj, if_pos hj]; exact ⟨_, rfl⟩
  · rw [if_neg hj, if_neg hj]; exact ⟨_, rfl⟩
end
end L2

namespace L2
open PySem PySem.Spec PyProof.Rows

/-! ### an instance, its attributes a map -/
structure ObjM (h : Heap) (x dx C : Addr) (mA : Str → Option Value) : Prop where
  obj : h.get? x = some (PySem.W.instObj C dx)
  ns : h.Ns1 dx mA
  ne : dx ≠ x

theorem lookIn_ns {h : Heap} {dx : Addr} {mA : Str → Option Value} (n : h.Ns1 dx mA) : ∃ od, h.get? dx = some od ∧ ∀ name, PySem.W.lookIn name od = some (mA name) := by
  obtain ⟨o, es, ep, ho, hd, hk, _, hm⟩ := n
  refine ⟨o, ho, fun name => ?_⟩
  have e := hm name
  unfold nsFind findBy at e
  rw [← Array.find?_toList] at e
  unfold PySem.W.lookIn
  rw [hd]
  dsimp only
  split
  · rename_i y q
    rw [q] at e
    exact congrArg some e
  · rename_i q
    rw [q] at e
    have a : es.toList.any (·.refKey) = false := by
      rw [List.any_eq_false]
      intro y hy
      obtain ⟨z, t, hkey⟩ := hk y (Array.mem_toList_iff.mp hy)
      simp [DictEntry.refKey, hkey]
    have a' : ¬ es.toList.any (·.refKey) = true := by rw [a]; exact Bool.false_ne_true
    rw [if_neg a']
    exact congrArg some e

theorem ObjM.look {h : Heap} {x dx C : Addr} {mA : Str → Option Value} (I : ObjM h x dx C mA) : ∃ od, PySem.W.InstAt h x (PySem.W.instObj C dx) C (some od) ∧ ∀ name, PySem.W.lookIn name od = some (mA name) :=
  let ⟨od, ho, hl⟩ := lookIn_ns I.ns
  ⟨od, ⟨I.obj, rfl, rfl, ho⟩, hl⟩

section
variable {prog : Program} {w : World} {A : Around} {E : Value → Shared → Prop} {s : Shared} {K : PySem.W.Frag} {x dx C f : Addr} {mA : Str → Option Value} {name : Str} {v : Value}

theorem get_map {expr : Bool} {Q : Value → Shared → Prop} (X : K.In s.heap) (I : ObjM s.heap x dx C mA) (hg : PySem.W.plainGet K C name = true) (hh : PySem.W.hasDictIn K C = true)
    (ha : PySem.W.findIn K (.ref C) name = some none) (hv : mA name = some v) (hv' : PySem.W.handedIn v = true) (h : Q v { s with toks := s.toks + 1 }) :
    wpAny (model prog w) A (getAttr (.ref x) name expr) Q E s := by
  obtain ⟨od, J, hl⟩ := I.look
  exact PySem.W.get_value X J (PySem.W.plainGet_of hg).1 (PySem.W.findObj_own hh ha rfl (by rw [hl, hv])) hv' h

theorem get_meth {pl : Sem Bool} {Q : Value × List Value → Shared → Prop} (X : K.In s.heap) (I : ObjM s.heap x dx C mA) (hg : PySem.W.plainGet K C name = true)
    (hf : PySem.W.findIn K (.ref C) name = some (some (.ref f))) (ht : PySem.W.isFn K (.ref f) = true) (hv : mA name = none) (h : Q (.ref f, [.ref x]) s) :
    wpAny (model prog w) A (getMethod (.ref x) name pl) Q E s := by
  obtain ⟨od, J, hl⟩ := I.look
  exact PySem.W.method_fn X J (PySem.W.plainGet_of hg).1 (PySem.W.plainGet_of hg).2 hf (beq_iff_eq.mp ht) (by show (PySem.W.lookIn name od).map (·.isSome) = some false; rw [hl, hv]; rfl) h

theorem set_map {ns : List Str} {Q : Unit → Shared → Prop} (X : K.In s.heap) (I : ObjM s.heap x dx C mA)
    (hs : PySem.W.findIn K (.ref C) "__setattr__" = some (some (.builtin "object.__setattr__"))) (hp : PySem.W.plainOver K C = true) (ht : PySem.W.takerIn K C name = some none) (hh : PySem.W.hasDictIn K C = true)
    (hw : PySem.Within mA ns) (hsz : ns.length ≤ sizeLine)
    (h : ∀ h', ObjM h' x dx C (fun y => if y = name then some v else mA y) → Heap.SameBut dx s.heap h' → Q () { s with heap := h', toks := s.toks + 2 }) :
    wpAny (model prog w) A (setAttr (.ref x) name v) Q E s := by
  obtain ⟨od, J, hl⟩ := I.look
  refine PySem.W.set_plain X J hs (PySem.W.osa_open (s := { s with toks := s.toks + 1 }) (r := none) X J hp ht fun b => ?_)
  obtain ⟨cd, hc, hd'⟩ := PySem.W.any_some hh
  have hx : s.heap.get? x = some ⟨.ref C, some dx, .plain, #[]⟩ := I.obj
  refine wpAny_bind (wpAny_pure (wpAny_bind (wpAny_bind (wpAny_loadPart hx (wpAny_bind (PySem.W.Looks.here (s := { s with toks := s.toks + 1 }) (PySem.W.looks_clsIn X hc) ?_))))))
  rw [hd']
  refine wpAny_pure (a := some dx) (wpAny_bind (wpAny_pure (wpAny_bind ?_)))
  refine wpAny_nsSet1 (s := { s with toks := s.toks + 1 }) I.ns fun h' hn2 hs2 => ?_
  obtain ⟨oD, esD, epD, hoD, hdD, hcD⟩ := hn2.count (PySem.Within.cons name v hw)
  refine wpAny_bind (wpAny_lookBehind hoD (by rw [hdD]; exact pastItsLine_dict (Nat.le_trans hcD (by rw [List.length_cons]; omega))) ?_)
  exact wpAny_pure (h _ ⟨(hs2.2 _ (Ne.symm I.ne)).trans I.obj, hn2, I.ne⟩ hs2)

/-- C(..): the dict at the heap's end, the instance behind it; then its __init__ -/
theorem make_map {R : Result → Shared → Prop} {vs : List Value} {kw : List (Str × Value)} (X : K.In s.heap) (hm : PySem.W.makesIn K C = true)
    (hi : PySem.W.findIn K (.ref C) "__init__" = some (some (.ref f))) (hf : PySem.W.typeIn K (.ref f) = some (.type "function"))
    (h : codeAny (model prog w) (A.under (.builtin "type.__call__" ⟨.ref C :: vs, kw⟩)) (.call (.ref f) ⟨.ref (s.heap.objs.size + 1) :: vs, kw⟩) (PySem.W.InitBack (s.heap.objs.size + 1) R)
      { s with heap := (s.heap.push PySem.W.emptyDict).push (PySem.W.instObj C s.heap.objs.size) }) :
    codeAny (model prog w) A (.call (.ref C) ⟨vs, kw⟩) R s := by
  obtain ⟨hh, g, d, t, os⟩ := s
  exact PySem.W.make_core (PySem.W.makes_of X hm) (PySem.W.looks_findIn X hi) (fun self => PySem.W.bind_fn X self hf) (.inl rfl) h
end

/-! ### the attributes as a list of pairs -/
def putF (f : Str) (v : V) : List (Str × V) → List (Str × V)
  | [] => [(f, v)]
  | (g, x) :: r => if g = f then (g, v) :: r else (g, x) :: putF f v r
theorem lookup_putF (f g : Str) (v : V) : ∀ fs : List (Str × V), (putF f v fs).lookup g = if g = f then some v else fs.lookup g
  | [] => by
    show List.lookup g [(f, v)] = _
    by_cases h : g = f
    · have hb : (g == f) = true := beq_iff_eq.mpr h
      simp only [List.lookup, hb, if_pos h]
    · have hb : (g == f) = false := beq_eq_false_iff_ne.mpr h
      simp only [List.lookup, hb, if_neg h]
  | (k, x) :: r => by
    have ih := lookup_putF f g v r
    rw [show putF f v ((k, x) :: r) = (if k = f then (k, v) :: r else (k, x) :: putF f v r) from rfl]
    by_cases hk : k = f
    · rw [if_pos hk]
      by_cases h : g = k
      · have hb : (g == k) = true := beq_iff_eq.mpr h
        simp only [List.lookup, hb, if_pos (h.trans hk)]
      · have hb : (g == k) = false := beq_eq_false_iff_ne.mpr h
        simp only [List.lookup, hb, if_neg (fun e : g = f => h (e.trans hk.symm))]
    · rw [if_neg hk]
      by_cases h : g = k
      · have hb : (g == k) = true := beq_iff_eq.mpr h
        simp only [List.lookup, hb, if_neg (fun e : g = f => hk (h.symm.trans e))]
      · have hb : (g == k) = false := beq_eq_false_iff_ne.mpr h
        simp only [List.lookup, hb]
        exact ih
theorem keys_putF (f : Str) (v : V) : ∀ fs : List (Str × V), f ∈ (putF f v fs).map (·.1) ∧ ∀ g, g ∈ fs.map (·.1) → g ∈ (putF f v fs).map (·.1)
  | [] => ⟨by simp [putF], fun g h => by simp at h⟩
  | (k, x) :: r => by
    obtain ⟨i1, i2⟩ := keys_putF f v r
    rw [show putF f v ((k, x) :: r) = (if k = f then (k, v) :: r else (k, x) :: putF f v r) from rfl]
    by_cases hk : k = f
    · rw [if_pos hk]
      subst hk
      exact ⟨by simp, fun g h => by simpa using h⟩
    · rw [if_neg hk]
      refine ⟨?_, fun g h => ?_⟩
      · rw [List.map_cons]
        exact List.mem_cons_of_mem _ i1
      · rw [List.map_cons] at h ⊢
        rcases List.mem_cons.mp h with e | e
        · exact List.mem_cons.mpr (.inl e)
        · exact List.mem_cons_of_mem _ (i2 g e)
theorem length_putF (f : Str) (v : V) : ∀ fs : List (Str × V), (putF f v fs).length ≤ fs.length + 1
  | [] => by simp [putF]
  | (k, x) :: r => by
    have ih := length_putF f v r
    rw [show putF f v ((k, x) :: r) = (if k = f then (k, v) :: r else (k, x) :: putF f v r) from rfl]
    by_cases hk : k = f
    · rw [if_pos hk, List.length_cons, List.length_cons]; omega
    · rw [if_neg hk, List.length_cons, List.length_cons]; omega

theorem RelO.some_of {v : V} {o : Option Value} (r : RelO (some v) o) : ∃ u, o = some u ∧ RelV v u := by
  cases o with
  | none => exact (show False from r).elim
  | some u => exact ⟨u, rfl, r⟩
theorem RelO.none_of {o : Option Value} (r : RelO none o) : o = none := by
  cases o with
  | none => rfl
  | some u => exact (show False from r).elim
theorem handed_of {v : V} {u : Value} (r : RelV v u) : PySem.W.handedIn u = true := by
  cases v with
  | non => cases (show u = Value.none from r); rfl
  | bl b => cases (show u = Value.bool b from r); rfl
  | int i => obtain ⟨t, e⟩ := (show ∃ t, u = Value.int i t from r); cases e; rfl
  | str x => obtain ⟨t, e⟩ := (show ∃ t, u = Value.str x t from r); cases e; rfl
  | byt b => obtain ⟨t, e⟩ := (show ∃ t, u = Value.bytes b t from r); cases e; rfl
  | flt b => obtain ⟨t, e⟩ := (show ∃ t, u = Value.float b t from r); cases e; rfl
  | ref a => cases (show u = Value.ref a from r); rfl
  | ty n => cases (show u = Value.type n from r); rfl

section
variable {P : Program} {w : World} {H H' : Hp} {h h' : Heap} {a C dx : Addr} {fs fs' : List (Str × V)}
theorem ins_get (hok : HOk P w H h) (e : H a = some (.ins C dx fs)) : ∃ mA, ObjM h a dx C mA ∧ (∀ f, RelO (fs.lookup f) (mA f)) ∧ PySem.Within mA (fs.map (·.1)) ∧ fs.length ≤ 1000 ∧ H dx = some (.own a) := by
  obtain ⟨d, z, ne, ob, mA, n, r, q⟩ := (show ObjOk P w H h a (.ins C dx fs) from hok a _ e)
  exact ⟨mA, ⟨ob, n, ne⟩, r, q, z, d⟩
end

/-! ### what of the text a class must have -/
structure Cls (K : PySem.W.Frag) (C : Addr) : Prop where
  pg : PySem.W.plainGet K C Str.empty = true
  hd : PySem.W.hasDictIn K C = true
  po : PySem.W.plainOver K C = true
  sa : PySem.W.findIn K (.ref C) "__setattr__" = some (some (.builtin "object.__setattr__"))
theorem Cls.get {K : PySem.W.Frag} {C : Addr} (c : Cls K C) (f : Str) : PySem.W.plainGet K C f = true := c.pg
/-- no class of it has the name -/
def NoAttr (K : PySem.W.Frag) (C : Addr) (f : Str) : Prop := PySem.W.findIn K (.ref C) f = some none
theorem NoAttr.taker {K : PySem.W.Frag} {C : Addr} {f : Str} (n : NoAttr K C f) : PySem.W.takerIn K C f = some none := by
  unfold PySem.W.takerIn
  rw [show PySem.W.findIn K (.ref C) f = some none from n]
  rfl
/-- a method: a plain def of the class or of one above it -/
structure Meth (K : PySem.W.Frag) (C : Addr) (m : Str) (f : Addr) : Prop where
  at_ : PySem.W.findIn K (.ref C) m = some (some (.ref f))
  fn : PySem.W.isFn K (.ref f) = true
  kp : PySem.W.keepIn K (.ref f) = true

section
variable {X : Cx} {pins : List (Addr × Obj)} {σ : St} {H : Hp} {s : Shared} {a C dx : Addr} {fs : List (Str × V)} {f : Str} {v : V} {A : Around} {E : Value → Shared → Prop}

theorem getattr_ok {b : Bool} {Q : Value → Shared → Prop} (I : Inv X pins σ H s) (e : H a = some (.ins C dx fs)) (c : Cls X.K C) (n : NoAttr X.K C f) (l : fs.lookup f = some v)
    (h : ∀ u s', Inv X pins σ H s' → RelV v u → Q u s') : wpAny (model X.prog X.w) A (getAttr (.ref a) f b) Q E s := by
  obtain ⟨mA, O, r, _, _, _⟩ := ins_get I.hok e
  obtain ⟨u, hu, ru⟩ := RelO.some_of (v := v) (o := mA f) (by rw [← l]; exact r f)
  exact get_map I.kIn O (c.get f) c.hd n hu (handed_of ru) (h u _ (I.tok _) ru)

theorem getmeth_ok {m : Str} {g : Addr} {pl : Sem Bool} {Q : Value × List Value → Shared → Prop} (I : Inv X pins σ H s) (e : H a = some (.ins C dx fs)) (c : Cls X.K C) (k : Meth X.K C m g) (l : fs.lookup m = none)
    (h : Q (.ref g, [.ref a]) s) : wpAny (model X.prog X.w) A (getMethod (.ref a) m pl) Q E s := by
  obtain ⟨mA, O, r, _, _, _⟩ := ins_get I.hok e
  have hn : mA m = none := RelO.none_of (by rw [← l]; exact r m)
  exact get_meth I.kIn O (c.get m) k.at_ k.fn hn h

theorem setattr_ok {y : V} {u : Value} {Q : Unit → Shared → Prop} (I : Inv X pins σ H s) (e : H a = some (.ins C dx fs)) (c : Cls X.K C) (n : NoAttr X.K C f) (hl : fs.length < 1000) (ry : RelV y u)
    (h : ∀ s', Inv X pins σ (upd H a (.ins C dx (putF f y fs))) s' → Q () s') : wpAny (model X.prog X.w) A (setAttr (.ref a) f u) Q E s := by
  obtain ⟨mA, O, r, wi, _, ho⟩ := ins_get I.hok e
  have hz : (fs.map (·.1)).length ≤ sizeLine := by rw [List.length_map, sizeLine_eq]; omega
  refine set_map I.kIn O c.sa c.po n.taker c.hd wi hz fun h' O' sb => h _ ?_
  have hd : ∃ o, h'.get? dx = some o := let ⟨o, _, _, e', _⟩ := O'.ns; ⟨o, e'⟩
  refine I.write (x := a) (e := dx) (by rw [e]; exact True.intro) (.inr ho) (fun b q hb z => (sb.2 b hb).trans z) hd ?_
  refine ⟨by rw [upd_ne O.ne]; exact ho, ?_, O.ne, O'.obj, _, O'.ns, fun g => ?_, fun g hg => ?_⟩
  · have := length_putF f y fs; omega
  · show RelO ((putF f y fs).lookup g) (if g = f then some u else mA g)
    rw [lookup_putF]
    by_cases q : g = f
    · rw [if_pos q, if_pos q]; exact ry
    · rw [if_neg q, if_neg q]; exact r g
  · by_cases q : g = f
    · rw [q]; exact (keys_putF f y fs).1
    · refine (keys_putF f y fs).2 g (wi g fun z => hg ?_)
      show (if g = f then some u else mA g) = none
      rw [if_neg q]; exact z

/-- a new instance, tracked, without attributes -/
theorem Inv.made (I : Inv X pins σ H s) : Inv X pins σ (upd (upd H s.heap.objs.size (.own (s.heap.objs.size + 1))) (s.heap.objs.size + 1) (.ins C s.heap.objs.size []))
    { s with heap := (s.heap.push PySem.W.emptyDict).push (PySem.W.instObj C s.heap.objs.size) } := by
  have e1 : (s.heap.push PySem.W.emptyDict).get? s.heap.objs.size = some PySem.W.emptyDict := Heap.get?_push_size s.heap rfl
  have e2 : ((s.heap.push PySem.W.emptyDict).push (PySem.W.instObj C s.heap.objs.size)).get? (s.heap.objs.size + 1) = some (PySem.W.instObj C s.heap.objs.size) := by
    have := Heap.get?_push_size (s.heap.push PySem.W.emptyDict) (o := PySem.W.instObj C s.heap.objs.size) rfl
    rwa [Heap.size_push] at this
  have e3 : (s.heap.push PySem.W.emptyDict).Ns s.heap.objs.size (fun _ => none) := ⟨PySem.W.emptyDict, #[], _, e1, rfl, (fun e he => absurd he (by simp)), fun _ => rfl⟩
  have I1 := I.laid (a := s.heap.objs.size) (o := .own (s.heap.objs.size + 1)) (h' := s.heap.push PySem.W.emptyDict) (t' := s.toks) (fun b u q => Heap.get?_push_of_some _ q) (Nat.le_refl _) ⟨_, e1⟩
  refine I1.laid (a := s.heap.objs.size + 1) (o := .ins C s.heap.objs.size []) (t' := s.toks) (fun b u q => Heap.get?_push_of_some _ q) (Nat.le_of_eq (Heap.size_push _ _)) ?_
  have ne : s.heap.objs.size ≠ s.heap.objs.size + 1 := Nat.ne_of_lt (Nat.lt_succ_self _)
  refine ⟨by rw [upd_ne ne, upd_same], Nat.zero_le _, ne, e2, fun _ => none, (Heap.Ns1.of_empty e3).at fun o q => Heap.get?_push_of_some _ q, fun _ => True.intro, fun y hy => absurd rfl hy⟩

/-- e.f where nothing but the object is asked: through attributeBase (super) and the last hold -/
theorem attr_of {prog : Program} {w : World} {env : Env} {e : Expr} {f : Str} {pos : Pos} {s : Shared} {Q : Value → Shared → Prop} (hb : attributeBase e f env (eval e env) = eval e env)
    (h : wpAny (model prog w) A (eval e env) (fun o s₁ => wpAny (model prog w) A (getAttr o f true) Q E s₁) E s) : wpAny (model prog w) A (eval (.Attribute e f pos) env) Q E s :=
  Attribute_any_ h (by rw [arm_eval_Attribute, hb])
end

/-! ### readings and rules -/
/-- e.f, an attribute of the instance -/
def tFld (K : PySem.W.Frag) (ta : TE) (f : Str) : TE := fun σ H Q => ta σ H fun x H1 => ∃ a C dx fs v, x = .ref a ∧ H1 a = some (.ins C dx fs) ∧ Cls K C ∧ NoAttr K C f ∧ fs.lookup f = some v ∧ Q v H1
/-- e.f = value -/
def sFld (K : PySem.W.Frag) (ta tv : TE) (f : Str) : TS := fun D σ H => tv σ H fun y H1 => ta σ H1 fun x H2 => ∃ a C dx fs, x = .ref a ∧ H2 a = some (.ins C dx fs) ∧ Cls K C ∧ NoAttr K C f ∧ fs.length < 1000 ∧
  D.nx σ (upd H2 a (.ins C dx (putF f y fs)))
section
variable {X : Cx} {o e value : Expr} {f : Str} {pos pos' tpos : Pos} {ta tv : TE}
theorem pe_fld (he : PE X e ta) (hb : attributeBase e f X.env (eval e X.env) = eval e X.env) : PE X (.Attribute e f pos) (tFld X.K ta f) := by
  intro pins s σ H Q I h
  refine attr_of hb (thn (he pins s σ H _ I h) fun u s1 ⟨x, H1, I1, rx, a, C, dx, fs, v, ex, ea, c, n, l, q⟩ => ?_)
  subst ex
  obtain rfl : u = Value.ref a := rx
  exact getattr_ok I1 ea c n l fun u' s2 I2 ru => ⟨v, H1, I2, ru, q⟩
theorem ps_fld (ha : PE X o ta) (hv : PE X value tv) (hs : swapsWith value (some (.Attribute o f pos')) pos.line X.env = pure false) : PS X (.Assign [.Attribute o f pos'] value pos) (sFld X.K ta tv f) := by
  intro pins s σ H D I h
  refine plainObj_wpAny_Assign_Attribute (thn (hv pins s σ H _ I h) fun u s1 ⟨y, H1, I1, ry, q⟩ => thn (ha pins s1 σ H1 _ I1 q) fun ov s2 ⟨x, H2, I2, rx, a, C, dx, fs, ex, ea, c, n, l, q2⟩ => ?_) hs
  subst ex
  obtain rfl : ov = Value.ref a := rx
  exact setattr_ok I2 ea c n l ry fun s3 I3 => ⟨σ, _, I3, q2⟩
end

/-! ### isinstance -/
section
variable {X : Cx} {pins : List (Addr × Obj)} {σ : St} {H : Hp} {s : Shared} {A : Around} {E : Value → Shared → Prop} {Q : Value → Shared → Prop} {c : Value} {b : Bool}
/-- the type of a value, as the fragment's deciders take it; for an instance its class -/
inductive TyOf (K : PySem.W.Frag) (H : Hp) : V → Value → Prop where
  | non : TyOf K H .non (.type "NoneType")
  | bl (x : Bool) : TyOf K H (.bl x) (.type "bool")
  | int (i : Int) : TyOf K H (.int i) (.type "int")
  | str (x : Str) : TyOf K H (.str x) (.type "str")
  | flt (x : UInt64) : TyOf K H (.flt x) (.type "float")
  | lst {a : Addr} {xs : List V} (e : H a = some (.lst xs)) : TyOf K H (.ref a) (.type "list")
  | frz {a : Addr} {o : Obj} {xs : List V} (e : H a = some (.frz o (.lst xs))) : TyOf K H (.ref a) (.type "list")
  | tup {a : Addr} {xs : List V} (e : H a = some (.tup xs)) : TyOf K H (.ref a) (.type "tuple")
  | dK {a : Addr} {kvs : List (Key × V)} (e : H a = some (.dK kvs)) : TyOf K H (.ref a) (.type "dict")
  | dT {a : Addr} {kvs : List (List Key × V)} (e : H a = some (.dT kvs)) : TyOf K H (.ref a) (.type "dict")
  | ins {a C dx : Addr} {fs : List (Str × V)} (e : H a = some (.ins C dx fs)) (cl : Cls K C) (ha : PySem.W.findIn K (.ref C) "__class__" = some (some (.builtin "object.__class__")))
      (hn : PySem.W.specialIn K (.builtin "object.__class__") "__get__" = some (some (.builtin "getset_descriptor.__get__"))) (htk : PySem.W.takesIn K (.builtin "object.__class__") = some true)
      (hm : PySem.W.mroIn K C (.type "object") = some true) : TyOf K H (.ref a) (.ref C)
/-- isinstance(x, c) for one class c, a built-in or an own one: kitOne's answer -/
theorem isinst_ok {x : V} {u t : Value} (I : Inv X pins σ H s) (rx : RelV x u) (ty : TyOf X.K H x t) (e : PySem.W.kitOne X.K t c = some b) (h : ∀ tk, Q (.bool b) { s with toks := tk }) :
    wpAny (model X.prog X.w) A (call (.builtin "isinstance") [u, c]) Q E s := by
  cases ty with
  | non => cases (show u = Value.none from rx); exact PySem.W.kia_one PySem.W.kitx_none I.kIn True.intro e (fun z => nomatch z) h
  | bl y => cases (show u = Value.bool y from rx); exact PySem.W.kia_one PySem.W.kitx_bool I.kIn True.intro e (fun z => nomatch z) h
  | int i => obtain ⟨t, q⟩ := (show ∃ t, u = Value.int i t from rx); cases q; exact PySem.W.kia_one PySem.W.kitx_int I.kIn True.intro e (fun z => nomatch z) h
  | str y => obtain ⟨t, q⟩ := (show ∃ t, u = Value.str y t from rx); cases q; exact PySem.W.kia_one PySem.W.kitx_str I.kIn True.intro e (fun z => nomatch z) h
  | flt y => obtain ⟨t, q⟩ := (show ∃ t, u = Value.float y t from rx); cases q; exact PySem.W.kia_one PySem.W.kitx_float I.kIn True.intro e (fun z => nomatch z) h
  | @lst a xs ea =>
    cases (show u = Value.ref a from rx)
    obtain ⟨_, _, n, _, h1⟩ := (show ObjOk X.prog X.w H s.heap a (.lst xs) from I.hok a _ ea)
    exact PySem.W.kia_one PySem.W.kitx_list I.kIn ⟨_, h1, rfl⟩ e (fun z => nomatch z) h
  | @frz a ob xs ea =>
    cases (show u = Value.ref a from rx)
    obtain ⟨_, _, _, n, _, h1⟩ := (show ObjOk X.prog X.w H s.heap a (.frz ob (.lst xs)) from I.hok a _ ea)
    exact PySem.W.kia_one PySem.W.kitx_list I.kIn ⟨_, h1, rfl⟩ e (fun z => nomatch z) h
  | @tup a xs ea =>
    cases (show u = Value.ref a from rx)
    obtain ⟨_, _, _, p⟩ := (show ObjOk X.prog X.w H s.heap a (.tup xs) from I.hok a _ ea)
    obtain ⟨o, h1, h2, _⟩ := p
    exact PySem.W.kia_one PySem.W.kitx_tuple I.kIn ⟨o, h1, h2⟩ e (fun z => nomatch z) h
  | @dK a kvs ea =>
    cases (show u = Value.ref a from rx)
    obtain ⟨_, _, vs, _, p⟩ := (show ObjOk X.prog X.w H s.heap a (.dK kvs) from I.hok a _ ea)
    obtain ⟨o, es, ep, h1, h2, _⟩ := p
    exact PySem.W.kia_one PySem.W.kitx_dict I.kIn ⟨o, h1, h2.1⟩ e (fun z => nomatch z) h
  | @dT a kvs ea =>
    cases (show u = Value.ref a from rx)
    obtain ⟨_, _, xs, _, o, es, ep, h1, h2, _⟩ := (show ObjOk X.prog X.w H s.heap a (.dT kvs) from I.hok a _ ea)
    exact PySem.W.kia_one PySem.W.kitx_dict I.kIn ⟨o, h1, h2.1⟩ e (fun z => nomatch z) h
  | @ins a C dx fs ea cl ha hn htk hm =>
    cases (show u = Value.ref a from rx)
    obtain ⟨mA, O, _⟩ := ins_get I.hok ea
    obtain ⟨od, J, _⟩ := O.look
    exact PySem.W.kia_one (PySem.W.kitx_own (cl.get _) cl.hd ha hn htk hm) I.kIn J e (fun z => nomatch z) h
end
end L2

namespace L2
open PySem PySem.Spec PyProof.Rows

/-! ### room -/
structure Room (k : Nat) (A : Around) : Prop where
  hd : A.handled = none
  dp : A.depth + 3 * k + 5 < recursionLimit
  un : A.units + 16 * k + 200 < cLine
theorem Room.mono {j k : Nat} {A : Around} (r : Room k A) (h : j ≤ k) : Room j A := ⟨r.hd, by have := r.dp; omega, by have := r.un; omega⟩
theorem Room.deeper {k : Nat} {A : Around} (r : Room (k + 1) A) (env : Env) : Room k (A.deeper env) :=
  ⟨r.hd, by have := r.dp; show A.depth + 1 + 3 * k + 5 < _; omega, by have := r.un; show A.units + 3 + 16 * k + 200 < _; omega⟩
theorem make_depth {A : Around} {C : Addr} {us : List Value} {kw : List (Str × Value)} : (A.under (.builtin "type.__call__" ⟨.ref C :: us, kw⟩)).depth = A.depth + 1 := by
  first | rfl | simp [Around.under, Code.weight, Code.isCreation, Code.isGuard, Code.isCaller, Code.frames, Code.isFrame, guardIds]
theorem make_units {A : Around} {C : Addr} {us : List Value} {kw : List (Str × Value)} : (A.under (.builtin "type.__call__" ⟨.ref C :: us, kw⟩)).units = A.units + 1 := by
  first | rfl | simp [Around.under, Code.cUnits, Code.frames, Code.isFrame]
theorem Room.make {k : Nat} {A : Around} (r : Room (k + 1) A) (C : Addr) (us : List Value) (kw : List (Str × Value)) : Room k (A.under (.builtin "type.__call__" ⟨.ref C :: us, kw⟩)) :=
  ⟨r.hd, by have := r.dp; rw [make_depth]; omega, by have := r.un; rw [make_units]; omega⟩
theorem Room.depth {k : Nat} {A : Around} (r : Room k A) : A.depth < recursionLimit := by have := r.dp; omega
theorem Room.units {k : Nat} {A : Around} (r : Room k A) : A.units + 64 < cLine := by have := r.un; omega
/-! ### argument lists and displays -/
def tNil : TA := fun _ H Q => Q [] H
def tCons (ta : TE) (tr : TA) : TA := fun σ H Q => ta σ H fun x H1 => tr σ H1 fun xs H2 => Q (x :: xs) H2
section
variable {X : Cx} {e : Expr} {es : List Expr} {te : TE} {t : TA} {pos : Pos}
theorem pa_nil : PA X [] tNil := fun _ _ _ _ H Q I h => Calls.spliced_nil ⟨[], H, I, .nil, h⟩
theorem pa_cons (ha : PE X e te) (hr : PA X es t) (hs : starEach (e :: es) X.env = (false, eval e X.env) :: starEach es X.env := by rfl) : PA X (e :: es) (tCons te t) := by
  intro pos pins s σ H Q I h
  rw [hs]
  show wpAny _ _ (spliced ((false, eval e X.env) :: backTo pos (starEach es X.env))) _ _ s
  refine Calls.spliced_cons (thn (ha pins s σ H _ I h) fun u s1 ⟨x, H1, I1, r1, q1⟩ => ?_)
  exact thn (hr pos pins s1 σ H1 _ I1 q1) fun us s2 ⟨xs, H2, I2, r2, q2⟩ => ⟨x :: xs, H2, I2, .cons r1 r2, q2⟩

/-- a tuple, a list of written items -/
def tTup (t : TA) : TE := fun σ H Q => t σ H fun xs H1 => xs.length ≤ sizeLine ∧ ∀ p, H1 p = none → Q (.ref p) (upd H1 p (.tup xs))
def tLst (t : TA) : TE := fun σ H Q => t σ H fun xs H1 => xs.length ≤ sizeLine ∧ ∀ p, H1 p = none → Q (.ref p) (upd H1 p (.lst xs))
theorem pe_tup {x1} (h : PA X es t) : PE X (.Tuple es x1 pos) (tTup t) := by
  intro pins s σ H Q I hq
  refine wpAny_Tuple_spliced (thn (h pos pins s σ H _ I hq) fun us s1 ⟨xs, H1, I1, r, z, q⟩ => ⟨by rw [← r.length]; exact z, ?_⟩)
  have hf : H1 s1.heap.objs.size = none := I1.hok.fresh (Nat.le_refl _)
  refine ⟨.ref s1.heap.objs.size, upd H1 s1.heap.objs.size (.tup xs), I1.laid (t' := s1.toks) (fun b u e => Heap.get?_push_of_some _ e) (Nat.le_refl _) ?_, rfl, q _ hf⟩
  exact ⟨z, us, r, ⟨_, Heap.get?_push_size _ rfl, rfl, _, rfl⟩⟩
theorem pe_lst (h : PA X es t) : PE X (.List es pos) (tLst t) := by
  intro pins s σ H Q I hq
  refine wpAny_List_spliced (thn (h pos pins s σ H _ I hq) fun us s1 ⟨xs, H1, I1, r, z, q⟩ => ⟨by rw [← r.length]; exact z, ?_⟩)
  have hf : H1 s1.heap.objs.size = none := I1.hok.fresh (Nat.le_refl _)
  refine ⟨.ref s1.heap.objs.size, upd H1 s1.heap.objs.size (.lst xs), I1.laid (t' := s1.toks) (fun b u e => Heap.get?_push_of_some _ e) (Nat.le_refl _) ?_, rfl, q _ hf⟩
  exact ⟨z, us, 0, r, Heap.get?_push_size _ rfl⟩
end

/-! ### what a def promises -/
/-- a def's promise: the bound arguments in the parameters' order, the heap, the wanted end, the wanted exception -/
abbrev Sp := List V → Hp → VK → XK → Prop
/-- how an exception lies behind a call (file 08 gives it): the callers' frames, abstract heap and state ahead of the call, the wish, the exception, the state -/
abbrev CXT := List Env → Hp → Shared → XK → Value → Shared → Prop

/-- the state at a call -/
structure Env0 (P : Program) (w : World) (K : PySem.W.Frag) (mg : Str → Option Value) (base : Heap) (A : Around) (outer : List Env) (s : Shared) (H : Hp) : Prop where
  frames : A.frames = some outer
  mod : Mod K mg base
  bs : ∀ b o, base.get? b = some o → s.heap.get? b = some o ∧ H b = none
  bsz : base.objs.size ≤ s.heap.objs.size
  funs : s.heap.FunFrames base outer
  frf : ∀ b ∈ frs outer, H b = none
  hok : HOk P w H s.heap
  bare : AllBare s.gens
/-- a call's end -/
def CE (outer : List Env) (P : Program) (w : World) (H : Hp) (s : Shared) (Q : VK) (u : Value) (s' : Shared) : Prop :=
  ∃ v H', s'.os = s.os ∧ AllBare s'.gens ∧ Un (frs outer) [] H H' s.heap s'.heap ∧ HOk P w H' s'.heap ∧ RelV v u ∧ Q v H'
def CR (CX : CXT) (outer : List Env) (P : Program) (w : World) (H : Hp) (s : Shared) (Q : VK) (E : XK) (r : Result) (s' : Shared) : Prop :=
  match r with
  | .ok (.ret u) => CE outer P w H s Q u s'
  | .ok _ => False
  | .error e => CX outer H s E e s'
structure FnOk (P : Program) (w : World) (K : PySem.W.Frag) (mg : Str → Option Value) (base : Heap) (CX : CXT) (k : Nat) (f : Addr) (fd : FuncData) (ps : List Str) (sp : Sp) : Prop where
  len : ∀ vs H Q E, sp vs H Q E → vs.length = ps.length
  run : ∀ (A : Around) (outer : List Env) (s : Shared) (H : Hp) (args : Args) (us : List Value) (vs : List V) (Q : VK) (E : XK), Room k A → Env0 P w K mg base A outer s H → BindsTo s fd args (ps.zip us) → Vals vs us → sp vs H Q E →
    codeAny (model P w) A (.call (.ref f) args) (CR CX outer P w H s Q E) s
theorem Env0.make {P : Program} {w : World} {K : PySem.W.Frag} {mg : Str → Option Value} {base : Heap} {A : Around} {outer : List Env} {s : Shared} {H : Hp} (e : Env0 P w K mg base A outer s H) (C : Addr) (us : List Value) (kw : List (Str × Value)) :
    Env0 P w K mg base (A.under (.builtin "type.__call__" ⟨.ref C :: us, kw⟩)) outer s H := ⟨by first | exact e.frames | (simpa [Around.under, Code.envs, Code.isFrame, pushEnvs] using e.frames), e.mod, e.bs, e.bsz, e.funs, e.frf, e.hok, e.bare⟩
section
variable {X : Cx} {pins : List (Addr × Obj)} {σ : St} {H : Hp} {s s' : Shared}
/-- from a body: what a callee wants -/
theorem Inv.env0 (I : Inv X pins σ H s) : Env0 X.prog X.w X.K X.mg X.base X.A X.stack s H :=
  ⟨I.ok.frames, I.ok.mod, I.bs, Nat.le_trans I.ok.bsz I.sz, I.stack, I.stkFree, I.hok, I.bare⟩
/-- behind a call -/
theorem Inv.after {Q : VK} {u : Value} (I : Inv X pins σ H s) (h : CE X.stack X.prog X.w H s Q u s') : EP X pins σ Q u s' := by
  obtain ⟨v, H', os, bare, un, hok, r, q⟩ := h
  obtain ⟨hh, g, d, t, os'⟩ := s'
  obtain rfl : os' = s.os := os
  exact ⟨v, H', I.call (h' := hh) (g' := g) (d' := d) (t' := t) (ch := []) un hok bare (fun b z => absurd z (by simp)), r, q⟩
end

/-! ### calls -/
/-- f(..): the written arguments, then the defaults dvs; E: what is wanted of an exception -/
def tCall (sp : Sp) (dvs : List V) (E : XK) (t : TA) : TE := fun σ H Q => t σ H fun vs H1 => sp (vs ++ dvs) H1 Q E
/-- o.m(..) of an instance of the class at C -/
def tMeth (C : Addr) (m : Str) (sp : Sp) (dvs : List V) (E : XK) (ta : TE) (t : TA) : TE := fun σ H Q => ta σ H fun x H1 => ∃ a dx fs, x = .ref a ∧ H1 a = some (.ins C dx fs) ∧ fs.lookup m = none ∧
  t σ H1 fun vs H2 => sp (x :: (vs ++ dvs)) H2 Q E
/-- C(..): a new instance and its dict, then __init__ -/
def tMake (C : Addr) (sp : Sp) (dvs : List V) (E : XK) (t : TA) : TE := fun σ H Q => t σ H fun vs H1 => ∀ x dx, H1 x = none → H1 dx = none → dx ≠ x →
  sp (.ref x :: (vs ++ dvs)) (upd (upd H1 dx (.own x)) x (.ins C dx [])) (fun v H2 => v = .non ∧ Q (.ref x) H2) E

/-- how the parameters are bound: us the positional arguments, kw the keywords' values by name, ds the defaults that fill up -/
def Binds (K : PySem.W.Frag) (fd : FuncData) (ps : List Str) (ds : List Value) : Prop :=
  ∀ (s : Shared) (us : List Value), K.In s.heap → (us ++ ds).length = ps.length → BindsTo s fd ⟨us, []⟩ (ps.zip (us ++ ds))
/-- every parameter is given -/
theorem Binds.all {K : PySem.W.Frag} {fd : FuncData} {ps : List Str} (h : ∀ us : List Value, us.length = ps.length → bindArgs fd ⟨us, []⟩ = pure (ps.zip us)) : Binds K fd ps [] := fun s us _ hl => by
  rw [List.append_nil] at hl ⊢
  exact .of_eq (h us hl)

/-- an exception of a callee reaches what this body wants of exceptions -/
def Passes (CX : CXT) (X : Cx) (E : XK) : Prop := ∀ (pins : List (Addr × Obj)) (σ : St) (H : Hp) (s : Shared) (e : Value) (s' : Shared), Inv X pins σ H s → CX X.stack H s E e s' → X.xe e s'

section
variable {X : Cx} {CX : CXT} {k : Nat} {f C : Addr} {fd : FuncData} {ps : List Str} {sp : Sp} {dvs : List V} {ds : List Value} {E : XK} {x m : Str} {p pos apos : Pos} {e o : Expr} {es : List Expr} {ta : TE} {t : TA}

/-- the callee runs -/
theorem run_fn {pins : List (Addr × Obj)} {σ : St} {H : Hp} {s : Shared} {Q : VK} {us : List Value} {vs : List V} (F : FnOk X.prog X.w X.K X.mg X.base CX k f fd ps sp) (hr : Room k X.A) (hb : Binds X.K fd ps ds) (hd : Vals dvs ds) (hx : Passes CX X E)
    (I : Inv X pins σ H s) (r : Vals vs us) (h : sp (vs ++ dvs) H Q E) : wpAny (model X.prog X.w) X.A (call (.ref f) us) (EP X pins σ Q) X.xe s := by
  have r2 : Vals (vs ++ dvs) (us ++ ds) := r.append hd
  have hl : (us ++ ds).length = ps.length := by rw [← r2.length]; exact F.len _ _ _ _ h
  refine wpAny_call (codeAny_mono (F.run X.A X.stack s H ⟨us, []⟩ (us ++ ds) (vs ++ dvs) Q E hr I.env0 (hb s us I.kIn hl) r2 h) fun r s' hq => ?_)
  cases r with
  | error e => exact hx pins σ H s e s' I hq
  | ok fl =>
    cases fl with
    | ret u => exact I.after hq
    | next => exact False.elim hq
    | brk => exact False.elim hq
    | cont => exact False.elim hq

theorem pe_call (F : FnOk X.prog X.w X.K X.mg X.base CX k f fd ps sp) (hr : Room k X.A) (hg : Gl X x) (hm : X.mg x = some (.ref f)) (hk : PySem.W.keepIn X.K (.ref f) = true) (hb : Binds X.K fd ps ds) (hd : Vals dvs ds) (hx : Passes CX X E)
    (ha : PA X (e :: es) t) (hdb : (x == ("__debug__" : Str)) = false := by decide) (he : starEach (e :: es) X.env = (false, eval e X.env) :: starEach es X.env := by rfl) (hpl : (backTo pos (starEach es X.env)).any (·.1) = false := by rfl) :
    PE X (.Call (.Name x p) (e :: es) [] pos) (tCall sp dvs E t) := by
  intro pins s σ H Q I h
  refine wpAny_Call_Name_kw (ld_glob I hg hm ?_ hdb)
  refine PySem.W.callWith_K (h₀ := X.base) I.ok.mod.kin hk (thn (ha pos pins s σ H _ I h) fun us s1 ⟨vs, H1, I1, r, q⟩ => ⟨I1.kIn, ?_⟩) he hpl
  exact run_fn F hr hb hd hx I1 r q
/-- o.m(e, ..) -/
theorem pe_meth {pl : Sem Bool} (he : PE X o ta) (c : Cls X.K C) (hm : Meth X.K C m f) (F : FnOk X.prog X.w X.K X.mg X.base CX k f fd ps sp) (hr : Room k X.A) (hb : Binds X.K fd ps ds) (hd : Vals dvs ds) (hx : Passes CX X E) (ha : PA X (e :: es) t)
    (hst : starEach (e :: es) X.env = (false, eval e X.env) :: starEach es X.env := by rfl) (hpl : (backTo pos (starEach es X.env)).any (·.1) = false := by rfl)
    (ht : eval (.Call (.Attribute o m apos) (e :: es) [] pos) X.env = (do
      let ov ← eval o X.env
      standAt apos.atName
      let (f, first) ← holding [ov] (getMethod ov m pl)
      callWith pos f first (backTo pos (starEach (e :: es) X.env)) (backToKw pos (keywordEach [] X.env))) := by rfl) :
    PE X (.Call (.Attribute o m apos) (e :: es) [] pos) (tMeth C m sp dvs E ta t) := by
  intro pins s σ H Q I h
  refine PySem.W.methodCall_KW (pl := pl) (thn (he pins s σ H _ I h) fun u s1 ⟨x, H1, I1, rx, a, dx, fs, ex, ea, l, q⟩ => ?_) ht
  subst ex
  obtain rfl : u = Value.ref a := rx
  refine getmeth_ok I1 ea c hm l ?_
  refine PySem.W.callWith_K (first := [.ref a]) (h₀ := X.base) I.ok.mod.kin hm.kp (thn (ha pos pins s1 σ H1 _ I1 q) fun us s2 ⟨vs, H2, I2, r, q2⟩ => ⟨I2.kIn, ?_⟩) hst hpl
  exact run_fn (us := .ref a :: us) (vs := .ref a :: vs) F hr hb hd hx I2 (.cons rfl r) q2
/-- o.m() -/
theorem pe_meth0 {pl : Sem Bool} (he : PE X o ta) (c : Cls X.K C) (hm : Meth X.K C m f) (F : FnOk X.prog X.w X.K X.mg X.base CX k f fd ps sp) (hr : Room k X.A) (hb : Binds X.K fd ps ds) (hd : Vals dvs ds) (hx : Passes CX X E)
    (ht : eval (.Call (.Attribute o m apos) [] [] pos) X.env = (do
      let ov ← eval o X.env
      standAt apos.atName
      let (f, first) ← holding [ov] (getMethod ov m pl)
      callWith pos f first (backTo pos (starEach [] X.env)) (backToKw pos (keywordEach [] X.env))) := by rfl) :
    PE X (.Call (.Attribute o m apos) [] [] pos) (tMeth C m sp dvs E ta tNil) := by
  intro pins s σ H Q I h
  refine PySem.W.methodCall_KW (pl := pl) (thn (he pins s σ H _ I h) fun u s1 ⟨x, H1, I1, rx, a, dx, fs, ex, ea, l, q⟩ => ?_) ht
  subst ex
  obtain rfl : u = Value.ref a := rx
  refine getmeth_ok I1 ea c hm l ?_
  exact PySem.W.callWith_K0 (first := [.ref a]) I1.kIn hm.kp (run_fn (us := [.ref a]) (vs := [.ref a]) F hr hb hd hx I1 (.cons rfl .nil) q)

/-- what a class must have to be made -/
structure Mk (K : PySem.W.Frag) (C f : Addr) : Prop where
  makes : PySem.W.makesIn K C = true
  init : PySem.W.findIn K (.ref C) "__init__" = some (some (.ref f))
  fn : PySem.W.isFn K (.ref f) = true
  kp : PySem.W.keepIn K (.ref C) = true

theorem run_make {pins : List (Addr × Obj)} {σ : St} {H : Hp} {s : Shared} {Q : VK} {us : List Value} {vs : List V} (M : Mk X.K C f) (F : FnOk X.prog X.w X.K X.mg X.base CX k f fd ps sp) (hr : Room (k + 1) X.A) (hb : Binds X.K fd ps ds) (hd : Vals dvs ds)
    (hx : Passes CX X E) (I : Inv X pins σ H s) (r : Vals vs us)
    (h : ∀ x dx, H x = none → H dx = none → dx ≠ x → sp (.ref x :: (vs ++ dvs)) (upd (upd H dx (.own x)) x (.ins C dx [])) (fun v H2 => v = .non ∧ Q (.ref x) H2) E) :
    wpAny (model X.prog X.w) X.A (call (.ref C) us) (EP X pins σ Q) X.xe s := by
  have hq := h (s.heap.objs.size + 1) s.heap.objs.size (I.hok.fresh (Nat.le_succ _)) (I.hok.fresh (Nat.le_refl _)) (Nat.ne_of_lt (Nat.lt_succ_self _))
  have I2 := Inv.made (C := C) I
  have r2 : Vals (V.ref (s.heap.objs.size + 1) :: (vs ++ dvs)) (Value.ref (s.heap.objs.size + 1) :: (us ++ ds)) := .cons rfl (r.append hd)
  have hl : (Value.ref (s.heap.objs.size + 1) :: us ++ ds).length = ps.length := by
    have e := r2.length
    rw [F.len _ _ _ _ hq] at e
    exact e.symm
  refine wpAny_call (make_map (f := f) I.kIn M.makes M.init (beq_iff_eq.mp M.fn) (codeAny_mono (F.run _ X.stack _ _ ⟨Value.ref (s.heap.objs.size + 1) :: us, []⟩ (Value.ref (s.heap.objs.size + 1) :: (us ++ ds)) _ _ E (hr.make C us [])
    (I2.env0.make C us []) (hb _ (Value.ref (s.heap.objs.size + 1) :: us) I2.kIn hl) r2 hq) fun r s' hq' => ?_))
  cases r with
  | error e => exact hx pins σ _ _ e s' I2 hq'
  | ok fl =>
    cases fl with
    | ret u =>
      obtain ⟨v, H', I3, rv, ev, q3⟩ := I2.after hq'
      subst ev
      exact ⟨rv, ⟨V.ref (s.heap.objs.size + 1), H', I3, rfl, q3⟩⟩
    | next => exact False.elim hq'
    | brk => exact False.elim hq'
    | cont => exact False.elim hq'
theorem pe_make (M : Mk X.K C f) (F : FnOk X.prog X.w X.K X.mg X.base CX k f fd ps sp) (hr : Room (k + 1) X.A) (hg : Gl X x) (hm : X.mg x = some (.ref C)) (hb : Binds X.K fd ps ds) (hd : Vals dvs ds) (hx : Passes CX X E)
    (ha : PA X (e :: es) t) (hdb : (x == ("__debug__" : Str)) = false := by decide) (he : starEach (e :: es) X.env = (false, eval e X.env) :: starEach es X.env := by rfl) (hpl : (backTo pos (starEach es X.env)).any (·.1) = false := by rfl) :
    PE X (.Call (.Name x p) (e :: es) [] pos) (tMake C sp dvs E t) := by
  intro pins s σ H Q I h
  refine wpAny_Call_Name_kw (ld_glob I hg hm ?_ hdb)
  refine PySem.W.callWith_K (h₀ := X.base) I.ok.mod.kin M.kp (thn (ha pos pins s σ H _ I h) fun us s1 ⟨vs, H1, I1, r, q⟩ => ⟨I1.kIn, ?_⟩) he hpl
  exact run_make M F hr hb hd hx I1 r q
end

/-! ### keywords -/
/-- the values of the keywords, from the left -/
def PK (X : Cx) (kws : List Keyword) (t : TA) : Prop :=
  ∀ (pos : Pos) (pins : List (Addr × Obj)) (s : Shared) (σ : St) (H : Hp) (Q : List V → Hp → Prop), Inv X pins σ H s → t σ H Q → wpAny (model X.prog X.w) X.A (evalAll ((backToKw pos (keywordEach kws X.env)).map (·.2))) (AP X pins σ Q) X.xe s
section
variable {X : Cx} {CX : CXT} {k : Nat} {f C : Addr} {fd : FuncData} {ps ks : List Str} {sp : Sp} {E : XK} {x m : Str} {p pos apos kpos : Pos} {e o : Expr} {es : List Expr} {kws : List Keyword} {te ta : TE} {t tk : TA} {nm : Option Str}
theorem pk_nil : PK X [] tNil := fun _ _ _ _ H Q I h => wpAny_evalAll_nil ⟨[], H, I, .nil, h⟩
theorem pk_cons (ha : PE X e te) (hr : PK X kws t) : PK X (⟨nm, e, kpos⟩ :: kws) (tCons te t) := by
  intro pos pins s σ H Q I h
  show wpAny _ _ (evalAll ((do let v ← eval e X.env; standAt pos; pure v) :: (backToKw pos (keywordEach kws X.env)).map (·.2))) _ _ s
  refine wpAny_evalAll_cons (wpAny_bind (thn (ha pins s σ H _ I h) fun u s1 ⟨x, H1, I1, r1, q1⟩ => wpAny_bind (wpAny_standAt (wpAny_pure ?_))))
  exact thn (hr pos pins s1 σ H1 _ I1 q1) fun us s2 ⟨xs, H2, I2, r2, q2⟩ => ⟨x :: xs, H2, I2, .cons r1 r2, q2⟩

/-- how a call with keywords binds: g puts the positional values us and the keywords' values ws (names ks) in the parameters' order, defaults among them -/
structure KBinds (K : PySem.W.Frag) (fd : FuncData) (ps ks : List Str) (g : List Value → List Value → List Value) (gV : List V → List V → List V) : Prop where
  to : ∀ (s : Shared) (us ws : List Value), K.In s.heap → (g us ws).length = ps.length → BindsTo s fd ⟨us, ks.zip ws⟩ (ps.zip (g us ws))
  rel : ∀ {vs : List V} {us : List Value} {zs : List V} {ws : List Value}, Vals vs us → Vals zs ws → Vals (gV vs zs) (g us ws)
variable {g : List Value → List Value → List Value} {gV : List V → List V → List V}
theorem run_fnk {pins : List (Addr × Obj)} {σ : St} {H : Hp} {s : Shared} {Q : VK} {us ws : List Value} {vs zs : List V} (F : FnOk X.prog X.w X.K X.mg X.base CX k f fd ps sp) (hr : Room k X.A) (hb : KBinds X.K fd ps ks g gV) (hx : Passes CX X E)
    (I : Inv X pins σ H s) (r : Vals vs us) (rz : Vals zs ws) (h : sp (gV vs zs) H Q E) : wpAny (model X.prog X.w) X.A (call (.ref f) us (ks.zip ws)) (EP X pins σ Q) X.xe s := by
  have r2 := hb.rel r rz
  have hl : (g us ws).length = ps.length := by rw [← r2.length]; exact F.len _ _ _ _ h
  refine wpAny_call (codeAny_mono (F.run X.A X.stack s H ⟨us, ks.zip ws⟩ (g us ws) (gV vs zs) Q E hr I.env0 (hb.to s us ws I.kIn hl) r2 h) fun r s' hq => ?_)
  cases r with
  | error e => exact hx pins σ H s e s' I hq
  | ok fl =>
    cases fl with
    | ret u => exact I.after hq
    | next => exact False.elim hq
    | brk => exact False.elim hq
    | cont => exact False.elim hq
end

/-! ### a def's body keeps its promise -/
/-- names: the parameters first -/
structure FnScope (N P : List Str) (sc : Scope) : Prop where
  kind : sc.kind = .function
  co : sc.isCoroutine = false
  gen : sc.isGenerator = false
  nd : N.Nodup
  pre : N.take P.length = P
  par : ∀ x ∈ P, sc.names.lookup x = some .local ∨ sc.names.lookup x = some .cell
  nofree : ∀ y ∈ sc.names, y.2 ≠ .free

theorem bindL_out {kindOf : Str → Option NameKind} {x : Str} : ∀ {binds : List (Str × Value)} {m : Str → Option Value}, (∀ v, (x, v) ∉ binds) → bindL kindOf binds m x = m x
  | [], _, _ => rfl
  | (n, v) :: r, m, h => by
    unfold bindL
    rw [bindL_out fun w hw => h w (List.mem_cons_of_mem _ hw)]
    split
    · have : x ≠ n := by rintro rfl; exact h v List.mem_cons_self
      simp [this]
    · rfl
theorem bindC_out {kindOf : Str → Option NameKind} {x : Str} : ∀ {binds : List (Str × Value)} {m : Str → Option Value}, (∀ v, (x, v) ∉ binds) → bindC kindOf binds m x = m x
  | [], _, _ => rfl
  | (n, v) :: r, m, h => by
    unfold bindC
    rw [bindC_out fun w hw => h w (List.mem_cons_of_mem _ hw)]
    split
    · rfl
    · have : x ≠ n := by rintro rfl; exact h v List.mem_cons_self
      simp [this]
theorem bindL_get {kindOf : Str → Option NameKind} {x : Str} {v : Value} : ∀ {P : List Str} {vs : List Value} {i : Nat} {m : Str → Option Value}, P.Nodup → P[i]? = some x → vs[i]? = some v → kindOf x = some .local →
    bindL kindOf (P.zip vs) m x = some v
  | [], _, _, _, _, h, _, _ => by simp at h
  | _ :: _, [], _, _, _, _, h, _ => by simp at h
  | p :: P, w :: vs, 0, m, nd, h1, h2, hk => by
    simp at h1 h2; subst h1; subst h2
    show bindL kindOf ((p, w) :: P.zip vs) m p = _
    unfold bindL
    rw [bindL_out fun v hv => (List.nodup_cons.mp nd).1 (List.of_mem_zip hv).1, if_pos hk]
    simp
  | p :: P, w :: vs, i + 1, m, nd, h1, h2, hk => by
    show bindL kindOf ((p, w) :: P.zip vs) m x = _
    unfold bindL
    exact bindL_get (i := i) (List.nodup_cons.mp nd).2 (by simpa using h1) (by simpa using h2) hk
theorem bindC_get {kindOf : Str → Option NameKind} {x : Str} {v : Value} : ∀ {P : List Str} {vs : List Value} {i : Nat} {m : Str → Option Value}, P.Nodup → P[i]? = some x → vs[i]? = some v → kindOf x ≠ some .local →
    bindC kindOf (P.zip vs) m x = some v
  | [], _, _, _, _, h, _, _ => by simp at h
  | _ :: _, [], _, _, _, _, h, _ => by simp at h
  | p :: P, w :: vs, 0, m, nd, h1, h2, hk => by
    simp at h1 h2; subst h1; subst h2
    show bindC kindOf ((p, w) :: P.zip vs) m p = _
    unfold bindC
    rw [bindC_out fun v hv => (List.nodup_cons.mp nd).1 (List.of_mem_zip hv).1, if_neg hk]
    simp
  | p :: P, w :: vs, i + 1, m, nd, h1, h2, hk => by
    show bindC kindOf ((p, w) :: P.zip vs) m x = _
    unfold bindC
    exact bindC_get (i := i) (List.nodup_cons.mp nd).2 (by simpa using h1) (by simpa using h2) hk

/-- the names' values at the entry -/
def start (N : List Str) (vs : List V) : St := vs.map some ++ List.replicate (N.length - vs.length) none

/-- the context of a def's body, at its entry; an exception leaves the frame, then lies as CX says -/
def cxOf (CX : CXT) (P : Program) (w : World) (K : PySem.W.Frag) (mg : Str → Option Value) (base : Heap) (N : List Str) (qual : Str) (scope : Scope) (f : Addr) (cd : Value) (A : Around) (outer : List Env) (s : Shared) (H : Hp) (E : XK) : Cx where
  prog := P
  w := w
  K := K
  mg := mg
  base := base
  A := A.deeper (envOfC qual scope s.heap.objs.size f cd)
  N := N
  s₀ := s
  H₀ := H
  env := envOfC qual scope s.heap.objs.size f cd
  outer := outer
  stack := envOfC qual scope s.heap.objs.size f cd :: outer
  ex := []
  calm := true
  fn := fun _ => true
  pn := []
  xe := fun e s' => wpAny (model P w) (A.deeper (envOfC qual scope s.heap.objs.size f cd)) (leaving (envOfC qual scope s.heap.objs.size f cd) e) (fun _ s'' => CX outer H s E e s'') (fun e' s'' => CX outer H s E e' s'') s'

theorem cell_has {sc : Scope} {n : Nat} {x : Str} (h : sc.names.lookup x = some .cell) : ∃ c, (cellsFrom n sc.names []).lookup x = some c := by
  have q := PySem.W.cellsFrom_some sc.names n [] (.inl h)
  exact Option.isSome_iff_exists.mp q

theorem inv_start {CX : CXT} {P : Program} {w : World} {K : PySem.W.Frag} {mg : Str → Option Value} {base : Heap} {N ps : List Str} {qual : Str} {scope : Scope} {f : Addr} {cd : Value} {A : Around} {outer : List Env} {s s1 : Shared} {H : Hp} {E : XK} {us : List Value} {vs : List V}
    (S : FnScope N ps scope) (hd : A.handled = none) (e0 : Env0 P w K mg base A outer s H) (hl : vs.length = ps.length) (r : Vals vs us)
    (x : InCallC s s.heap.objs.size (bindL (envOfC qual scope s.heap.objs.size f cd).kindOf (ps.zip us) fun _ => none) (cellsFrom (s.heap.objs.size + 1) scope.names []) (bindC (envOfC qual scope s.heap.objs.size f cd).kindOf (ps.zip us) fun _ => none) s1) :
    Inv (cxOf CX P w K mg base N qual scope f cd A outer s H E) [] (start N vs) H s1 := by
  have hpl : ps.length ≤ N.length := by have := congrArg List.length S.pre; rw [List.length_take] at this; omega
  obtain ⟨h1, tk, rfl, hk⟩ := x.done
  have noA : ∀ b : Addr, b ∉ (cxOf CX P w K mg base N qual scope f cd A outer s H E).ex := fun b z => absurd (show b ∈ ([] : List Addr) from z) (by simp)
  refine ⟨⟨e0.mod, S.kind, rfl, rfl, Nat.le_refl _, fun y z c h1 h2 => ?_, fun y hy => ?_, fun y c _ h => ?_, fun _ => hd, Around.frames_deeper e0.frames, .inr ⟨rfl, rfl⟩, fun b z => absurd z (noA b), e0.bs, e0.bsz, fun b _ _ => noA b, fun b z => absurd z (noA b), e0.funs, e0.frf⟩,
    rfl, e0.bare, Un.kept hk, ⟨_, x.toInCall.ns, fun i y v h1 h2 h3 => ?_⟩, fun y c h => ⟨_, x.cell y c h⟩, e0.hok.fresh (Nat.le_refl _), fun y c h => ?_, fun p hp => absurd (show p ∈ ([] : List (Addr × Obj)) from hp) (by simp), e0.hok.kept hk, ?_⟩
  · exact name_of_addr x.apart (PySem.mem_of_lookup h1) (PySem.mem_of_lookup h2)
  · have hy : scope.names.lookup y = some .cell ∨ scope.names.lookup y = some .free := hy
    rcases hy with hy | hy
    · exact cell_has hy
    · exact absurd rfl (S.nofree _ (PySem.mem_of_lookup hy))
  · exact Nat.le_of_lt (x.above y c (PySem.mem_of_lookup h))
  · have hi : i < vs.length := by
      unfold start at h2
      by_cases hi : i < vs.length
      · exact hi
      · rw [List.getElem?_append_right (by simpa using hi)] at h2
        rw [List.getElem?_replicate] at h2
        split at h2 <;> cases h2
    have ha : vs[i]? = some v := by
      unfold start at h2
      rw [List.getElem?_append_left (by simpa using hi), List.getElem?_map] at h2
      cases e : vs[i]? with
      | none => rw [e] at h2; cases h2
      | some a => rw [e] at h2; cases h2; rfl
    obtain ⟨u, hu, rv⟩ := r.get ha
    have hp : ps[i]? = some y := by
      rw [← S.pre, List.getElem?_take_of_lt (by omega)]; exact h1
    have ndP : ps.Nodup := by rw [← S.pre]; exact S.nd.sublist (List.take_sublist _ _)
    refine ⟨u, rv, ?_⟩
    rcases S.par y (List.mem_of_getElem? hp) with k | k
    · exact .inl ⟨k, bindL_get ndP hp hu k⟩
    · obtain ⟨c, e⟩ := cell_has (n := s.heap.objs.size + 1) k
      refine .inr ⟨.inl k, c, e, ?_⟩
      have q := x.cell y c e
      rw [bindC_get ndP hp hu (by show scope.names.lookup y ≠ _; rw [k]; decide)] at q
      exact q
  · exact e0.hok.fresh (Nat.le_of_lt (x.above y c (PySem.mem_of_lookup h)))
  · unfold start
    show _ = N.length
    rw [List.length_append, List.length_map, List.length_replicate]
    omega

/-- THE RULE: a def (or a method) of the text, by its body. The body's reading t is chosen for each entry; it is run at the parameters' values -/
theorem fn_of {CX : CXT} {P : Program} {w : World} {K : PySem.W.Frag} {mg : Str → Option Value} {base : Heap} {k : Nat} {f : Addr} {name qual : Str} {params : Arguments} {body : List Stmt} {scope : Scope} {dV kV doc pm cdv ct oc : Value} {an od : Option Addr}
    {osl : Array (Option Value)} {N ps : List Str} {sp : Sp} (lk : K.lookup f = some ⟨oc, od, .func (PySem.W.fnOf name qual params body scope dV kV doc pm an cdv ct), osl⟩) (hcd : PySem.W.codeIn K cdv qual = true) (S : FnScope N ps scope)
    (len : ∀ vs H Q E, sp vs H Q E → vs.length = ps.length)
    (hbody : ∀ (A : Around) (outer : List Env) (s : Shared) (H : Hp) (vs : List V) (Q : VK) (E : XK), Room k (A.deeper (envOfC qual scope s.heap.objs.size f cdv)) → sp vs H Q E →
      ∃ t, PSs (cxOf CX P w K mg base N qual scope f cdv A outer s H E) body t ∧ t { nx := fun _ H' => Q .non H', rt := Q } (start N vs) H) :
    FnOk P w K mg base CX (k + 1) f (PySem.W.fnOf name qual params body scope dV kV doc pm an cdv ct) ps sp := by
  refine ⟨len, fun A outer s H args us vs Q E hr e0 hb r hsp => ?_⟩
  have hl := len _ _ _ _ hsp
  have KX : K.In s.heap := e0.mod.kin.keeps fun b o e => (e0.bs b o e).1
  have lim : s.heap.NoLimit := e0.mod.nolimit.keeps fun b o e => (e0.bs b o e).1
  have hkind : ∀ y ∈ ps.zip us, scope.names.lookup y.1 = some .local ∨ (scope.names.lookup y.1 = some .cell ∧ ((cellsFrom (s.heap.objs.size + 1) scope.names []).lookup y.1).isSome = true) := fun ⟨n, v⟩ hy => by
    rcases S.par n (List.of_mem_zip hy).1 with q | q
    · exact .inl q
    · exact .inr ⟨q, PySem.W.cellsFrom_some _ _ _ (.inl q)⟩
  refine codeAny_call_function hr.depth (KX _ _ lk) rfl S.co S.gen rfl (PySem.W.codeRec_of KX hcd) (hb _ _ _ _ ?_)
  refine wpAny_newFunctionEnv_cells S.kind hkind fun env he s1 x => ?_
  subst he
  refine ⟨lim.keeps x.toInCall.keep, codeAny_func ?_⟩
  obtain ⟨t, ht, hq⟩ := hbody A outer s H vs Q E (hr.deeper _) hsp
  have I : Inv (cxOf CX P w K mg base N qual scope f cdv A outer s H E) [] (start N vs) H s1 := inv_start S hr.hd e0 hl r x
  refine wpAny_mono (ht [] s1 (start N vs) H _ I hq) (fun fl s' hs => ?_) fun e s' hs => hs
  have fin : ∀ {σ' : St} {H' : Hp} {v : V} {u : Value}, Inv (cxOf CX P w K mg base N qual scope f cdv A outer s H E) [] σ' H' s' → RelV v u → Q v H' → CE outer P w H s Q u s' :=
    fun {σ' H' v u} J rv q => ⟨v, H', J.os, J.bare, J.base, J.hok, rv, q⟩
  cases fl with
  | ret u =>
    obtain ⟨v, σ', H', J, rv, q⟩ := hs
    exact fin J rv q
  | next =>
    obtain ⟨σ', H', J, q⟩ := hs
    exact fin (v := V.non) (u := Value.none) J rfl q
  | brk =>
    obtain ⟨_, _, _, q⟩ := hs
    exact False.elim q
  | cont =>
    obtain ⟨_, _, _, q⟩ := hs
    exact False.elim q
end L2

namespace L2
open PySem PySem.Spec PyProof.Rows
section
variable {X : Cx} {x : Str} {p pos : Pos} {e : Expr} {es : List Expr} {t : TA} {id T : String} {r : List V → Hp → VK → Prop}

def tCB (r : List V → Hp → VK → Prop) (t : TA) : TE := fun σ H Q => t σ H fun vs H1 => r vs H1 Q
/-- f(e, ..), f a built-in function -/
theorem pe_callB (hc : CallR X (.builtin id) r) (hg : Gl X x) (hm : X.mg x = none) (hv : bootBuiltins x = some (.builtin id)) (ha : PA X (e :: es) t) (hn : x ≠ "__name__" := by decide) (hdb : (x == ("__debug__" : Str)) = false := by decide)
    (he : starEach (e :: es) X.env = (false, eval e X.env) :: starEach es X.env := by rfl) (hpl : (backTo pos (starEach es X.env)).any (·.1) = false := by rfl) : PE X (.Call (.Name x p) (e :: es) [] pos) (tCB r t) := by
  intro pins s σ H Q I h
  refine wpAny_Call_Name_kw (ld_blt I hg hm hv ?_ hn hdb)
  exact PyProof.Rows.callWith_builtin1 (thn (ha pos pins s σ H _ I h) fun us s1 ⟨vs, H1, I1, r1, q1⟩ => hc pins s1 σ H1 vs us Q I1 r1 q1) he hpl
/-- T(e, ..), T a built-in type -/
theorem pe_callTy (hc : CallR X (.type T) r) (hg : Gl X x) (hm : X.mg x = none) (hv : bootBuiltins x = some (.type T)) (ha : PA X (e :: es) t) (hn : x ≠ "__name__" := by decide) (hdb : (x == ("__debug__" : Str)) = false := by decide)
    (he : starEach (e :: es) X.env = (false, eval e X.env) :: starEach es X.env := by rfl) (hpl : (backTo pos (starEach es X.env)).any (·.1) = false := by rfl) : PE X (.Call (.Name x p) (e :: es) [] pos) (tCB r t) := by
  intro pins s σ H Q I h
  refine wpAny_Call_Name_kw (ld_blt I hg hm hv ?_ hn hdb)
  exact PyProof.Rows.callWith_type1 (thn (ha pos pins s σ H _ I h) fun us s1 ⟨vs, H1, I1, r1, q1⟩ => hc pins s1 σ H1 vs us Q I1 r1 q1) he hpl
end
end L2

namespace HT
open PySem PyProof.Rows

section
open PySem.SeqAt
open PySem.AutoSeq1 (wpAny_loadPart')
open PySem.MeetsSeq PySem.MeetsSeq2 PySem.MeetsSeq3

end

section
variable {prog : Program} {w : World} {A : Around} {E : Value → Shared → Prop} {s : Shared}

/-! ### t[a:b], not the whole -/
/-- a slice's bound as a place among n (d where it is left out) -/
def sIx (n d : Nat) : Option Int → Nat
  | none => d
  | some v => if v < 0 then (v + (n : Int)).toNat else min v.toNat n
theorem sIx_nat (n d k : Nat) : sIx n d (some (k : Int)) = min k n := by
  show (if (k : Int) < 0 then ((k : Int) + (n : Int)).toNat else min (k : Int).toNat n) = min k n
  rw [if_neg (by omega), Int.toNat_natCast]
end
end HT

namespace L2
open PySem PySem.Spec PyProof.Rows

/-! ### the parts of a slice -/
abbrev TO := St → Hp → (Option Int → Hp → Prop) → Prop
/-- a slice's part (left out, or an int) -/
def PO (X : Cx) (e : Option Expr) (t : TO) : Prop :=
  ∀ (pins : List (Addr × Obj)) (s : Shared) (σ : St) (H : Hp) (Q : Option Int → Hp → Prop), Inv X pins σ H s → t σ H Q →
    wpAny (model X.prog X.w) X.A (evalPart e X.env) (fun u s' => ∃ o H', Inv X pins σ H' s' ∧ IsPart u o ∧ Q o H') X.xe s
def tNoPart : TO := fun _ H Q => Q none H
def tPart (t : TE) : TO := fun σ H Q => t σ H fun x H1 => ∃ i, x = .int i ∧ Q (some i) H1

section
variable {X : Cx} {e : Expr} {te : TE} {lo hi : Option Expr} {tl th : TO} {pos p2 : Pos}

theorem po_none : PO X none tNoPart := by
  intro pins s σ H Q I h
  rw [evalPart_none]
  exact wpAny_pure ⟨none, H, I, .none, h⟩
theorem po_some (h : PE X e te) : PO X (some e) (tPart te) := by
  intro pins s σ H Q I hw
  rw [evalPart_some]
  refine thn (h pins s σ H _ I hw) fun u s1 ⟨x, H1, I1, r1, q1⟩ => ?_
  obtain ⟨i, rfl, q⟩ := q1
  obtain ⟨t, rfl⟩ := r1
  exact ⟨some i, H1, I1, .int i t, q⟩

/-- what a slice of a value is, by values: the slice object stands at sl -/
def SlR (X : Cx) (r : V → Option Int → Option Int → Hp → VK → Prop) : Prop :=
  ∀ (pins : List (Addr × Obj)) (s : Shared) (σ : St) (H : Hp) (x : V) (v vl vu : Value) (lo hi : Option Int) (sl : Addr) (Q : VK), Inv X pins σ H s → RelV x v → s.heap.IsSliceOf sl vl vu .none → IsPart vl lo → IsPart vu hi → r x lo hi H Q →
    ∃ T id, typeLookup (.type T) "__getitem__" = pure (some (.builtin id)) ∧ s.TypeIs v T ∧ wpAny (model X.prog X.w) X.A (getItem v (.ref sl)) (EP X pins σ Q) X.xe s
def tSl (r : V → Option Int → Option Int → Hp → VK → Prop) (te : TE) (tl th : TO) : TE := fun σ H Q => te σ H fun x H1 => tl σ H1 fun l H2 => th σ H2 fun u H3 => r x l u H3 Q
/-- a[lo:hi], any a -/
theorem pe_slice {r : V → Option Int → Option Int → Hp → VK → Prop} (hr : SlR X r) (he : PE X e te) (hl : PO X lo tl) (hu : PO X hi th) : PE X (.Subscript e (.Slice lo hi none p2) pos) (tSl r te tl th) := by
  intro pins s σ H Q I h
  refine Subscript_ (thn (he pins s σ H _ I h) fun v s1 ⟨x, H1, I1, r1, q1⟩ => ?_)
  refine wpAny_Slice (thn (hl pins s1 σ H1 _ I1 q1) fun vl s2 ⟨l, H2, I2, pl, q2⟩ => thn (hu pins s2 σ H2 _ I2 q2) fun vu s3 ⟨u, H3, I3, pu, q3⟩ => ?_)
  rw [evalPart_none]
  refine wpAny_pure ?_
  have I4 : Inv X pins σ H3 { s3 with heap := s3.heap.push { cls := .type "slice", data := .fields #[vl, vu, .none] } } := I3.kept (t' := s3.toks) fun b ob q => Heap.get?_push_of_some _ q
  obtain ⟨T, id, hT, ht, hg⟩ := hr pins { s3 with heap := s3.heap.push { cls := .type "slice", data := .fields #[vl, vu, .none] } } σ H3 x v vl vu l u s3.heap.objs.size Q I4 r1 (Heap.IsSliceOf.new ..) pl pu q3
  show wpAny (model X.prog X.w) X.A (subscriptTail e (.Slice lo hi none p2) v (.ref s3.heap.objs.size)) (EP X pins σ Q) X.xe { s3 with heap := s3.heap.push { cls := .type "slice", data := .fields #[vl, vu, .none] } }
  exact tail_any (ops := [.ref s3.heap.objs.size, v]) ht hT hg (by with_unfolding_all rfl)

/-- the items of xs[lo:hi] -/
def cutV (xs : List V) (lo hi : Option Int) : List V := (xs.drop (HT.sIx xs.length 0 lo)).take (HT.sIx xs.length xs.length hi - HT.sIx xs.length 0 lo)
theorem cutV_length (xs : List V) (lo hi : Option Int) : (cutV xs lo hi).length ≤ xs.length := by
  unfold cutV
  rw [List.length_take, List.length_drop]
  omega
/-! ### t < u, t + u -/
end
end L2

namespace L2
open PySem PySem.Spec PyProof.Rows

/-! ### places -/
/-- the place that an index of any sign means -/
def ixN (n : Nat) (i : Int) : Option Nat := if 0 ≤ i then (if i < n then some i.toNat else none) else if -(n : Int) ≤ i then some (i + n).toNat else none
def atI {α : Type} (xs : List α) (i : Int) : Option α := (ixN xs.length i).bind fun j => xs[j]?
theorem ixN_seq {n : Nat} {i : Int} {j : Nat} (h : ixN n i = some j) : seqIndex? i n = some j ∧ j < n ∧ -(n : Int) ≤ i ∧ i < n := by
  unfold ixN at h
  by_cases h0 : 0 ≤ i
  · rw [if_pos h0] at h
    by_cases h1 : i < n
    · rw [if_pos h1] at h
      have e : i.toNat = j := Option.some.inj h
      exact ⟨by rw [seqIndex_of h0 h1, e], by omega, by omega, h1⟩
    · rw [if_neg h1] at h; cases h
  · rw [if_neg h0] at h
    by_cases h1 : -(n : Int) ≤ i
    · rw [if_pos h1] at h
      have e : (i + n).toNat = j := Option.some.inj h
      exact ⟨by rw [seqIndex_neg (by omega) h1, e], by omega, h1, by omega⟩
    · rw [if_neg h1] at h; cases h
theorem atI_get {α : Type} {xs : List α} {i : Int} {v : α} (h : atI xs i = some v) : ∃ j, seqIndex? i xs.length = some j ∧ xs[j]? = some v ∧ j < xs.length ∧ -(xs.length : Int) ≤ i ∧ i < xs.length := by
  unfold atI at h
  cases e : ixN xs.length i with
  | none => rw [e] at h; cases h
  | some j =>
    rw [e] at h
    obtain ⟨h1, h2, h3, h4⟩ := ixN_seq e
    exact ⟨j, h1, h, h2, h3, h4⟩
theorem atI_nat {α : Type} {xs : List α} {j : Nat} {v : α} (h : xs[j]? = some v) : atI xs (j : Int) = some v := by
  have hj : j < xs.length := (List.getElem?_eq_some_iff.mp h).1
  have e : ixN xs.length (j : Int) = some j := by
    unfold ixN
    rw [if_pos (by omega), if_pos (by omega)]; simp
  unfold atI; rw [e]; exact h
/-! ### what may be subscripted -/
/-- what stands as an index of a plain subscript -/
def PlainIx (b : Expr) : Prop := ∀ o i, subscripted b false o i = operate [o, i] (getItem o i)
/-- a subscript by values -/
def IxR (X : Cx) (r : R2) : Prop :=
  ∀ (value slice : Expr) (pins : List (Addr × Obj)) (s : Shared) (σ : St) (H : Hp) (x y : V) (v u : Value) (Q : VK), Inv X pins σ H s → RelV x v → RelV y u → r x y H Q →
    subscripted slice false v u = operate [v, u] (getItem v u) → wpAny (model X.prog X.w) X.A (subscriptTail value slice v u) (EP X pins σ Q) X.xe s
/-- a call of a builtin's method by values: the receiver, the arguments -/
def MtR (X : Cx) (id : String) (r : V → List V → Hp → VK → Prop) : Prop :=
  ∀ (pins : List (Addr × Obj)) (s : Shared) (σ : St) (H : Hp) (x : V) (xs : List V) (v : Value) (us : List Value) (Q : VK), Inv X pins σ H s → RelV x v → Vals xs us → r x xs H Q →
    wpAny (model X.prog X.w) X.A (call (.builtin id) (v :: us)) (EP X pins σ Q) X.xe s
section
variable {X : Cx} {a b : Expr} {ta tb : TE} {pos : Pos}
/-- a[b] -/
theorem pe_ix {r : R2} (hr : IxR X r) (ha : PE X a ta) (hb : PE X b tb) (hs : PlainIx b) : PE X (.Subscript a b pos) (tOp r ta tb) := by
  intro pins s σ H Q I h
  exact Subscript_ (binT ha hb I h fun v u s2 x y H2 I2 rx ry q => hr a b pins s2 σ H2 x y v u Q I2 rx ry q (hs _ _))

def rIxL (K : PySem.W.Frag) : R2 := fun x y H Q => ∃ p xs i v, x = .ref p ∧ y = .int i ∧ SqL K H p xs ∧ atI xs i = some v ∧ Q v H
def rIxT (K : PySem.W.Frag) : R2 := fun x y H Q => ∃ p xs i v, x = .ref p ∧ y = .int i ∧ SqT K H p xs ∧ atI xs i = some v ∧ Q v H
def rIxS : R2 := fun x y H Q => ∃ z i c, x = .str z ∧ y = .int i ∧ z.length ≤ sizeLine ∧ atI z.cps.toList i = some c ∧ Q (.str ⟨#[c]⟩) H
theorem ix_list : IxR X (rIxL X.K) := by
  intro value slice pins s σ H x y v u Q I rx ry h hs
  obtain ⟨p, xs, i, z, rfl, rfl, hq, he, q⟩ := h
  cases rx
  obtain ⟨t, rfl⟩ := ry
  obtain ⟨its, r, pl, hz⟩ := I.list hq
  obtain ⟨j, h1, h2, h3, h4, h5⟩ := atI_get he
  obtain ⟨w, ew, rw'⟩ := r.get h2
  have hl := r.length
  have hn := line63
  have fin : EP X pins σ Q w s := ⟨z, H, I, rw', q⟩
  by_cases h0 : 0 ≤ i
  · have hj : i.toNat = j := by
      rw [seqIndex_of h0 h5] at h1
      exact Option.some.inj h1
    exact item_listR pl.isList h0 (by omega) (by rw [hj]; simpa using ew) fin hs
  · have hj : (i + (its.toArray.size : Int)).toNat = j := by
      rw [seqIndex_neg (by omega) h4] at h1
      rw [List.size_toArray, ← hl]
      exact Option.some.inj h1
    exact subscriptTail_builtinR (x := w) pl.isList.typeIs slot_list_getitem.lookup
      (wpAny_getItem_list_neg (Q := fun r s' => r = w ∧ EP X pins σ Q r s') pl.isList (by omega) (by rw [List.size_toArray] <;> omega) (by omega) (by rw [hj]; simpa using ew) ⟨rfl, fin⟩) hs
theorem ix_tup : IxR X (rIxT X.K) := by
  intro value slice pins s σ H x y v u Q I rx ry h hs
  obtain ⟨p, xs, i, z, rfl, rfl, hq, he, q⟩ := h
  cases rx
  obtain ⟨t, rfl⟩ := ry
  obtain ⟨its, r, pl, hz⟩ := I.tuple hq
  obtain ⟨j, h1, h2, h3, h4, h5⟩ := atI_get he
  obtain ⟨w, ew, rw'⟩ := r.get h2
  have hl := r.length
  have hn := line63
  have fin : EP X pins σ Q w s := ⟨z, H, I, rw', q⟩
  exact subscriptTail_builtinR (x := w) pl.typeIs slot_tuple_getitem.lookup
    (getItem_tuple (j := j) (Q := fun r s' => r = w ∧ EP X pins σ Q r s') pl (by omega) (by omega) (by rw [List.size_toArray, ← hl]; exact h1) (by simpa using ew) ⟨rfl, fin⟩) hs
theorem ix_str : IxR X rIxS := by
  intro value slice pins s σ H x y v u Q I rx ry h hs
  obtain ⟨z, i, c, rfl, rfl, hz, he, q⟩ := h
  obtain ⟨t, rfl⟩ := rx
  obtain ⟨t', rfl⟩ := ry
  obtain ⟨j, h1, h2, h3, h4, h5⟩ := atI_get he
  have hl : z.cps.toList.length = z.length := by simp [Str.length]
  rw [hl] at h1 h4 h5
  have hn := line63
  exact tail_any (typeIs_str s z t) slot_str_getitem.lookup (getItem_str (c := c) (by
    have e1 : decide (i < -(2 ^ 63 : Int)) = false := decide_eq_false (by omega)
    have e2 : decide (i ≥ 2 ^ 63) = false := decide_eq_false (by omega)
    rw [e1, e2, Bool.or_false]) (by rw [h1]; simpa using h2) ⟨.str ⟨#[c]⟩, H, I.tok _, ⟨_, rfl⟩, q⟩) hs
/-! ### xs[i] = v, any sign -/
/-! ### slices -/
theorem slice_bounds (lo hi : Option Int) (n : Nat) : (sliceBounds lo hi none n).1 = ((HT.sIx n 0 lo : Nat) : Int) ∧ (sliceBounds lo hi none n).2.1 = ((HT.sIx n n hi : Nat) : Int) ∧ (sliceBounds lo hi none n).2.2 = 1 := by
  refine ⟨?_, ?_, rfl⟩
  · cases lo with
    | none => simp [sliceBounds, HT.sIx]
    | some i =>
      simp only [sliceBounds, HT.sIx, Option.getD_none, show (1 : Int) > 0 by decide, if_true]
      by_cases h : i < 0
      · simp only [h, if_true] <;> omega
      · simp only [h, if_false] <;> omega
  · cases hi with
    | none => simp [sliceBounds, HT.sIx]
    | some i =>
      simp only [sliceBounds, HT.sIx, Option.getD_none, show (1 : Int) > 0 by decide, if_true]
      by_cases h : i < 0
      · simp only [h, if_true] <;> omega
      · simp only [h, if_false] <;> omega
theorem slicePick_cut (its : List Value) (lo hi : Option Int) : slicePick its.toArray lo hi none = ((its.drop (HT.sIx its.length 0 lo)).take (HT.sIx its.length its.length hi - HT.sIx its.length 0 lo)).toArray := by
  obtain ⟨h1, h2, h3⟩ := slice_bounds lo hi its.toArray.size
  unfold slicePick
  rw [h1, h2, h3]
  simp only [sliceRange_one, pick_run, List.size_toArray] <;> rfl
/-- xs[lo:hi] of a list: a new list -/
def rSlL (K : PySem.W.Frag) : V → Option Int → Option Int → Hp → VK → Prop := fun x lo hi H Q => ∃ a xs, x = .ref a ∧ SqL K H a xs ∧ ∀ p, H p = none → Q (.ref p) (upd H p (.lst (cutV xs lo hi)))
theorem sl_list : SlR X (rSlL X.K) := by
  intro pins s σ H x v vl vu lo hi sl Q I rx hs pl pu h
  obtain ⟨a, xs, rfl, hx, q⟩ := h
  cases rx
  obtain ⟨its, r, ht, hz⟩ := I.list hx
  have hlen := r.length
  refine ⟨"list", _, slot_list_getitem.lookup, ht.isList.typeIs, ?_⟩
  refine wpAny_getItem_list_slice ht.isList hs pl pu .none (by simp) ?_ (by rw [List.size_toArray] <;> omega)
  rw [slicePick_cut, ← hlen]
  refine ⟨.ref s.heap.objs.size, _, I.laid (t' := s.toks) (o := .lst (cutV xs lo hi)) (fun b ob q => Heap.get?_push_of_some _ q) (Nat.le_refl _) ?_, rfl, q _ (I.hok.fresh (Nat.le_refl _))⟩
  exact ⟨Nat.le_trans (cutV_length xs lo hi) hz, _, 0, (r.drop (HT.sIx xs.length 0 lo)).take (HT.sIx xs.length xs.length hi - HT.sIx xs.length 0 lo), Heap.get?_push_size _ rfl⟩

/-! ### in, not in: flat items -/
/-! ### len, list(x), tuple(x) of any list or tuple that is read -/
theorem call_len_seq : CallR X (.builtin "len") (fun xs H Q => ∃ p ys, xs = [.ref p] ∧ (SqL X.K H p ys ∨ SqT X.K H p ys) ∧ Q (.int ys.length) H) := by
  intro pins s σ H xs us Q I r h
  obtain ⟨p, ys, rfl, hq, q⟩ := h
  obtain ⟨u, rfl, rx⟩ := vals1 r
  cases rx
  have hn := line63
  rcases hq with hq | hq
  · obtain ⟨its, r', pl, hz⟩ := I.list hq
    have hlen := r'.length
    exact Calls.call_len_list pl.isList (by simp only [List.size_toArray] <;> omega) ⟨.int ys.length, H, I.tok _, ⟨s.toks + 1, by rw [List.size_toArray, hlen]⟩, q⟩
  · obtain ⟨its, r', pl, hz⟩ := I.tuple hq
    have hlen := r'.length
    exact len_tuple pl (by simp only [List.size_toArray] <;> omega) ⟨.int ys.length, H, I.tok _, ⟨s.toks + 1, by rw [List.size_toArray, hlen]⟩, q⟩
/-! ### the call of a builtin's method: o.m(..) -/
/-- the value is of that builtin type -/
def tyV (K : PySem.W.Frag) (T : String) (x : V) (H : Hp) : Prop := match x with
  | .str _ => T = "str"
  | .int _ => T = "int"
  | .ref p => (T = "list" ∧ ∃ xs, SqL K H p xs) ∨ (T = "tuple" ∧ ∃ o, K.lookup p = some o ∧ o.cls = .type "tuple" ∧ o.dict = none) ∨
      (T = "dict" ∧ ((∃ kvs, H p = some (.dK kvs)) ∨ ∃ kvs, H p = some (.dT kvs))) ∨ (T = "set" ∧ ∃ S n, H p = some (.set S n))
  | _ => False
theorem tyV_is {pins : List (Addr × Obj)} {σ : St} {H : Hp} {s : Shared} {T : String} {x : V} {v : Value} (I : Inv X pins σ H s) (r : RelV x v) (ty : tyV X.K T x H) :
    s.TypeIs v T ∧ ∀ a, v = .ref a → ∃ ob, s.heap.get? a = some ob ∧ ob.dict = none := by
  cases x with
  | str z =>
    obtain ⟨t, rfl⟩ := r
    cases (show T = "str" from ty)
    exact ⟨typeIs_str s z t, fun _ e => nomatch e⟩
  | int i =>
    obtain ⟨t, rfl⟩ := r
    cases (show T = "int" from ty)
    exact ⟨typeIs_int s i t, fun _ e => nomatch e⟩
  | ref p =>
    cases r
    rcases ty with ⟨rfl, xs, hq⟩ | ⟨rfl, o, hk, hc, hd⟩ | ⟨rfl, hk⟩ | ⟨rfl, S, n, hk⟩
    · obtain ⟨its, _, pl, _⟩ := I.list hq
      refine ⟨pl.isList.typeIs, fun a e => ?_⟩
      cases e
      obtain ⟨o, n, e, c, hd, _⟩ := pl
      exact ⟨o, e, hd⟩
    · refine ⟨⟨o, I.kIn p o hk, hc⟩, fun a e => ?_⟩
      cases e
      exact ⟨o, I.kIn _ o hk, hd⟩
    · have z : ∃ o, s.heap.get? p = some o ∧ o.ExactDict := by
        rcases hk with ⟨kvs, hk⟩ | ⟨kvs, hk⟩
        · obtain ⟨_, _, _, _, o, _, _, e, ex, _⟩ := I.hok p _ hk
          exact ⟨o, e, ex⟩
        · obtain ⟨_, _, _, _, o, _, _, e, ex, _⟩ := I.hok p _ hk
          exact ⟨o, e, ex⟩
      obtain ⟨o, e, ex⟩ := z
      refine ⟨⟨o, e, ex.1⟩, fun a e2 => ?_⟩
      cases e2
      exact ⟨o, e, ex.2.1⟩
    · obtain ⟨o, _, _, _, e, ex, _⟩ := I.hok p _ hk
      refine ⟨⟨o, e, ex.1⟩, fun a e2 => ?_⟩
      cases e2
      exact ⟨o, e, ex.2.1⟩
  | _ => exact False.elim ty
def tBM0 (K : PySem.W.Frag) (T : String) (r : V → List V → Hp → VK → Prop) (to : TE) : TE := fun σ H Q => to σ H fun x H1 => tyV K T x H1 ∧ r x [] H1 Q
def tBM (K : PySem.W.Frag) (T : String) (r : V → List V → Hp → VK → Prop) (to : TE) (t : TA) : TE := fun σ H Q => to σ H fun x H1 => tyV K T x H1 ∧ t σ H1 fun xs H2 => r x xs H2 Q
variable {o e : Expr} {es : List Expr} {to : TE} {t : TA} {name : Str} {apos cpos : Pos} {T id : String} {r : V → List V → Hp → VK → Prop}
theorem pe_bm0 (pa : PlainAttrs T) (slot : Slot T name id) (hty : typeOf (.builtin id) = pure (.type "method_descriptor")) (hm : MtR X id r) (ho : PE X o to)
    (hbase : attributeBase o name X.env (eval o X.env) = eval o X.env := by rfl) (hline : (apos.endLine == cpos.line) = true := by rfl) : PE X (.Call (.Attribute o name apos) [] [] cpos) (tBM0 X.K T r to) := by
  intro pins s σ H Q I h
  refine wpAny_Call_method0_late hbase hline (thn (ho pins s σ H _ I h) fun v s1 ⟨x, H1, I1, r1, ty, q1⟩ => ?_)
  obtain ⟨h1, h2⟩ := tyV_is I1 r1 ty
  exact ⟨T, id, pa, slot, hty, h1, h2, Calls.callWith_builtin rfl (PySem.evalArgs_none (hm pins s1 σ H1 x [] v [] Q I1 r1 .nil q1))⟩
theorem pe_bm (pa : PlainAttrs T) (slot : Slot T name id) (hty : typeOf (.builtin id) = pure (.type "method_descriptor")) (hm : MtR X id r) (ho : PE X o to) (ha : PA X (e :: es) t)
    (hbase : attributeBase o name X.env (eval o X.env) = eval o X.env := by rfl)
    (hfew : ((backTo cpos (starEach (e :: es) X.env)).all (fun x => !x.1) && (backToKw cpos (keywordEach [] X.env)).all (fun x => x.1.isSome)
      && decide ((e :: es).length + ([] : List Keyword).length + (if ([] : List Keyword).isEmpty then 0 else 1) < 30)) = true := by rfl)
    (hline : (apos.endLine == cpos.line) = true := by rfl) (hs : starEach (e :: es) X.env = (false, eval e X.env) :: starEach es X.env := by rfl) (hplain : (backTo cpos (starEach es X.env)).any (·.1) = false := by rfl) :
    PE X (.Call (.Attribute o name apos) (e :: es) [] cpos) (tBM X.K T r to t) := by
  intro pins s σ H Q I h
  refine wpAny_Call_method_late hbase hfew hline rfl (thn (ho pins s σ H _ I h) fun v s1 ⟨x, H1, I1, r1, ty, q1⟩ => ?_)
  obtain ⟨h1, h2⟩ := tyV_is I1 r1 ty
  refine ⟨T, id, pa, slot, hty, h1, h2, ?_⟩
  have hA := ha cpos pins s1 σ H1 _ I1 q1
  rw [hs] at hA ⊢
  refine Calls.callWith_builtin (by show (false || (backTo cpos (starEach es X.env)).any (·.1)) = false; rw [hplain] <;> rfl) (Calls.evalArgs_plain ?_)
  exact thn hA fun us s2 ⟨vs, H2, I2, r2, q2⟩ => hm pins s2 σ H2 x vs v us Q I2 r1 r2 q2
/- xs.append(e), list.index on a module's tuple .. are MtR facts of 06m -/
end
end L2

namespace L2
open PySem PySem.Spec PyProof.Rows

def MtM (X : Cx) (id : String) (r : V → List V → Hp → VK → Prop) : Prop :=
  ∀ (pins : List (Addr × Obj)) (s : Shared) (σ : St) (H : Hp) (x : V) (xs : List V) (v : Value) (us : List Value) (Q : VK), Inv X pins σ H s → RelV x v → Vals xs us → r x xs H Q →
    wpAny (model X.prog X.w) X.A (call (.builtin id) (v :: us)) (EP X pins σ Q) X.xe s

/-! ### lists of values -/
theorem Vals.one : ∀ {x : V} {us : List Value}, Vals [x] us → ∃ u, us = [u] ∧ RelV x u
  | _, _, .cons r .nil => ⟨_, rfl, r⟩
theorem Vals.two : ∀ {x y : V} {us : List Value}, Vals [x, y] us → ∃ u v, us = [u, v] ∧ RelV x u ∧ RelV y v
  | _, _, _, .cons r (.cons q .nil) => ⟨_, _, rfl, r, q⟩
theorem Vals.zero : ∀ {us : List Value}, Vals [] us → us = []
  | _, .nil => rfl
theorem Vals.reverse {xs : List V} {us : List Value} (h : Vals xs us) : Vals xs.reverse us.reverse := by
  induction h with
  | nil => exact .nil
  | cons r t ih => rw [List.reverse_cons, List.reverse_cons]; exact Vals.append ih (.cons r .nil)
section
variable {X : Cx} {pins : List (Addr × Obj)} {σ : St} {H : Hp} {s : Shared} {l b : Addr} {xs ys zs : List V}

/-! ### the two steps: a tracked list is rewritten, a new list is laid -/
theorem Inv.lset {its its' : List Value} {n : Nat} {f : Array Value → Array Value} {t' : Nat} (I : Inv X pins σ H s) (hH : H l = some (.lst xs))
    (e : s.heap.get? l = some { cls := .type "list", data := .seq its.toArray n }) (hf : f its.toArray = its'.toArray) (hv : Vals ys its') (hz : ys.length ≤ sizeLine) :
    Inv X pins σ (upd H l (.lst ys)) { s with heap := s.heap.update l (Obj.mapSeq f), toks := t' } := by
  have q := PySem.IsL.update e f
  rw [hf] at q
  refine I.write (x := l) (e := l) (by rw [hH]; exact trivial) (.inl rfl) (fun b' u hb hu => (Heap.get?_update_other s.heap (Obj.mapSeq f) (Ne.symm hb)).trans hu) ⟨_, q⟩ ?_
  exact ⟨hz, its', _, hv, q⟩
theorem Inv.lstM (I : Inv X pins σ H s) (hH : H l = some (.lst xs)) : xs.length ≤ sizeLine ∧ ∃ (its : List Value) (n : Nat), Vals xs its ∧ xs.length = its.length ∧ s.heap.get? l = some { cls := .type "list", data := .seq its.toArray n } := by
  obtain ⟨z, its, n, r, e⟩ := I.hok l _ hH
  exact ⟨z, its, n, r, r.length, e⟩

theorem notLongL {n : Nat} (h : n ≤ sizeLine) : Builtin.List.listTooLong n = false := by
  unfold Builtin.List.listTooLong
  exact decide_eq_false (by omega)
end

section
variable {X : Cx}

/-! ### methods -/
def rAppend : V → List V → Hp → VK → Prop := fun x vs H Q => ∃ l xs y, x = .ref l ∧ vs = [y] ∧ H l = some (.lst xs) ∧ xs.length < sizeLine ∧ Q .non (upd H l (.lst (xs ++ [y])))
theorem mt_append : MtM X "list.append" rAppend := by
  intro pins s σ H x vs v us Q I rx rv h
  obtain ⟨l, xs, y, rfl, rfl, hH, hz, q⟩ := h
  cases rx
  obtain ⟨u, rfl, ru⟩ := rv.one
  obtain ⟨z, its, n, r, hl, e⟩ := I.lstM hH
  refine call_meets F.slot_list_append ⟨_, e, rfl⟩ F.entry_list_append (F.args_list_append_2 _ _) (PySem.list_append l its.toArray n u (by rw [List.size_toArray]; omega)) ⟨e, ?_⟩
  refine ⟨.non, _, I.lset (its' := its ++ [u]) hH e (by simp) (r.append (.cons ru .nil)) ?_, rfl, q⟩
  rw [List.length_append, List.length_singleton]
  omega

def rExtend : V → List V → Hp → VK → Prop := fun x vs H Q => ∃ l b xs zs, x = .ref l ∧ vs = [.ref b] ∧ H l = some (.lst xs) ∧ H b = some (.lst zs) ∧ xs.length + zs.length ≤ sizeLine ∧ Q .non (upd H l (.lst (xs ++ zs)))
theorem mt_extend : MtM X "list.extend" rExtend := by
  intro pins s σ H x vs v us Q I rx rv h
  obtain ⟨l, b, xs, zs, rfl, rfl, hH, hB, hz, q⟩ := h
  cases rx
  obtain ⟨u, rfl, ru⟩ := rv.one
  cases ru
  obtain ⟨z, its, n, r, hl, e⟩ := I.lstM hH
  obtain ⟨z2, its2, n2, r2, hl2, e2⟩ := I.lstM hB
  have hsz : its.toArray.size + its2.toArray.size ≤ sizeLine := by rw [List.size_toArray, List.size_toArray]; omega
  have hlong : ¬ (!its.toArray.isEmpty && Builtin.List.listTooLong (its.toArray.size + its2.toArray.size)) = true := by
    rw [notLongL hsz, Bool.and_false]
    exact Bool.false_ne_true
  refine call_meets F.slot_list_extend ⟨_, e, rfl⟩ F.entry_list_extend (F.args_list_extend_2 _ _)
    (AutoSeq1.list_extend_list_list_0 l its.toArray n b its2.toArray n2 hlong (by rw [List.size_toArray]; omega) (by omega)) ⟨e, e2, ?_⟩
  refine ⟨.non, _, I.lset (its' := its ++ its2) hH e (by simp) (r.append r2) ?_, rfl, q⟩
  rw [List.length_append]
  omega

def rReverse : V → List V → Hp → VK → Prop := fun x vs H Q => ∃ l xs, x = .ref l ∧ vs = [] ∧ H l = some (.lst xs) ∧ Q .non (upd H l (.lst xs.reverse))
theorem mt_reverse : MtM X "list.reverse" rReverse := by
  intro pins s σ H x vs v us Q I rx rv h
  obtain ⟨l, xs, rfl, rfl, hH, q⟩ := h
  cases rx
  have hus := rv.zero
  subst hus
  obtain ⟨z, its, n, r, hl, e⟩ := I.lstM hH
  refine call_meets F.slot_list_reverse ⟨_, e, rfl⟩ F.entry_list_reverse (F.args_list_reverse_1 _) (AutoSeq1.list_reverse_list_0 l its.toArray n (by rw [List.size_toArray]; omega)) ⟨e, ?_⟩
  refine ⟨.non, _, I.lset (its' := its.reverse) hH e (by simp) r.reverse ?_, rfl, q⟩
  rw [List.length_reverse]
  omega

/-! ### list + list, list += list, list * int -/
/-! ### del xs[i] -/
end

/-! ### xs[a:b] = ys -/
section
variable {prog : Program} {w : World} {A : Around} {E : Value → Shared → Prop} {s : Shared}
end

section
variable {X : Cx}
end
end L2

namespace Att
open PySem PySem.W PySem.Calls PyProof.Rows

/-! ### the script -/
theorem ints_of_wellAll {P : Params} {h : Heap} : ∀ (ns : List Int) (vs : List Value), WellAll P h vs (ns.map WData.int) → IntsAre vs ns := by
  intro ns
  induction ns with
  | nil =>
    intro vs w
    rw [List.map_nil] at w
    cases w
    exact .nil
  | cons n ns ih =>
    intro vs w
    rw [List.map_cons] at w
    cases w with
    | cons a b =>
      cases a
      exact .cons _ _ (ih _ b)

theorem script_of {l : OpenLaw} {n : Nat} (hn : l.most = some n) {P : Params} {h : Heap} {args : List WData} {vals : List Value}
    (hpre : l.row.toRowW.claim.pre args = true) (hwl : WellAll P h vals args) :
    ∃ a vs ns, vals = [Value.ref a] ∧ args = [WData.list (ns.map WData.int)] ∧ h.get? a = some { cls := .type "list", data := .seq vs.toArray } ∧ IntsAre vs ns ∧ ns.length ≤ n := by
  have hsh : WShape.hasAll [] args [.list .int] = true := (pre_splitW hpre).1
  have hc : l.pre.holds [] { args := args } = true := (pre_splitW hpre).2
  obtain ⟨d, r, rfl, h1, h2⟩ := hasAllW_cons hsh
  obtain rfl := hasAllW_nil h2
  obtain ⟨xs, rfl, h3⟩ := hasW_list h1
  obtain ⟨ns, rfl⟩ := items_int h3
  have hlen : ns.length ≤ n := by
    unfold OpenLaw.pre at hc
    have h4 : (WTm.not (.lt (.lit (.int (n : Int))) (.len (.arg 0)))).holds [] { args := [.list (ns.map .int)] } = true := by
      have h4 := (holds_andW hc).1
      rw [hn] at h4
      exact h4
    have h5 := condW_of h4 (w_not (w_lt w_lit (w_len_list (w_arg rfl))))
    rw [List.length_map] at h5
    refine Nat.le_of_not_lt fun q => ?_
    have q' : (n : Int) < ((ns.length : Nat) : Int) := by omega
    first
      | (rw [decide_eq_true q'] at h5; exact absurd h5 (by decide))
      | (simp at h5; omega)
  cases hwl with
  | cons w1 w2 =>
    cases w2
    cases w1 with
    | list ho hall => exact ⟨_, _, ns, rfl, rfl, ho, ints_of_wellAll ns _ hall, hlen⟩

theorem post_true (l : OpenLaw) (args : List WData) : l.row.toRowW.claim.post args (.bool true) args = true :=
  postW_of (r := l.row.toRowW) (X := (true == true))
    (show WShape.has [] (.bool true) .bool = true by first | rfl | decide | simp [WShape.has, WShape.arms, WShape.armsAll])
    (show (WTm.eq .res (.lit (.bool true))).value [] { args := args, res := some (.bool true), after := args } = some (.bool (true == true)) from w_eq_bool (w_res rfl) w_lit) rfl

/-! ### the attachment: holds_open's last premise (the goal 'hc' behind k_head) from a wpAny of the law's body -/
/-- the same from a codeAny of the CALL (for a layer whose function contracts speak of calls) -/
theorem attach_call {l : OpenLaw} {n : Nat} {q : Program} {loose : List Str} {XP : (Str → Option Value) → Heap → Prop} {YP : World → Heap → Prop} {d : DefRec}
    (hn : l.most = some n) (hdf : d.params.defaults = [])
    (call : ∀ (w : World) (s₀ s₁ : Shared) (mg mb : Str → Option Value) (fa : Addr) (o : Obj) (pm cd doc : Value) (a : Addr) (vs : List Value) (ns : List Int),
      Ground q loose [] XP w s₀ mg mb s₁.heap → YP w s₁.heap →
      s₁.heap.get? fa = some o → o.data = .func (docDef d.name d.params d.body d.scope pm cd doc) → s₁.heap.CodeRec cd d.name → mg d.name = some (.ref fa) →
      s₁.heap.get? a = some { cls := .type "list", data := .seq vs.toArray } → IntsAre vs ns → ns.length ≤ n → s₁.gens = #[] →
      codeAny (model l.prog w) callerA (.call (.ref fa) ⟨[.ref a], []⟩) (fun r s' => r = .ok (.ret (.bool true)) ∧ OldK s₁.heap s'.heap ∧ s'.os = s₁.os ∧ AllBare s'.gens) s₁) :
    WalkO q loose XP YP l.row.toRowW d [] (fun f vs => PySem.call f vs) := by
  intro w s₀ s₁ mg mb G Y fa o pm cd doc dV kV ho hd hcd hD hmg hg args vals as hpre hlay hrd hwl hlo
  obtain rfl : dV = .none := Dflts.none hD hdf
  obtain rfl : kV = .none := Dflts.noKw hD
  obtain ⟨a, vs, ns, rfl, rfl, hobj, hints, hlen⟩ := script_of hn hpre hwl
  refine enter_call (codeAny_mono (call w s₀ s₁ mg mb fa o pm cd doc a vs ns G Y ho (fd_plain hd) hcd hmg hobj hints hlen hg) fun r s' hq => ?_)
  obtain ⟨rfl, h2, h3, h4⟩ := hq
  exact ⟨.inl ⟨.bool true, .bool true, [], rfl, fun _ => rfl, .bool true, post_true l _, fun _ => ⟨List.Pairwise.nil, fun _ hm => (nomatch hm)⟩⟩, h2, h3, h4⟩

/-! ### rules over ANY heap (no ledger) from facts about the written part K: the library's own take a ledger (News) for what they write -/
section
variable {prog : Program} {w : World} {A : Around} {E : Value → Shared → Prop} {s : Shared} {K : Frag}

/-! the whole heap as the ledger: makes every rule that writes through a ledger a rule over any heap -/
end
end Att

namespace L2
open PySem PySem.Spec PyProof.Rows

theorem vals_ints : ∀ {vs : List Value} {ns : List Int}, IntsAre vs ns → Vals (ns.map V.int) vs
  | _, _, .nil => .nil
  | _, _, .cons n t h => .cons ⟨t, rfl⟩ (vals_ints h)

/-- nothing is tracked but the script, known to the object (or it is an object of the module) -/
def Only (H : Hp) : Prop := ∀ b, H b = none ∨ ∃ o xs, H b = some (.frz o (.lst xs))

/-- THE HEAD: the law's promise, at the heap behind the top. F, the promise of the law's def, may use that base is part of the heap (so K.In base, base.Ns mainGlobals mg stand in Mod) -/
theorem law_call {P : Program} {w : World} {K : PySem.W.Frag} {mg mb : Str → Option Value} {CX : CXT} {k : Nat} {fa a : Addr} {fd : FuncData} {x : Str} {sp : Sp} {s₁ : Shared} {vs : List Value} {ns : List Int}
    (KX : K.In s₁.heap) (hns : s₁.heap.Ns mainGlobals mg) (hb : s₁.heap.Ns builtinsNs mb) (hbb : ∀ x : Str, x ≠ "__name__" → mb x = bootBuiltins x) (hlim : s₁.heap.NoLimit) (hg : s₁.gens = #[])
    (ha : s₁.heap.get? a = some { cls := .type "list", data := .seq vs.toArray }) (hi : IntsAre vs ns) (hl : ns.length ≤ sizeLine) (hr : Room k callerA)
    (F : ∀ base : Heap, K.In base → base.Ns mainGlobals mg → FnOk P w K mg base CX k fa fd [x] sp) (hbind : ∀ (s : Shared) (u : Value), BindsTo s fd ⟨[u], []⟩ [(x, u)])
    (hsp : ∀ H : Hp, Only H → SqL K H a (ns.map V.int) → sp [.ref a] H (fun v _ => v = .bl true) fun _ _ _ => False)
    (hCX : ∀ H e s', CX [] H s₁ (fun _ _ _ => False) e s' → False) :
    codeAny (model P w) callerA (.call (.ref fa) ⟨[.ref a], []⟩) (fun r s' => r = .ok (.ret (.bool true)) ∧ OldK s₁.heap s'.heap ∧ s'.os = s₁.os ∧ AllBare s'.gens) s₁ := by
  have rv := vals_ints hi
  have lenV := hi.length
  -- from an abstract heap in which nothing but the script may be tracked
  have core : ∀ H : Hp, Only H → SqL K H a (ns.map V.int) → HOk P w H s₁.heap → (∀ b, H b ≠ none → b = a) → (H a ≠ none → K.lookup a = none) →
      codeAny (model P w) callerA (.call (.ref fa) ⟨[.ref a], []⟩) (fun r s' => r = .ok (.ret (.bool true)) ∧ OldK s₁.heap s'.heap ∧ s'.os = s₁.os ∧ AllBare s'.gens) s₁ := by
    intro H hO hS hok hA hK
    have base_of : ∀ {b : Addr} {o : Obj}, s₁.heap.get? b = some o → H b = none → (hidT s₁.heap H).get? b = some o := fun e n => hidT_get e n
    have noA : ∀ {b : Addr} {o : Obj} {es : Array DictEntry} {ep : Nat}, s₁.heap.get? b = some o → o.data = .dict es ep → H b = none := fun {b o es ep} e d => by
      cases q : H b with
      | none => rfl
      | some u =>
        have e' : b = a := hA b (by rw [q]; simp)
        subst e'
        rw [ha] at e; cases e
        have d' : Data.seq vs.toArray _ = Data.dict es ep := d
        cases d'
    have nsK : ∀ {b : Addr} {m : Str → Option Value}, s₁.heap.Ns b m → (hidT s₁.heap H).Ns b m := fun {b m} ⟨o, es, ep, e, d, r⟩ => ⟨o, es, ep, base_of e (noA e d), d, r⟩
    have hKb : K.In (hidT s₁.heap H) := fun b o e => base_of (KX b o e) (by
      cases q : H b with
      | none => rfl
      | some u =>
        have e' : b = a := hA b (by rw [q]; simp)
        subst e'
        rw [hK (by rw [q]; simp)] at e; cases e)
    have hM : Mod K mg (hidT s₁.heap H) := ⟨hKb, nsK hns, ⟨mb, nsK hb, hbb⟩, let ⟨mc, h1, h2⟩ := hlim; ⟨mc, nsK h1, h2⟩⟩
    have e0 : Env0 P w K mg (hidT s₁.heap H) callerA [] s₁ H := ⟨rfl, hM, fun b o e => of_hidT e, Nat.le_of_eq (hidT_size _ _), trivial, fun b hb => absurd (show b ∈ ([] : List Addr) from hb) (by simp), hok, .of_eq hg⟩
    refine codeAny_mono ((F _ hKb (nsK hns)).run callerA [] s₁ H ⟨[.ref a], []⟩ [.ref a] [.ref a] _ _ hr e0 (hbind s₁ (.ref a)) (.cons rfl .nil) (hsp H hO hS)) fun r s' h => ?_
    cases r with
    | error e => exact (hCX H e s' h).elim
    | ok fl =>
      cases fl with
      | next => exact False.elim h
      | brk => exact False.elim h
      | cont => exact False.elim h
      | ret u =>
        obtain ⟨v, H', os, bare, un, hok', r', q⟩ := h
        have q' : v = .bl true := q
        subst q'
        obtain rfl : u = Value.bool true := r'
        refine ⟨rfl, OldK.of_keep fun b o e => ?_, os, bare⟩
        cases q : H b with
        | none => exact un.keep b o e q (by intro z; exact absurd (show b ∈ ([] : List Addr) from z) (by simp)) (by simp)
        | some u =>
          rcases hO b with z | ⟨ob, xs, z⟩
          · rw [q] at z; cases z
          · have z2 := un.frzs b ob _ z
            obtain ⟨e1, _⟩ := hok b _ z
            obtain ⟨e2, _⟩ := hok' b _ z2
            rw [e] at e1; cases e1
            exact e2
  cases hk : K.lookup a with
  | some o =>
    -- the script is one of the module's own objects
    have e := KX a o hk
    rw [ha] at e
    cases e
    refine core (fun _ => none) (fun _ => .inl rfl) (.inr ⟨_, vs.toArray, _, hk, rfl, rfl, rfl, by rw [List.size_toArray, lenV]; exact hl, by simpa using rv⟩) (fun b u z => by have z' : (none : Option HO) = some u := z; cases z') (fun b z => absurd rfl z) fun z => absurd rfl z
  | none =>
    refine core (fun b => if b = a then some (.frz { cls := .type "list", data := .seq vs.toArray } (.lst (ns.map V.int))) else none) (fun b => ?_) (.inl (.inr ⟨{ cls := .type "list", data := .seq vs.toArray }, if_pos rfl⟩)) (fun b u z => ?_) (fun b z => ?_) fun _ => hk
    · by_cases hb : b = a
      · exact .inr ⟨_, _, if_pos hb⟩
      · exact .inl (if_neg hb)
    · by_cases hb : b = a
      · have z' := (if_pos hb).symm.trans z
        cases z'
        subst hb
        exact ⟨ha, by rw [List.length_map]; exact hl, vs, _, rv, ha⟩
      · have z' := (if_neg hb).symm.trans z
        cases z'
    · by_cases hb : b = a
      · exact hb
      · exact absurd (if_neg hb) z
end L2

namespace L2
open PySem PySem.Spec PyProof.Rows

/-- the goal that k_head leaves (case hc), from the law's promise. F gives the function object fd (K's own) once, then the promise over every base -/
theorem walk_of {l : PySem.W.OpenLaw} {n k : Nat} {q : Program} {loose : List Str} {XP : (Str → Option Value) → Heap → Prop} {YP : World → Heap → Prop} {d : DefRec} {K : Params → PySem.W.Frag} {CX : World → CXT} {sp : World → Sp} {x : Str}
    (hn : l.most = some n) (hn2 : n ≤ sizeLine) (hdf : d.params.defaults = []) (hr : Room k callerA)
    (hY : ∀ (w : World) (h : Heap), YP w h → (K w.params).In h)
    (F : ∀ (w : World) (mg : Str → Option Value) (fa : Addr) (h : Heap), (K w.params).In h → h.Ns mainGlobals mg → mg d.name = some (.ref fa) →
      ∃ fd : FuncData, (∀ (s : Shared) (u : Value), BindsTo s fd ⟨[u], []⟩ [(x, u)]) ∧
        ∀ base : Heap, (K w.params).In base → base.Ns mainGlobals mg → FnOk l.prog w (K w.params) mg base (CX w) k fa fd [x] (sp w))
    (hsp : ∀ (w : World) (H : Hp) (a : Addr) (ns : List Int), ns.length ≤ n → Only H → SqL (K w.params) H a (ns.map V.int) → sp w [.ref a] H (fun v _ => v = .bl true) fun _ _ _ => False)
    (hCX : ∀ (w : World) (H : Hp) (s : Shared) (e : Value) (s' : Shared), CX w [] H s (fun _ _ _ => False) e s' → False) :
    PySem.W.WalkO q loose XP YP l.row.toRowW d [] (fun f vs => PySem.call f vs) := by
  refine Att.attach_call hn hdf fun w s₀ s₁ mg mb fa o pm cd doc a vs ns G Y ho hd hcd hmg hobj hints hlen hg => ?_
  have KX := hY w _ Y
  obtain ⟨fd, hb, hF⟩ := F w mg fa _ KX G.T.g hmg
  exact law_call KX G.T.g G.T.b G.T.builtins G.T.nolimit hg hobj hints (Nat.le_trans hlen hn2) hr hF hb (fun H hO hS => hsp w H a ns hlen hO hS) fun H e s' => hCX w H s₁ e s'
end L2

/-! SHORT WORDS over the layer: a def of the text, its body, what a loop and a test want. -/
namespace L2
open PySem PySem.Spec PyProof.Rows

/-! ### the text by places -/
/-- the j-th statement of a class's body -/
def inClass (s : Stmt) (j : Nat) : Stmt := match s with
  | .ClassDef _ _ _ body _ _ _ _ _ _ _ => body.getD j (.Pass ⟨0, 0, 0, 0⟩)
  | _ => .Pass ⟨0, 0, 0, 0⟩
def defArgs (s : Stmt) : Arguments := match s with
  | .FunctionDef _ a _ _ _ _ _ _ _ _ => a
  | _ => { posonlyargs := [], args := [], vararg := none, kwonlyargs := [], kw_defaults := [], kwarg := none, defaults := [] }
def defBody (s : Stmt) : List Stmt := match s with
  | .FunctionDef _ _ b _ _ _ _ _ _ _ => b
  | _ => []
def defScope (s : Stmt) : Scope := match s with
  | .FunctionDef _ _ _ _ _ _ sc _ _ _ => sc
  | _ => { kind := .function, names := [], isGenerator := false, isCoroutine := false }

/-! ### no exception leaves a def -/
abbrev CX0 : CXT := fun _ _ _ _ _ _ => False
abbrev E0 : XK := fun _ _ _ => False
theorem pass0 {X : Cx} : Passes CX0 X E0 := fun _ _ _ _ _ _ _ h => h.elim

/-! ### a def (or method) of the text as it stands behind the top -/
structure Fun (K : PySem.W.Frag) (x qual : Str) (st : Stmt) (f : Addr) (fd : FuncData) : Prop where
  ex : ∃ (oc : Value) (od : Option Addr) (kV doc pm : Value) (an : Option Addr) (cdv ct : Value) (osl : Array (Option Value)),
    fd = PySem.W.fnOf x qual (defArgs st) (defBody st) (defScope st) .none kV doc pm an cdv ct ∧ K.lookup f = some ⟨oc, od, .func fd, osl⟩ ∧ PySem.W.codeIn K cdv qual = true
  kp : PySem.W.keepIn K (.ref f) = true
section
variable {P : Program} {w : World} {K : PySem.W.Frag} {mg : Str → Option Value} {base : Heap}
/-- THE RULE for a def: its body as a term of rules, and the reading of that term -/
theorem Fun.ok {x qual : Str} {st : Stmt} {f : Addr} {fd : FuncData} {N ps : List Str} {k : Nat} {sp : Sp} (F : Fun K x qual st f fd) (S : FnScope N ps (defScope st)) (len : ∀ vs H Q E, sp vs H Q E → vs.length = ps.length)
    (hbody : ∀ (cdv : Value) (A : Around) (outer : List Env) (s : Shared) (H : Hp) (vs : List V) (Q : VK) (E : XK), Room k (A.deeper (envOfC qual (defScope st) s.heap.objs.size f cdv)) → sp vs H Q E →
      ∃ t, PSs (cxOf CX0 P w K mg base N qual (defScope st) f cdv A outer s H E).nox (defBody st) t ∧ t { nx := fun _ H' => Q .non H', rt := Q } (start N vs) H) : FnOk P w K mg base CX0 (k + 1) f fd ps sp := by
  obtain ⟨oc, od, kV, doc, pm, an, cdv, ct, osl, rfl, lk, hcd⟩ := F.ex
  refine fn_of lk hcd S len fun A outer s H vs Q E hr hsp => ?_
  obtain ⟨t, h, q⟩ := hbody cdv A outer s H vs Q E hr hsp
  exact ⟨t, h.nox, q⟩
/-- how its arguments bind (no defaults): h is «fun _ _ _ _ _ _ us hl => match us, hl with | [_, _], _ => rfl», one _ a parameter -/
theorem Fun.binds {x qual : Str} {st : Stmt} {f : Addr} {fd : FuncData} {ps : List Str} (F : Fun K x qual st f fd)
    (h : ∀ (kV doc pm : Value) (an : Option Addr) (cdv ct : Value) (us : List Value), us.length = ps.length → bindArgs (PySem.W.fnOf x qual (defArgs st) (defBody st) (defScope st) .none kV doc pm an cdv ct) ⟨us, []⟩ = pure (ps.zip us)) : Binds K fd ps [] := by
  obtain ⟨oc, od, kV, doc, pm, an, cdv, ct, osl, rfl, lk, hcd⟩ := F.ex
  exact .all (h kV doc pm an cdv ct)
theorem fun_mk {x qual : Str} {st : Stmt} {f : Addr} {oc : Value} {od an : Option Addr} {osl : Array (Option Value)} {kV doc pm cdv ct : Value} (l : K.lookup f = some ⟨oc, od, .func (PySem.W.fnOf x qual (defArgs st) (defBody st) (defScope st) .none kV doc pm an cdv ct), osl⟩)
    (c : PySem.W.codeIn K cdv qual = true) (k : PySem.W.keepIn K (.ref f) = true) : Fun K x qual st f (PySem.W.fnOf x qual (defArgs st) (defBody st) (defScope st) .none kV doc pm an cdv ct) := ⟨⟨oc, od, kV, doc, pm, an, cdv, ct, osl, rfl, l, c⟩, k⟩
end
theorem small1000 {n : Nat} (h : n ≤ 1000) : n < sizeLine := Nat.lt_of_le_of_lt h (by decide)

/-! ### expressions in short: the name that stands in the i-th slot -/
section
variable {X : Cx}
theorem pv (i : Nat) {x : Str} {pos : Pos} (hN : X.N[i]? = some x := by rfl) (hv : Vis X.env.scope x := by first | exact Or.inl rfl | exact Or.inr (Or.inl rfl) | exact Or.inr (Or.inr rfl)) (hd : (x == ("__debug__" : Str)) = false := by decide)
    (hcd : (x == ("__classdict__" : Str)) = false := by decide) : PE X (.Name x pos) (tVar i) := pe_var hN hv hd hcd
end

/-! ### tests -/
theorem iteF {A B : Prop} (h : B) : if false = true then A else B := by
  rw [if_neg Bool.false_ne_true]
  exact h
theorem iteT {A B : Prop} (h : A) : if true = true then A else B := by
  rw [if_pos rfl]
  exact h
theorem ite2 {c A B : Prop} [Decidable c] (h1 : c → A) (h2 : ¬ c → B) : if c then A else B := by
  by_cases h : c
  · rw [if_pos h]
    exact h1 h
  · rw [if_neg h]
    exact h2 h
/-! ### heaps -/
/-- all that was tracked is as it was -/
def Same (H H' : Hp) : Prop := ∀ b o, H b = some o → H' b = some o
theorem Same.trans {H H1 H2 : Hp} (a : Same H H1) (b : Same H1 H2) : Same H H2 := fun c o h => b c o (a c o h)
theorem Same.seq {K : PySem.W.Frag} {H H' : Hp} {a : Addr} {xs : List V} (e : Same H H') (h : SqL K H a xs) : SqL K H' a xs := by
  rcases h with (h | ⟨o, h⟩) | h
  · exact .inl (.inl (e _ _ h))
  · exact .inl (.inr ⟨o, e _ _ h⟩)
  · exact .inr h

end L2
set_option Elab.async false
set_option linter.all false
set_option maxRecDepth 100000
set_option maxHeartbeats 4000000
namespace L2
open PySem PySem.Spec PyProof.Rows

/-! ### a list comprehension with one `for x in ..` -/
section
variable {X : Cx} {pins : List (Addr × Obj)} {σ : St} {H : Hp} {s : Shared} {D : Addr} {o : HO}
/-- an untracked object of ours comes to be tracked -/
theorem Inv.track (I : Inv X pins σ H s) (hf : FpOk X pins H D) (h0 : X.s₀.heap.objs.size ≤ D) (new : ObjOk X.prog X.w (upd H D o) s.heap D o) : Inv X pins σ (upd H D o) s := by
  obtain ⟨f0, f1, f2, f3, f4, f5⟩ := hf
  have ne : ∀ b u, H b = some u → b ≠ D := fun b u e => ne_of_none e f0
  refine ⟨I.ok, I.os, I.bare, ⟨I.base.keep, I.base.slot, fun b u e n hx => ?_, I.base.there, fun b xs e => ?_, fun b u xs e => ?_, fun b ps e => ?_⟩, I.loc, I.cell, ?_, fun y c e => ?_, fun p hp => ?_, fun b u e => ?_, I.len⟩
  · rw [upd_ne (Nat.ne_of_lt (Nat.lt_of_lt_of_le (Heap.lt_size e) h0))]
    exact I.base.free b u e n hx
  · have q := I.base.tups b xs e
    rw [upd_ne (ne b _ q)]; exact q
  · have q := I.base.frzs b u xs e
    rw [upd_ne (ne b _ q)]; exact q
  · obtain ⟨m, q⟩ := I.base.tbls b ps e
    exact ⟨m, by rw [upd_ne (ne b _ q)]; exact q⟩
  · rw [upd_ne (Ne.symm f1)]; exact I.free
  · rw [upd_ne (f4 y c e)]; exact I.freeC y c e
  · obtain ⟨a, b, c, d, e⟩ := I.pin p hp
    exact ⟨a, by rw [upd_ne (f5 p hp)]; exact b, c, d, e⟩
  · by_cases hb : b = D
    · subst hb
      rw [upd_same] at e
      cases e
      exact new
    · rw [upd_ne hb] at e
      exact (I.hok b u e).stay (fun _ _ _ q => q) (fun c q => by rw [upd_ne (ne c _ q)]; exact q) fun c xs q => by rw [upd_ne (ne c _ q)]; exact q
end

/-- the closure's cells, gathered -/
def gather (cells : List (Str × Addr)) : List (Str × NameKind) → List (Str × Addr) → List (Str × Addr)
  | [], cs => cs
  | (n, k) :: r, cs => gather cells r (if (k == NameKind.free) = true then (n, (cells.lookup n).getD 0) :: cs else cs)
theorem closure_eq {scope : Scope} {env : Env} (h : ∀ y ∈ scope.names, y.2 = NameKind.free → ∃ c, env.cells.lookup y.1 = some c) : closureFor scope env = pure (gather env.cells scope.names []) := by
  have all : ∀ (l : List (Str × NameKind)) (cs : List (Str × Addr)), (∀ y ∈ l, y.2 = NameKind.free → ∃ c, env.cells.lookup y.1 = some c) →
      (forIn l cs (fun (x : Str × NameKind) (r : List (Str × Addr)) => if (x.2 == NameKind.free) = true then (do let a ← cellOf env x.1; pure (ForInStep.yield ((x.1, a) :: r)) : Sem (ForInStep (List (Str × Addr)))) else pure (ForInStep.yield r))) = (pure (gather env.cells l cs) : Sem (List (Str × Addr))) := by
    intro l
    induction l with
    | nil => intro cs _; rfl
    | cons y r ih =>
      intro cs hy
      obtain ⟨n, k⟩ := y
      rw [List.forIn_cons]
      by_cases hk : k = NameKind.free
      · subst hk
        obtain ⟨c, hc⟩ := hy (n, .free) List.mem_cons_self rfl
        have e1 : cellOf env n = pure c := by unfold cellOf; rw [hc]
        simp only [beq_self_eq_true, if_true, e1, pure_bind]
        rw [ih _ fun z hz => hy z (List.mem_cons_of_mem _ hz)]
        simp only [gather, beq_self_eq_true, if_true]
        rw [show List.lookup n env.cells = some c from hc]
        rfl
      · have e1 : (k == NameKind.free) = false := by simpa using hk
        simp only [e1, Bool.false_eq_true, if_false, pure_bind]
        rw [ih _ fun z hz => hy z (List.mem_cons_of_mem _ hz)]
        simp only [gather, e1, Bool.false_eq_true, if_false]
  have e := all scope.names [] h
  unfold closureFor
  simp only []
  exact (bind_pure _).trans e
theorem gather_sub {cells : List (Str × Addr)} : ∀ (l : List (Str × NameKind)) (cs : List (Str × Addr)), (∀ y ∈ l, y.2 = NameKind.free → ∃ c, cells.lookup y.1 = some c) →
    (∀ y c, (y, c) ∈ cs → cells.lookup y = some c) → ∀ y c, (y, c) ∈ gather cells l cs → cells.lookup y = some c
  | [], _, _, h, y, c, hm => h y c hm
  | (n, k) :: r, cs, hl, h, y, c, hm => by
    refine gather_sub r _ (fun z hz => hl z (List.mem_cons_of_mem _ hz)) (fun y' c' hm' => ?_) y c hm
    by_cases hk : (k == NameKind.free) = true
    · rw [if_pos hk] at hm'
      rcases List.mem_cons.mp hm' with e | e
      · have e1 : y' = n := congrArg Prod.fst e
        have e2 : c' = (cells.lookup n).getD 0 := congrArg Prod.snd e
        obtain ⟨d, hd⟩ := hl (n, k) List.mem_cons_self (by simpa using hk)
        have hd' : cells.lookup n = some d := hd
        rw [e1, e2, hd']; rfl
      · exact h y' c' e
    · rw [if_neg hk] at hm'
      exact h y' c' hm'
theorem gather_mono {cells : List (Str × Addr)} : ∀ (l : List (Str × NameKind)) (cs : List (Str × Addr)) (p : Str × Addr), p ∈ cs → p ∈ gather cells l cs
  | [], _, _, h => h
  | (n, k) :: r, cs, p, h => gather_mono r _ p (by split; exact List.mem_cons_of_mem _ h; exact h)
theorem gather_has {cells : List (Str × Addr)} : ∀ (l : List (Str × NameKind)) (cs : List (Str × Addr)) (y : Str × NameKind), y ∈ l → y.2 = NameKind.free → ∃ c, (y.1, c) ∈ gather cells l cs
  | [], _, _, h, _ => nomatch h
  | (n, k) :: r, cs, y, h, hf => by
    rcases List.mem_cons.mp h with e | e
    · subst e
      have hk : (k == NameKind.free) = true := by simpa using hf
      exact ⟨(cells.lookup n).getD 0, gather_mono r _ _ (by rw [if_pos hk]; exact List.mem_cons_self)⟩
    · exact gather_has r _ y e hf
theorem lookup_mem {α : Type} : ∀ {l : List (Str × α)} {y : Str} {c : α}, (y, c) ∈ l → ∃ d, l.lookup y = some d ∧ (y, d) ∈ l
  | [], _, _, h => nomatch h
  | (n, a) :: r, y, c, h => by
    by_cases e : y = n
    · subst e
      exact ⟨a, by simp [List.lookup_cons], List.mem_cons_self⟩
    · have e1 : (y == n) = false := by simpa using e
      rcases List.mem_cons.mp h with q | q
      · exact absurd (congrArg Prod.fst q) e
      · obtain ⟨d, h1, h2⟩ := lookup_mem q
        exact ⟨d, by rw [List.lookup_cons, e1]; exact h1, List.mem_cons_of_mem _ h2⟩
theorem lookup_of_mem_lookup {α : Type} {l : List (Str × α)} {y : Str} {c : α} (h : l.lookup y = some c) : (y, c) ∈ l := PySem.mem_of_lookup h

/-- what a comprehension's scope must be; osc, ON: of the def around it; x: its target; F: the names that it takes from around, fr: their slots there -/
def compChk (osc : Scope) (ON : List Str) (scope : Scope) (x : Str) (F : List Str) (fr : List Nat) : Bool :=
  decide (scope.kind = .function) && (scope.names.all fun y => decide (y.2 ≠ .cell)) && (scope.names.all fun y => decide (y.2 = .local → scope.names.lookup y.1 = some .local)) &&
  decide (scope.names.lookup x = some .local) && (scope.names.all fun y => decide (y.2 = .free → osc.names.lookup y.1 = some .cell ∨ osc.names.lookup y.1 = some .free)) &&
  decide ((x :: F).Nodup) && (F.all fun y => decide (scope.names.lookup y = some .free)) && decide (F.map some = fr.map fun i => ON[i]?)
structure CompOk (osc : Scope) (ON : List Str) (scope : Scope) (x : Str) (F : List Str) (fr : List Nat) : Prop where
  kind : scope.kind = .function
  nocell : ∀ y ∈ scope.names, y.2 ≠ .cell
  loc : ∀ y ∈ scope.names, y.2 = .local → scope.names.lookup y.1 = some .local
  tx : scope.names.lookup x = some .local
  free : ∀ y ∈ scope.names, y.2 = .free → osc.names.lookup y.1 = some .cell ∨ osc.names.lookup y.1 = some .free
  nd : (x :: F).Nodup
  fre : ∀ y ∈ F, scope.names.lookup y = some .free
  slots : F.map some = fr.map fun i => ON[i]?
theorem CompOk.of {osc : Scope} {ON : List Str} {scope : Scope} {x : Str} {F : List Str} {fr : List Nat} (h : compChk osc ON scope x F fr = true) : CompOk osc ON scope x F fr := by
  unfold compChk at h
  simp only [Bool.and_eq_true, decide_eq_true_eq, List.all_eq_true] at h
  obtain ⟨⟨⟨⟨⟨⟨⟨h1, h2⟩, h3⟩, h4⟩, h5⟩, h6⟩, h7⟩, h8⟩ := h
  exact ⟨h1, h2, h3, h4, h5, h6, h7, h8⟩

/-- the context of the comprehension's block -/
def compCx (X : Cx) (N : List Str) (scope : Scope) (s3 : Shared) (H3 : Hp) (ex : List Addr) : Cx :=
  { X with N := N, s₀ := s3, H₀ := H3, env := compEnvC scope (gather X.env.cells scope.names []) s3.heap.objs.size X.env, outer := X.stack, ex := ex, fn := fun _ => false, pn := [], xe := fun _ _ => False }

/-- the tests of a comprehension -/
def PTs (X : Cx) (ifs : List Expr) (t : TT) : Prop :=
  ∀ (pins : List (Addr × Obj)) (s : Shared) (σ : St) (H : Hp) (Q : Bool → Hp → Prop), Inv X pins σ H s → t σ H Q →
    wpAny (model X.prog X.w) X.A (forIn ifs true fun c r => if r = true then do let ok ← isTrue c X.env (eval c X.env); pure (ForInStep.yield ok) else pure (ForInStep.yield r)) (TP X pins σ Q) X.xe s
def tYes : TT := fun _ H Q => Q true H
theorem pts_nil {X : Cx} : PTs X [] tYes := fun _ _ _ H _ I h => wpAny_tests_nil ⟨H, I, h⟩
/-- the names' values in the block, ahead of the target's store -/
def compSt (σ : St) (fr : List Nat) : St := none :: fr.map fun i => (σ[i]?).join

/-- the turns: what the iterator yields, the tests, the element; acc: the elements so far -/
def CompGo (fr : List Nat) (tt : TT) (te : TE) (σ : St) (Q : VK) (J : It) (H1 : Hp) : Prop := ∃ W : Nat → Nat → List V → Hp → Prop, (∃ m, W 0 m [] H1) ∧ ∀ i m acc H, W i m acc H →
  (J.stop i H ∧ acc.length ≤ sizeLine ∧ ∀ p, H p = none → Q (.ref p) (upd H p (.lst acc))) ∨
  (J.go i H ∧ acc.length < sizeLine ∧ ∀ x H', J.yld i H x H' → tt ((compSt σ fr).set 0 (some x)) H' fun b H2 =>
    if b = true then te ((compSt σ fr).set 0 (some x)) H2 fun y H3 => ∃ m', m' < m ∧ W (i + 1) m' (acc ++ [y]) H3 else ∃ m', m' < m ∧ W (i + 1) m' acc H2)
def tComp (wi : TI) (fr : List Nat) (tt : TT) (te : TE) : TE := fun σ H Q => wi σ H (CompGo fr tt te σ Q)

section
variable {X : Cx}
theorem relabel_names (scope : Scope) (env : Env) (x : Str) (k : NameKind) (h : (relabel scope env).names.lookup x = some k) : ∃ k', scope.names.lookup x = some k' ∧ (k = k' ∨ (k' = .free ∧ k = .cell)) := by
  have all : ∀ (l : List (Str × NameKind)), (l.map fun (n, k) => if (k == NameKind.free && env.scope.kind == .function && env.kindOf n == some .cell) then (n, NameKind.cell) else (n, k)).lookup x = some k →
      ∃ k', l.lookup x = some k' ∧ (k = k' ∨ (k' = .free ∧ k = .cell)) := by
    intro l
    induction l with
    | nil => intro h; simp at h
    | cons y r ih =>
      obtain ⟨n, j⟩ := y
      intro h
      by_cases e : x = n
      · subst e
        refine ⟨j, by simp [List.lookup_cons], ?_⟩
        simp only [List.map_cons] at h
        by_cases hc : (j == NameKind.free && env.scope.kind == .function && env.kindOf x == some .cell) = true
        · rw [if_pos hc] at h
          simp [List.lookup_cons] at h
          simp only [Bool.and_eq_true] at hc
          exact .inr ⟨by simpa using hc.1.1, h.symm⟩
        · rw [if_neg hc] at h
          simp [List.lookup_cons] at h
          exact .inl h.symm
      · have e1 : (x == n) = false := by simpa using e
        simp only [List.map_cons] at h
        have h' : (r.map fun (n, k) => if (k == NameKind.free && env.scope.kind == .function && env.kindOf n == some .cell) then (n, NameKind.cell) else (n, k)).lookup x = some k := by
          by_cases hc : (j == NameKind.free && env.scope.kind == .function && env.kindOf n == some .cell) = true
          · rw [if_pos hc, List.lookup_cons, e1] at h; exact h
          · rw [if_neg hc, List.lookup_cons, e1] at h; exact h
        obtain ⟨k', q1, q2⟩ := ih h'
        exact ⟨k', by rw [List.lookup_cons, e1]; exact q1, q2⟩
  exact all scope.names h

theorem Inv.closes {pins : List (Addr × Obj)} {σ : St} {H : Hp} {s : Shared} {scope : Scope} {x : Str} {F : List Str} {fr : List Nat} (I : Inv X pins σ H s) (C : CompOk X.env.scope X.N scope x F fr) :
    ∀ y ∈ scope.names, y.2 = NameKind.free → ∃ c, X.env.cells.lookup y.1 = some c := fun y hy hf => I.ok.has y.1 (C.free y hy hf)
theorem Inv.gsub {pins : List (Addr × Obj)} {σ : St} {H : Hp} {s : Shared} {scope : Scope} {x : Str} {F : List Str} {fr : List Nat} (I : Inv X pins σ H s) (C : CompOk X.env.scope X.N scope x F fr) {y : Str} {c : Addr}
    (h : (gather X.env.cells scope.names []).lookup y = some c) : X.env.cells.lookup y = some c :=
  gather_sub scope.names [] (I.closes C) (fun _ _ z => nomatch z) y c (lookup_of_mem_lookup h)
end
end L2
set_option Elab.async false
set_option linter.all false
set_option maxRecDepth 100000
set_option maxHeartbeats 4000000
namespace L2
open PySem PySem.Spec PyProof.Rows
section
variable {X : Cx}
/-- the block's entry -/
theorem inv_comp {pins : List (Addr × Obj)} {σ : St} {H : Hp} {s : Shared} {scope : Scope} {x : Str} {F : List Str} {fr : List Nat} {ex : List Addr} {h' : Heap} {tk : Nat} (I : Inv X pins σ H s) (C : CompOk X.env.scope X.N scope x F fr)
    (hx : ∀ b ∈ ex, FpOk X pins H b ∧ b < s.heap.objs.size) (hn : h'.Ns s.heap.objs.size fun _ => none) (k : ∀ b o, s.heap.get? b = some o → h'.get? b = some o) :
    Inv (compCx X (x :: F) scope s H ex) [] (compSt σ fr) H { s with heap := h', toks := tk } := by
  have hCn : H s.heap.objs.size = none := I.hok.fresh (Nat.le_refl _)
  have hcl : ∀ {y : Str} {c : Addr}, (gather X.env.cells scope.names []).lookup y = some c → X.env.cells.lookup y = some c := fun h => I.gsub C h
  have clt : ∀ {y : Str} {c : Addr}, X.env.cells.lookup y = some c → c < s.heap.objs.size := fun {y c} h => by
    obtain ⟨v, q⟩ := I.cell y c h
    exact q.lt
  have stk : ∀ b, b ∈ frs X.stack → b = X.env.locals ∨ b ∈ X.fs := fun b hb => List.mem_cons.mp (I.stkSub b hb)
  refine ⟨⟨I.ok.mod, C.kind, I.ok.glob, I.ok.blt, Nat.le_refl _, fun y z c h1 h2 => I.ok.inj y z c (hcl h1) (hcl h2), fun y hy => ?_, fun y c hf => (nomatch hf), I.ok.hd, I.ok.frames, .inl rfl, fun b hb => ⟨Nat.ne_of_lt (hx b hb).2, fun y c h => (hx b hb).1.2.2.2.2.1 y c (hcl h)⟩,
    I.bs, Nat.le_trans I.ok.bsz I.sz, fun b o e hb => ?_, fun b hb => ?_, I.stack, I.stkFree⟩, rfl, I.bare, Un.kept k, ⟨_, hn, fun i y v h1 h2 h3 => ?_⟩, fun y c h => ?_, hCn, fun y c h => I.freeC y c (hcl h), fun p hp => absurd (show p ∈ ([] : List (Addr × Obj)) from hp) (by simp), I.hok.kept k, ?_⟩
  · have hy' : ∃ c, (y, c) ∈ gather X.env.cells scope.names [] := by
      have go : ∀ kk, (relabel scope X.env).names.lookup y = some kk → kk ≠ .local → kk ≠ .globalExplicit → kk ≠ .globalImplicit → ∃ c, (y, c) ∈ gather X.env.cells scope.names [] := fun kk h n1 n2 n3 => by
        obtain ⟨k', q1, q2⟩ := relabel_names scope X.env y kk h
        have hm := lookup_of_mem_lookup q1
        have hfree : k' = .free := by
          rcases q2 with e | ⟨e, _⟩
          · subst e
            cases kk with
            | «local» => exact absurd rfl n1
            | cell => exact absurd rfl (C.nocell _ hm)
            | free => rfl
            | globalExplicit => exact absurd rfl n2
            | globalImplicit => exact absurd rfl n3
          · exact e
        exact gather_has scope.names [] (y, k') hm hfree
      rcases hy with hy | hy
      · exact go _ hy (by decide) (by decide) (by decide)
      · exact go _ hy (by decide) (by decide) (by decide)
    obtain ⟨c, hc⟩ := hy'
    obtain ⟨d, hd, _⟩ := lookup_mem hc
    exact ⟨d, hd⟩
  · exact absurd e (by
      have h1 := (hx b hb).1
      have h2 := I.bs b o e
      rcases h1.2.2.2.1 with z | z
      · exact fun _ => I.ok.noex b o e z
      · exact fun _ => absurd (Nat.lt_of_lt_of_le (Heap.lt_size (I.ok.bs b o e).1) z) (Nat.lt_irrefl _))
  · intro hb2
    obtain ⟨h0, h1, h2, _⟩ := (hx b hb).1
    rcases stk b hb2 with z | z
    · exact h1 z
    · exact h2 z
  · -- a name's value at the entry
    cases i with
    | zero => simp [compSt] at h2
    | succ j =>
      have h1' : F[j]? = some y := (List.getElem?_cons_succ (a := x) (l := F) (i := j)).symm.trans h1
      have h2' : (fr.map fun i => (σ[i]?).join)[j]? = some (some v) := by simpa [compSt] using h2
      have hs := congrArg (fun l => l[j]?) C.slots
      simp only [List.getElem?_map, h1', Option.map_some] at hs
      rw [List.getElem?_map] at h2'
      cases hj : fr[j]? with
      | none => rw [hj] at hs; simp at hs
      | some t =>
        rw [hj] at hs h2'
        simp only [Option.map_some, Option.some.injEq] at hs h2'
        have h3' : σ[t]? = some (some v) := by
          cases e : σ[t]? with
          | none => rw [e] at h2'; simp at h2'
          | some w' => rw [e] at h2'; simp at h2'; rw [h2']
        -- what kind the name has
        have hfr := C.fre y (List.mem_of_getElem? h1')
        have hm := lookup_of_mem_lookup hfr
        have hvis : Vis X.env.scope y ∧ (∃ c, (gather X.env.cells scope.names []).lookup y = some c) ∧ (X.env.kindOf y = some .cell ∨ X.env.kindOf y = some .free) := by
          obtain ⟨c, hc⟩ := gather_has (cells := X.env.cells) scope.names [] (y, .free) hm rfl
          obtain ⟨d, hd, _⟩ := lookup_mem hc
          rcases C.free (y, .free) hm rfl with z | z
          · exact ⟨.inr (.inl z), ⟨d, hd⟩, .inl z⟩
          · exact ⟨.inr (.inr z), ⟨d, hd⟩, .inr z⟩
        obtain ⟨hv, ⟨c, hc⟩, hkd⟩ := hvis
        obtain ⟨m, hm, hl⟩ := I.loc
        obtain ⟨u, r, l⟩ := hl t y v hs.symm h3' hv
        refine ⟨u, r, .inr ⟨?_, c, hc, ?_⟩⟩
        · rcases h3 with z | z | z
          · exfalso
            obtain ⟨k', q1, q2⟩ := relabel_names scope X.env y .local z
            rw [hfr] at q1
            cases q1
            rcases q2 with q | ⟨_, q⟩ <;> cases q
          · exact .inl z
          · exact .inr z
        · rcases l with ⟨hk, _⟩ | ⟨_, c', hc', hcell⟩
          · rcases hkd with z | z <;> rw [z] at hk <;> cases hk
          · have e := hcl hc
            rw [e] at hc'; cases hc'
            obtain ⟨oc, ho, hd⟩ := hcell
            exact ⟨oc, k _ _ ho, hd⟩
  · obtain ⟨v, oc, ho, hd⟩ := I.cell y c (hcl h)
    exact ⟨v, oc, k _ _ ho, hd⟩
  · have := congrArg List.length C.slots
    simp at this
    show (compSt σ fr).length = (x :: F).length
    simp [compSt, this]
end
end L2
set_option Elab.async false
set_option linter.all false
set_option maxRecDepth 100000
set_option maxHeartbeats 4000000
namespace L2
open PySem PySem.Spec PyProof.Rows
theorem after_pure {α : Type} {M : Model} {A : Around} {P : Unit → Shared → Prop} {E' : Value → Shared → Prop} {t : Sem α} {Q : α → Shared → Prop} {E : Value → Shared → Prop} {s : Shared}
    (h : wpAny M A (pure () : Sem Unit) P E' s) (k : P () s → wpAny M A t Q E s) : wpAny M A t Q E s := fun Γ p hΓ => k (h Γ p hΓ) Γ p hΓ
section
variable {X : Cx}
end
end L2
set_option Elab.async false
set_option linter.all false
set_option maxRecDepth 100000
set_option maxHeartbeats 4000000
namespace L2
open PySem PySem.Spec PyProof.Rows
section
variable {X : Cx}
/-! ### isinstance(x, c), c one built-in type -/
def rIsi (K : PySem.W.Frag) : List V → Hp → VK → Prop := fun xs H Q => ∃ x t c b, xs = [x, .ty c] ∧ TyOf K H x t ∧ PySem.W.kitOne K t (.type c) = some b ∧ Q (.bl b) H
theorem call_isi : CallR X (.builtin "isinstance") (rIsi X.K) := by
  intro pins s σ H xs us Q I r h
  obtain ⟨x, t, c, b, rfl, ty, e, q⟩ := h
  obtain ⟨u, v, rfl, r1, r2⟩ := r.two
  cases r2
  exact isinst_ok I r1 ty e fun tk => ⟨.bl b, H, I.tok tk, rfl, q⟩
theorem kit_same {K : PySem.W.Frag} {c : String} : PySem.W.kitOne K (.type c) (.type c) = some true := if_pos (beq_self_eq_true _)
theorem kit_int_bool {K : PySem.W.Frag} : PySem.W.kitOne K (.type "int") (.type "bool") = some false := by
  unfold PySem.W.kitOne
  rw [if_neg (by decide +kernel)]
  show (if PySem.W.kitMeta "bool" = true then (fastBuiltinMro "int").map (·.contains (.type "bool")) else none) = some false
  decide +kernel
/-! ### x is True, x is False -/
end

/-! ### two things told alike are equal -/
inductive Dt where
  | non | bl (b : Bool) | int (i : Int) | str (x : Str)
  | tup (xs : List Dt) | lst (xs : List Dt)
def Told (K : PySem.W.Frag) (H : Hp) : Nat → V → Dt → Prop
  | 0, v, d => match v, d with
    | .non, .non => True
    | .bl a, .bl b => a = b
    | .int a, .int b => a = b
    | .str a, .str b => a = b
    | _, _ => False
  | n + 1, v, d => match v, d with
    | .non, .non => True
    | .bl a, .bl b => a = b
    | .int a, .int b => a = b
    | .str a, .str b => a = b
    | .ref a, .tup ds => ∃ xs, SqT K H a xs ∧ Paired (Told K H n) xs ds
    | .ref a, .lst ds => ∃ xs, SqL K H a xs ∧ Paired (Told K H n) xs ds
    | _, _ => False
section
variable {X : Cx} {pins : List (Addr × Obj)} {σ : St} {H : Hp} {s : Shared}
theorem told_get {K : PySem.W.Frag} {n : Nat} : ∀ {xs ys : List V} {ds : List Dt}, Paired (Told K H n) xs ds → Paired (Told K H n) ys ds → xs.length = ys.length ∧ ∀ (j : Nat) (x y : V), xs[j]? = some x → ys[j]? = some y → ∃ d, Told K H n x d ∧ Told K H n y d
  | _, _, _, .nil, .nil => ⟨rfl, fun j x y h _ => by simp at h⟩
  | _, _, _, .cons r t, .cons q u => by
    obtain ⟨h1, h2⟩ := told_get t u
    refine ⟨by simp [h1], fun j x y e1 e2 => ?_⟩
    cases j with
    | zero => simp at e1 e2; subst e1; subst e2; exact ⟨_, r, q⟩
    | succ j => exact h2 j x y (by simpa using e1) (by simpa using e2)
theorem units_in1 {A : Around} : A.in1.units = A.units + 1 := rfl
open PySem.SeqAt in
theorem told_eq (I : Inv X pins σ H s) : ∀ (n : Nat) (A : Around) (x y : V) (u v : Value) (d : Dt), A.units + n < cLine → RelV x u → RelV y v → Told X.K H n x d → Told X.K H n y d → EqAt A s u v true := by
  intro n
  induction n with
  | zero =>
    intro A x y u v d hu rx ry hx hy
    cases d with
    | non => cases x <;> first | exact hx.elim | (cases y <;> first | exact hy.elim | (cases rx; cases ry; exact EqAt.same _))
    | bl b => cases x <;> first | exact hx.elim | (cases y <;> first | exact hy.elim | (cases rx; cases ry; cases hx; cases hy; exact EqAt.same _))
    | int b =>
      cases x with
      | int i =>
        cases y with
        | int j =>
          obtain ⟨t, rfl⟩ := rx
          obtain ⟨t', rfl⟩ := ry
          have e1 : i = b := hx
          have e2 : j = b := hy
          have q := EqAt.int_int (A := A) (s := s) i t j t'
          rw [e1, e2, beq_self_eq_true] at q
          rw [e1, e2]
          exact q
        | _ => exact hy.elim
      | _ => exact hx.elim
    | str b =>
      cases x with
      | str i =>
        cases y with
        | str j =>
          obtain ⟨t, rfl⟩ := rx
          obtain ⟨t', rfl⟩ := ry
          have e1 : i = b := hx
          have e2 : j = b := hy
          have q := EqAt.str_str (A := A) (s := s) i t j t'
          rw [e1, e2, beq_self_eq_true] at q
          rw [e1, e2]
          exact q
        | _ => exact hy.elim
      | _ => exact hx.elim
    | tup ds => cases x <;> exact hx.elim
    | lst ds => cases x <;> exact hx.elim
  | succ n ih =>
    intro A x y u v d hu rx ry hx hy
    cases d with
    | non => cases x <;> first | exact hx.elim | (cases y <;> first | exact hy.elim | (cases rx; cases ry; exact EqAt.same _))
    | bl b => cases x <;> first | exact hx.elim | (cases y <;> first | exact hy.elim | (cases rx; cases ry; cases hx; cases hy; exact EqAt.same _))
    | int b =>
      cases x with
      | int i =>
        cases y with
        | int j =>
          obtain ⟨t, rfl⟩ := rx
          obtain ⟨t', rfl⟩ := ry
          have e1 : i = b := hx
          have e2 : j = b := hy
          have q := EqAt.int_int (A := A) (s := s) i t j t'
          rw [e1, e2, beq_self_eq_true] at q
          rw [e1, e2]
          exact q
        | _ => exact hy.elim
      | _ => exact hx.elim
    | str b =>
      cases x with
      | str i =>
        cases y with
        | str j =>
          obtain ⟨t, rfl⟩ := rx
          obtain ⟨t', rfl⟩ := ry
          have e1 : i = b := hx
          have e2 : j = b := hy
          have q := EqAt.str_str (A := A) (s := s) i t j t'
          rw [e1, e2, beq_self_eq_true] at q
          rw [e1, e2]
          exact q
        | _ => exact hy.elim
      | _ => exact hx.elim
    | tup ds =>
      cases x with
      | ref a =>
        cases y with
        | ref b =>
          cases rx
          cases ry
          by_cases hab : a = b
          · subst hab; exact EqAt.same _
          obtain ⟨xs, h1, h2⟩ := hx
          obtain ⟨ys, g1, g2⟩ := hy
          obtain ⟨its, rv, p, _⟩ := I.tuple h1
          obtain ⟨its', rv', p', _⟩ := I.tuple g1
          obtain ⟨l1, l2⟩ := told_get h2 g2
          have L1 := rv.length
          have L2 := rv'.length
          have q := RcAt.tuples (A := A) (s := s) (e := fun _ => true) (show s.heap.IsTuple a its.toArray from p) (show s.heap.IsTuple b its'.toArray from p') (by omega) fun j h1 h2 => by
            have j1 : j < xs.length := by simpa [L1] using h1
            have j2 : j < ys.length := by simpa [L2] using h2
            obtain ⟨d, t1, t2⟩ := l2 j _ _ (List.getElem?_eq_getElem j1) (List.getElem?_eq_getElem j2)
            obtain ⟨u1, e1, r1⟩ := rv.get (List.getElem?_eq_getElem j1)
            obtain ⟨u2, e2, r2⟩ := rv'.get (List.getElem?_eq_getElem j2)
            have f1 : its.toArray[j] = u1 := by
              have := (List.getElem?_eq_some_iff.mp e1).2
              simpa using this
            have f2 : its'.toArray[j] = u2 := by
              have := (List.getElem?_eq_some_iff.mp e2).2
              simpa using this
            rw [f1, f2]
            exact ih A.in1 _ _ u1 u2 d (by rw [units_in1]; omega) r1 r2 t1 t2
          have e : ((List.range (min its.toArray.size its'.toArray.size)).all (fun _ => true) && its.toArray.size == its'.toArray.size) = true := by
            simp
            omega
          rw [e] at q
          exact EqAt.of_refs hab q
        | _ => exact hy.elim
      | _ => exact hx.elim
    | lst ds =>
      cases x with
      | ref a =>
        cases y with
        | ref b =>
          cases rx
          cases ry
          by_cases hab : a = b
          · subst hab; exact EqAt.same _
          obtain ⟨xs, h1, h2⟩ := hx
          obtain ⟨ys, g1, g2⟩ := hy
          obtain ⟨its, rv, p, _⟩ := I.list h1
          obtain ⟨its', rv', p', _⟩ := I.list g1
          obtain ⟨l1, l2⟩ := told_get h2 g2
          have L1 := rv.length
          have L2 := rv'.length
          have q := RcAt.lists (A := A) (s := s) (e := fun _ => true) p.isList p'.isList (by simp; omega) (by omega) fun j h1 h2 => by
            have j1 : j < xs.length := by simpa [L1] using h1
            have j2 : j < ys.length := by simpa [L2] using h2
            obtain ⟨d, t1, t2⟩ := l2 j _ _ (List.getElem?_eq_getElem j1) (List.getElem?_eq_getElem j2)
            obtain ⟨u1, e1, r1⟩ := rv.get (List.getElem?_eq_getElem j1)
            obtain ⟨u2, e2, r2⟩ := rv'.get (List.getElem?_eq_getElem j2)
            have f1 : its.toArray[j] = u1 := by
              have := (List.getElem?_eq_some_iff.mp e1).2
              simpa using this
            have f2 : its'.toArray[j] = u2 := by
              have := (List.getElem?_eq_some_iff.mp e2).2
              simpa using this
            rw [f1, f2]
            exact ih A.in1 _ _ u1 u2 d (by rw [units_in1]; omega) r1 r2 t1 t2
          have e : (List.range its.toArray.size).all (fun _ => true) = true := by simp
          rw [e] at q
          exact EqAt.of_refs hab q
        | _ => exact hy.elim
      | _ => exact hx.elim
end
end L2
set_option Elab.async false
set_option linter.all false
set_option maxRecDepth 100000
set_option maxHeartbeats 4000000
namespace L2
open PySem PySem.Spec PyProof.Rows
section
variable {X : Cx} {pins : List (Addr × Obj)} {σ : St} {H : Hp} {s : Shared}
/-- the items of two things told alike -/
theorem told_items (I : Inv X pins σ H s) {n : Nat} {A : Around} {xs ys : List V} {its its' : List Value} {ds : List Dt} (hu : A.units + 1 + n < cLine) (h2 : Paired (Told X.K H n) xs ds) (g2 : Paired (Told X.K H n) ys ds) (rv : Vals xs its) (rv' : Vals ys its') :
    its.toArray.size = its'.toArray.size ∧ ∀ j (h1 : j < its.toArray.size) (h2 : j < its'.toArray.size), PySem.SeqAt.EqAt A.in1 s its.toArray[j] its'.toArray[j] true := by
  obtain ⟨l1, l2⟩ := told_get h2 g2
  have L1 := rv.length
  have L2 := rv'.length
  refine ⟨by simp; omega, fun j h1 h2 => ?_⟩
  have j1 : j < xs.length := by simpa [L1] using h1
  have j2 : j < ys.length := by simpa [L2] using h2
  obtain ⟨d, t1, t2⟩ := l2 j _ _ (List.getElem?_eq_getElem j1) (List.getElem?_eq_getElem j2)
  obtain ⟨u1, e1, r1⟩ := rv.get (List.getElem?_eq_getElem j1)
  obtain ⟨u2, e2, r2⟩ := rv'.get (List.getElem?_eq_getElem j2)
  have f1 : its.toArray[j] = u1 := by
    have := (List.getElem?_eq_some_iff.mp e1).2
    simpa using this
  have f2 : its'.toArray[j] = u2 := by
    have := (List.getElem?_eq_some_iff.mp e2).2
    simpa using this
  rw [f1, f2]
  exact told_eq I n A.in1 _ _ u1 u2 d (by rw [units_in1]; omega) r1 r2 t1 t2
def tupsTold (K : PySem.W.Frag) (x y : V) (H : Hp) : Prop := ∃ n a b xs ys ds, n ≤ 8 ∧ x = .ref a ∧ y = .ref b ∧ SqT K H a xs ∧ SqT K H b ys ∧ Paired (Told K H n) xs ds ∧ Paired (Told K H n) ys ds
def lstsTold (K : PySem.W.Frag) (x y : V) (H : Hp) : Prop := ∃ n a b xs ys ds, n ≤ 8 ∧ x = .ref a ∧ y = .ref b ∧ SqL K H a xs ∧ SqL K H b ys ∧ Paired (Told K H n) xs ds ∧ Paired (Told K H n) ys ds
open PySem.SeqAt in
theorem op_eqL (hu : X.A.units + 64 < cLine) : OpR X (compareOp .Eq) (fun x y H Q => lstsTold X.K x y H ∧ Q (.bl true) H) := by
  intro pins s σ H x y v u Q I rx ry h
  obtain ⟨⟨n, a, b, xs, ys, ds, hn, rfl, rfl, h1, h2, h3, h4⟩, q⟩ := h
  cases rx
  cases ry
  obtain ⟨its, rv, p, _⟩ := I.list h1
  obtain ⟨its', rv', p', _⟩ := I.list h2
  obtain ⟨k1, k2⟩ := told_items I (A := X.A) (n := n) (by omega) h3 h4 rv rv'
  refine eq_listAt (e := fun _ => true) p.isList p'.isList k1 (by omega) k2 ?_
  have e : (List.range its.toArray.size).all (fun _ => true) = true := by simp
  rw [e]
  exact ⟨.bl true, H, I, rfl, q⟩
open PySem.SeqAt in
theorem op_neL (hu : X.A.units + 64 < cLine) : OpR X (compareOp .NotEq) (fun x y H Q => lstsTold X.K x y H ∧ Q (.bl false) H) := by
  intro pins s σ H x y v u Q I rx ry h
  obtain ⟨⟨n, a, b, xs, ys, ds, hn, rfl, rfl, h1, h2, h3, h4⟩, q⟩ := h
  cases rx
  cases ry
  obtain ⟨its, rv, p, _⟩ := I.list h1
  obtain ⟨its', rv', p', _⟩ := I.list h2
  obtain ⟨k1, k2⟩ := told_items I (A := X.A) (n := n) (by omega) h3 h4 rv rv'
  refine (RcNeAt.lists (e := fun _ => true) p.isList p'.isList k1 (by omega) k2) X.prog X.w _ _ ?_
  have e : (List.range its.toArray.size).all (fun _ => true) = true := by simp
  rw [e]
  exact ⟨.bl false, H, I, rfl, q⟩
end
/-! ### comprehensions, the forms one uses -/
/-- over a range, each element told from the turn's number alone; what is held of the heap stays -/
theorem comp_range {lo : Int} {n : Nat} {fr : List Nat} {te : TE} {σ : St} {H : Hp} {Q : VK} (Pv : Nat → List V → Hp → Prop) (hn : n ≤ sizeLine) (h0 : Pv 0 [] H) (hlen : ∀ i acc H, Pv i acc H → acc.length = i)
    (hs : ∀ i acc H, i < n → Pv i acc H → ∀ R : VK, (∀ y H1, Pv (i + 1) (acc ++ [y]) H1 → R y H1) → te ((compSt σ fr).set 0 (some (.int (lo + i)))) H R)
    (hd : ∀ acc H, Pv n acc H → ∀ p, H p = none → Q (.ref p) (upd H p (.lst acc))) :
    CompGo fr tYes te σ Q (Itr lo n) H := by
  refine ⟨fun i m acc H => m = n - i ∧ i ≤ n ∧ Pv i acc H, ⟨n, by simp, Nat.zero_le _, h0⟩, ?_⟩
  rintro i m acc H ⟨rfl, hi, p⟩
  have hl := hlen i acc H p
  by_cases hlt : i < n
  · refine .inr ⟨hlt, by omega, fun x H' y => ?_⟩
    obtain ⟨e, y⟩ := y
    subst e y
    unfold tYes
    refine iteT ?_
    exact hs i acc _ hlt p _ fun y H1 q => ⟨n - (i + 1), by omega, rfl, hlt, q⟩
  · have e : i = n := by omega
    subst e
    exact .inl ⟨Nat.le_refl _, by omega, hd acc H p⟩
end L2
set_option Elab.async false
set_option linter.all false
set_option maxRecDepth 100000
set_option maxHeartbeats 4000000
namespace L2
open PySem PySem.Spec PyProof.Rows
/-- a def of the text that may be called, with its promise -/
structure Cal (P : Program) (w : World) (K : PySem.W.Frag) (mg : Str → Option Value) (base : Heap) (k : Nat) (x : Str) (ps : List Str) (sp : Sp) where
  f : Addr
  fd : FuncData
  ok : FnOk P w K mg base CX0 k f fd ps sp
  b : Binds K fd ps []
  kp : PySem.W.keepIn K (.ref f) = true
  mg : mg x = some (.ref f)
theorem pec {X : Cx} {k : Nat} {x : Str} {ps : List Str} {sp : Sp} {p pos : Pos} {e : Expr} {es : List Expr} {t : TA} (C : Cal X.prog X.w X.K X.mg X.base k x ps sp) (hr : Room k X.A) (hg : Gl X x) (ha : PA X (e :: es) t)
    (hdb : (x == ("__debug__" : Str)) = false := by decide) (he : starEach (e :: es) X.env = (false, eval e X.env) :: starEach es X.env := by rfl) (hpl : (backTo pos (starEach es X.env)).any (·.1) = false := by rfl) :
    PE X (.Call (.Name x p) (e :: es) [] pos) (tCall sp [] E0 t) := pe_call C.ok hr hg C.mg C.kp C.b .nil pass0 ha hdb he hpl
theorem Same.seqT {K : PySem.W.Frag} {H H' : Hp} {a : Addr} {xs : List V} (e : Same H H') (h : SqT K H a xs) : SqT K H' a xs := by
  rcases h with (h | ⟨o, h⟩) | h
  · exact .inl (.inl (e _ _ h))
  · exact .inl (.inr ⟨o, e _ _ h⟩)
  · exact .inr h
theorem same_new {H : Hp} {p : Addr} (h : H p = none) (o : HO) : Same H (upd H p o) := fun b u q => by rw [upd_ne (ne_of_none q h)]; exact q
theorem at_int {ns : List Int} {i : Int} (h0 : 0 ≤ i) (h1 : i < ns.length) : atI (ns.map V.int) i = some (.int (ns.getD i.toNat 0)) := by
  have hk : i.toNat < ns.length := by omega
  have ek : i = ((i.toNat : Nat) : Int) := by omega
  have q : atI (ns.map V.int) ((i.toNat : Nat) : Int) = some (.int (ns.getD i.toNat 0)) := atI_nat (by
    rw [List.getElem?_map, List.getElem?_eq_getElem hk, List.getD_eq_getElem?_getD, List.getElem?_eq_getElem hk]; rfl)
  rw [← ek] at q
  exact q
theorem small {n : Nat} (h : n ≤ 1000) : n ≤ sizeLine := Nat.le_of_lt (small1000 h)
/-- an end: a number or None -/
def ov : Option Int → V
  | none => .non
  | some i => .int i
end L2
set_option Elab.async false
set_option linter.all false
set_option maxRecDepth 100000
set_option maxHeartbeats 4000000
namespace L2
open PySem PySem.Spec PyProof.Rows
section
variable {prog : Program} {w : World} {A : Around} {E : Value → Shared → Prop} {s : Shared}
/-! ### zip of two tuples, its items kept by a name -/
end
end L2
set_option Elab.async false
set_option linter.all false
set_option maxRecDepth 100000
set_option maxHeartbeats 4000000
namespace L2
open PySem PySem.Spec PyProof.Rows
section
variable {prog : Program} {w : World} {A : Around} {E : Value → Shared → Prop} {s : Shared}
/-! ### the making of a zip -/
end
end L2
set_option Elab.async false
set_option linter.all false
set_option maxRecDepth 100000
set_option maxHeartbeats 4000000
namespace L2
open PySem PySem.Spec PyProof.Rows
end L2
set_option Elab.async false
set_option linter.all false
set_option maxRecDepth 100000
set_option maxHeartbeats 4000000
namespace L2
open PySem PySem.Spec PyProof.Rows
section
variable {X : Cx}
end
/-! ### comprehensions over a tuple, over a zip of two tuples -/
end L2
set_option Elab.async false
set_option linter.all false
set_option maxRecDepth 100000
set_option maxHeartbeats 4000000
namespace L2
open PySem PySem.Spec PyProof.Rows
/-! ### the same rules where the fragment is named (within a comprehension's block) -/
section
variable {X : Cx} {K : PySem.W.Frag}
theorem ix_listK (h : X.K = K) : IxR X (rIxL K) := h ▸ ix_list
end
end L2
set_option Elab.async false
set_option linter.all false
set_option maxRecDepth 100000
set_option maxHeartbeats 4000000
namespace L2
open PySem PySem.Spec PyProof.Rows
section
variable {X : Cx}
theorem comp_core {use : Option (Value → Sem Unit)} {S : Value → Shared → Prop} {elt iter : Expr} {x : Str} {px : Pos} {ifs : List Expr} {scope : Scope} {pos : Pos} {wi : TI} {tt : TT} {te : TE} (F : List Str) (fr : List Nat) (hc : X.calm = true) (hi : PI X (.Name x px) iter wi)
    (ht : ∀ s3 H3 ex, PTs (compCx X (x :: F) scope s3 H3 ex) ifs tt) (he : ∀ s3 H3 ex, PE (compCx X (x :: F) scope s3 H3 ex) elt te)
    {pins : List (Addr × Obj)} {s : Shared} {σ : St} {H : Hp} {Q : VK} {p2 : Pos} (I : Inv X pins σ H s) (h : tComp wi fr tt te σ H Q) (hk : compChk X.env.scope X.N scope x F fr = true) (hs : ∀ x, foldedSetIterable iter X.env x = pure x)
    (fin : ∀ (s5 : Shared) (H5 : Hp) (D C : Addr) (m : Str → Option Value), Inv X pins σ H5 s5 → s5.heap.Ns C m → FpOk X pins H5 C → Q (.ref D) H5 → compPost (model X.prog X.w) X.A X.xe use S (.ref D) C (.ok .next) s5) :
    wpAny (model X.prog X.w) X.A (comprehension (.ListComp elt [⟨.Name x px, iter, ifs, 0⟩] scope pos) scope X.env p2 (newList []) false (eval iter X.env) use) S X.xe s := by
  have C := CompOk.of hk
  refine wpAny_comprehension_free (use := use) rfl hs (closure_eq (I.closes C)) C.kind C.loc ?_
  refine thn (hi pins s σ H _ I h) fun v s1 h1 => thn h1 fun itv s2 h2 => ?_
  obtain ⟨it, fp, tn, J, H2, e, I2, T, st2, f2, W, ⟨m0, w0⟩, turn⟩ := h2
  subst e
  refine wpAny_newObj_type (wpAny_newFunctionEnv C.nocell (by intro y hy; simp at hy) (fun h₁ hns₁ hsb₁ => ?_) C.kind)
  dsimp only at hns₁ hsb₁ ⊢
  generalize hs3 : ({ s2 with heap := s2.heap.push { cls := .type "list", dict := none, data := .seq ([] : List Value).toArray } } : Shared) = s3
  have e3 : s3.heap = s2.heap.push { cls := .type "list", dict := none, data := .seq ([] : List Value).toArray } := by rw [← hs3]
  rw [← e3] at hns₁ hsb₁ ⊢
  have sz3 : s3.heap.objs.size = s2.heap.objs.size + 1 := by rw [e3, Heap.size_push]
  generalize hD : s2.heap.objs.size = D at sz3 ⊢
  have I3 : Inv X pins σ H2 s3 := by
    rw [← hs3]
    exact I2.kept (t' := s2.toks) fun b o e => Heap.get?_push_of_some _ e
  have hDX : ∀ {H' : Hp}, H' D = none → FpOk X pins H' D := fun {H'} hn => I2.fpOk (H' := H') (by rw [hD]; exact Nat.le_refl _) hn
  have hCX : ∀ {H' : Hp}, H' s3.heap.objs.size = none → FpOk X pins H' s3.heap.objs.size := fun {H'} hn => I3.fpOk (H' := H') (Nat.le_refl _) hn
  have hD2 : H2 D = none := by rw [← hD]; exact I2.hok.fresh (Nat.le_refl _)
  have ltf : ∀ b ∈ fp, b < D := fun b hb => by
    obtain ⟨o, ho, _⟩ := T.obj 0 _ st2 b hb
    rw [← hD]
    exact Heap.lt_size ho
  have ltD : D < s3.heap.objs.size := by rw [sz3]; exact Nat.lt_succ_self _
  have getD3 : s3.heap.get? D = some { cls := .type "list", dict := none, data := .seq ([] : List Value).toArray } := by
    rw [e3, ← hD]
    exact Heap.get?_push_size _ rfl
  have old : ∀ b o, s3.heap.get? b = some o → h₁.get? b = some o := fun b o e => hsb₁.extBut b o (Nat.ne_of_lt (Heap.lt_size e)) (Heap.get?_push_of_some _ e)
  have J0 : Inv (compCx X (x :: F) scope s3 H2 (D :: fp)) [] (compSt σ fr) H2 { s3 with heap := h₁, toks := s3.toks + ([] : List (Str × Value)).length } := by
    refine inv_comp I3 C (fun b hb => ?_) (by simpa using hns₁) old
    rcases List.mem_cons.mp hb with e | hb
    · subst e; exact ⟨hDX hD2, ltD⟩
    · exact ⟨f2 b hb, Nat.lt_trans (ltf b hb) ltD⟩
  have nfs : ∀ b, b ≠ X.env.locals → b ∉ X.fs → b ∉ frs X.stack := fun b h1 h2 hb => by
    rcases List.mem_cons.mp (I3.stkSub b hb) with z | z
    · exact h1 z
    · exact h2 z
  have gs : ∀ {y : Str} {c : Addr}, (gather X.env.cells scope.names []).lookup y = some c → X.env.cells.lookup y = some c := fun h => I.gsub C h
  -- what is true of the block's iterator
  have fpY : ∀ {H' : Hp} {oD : Obj}, (∀ b ∈ fp, H' b = none) → ∀ b ∈ fp, FpOk (compCx X (x :: F) scope s3 H2 (D :: fp)) [(D, oD)] H' b := fun {H' oD} hn b hb => by
    obtain ⟨g0, g1, g2, g3, g4, g5⟩ := f2 b hb
    refine ⟨hn b hb, Nat.ne_of_lt (Nat.lt_trans (ltf b hb) ltD), nfs b g1 g2, .inl (List.mem_cons_of_mem _ hb), fun y c e => g4 y c (gs e), fun p hp => ?_⟩
    have e : p = (D, oD) := by
      have : p ∈ ([] : List (Addr × Obj)) ++ [(D, oD)] := hp
      simpa using this
    rw [e]
    exact Nat.ne_of_gt (ltf b hb)
  have pinD : ∀ {H' : Hp} {s' : Shared} {oD : Obj} {σ' : St}, Inv (compCx X (x :: F) scope s3 H2 (D :: fp)) [] σ' H' s' → H' D = none → s'.heap.get? D = some oD → (∀ v, oD.data ≠ .cell v) → Inv (compCx X (x :: F) scope s3 H2 (D :: fp)) [(D, oD)] σ' H' s' := fun {H' s' oD σ'} I' hn e hd => by
    refine I'.pins_of fun p hp => ?_
    have ep : p = (D, oD) := by simpa using hp
    subst ep
    obtain ⟨g0, g1, g2, _⟩ := hDX hD2
    exact ⟨e, hn, Nat.ne_of_lt ltD, nfs D g1 g2, hd⟩
  have unpin : ∀ {H' : Hp} {s' : Shared} {pl : List (Addr × Obj)} {σ' : St}, Inv (compCx X (x :: F) scope s3 H2 (D :: fp)) pl σ' H' s' → Inv (compCx X (x :: F) scope s3 H2 (D :: fp)) [] σ' H' s' := fun I' => I'.pins_of fun p hp => nomatch hp
  have post : ∀ (s' : Shared), s' = { s3 with heap := h₁, toks := s3.toks + ([] : List (Str × Value)).length } →
      codeAny (model X.prog X.w) X.A (.compLoop (.ListComp elt [⟨.Name x px, iter, ifs, 0⟩] scope pos) 0 (.ref it) (.ref D) (compEnvC scope (gather X.env.cells scope.names []) s3.heap.objs.size X.env))
        (compPost (model X.prog X.w) X.A X.xe use S (.ref D) s3.heap.objs.size) s' := by
    rintro s' rfl
    refine codeAny_compLoop_tests (fun n s' => ∃ i acc its H' oD, Inv (compCx X (x :: F) scope s3 H2 (D :: fp)) [] (compSt σ fr) H' s' ∧ tn i s'.heap ∧ (∀ b ∈ fp, H' b = none) ∧ H' D = none ∧
      s'.heap.get? D = some oD ∧ (∃ n, oD = { cls := .type "list", data := .seq (its : List Value).toArray n }) ∧ Vals acc its ∧ W i n acc H') ?_ m0 ⟨0, [], [], H2, _, J0, ?_, fun b hb => (f2 b hb).1, hD2, old _ _ getD3, ⟨0, rfl⟩, .nil, w0⟩
    · rintro n s4 ⟨i, acc, its, H4, oD, I4, st4, fr4, n4, g4, ⟨nn, rfl⟩, v4, w4⟩
      have hdat : ∀ v, ({ cls := .type "list", data := .seq its.toArray nn } : Obj).data ≠ .cell v := fun v z => by cases z
      have I4' := pinD I4 n4 g4 hdat
      rcases turn i n acc H4 w4 with ⟨stop, hz, q⟩ | ⟨go, hz, step⟩
      · refine wpAny_mono (T.done (compCx X (x :: F) scope s3 H2 (D :: fp)) rfl rfl rfl hc i [(D, _)] s4 (compSt σ fr) H4 (fun _ _ => False) I4' (fpY fr4) st4 stop) (fun r s5 ⟨hr, I5⟩ => ?_) fun _ _ z => False.elim z
        subst hr
        obtain ⟨m, hm, _⟩ := I5.loc
        obtain ⟨g5, n5, _⟩ := I5.pin (D, _) (List.mem_append_right _ List.mem_cons_self)
        have hC5 : H4 s3.heap.objs.size = none := I5.free
        have IX : Inv X pins σ H4 s5 := I3.call' (ch := D :: fp) I5.os I5.base I5.hok I5.bare fun b hb => by
          rcases List.mem_cons.mp hb with e | hb
          · subst e
            obtain ⟨g0, g1, g2, g3, g4, g5⟩ := hDX hD2
            exact ⟨g3, g1, g4, g5⟩
          · obtain ⟨g0, g1, g2, g3, g4, g5⟩ := f2 b hb
            exact ⟨g3, g1, g4, g5⟩
        have hC6 : (upd H4 D (.lst acc)) s3.heap.objs.size = none := by rw [upd_ne (Nat.ne_of_gt ltD)]; exact hC5
        exact fin s5 _ D _ m (IX.track (o := .lst acc) (hDX n5) (by rw [← hD]; exact I2.sz) ⟨hz, its, nn, v4, g5⟩) hm (hCX hC6) (q D n5)
      · refine wpAny_mono (T.item (compCx X (x :: F) scope s3 H2 (D :: fp)) rfl rfl rfl hc i [(D, _)] s4 (compSt σ fr) H4 (fun _ _ => False) I4' (fpY fr4) st4 go) (fun r s5 ⟨u, hr, h5⟩ => ?_) fun _ _ z => False.elim z
        subst hr
        refine after_pure (show wpAny _ _ (pure () : Sem Unit) _ _ s5 from h5) fun ⟨y, H6, I6, r6, y6, st6, fr6⟩ => ?_
        have hl : (compCx X (x :: F) scope s3 H2 (D :: fp)).env.scope.names.lookup x = some .local := lookup_relabel_local C.tx
        -- the target's store, the iterator and the list held fast
        have I6' := I6.pinned (fp := fp) (fun b hb => ⟨fr6 b hb, (fpY (oD := { cls := .type "list", data := .seq its.toArray nn }) fr4 b hb).2⟩) (T.obj _ _ st6)
        have PGx : PG (compCx X (x :: F) scope s3 H2 (D :: fp)) (.Name x px) (gName 0) := pg_name C.nd rfl (.inl hl) (.inr hl)
        refine wpAny_mono (PGx _ s5 (compSt σ fr) H6 y u (fun σ7 H7 => σ7 = (compSt σ fr).set 0 (some y) ∧ H7 = H6) I6' r6 ⟨rfl, rfl⟩) (fun _ s7 ⟨σ7, H7, I7, q7⟩ => ?_) fun _ _ z => False.elim z
        obtain ⟨rfl, rfl⟩ := q7
        refine wpAny_mono (ht s3 H2 (D :: fp) _ s7 _ H7 _ I7 (step y H7 y6)) (fun b s8 ⟨H8, I8, q8⟩ => ?_) fun _ _ z => False.elim z
        -- what is held fast
        have held : ∀ {σ9 : St} {H9 : Hp} {s9 : Shared}, Inv (compCx X (x :: F) scope s3 H2 (D :: fp)) ([(D, { cls := .type "list", data := .seq its.toArray nn })] ++ pinsAt fp s5.heap) σ9 H9 s9 →
            tn (i + 1) s9.heap ∧ (∀ b ∈ fp, H9 b = none) ∧ H9 D = none ∧ s9.heap.get? D = some { cls := .type "list", data := .seq its.toArray nn } := fun {σ9 H9 s9} I9 => by
          refine ⟨T.keep _ _ _ st6 fun b hb o e => (I9.pin (b, o) (List.mem_append_right _ (List.mem_append_right _ (mem_pinsAt hb e)))).1, fun b hb => ?_, ?_, ?_⟩
          · obtain ⟨o, e, _⟩ := T.obj _ _ st6 b hb
            exact (I9.pin (b, o) (List.mem_append_right _ (List.mem_append_right _ (mem_pinsAt hb e)))).2.1
          · exact (I9.pin (D, _) (List.mem_append_right _ (List.mem_append_left _ List.mem_cons_self))).2.1
          · exact (I9.pin (D, _) (List.mem_append_right _ (List.mem_append_left _ List.mem_cons_self))).1
        have forget : ∀ {H9 : Hp} {s9 : Shared} {pl : List (Addr × Obj)}, Inv (compCx X (x :: F) scope s3 H2 (D :: fp)) pl ((compSt σ fr).set 0 (some y)) H9 s9 → Inv (compCx X (x :: F) scope s3 H2 (D :: fp)) [] (compSt σ fr) H9 s9 := fun {H9 s9 pl} I9 => by
          refine (unpin I9).weak (by simp) fun j v e => ?_
          cases j with
          | zero => simp [compSt] at e
          | succ j => simpa [compSt] using e
        cases b with
        | false =>
          obtain ⟨m', hm', w8⟩ := q8
          obtain ⟨a1, a2, a3, a4⟩ := held I8
          exact ⟨m', hm', i + 1, acc, its, H8, _, forget I8, a1, a2, a3, a4, ⟨nn, rfl⟩, v4, w8⟩
        | true =>
          refine wpAny_mono (he s3 H2 (D :: fp) _ s8 _ H8 _ I8 q8) (fun yv s9 ⟨z9, H9, I9, r9, m', hm', w9⟩ => ?_) fun _ _ z => False.elim z
          obtain ⟨a1, a2, a3, a4⟩ := held I9
          have hlen := v4.length
          refine wpAny_list_append_plain (items := its.toArray) ⟨nn, a4⟩ (fun h' hp' hsb' => ?_) (by rw [List.size_toArray]; omega)
          obtain ⟨n2, hp2⟩ := hp'
          have e2 : its.toArray.push yv = (its ++ [yv]).toArray := by simp
          rw [e2] at hp2
          have I10 := forget I9
          obtain ⟨d0, d1, d2, d3, d4, d5⟩ := hDX hD2
          have I11 : Inv (compCx X (x :: F) scope s3 H2 (D :: fp)) [] (compSt σ fr) H9 { s9 with heap := h' } :=
            I10.turned (t' := s9.toks) (it := D) (fun b o hb e => (hsb'.2 b hb).trans e) a3 (Nat.ne_of_lt ltD) (.inl List.mem_cons_self) (fun y c e => d4 y c (gs e)) fun p hp => absurd (show p ∈ ([] : List (Addr × Obj)) from hp) (by simp)
          refine ⟨m', hm', i + 1, acc ++ [z9], its ++ [yv], H9, _, I11, T.keep _ _ _ a1 fun b hb o e => (hsb'.2 b (Nat.ne_of_lt (ltf b hb))).trans e, a2, a3, hp2, ⟨n2, rfl⟩, v4.append (.cons r9 .nil), w9⟩
    · exact T.keep _ _ _ st2 fun b hb o e => old b o (by rw [e3]; exact Heap.get?_push_of_some _ e)
  refine codeAny_compStart_list (post _ (by rw [← hs3])) (T.self X.A 0 _ _ _ ?_ (post _ (by rw [← hs3])))
  exact T.keep _ _ _ st2 fun b hb o e => old b o (by rw [e3]; exact Heap.get?_push_of_some _ e)

/-- x = [.. for ..] at a plain local: the store stands within the block -/
theorem ps_setComp {y : Str} {j : Nat} {elt iter : Expr} {x : Str} {px py : Pos} {ifs : List Expr} {scope : Scope} {pos spos : Pos} {wi : TI} {tt : TT} {te : TE} (F : List Str) (fr : List Nat) (hN : X.N.Nodup) (hj : X.N[j]? = some y) (hy : X.env.scope.names.lookup y = some .local) (hc : X.calm = true) (hi : PI X (.Name x px) iter wi)
    (ht : ∀ s3 H3 ex, PTs (compCx X (x :: F) scope s3 H3 ex) ifs tt) (he : ∀ s3 H3 ex, PE (compCx X (x :: F) scope s3 H3 ex) elt te)
    (hsw : swapsWith (.ListComp elt [⟨.Name x px, iter, ifs, 0⟩] scope pos) (some (.Name y py)) spos.line X.env = pure true := by rfl)
    (hk : compChk X.env.scope X.N scope x F fr = true := by rfl) (hs : ∀ x, foldedSetIterable iter X.env x = pure x := by intro _; rfl) :
    PS X (.Assign [.Name y py] (.ListComp elt [⟨.Name x px, iter, ifs, 0⟩] scope pos) spos) (tAsg (tComp wi fr tt te) (gName j)) := by
  intro pins s σ H D0 I h
  rw [exec_Assign_Name_used _ _ _ _ hsw]
  refine wpAny_bind (wpAny_standAt (wpAny_bind ?_))
  show wpAny _ X.A (do let _ ← comprehension (.ListComp elt [⟨.Name x px, iter, ifs, 0⟩] scope pos) scope X.env _ (newList []) false (eval iter X.env) (some (assign (.Name y py) X.env))) _ _ s
  refine wpAny_bind (wpAny_mono (comp_core (use := some (assign (.Name y py) X.env)) (S := fun _ s' => SP X pins D0 .next s') F fr hc hi ht he I h hk hs fun s5 H5 D C m IT hm hC q => ?_) (fun _ s' hq => wpAny_pure (wpAny_pure hq)) fun _ _ e => e)
  obtain ⟨c0, c1, c2, c3, c4, c5⟩ := hC
  show wpAny _ X.A (assign (.Name y py) X.env (.ref D)) _ _ _
  refine wpAny_assign_Name (store_ok2 IT hN hj (.inl hy) (v := .ref D) rfl (fun s6 I6 hsb => ?_) (.inr hy))
  obtain ⟨b, hsb, hb⟩ := hsb
  have hCb : C ≠ b := by
    rcases hb with e | e
    · rw [e]; exact c1
    · exact fun z => c4 y b e z.symm
  refine ⟨m, hm.sameBut hsb hCb, fun h' hs' => ?_⟩
  exact ⟨_, H5, I6.turned (t' := s6.toks) (it := C) (fun b o hb e => (hs'.2 b hb).trans e) c0 c1 c3 c4 c5, q⟩
end
end L2
set_option Elab.async false
set_option linter.all false
set_option maxRecDepth 100000
set_option maxHeartbeats 4000000
namespace L2
open PySem PySem.Spec PyProof.Rows

/-! ### an exception in flight -/
theorem ObjOk.there {P : Program} {w : World} {H : Hp} {h : Heap} {a : Addr} {o : HO} (x : ObjOk P w H h a o) : ∃ u, h.get? a = some u := by
  cases o with
  | lst xs => obtain ⟨_, _, _, _, e⟩ := x; exact ⟨_, e⟩
  | tup xs => obtain ⟨_, _, _, ob, e, _⟩ := x; exact ⟨_, e⟩
  | dK kvs => obtain ⟨_, _, _, _, ob, _, _, e, _⟩ := x; exact ⟨_, e⟩
  | dT kvs => obtain ⟨_, _, _, _, ob, _, _, e, _⟩ := x; exact ⟨_, e⟩
  | set S n => obtain ⟨ob, _, _, _, e, _⟩ := x; exact ⟨_, e⟩
  | ins C dx fs => obtain ⟨_, _, _, e, _⟩ := x; exact ⟨_, e⟩
  | own y => exact x
  | xd fs => obtain ⟨_, ⟨ob, _, _, e, _⟩, _⟩ := x; exact ⟨_, e⟩
  | rng lo hi => obtain ⟨_, _, _, e⟩ := x; exact ⟨_, e⟩
  | frz ob u => obtain ⟨e, _⟩ := x; exact ⟨_, e⟩
  | tbl ps => exact ⟨_, (show h.get? a = some _ from x)⟩
  | met f y => exact ⟨_, (show h.get? a = some _ from x)⟩
  | ext φ => obtain ⟨_, e, _⟩ := x; exact e
theorem HOk.over {P : Program} {w : World} {H : Hp} {h B : Heap} (x : HOk P w H h) (k : ∀ b u o, H b = some u → h.get? b = some o → B.get? b = some o) : HOk P w H B := fun a o e => by
  refine (x a o e).stay (fun b u hb q => ?_) (fun _ q => q) fun _ _ q => q
  rcases hb with z | z
  · subst z; exact k _ _ _ e q
  · exact k _ _ _ z q

/-- seen from the state s (abstract heap H) ahead of the call: the exception at x flies over the frames l; B: the heap at the raise, without the frames that run -/
structure Fly (P : Program) (w : World) (l : List Env) (H : Hp) (s : Shared) (x : Addr) (cls a0 : Value) (H' : Hp) (B : Heap) (s' : Shared) : Prop where
  os : s'.os = s.os
  bare : AllBare s'.gens
  fly : Heap.FlyingW B l x cls a0 s'.heap
  keep : ∀ b o, s.heap.get? b = some o → H b = none → b ∉ frs l → B.get? b = some o
  slot : ∀ b o, s.heap.get? b = some o → b ∈ frs l → ∃ sl, s'.heap.get? b = some { o with slots := sl }
  free : ∀ b o, s.heap.get? b = some o → H b = none → H' b = none
  there : ∀ b o, s.heap.get? b = some o → b ∉ frs l → ∃ o', B.get? b = some o'
  tups : ∀ b xs, H b = some (.tup xs) → H' b = some (.tup xs)
  frzs : ∀ b o u, H b = some (.frz o u) → H' b = some (.frz o u)
  tbls : ∀ b ps, H b = some (.tbl ps) → ∃ more, H' b = some (.tbl (ps ++ more))
  hok : HOk P w H' B
section
variable {P : Program} {w : World} {l : List Env} {H H' : Hp} {s s' : Shared} {x : Addr} {cls a0 : Value} {B : Heap}
theorem Fly.un (F : Fly P w l H s x cls a0 H' B s') : Un (frs l) [] H H' s.heap s'.heap where
  keep := fun b o e n hb _ => F.fly.1 b o (F.keep b o e n hb)
  slot := fun b o e _ hb _ => F.slot b o e hb
  free := fun b o e n _ => F.free b o e n
  there := fun b o e _ => by
    by_cases hb : b ∈ frs l
    · obtain ⟨sl, q⟩ := F.slot b o e hb
      exact ⟨_, q⟩
    · obtain ⟨o', q⟩ := F.there b o e hb
      exact ⟨o', F.fly.1 b o' q⟩
  tups := F.tups
  frzs := F.frzs
  tbls := F.tbls
theorem Fly.hok' (F : Fly P w l H s x cls a0 H' B s') : HOk P w H' s'.heap := F.hok.kept F.fly.1
theorem Fly.new (F : Fly P w l H s x cls a0 H' B s') : H' x = none := by
  cases q : H' x with
  | none => rfl
  | some u =>
    obtain ⟨o, e⟩ := (F.hok x u q).there
    rw [F.fly.2.1] at e
    cases e
/-- the exception is not of the state ahead -/
theorem Fly.fresh (F : Fly P w l H s x cls a0 H' B s') : s.heap.get? x = none := by
  cases q : s.heap.get? x with
  | none => rfl
  | some o =>
    exfalso
    by_cases hb : x ∈ frs l
    · obtain ⟨_, oe, h1, h2⟩ := F.fly.2.2.1.mem hb
      obtain ⟨ob, vs, h3, _, h4, _⟩ := F.fly.first
      rw [h1] at h3
      cases h3
      exact h2 _ h4
    · obtain ⟨o', e⟩ := F.there x o q hb
      rw [F.fly.2.1] at e
      cases e
/-- the flight goes on in another heap -/
theorem Fly.move {h : Heap} {t : Nat} (F : Fly P w l H s x cls a0 H' B s') (f : Heap.FlyingW B l x cls a0 h) (u : s'.heap.UpToSlots h) : Fly P w l H s x cls a0 H' B { s' with heap := h, toks := t } where
  os := F.os
  bare := F.bare
  fly := f
  keep := F.keep
  slot := fun b o e hb => by
    obtain ⟨sl, q⟩ := F.slot b o e hb
    obtain ⟨_, oe, h1, h2⟩ := F.fly.2.2.1.mem hb
    rw [q] at h1
    cases h1
    obtain ⟨sl', q'⟩ := u b _ q h2
    exact ⟨sl', q'⟩
  free := F.free
  there := F.there
  tups := F.tups
  frzs := F.frzs
  tbls := F.tbls
  hok := F.hok
end
/-- how an exception lies behind a call -/
def CXx (P : Program) (w : World) : CXT := fun l H s E e s' => ∃ x cls a0 H' B, e = .ref x ∧ Fly P w l H s x cls a0 H' B s' ∧ E cls none H'

section
variable {X : Cx} {pins : List (Addr × Obj)} {σ : St} {H H' : Hp} {s s' : Shared} {x : Addr} {cls a0 : Value} {B : Heap}
theorem Inv.notL (I : Inv X pins σ H s) {b : Addr} {o : Obj} (e : X.s₀.heap.get? b = some o) (hb : b ∉ X.fs) : b ∉ frs X.stack := fun z => by
  rcases List.mem_cons.mp (I.stkSub b z) with q | q
  · exact absurd q (Nat.ne_of_lt (Nat.lt_of_lt_of_le (Heap.lt_size e) I.ok.above))
  · exact hb q
/-- one frame more left behind: the flight as the caller's caller sees it -/
theorem Fly.out (F : Fly X.prog X.w X.stack H s x cls a0 H' B s') (I : Inv X pins σ H s) (hex : X.ex = []) (hsub : ∀ b ∈ X.fs, b ∈ frs X.stack) {h : Heap} {t : Nat} (f : Heap.FlyingW B X.outer x cls a0 h) (u : s'.heap.UpToSlots h) :
    Fly X.prog X.w X.outer X.H₀ X.s₀ x cls a0 H' B { s' with heap := h, toks := t } where
  os := F.os.trans I.os
  bare := F.bare
  fly := f
  keep := fun b o e n hb => F.keep b o (I.base.keep b o e n hb (by rw [hex]; simp)) (I.base.free b o e n (by rw [hex]; simp)) (I.notL e hb)
  slot := fun b o e hb => by
    obtain ⟨sl, q⟩ := I.base.slot b o e (I.ok.frf b hb) hb (by rw [hex]; simp)
    obtain ⟨sl1, q1⟩ := F.slot b _ q (hsub b hb)
    obtain ⟨_, oe, h1, h2⟩ := F.fly.2.2.1.mem (hsub b hb)
    rw [q1] at h1
    cases h1
    obtain ⟨sl2, q2⟩ := u b _ q1 h2
    exact ⟨sl2, q2⟩
  free := fun b o e n => by
    obtain ⟨o', q⟩ := I.base.there b o e (by rw [hex]; simp)
    exact F.free b o' q (I.base.free b o e n (by rw [hex]; simp))
  there := fun b o e hb => by
    obtain ⟨o', q⟩ := I.base.there b o e (by rw [hex]; simp)
    exact F.there b o' q (I.notL e hb)
  tups := fun b xs e => F.tups b xs (I.base.tups b xs e)
  frzs := fun b o u e => F.frzs b o u (I.base.frzs b o u e)
  tbls := fun b ps e => by
    obtain ⟨m1, e1⟩ := I.base.tbls b ps e
    obtain ⟨m2, e2⟩ := F.tbls b _ e1
    exact ⟨m1 ++ m2, by rw [e2, Array.append_assoc]⟩
  hok := F.hok
end

/-! ### a def's body: an exception made here, one that passes -/
/-- what is raised here reaches what is wanted of exceptions -/
def Made (X : Cx) (E : XK) : Prop := ∀ (pins : List (Addr × Obj)) (σ : St) (H : Hp) (s : Shared) (h' : Heap) (e : Addr) (cls : Value) (vs : List Value), Inv X pins σ H s → Heap.MadeExcOf s.heap h' e cls vs → E cls none H → X.xe (.ref e) { s with heap := h' }
section
variable {P : Program} {w : World} {K : PySem.W.Frag} {mg : Str → Option Value} {base : Heap} {N : List Str} {qual : Str} {scope : Scope} {f : Addr} {cd : Value} {A : Around} {outer : List Env} {s : Shared} {H : Hp} {E E' : XK}
theorem made_def : Made (cxOf (CXx P w) P w K mg base N qual scope f cd A outer s H E) E := by
  intro pins σ H1 s1 h' e cls vs I hx q
  have hin : ∀ env ∈ (envOfC qual scope s.heap.objs.size f cd :: outer), ∀ b, env.frame = some b → b ∈ frs (envOfC qual scope s.heap.objs.size f cd :: outer) := fun env he b hb => List.mem_filterMap.mpr ⟨env, he, hb⟩
  have hnot : ∀ b u, H1 b = some u → b ∉ frs (envOfC qual scope s.heap.objs.size f cd :: outer) := fun b u e hb => by
    have := I.stkFree b hb
    rw [e] at this
    cases this
  show wpAny (model P w) (A.deeper (envOfC qual scope s.heap.objs.size f cd)) (leaving (envOfC qual scope s.heap.objs.size f cd) (.ref e)) _ _ _
  refine wpAny_leaves_madeW (base := PySem.W.hideAll s1.heap (frs (envOfC qual scope s.heap.objs.size f cd :: outer))) (h := s1.heap) I.ok.frames rfl (fun b o z => PySem.W.of_hideAll _ z) (PySem.W.funFrames_hide I.stack hin) hx fun h2 t fl tup bt up => ?_
  refine ⟨e, cls, .ref t, H1, PySem.W.hideAll s1.heap (frs (envOfC qual scope s.heap.objs.size f cd :: outer)), rfl, ⟨I.os, I.bare, fl, fun b o e n hb => ?_, fun b o e hb => ?_, fun b o e n => I.base.free b o e n (fun z => nomatch z), fun b o e hb => ?_, I.base.tups, I.base.frzs, I.base.tbls, ?_⟩, q⟩
  · exact PySem.W.hideAll_get _ (I.base.keep b o e n hb (fun z => nomatch z)) (I.notL e hb)
  · obtain ⟨sl, q1⟩ := I.base.slot b o e (I.ok.frf b hb) hb (fun z => nomatch z)
    have hb' : b ∈ frs (envOfC qual scope s.heap.objs.size f cd :: outer) := by
      obtain ⟨env, he, hf⟩ := List.mem_filterMap.mp hb
      exact hin env (List.mem_cons_of_mem _ he) b hf
    obtain ⟨_, oe, h3, h4⟩ := I.stack.mem hb'
    rw [q1] at h3
    cases h3
    obtain ⟨sl2, q2⟩ := up b _ (hx.keeps _ _ q1) h4
    exact ⟨sl2, q2⟩
  · obtain ⟨o', q1⟩ := I.base.there b o e (fun z => nomatch z)
    exact ⟨o', PySem.W.hideAll_get _ q1 (I.notL e hb)⟩
  · exact I.hok.over fun b u o e q1 => PySem.W.hideAll_get _ q1 (hnot b u e)
theorem pass_def (hE : ∀ cls dx H', E' cls dx H' → E cls dx H') : Passes (CXx P w) (cxOf (CXx P w) P w K mg base N qual scope f cd A outer s H E) E' := by
  intro pins σ H1 s1 e s2 I hx
  obtain ⟨x, cls, a0, H', B, rfl, F, q⟩ := hx
  show wpAny (model P w) (A.deeper (envOfC qual scope s.heap.objs.size f cd)) (leaving (envOfC qual scope s.heap.objs.size f cd) (.ref x)) _ _ _
  refine wpAny_leaves_onW I.ok.frames rfl F.fly fun h2 fl up => ?_
  refine ⟨x, cls, a0, H', B, rfl, Fly.out (t := s2.toks) F I rfl (fun b hb => ?_) fl up, hE _ _ _ q⟩
  obtain ⟨env, he, hf⟩ := List.mem_filterMap.mp hb
  exact List.mem_filterMap.mpr ⟨env, List.mem_cons_of_mem _ he, hf⟩
theorem passE : Passes (CXx P w) (cxOf (CXx P w) P w K mg base N qual scope f cd A outer s H E) E := pass_def fun _ _ _ z => z
end
end L2
set_option Elab.async false
set_option linter.all false
set_option maxRecDepth 100000
set_option maxHeartbeats 4000000
namespace L2
open PySem PySem.Spec PyProof.Rows

/-! ### own error classes under ValueError -/
/-- the classes that ValueError stands under -/
abbrev VB : List Value := [.type "ValueError", .type "Exception", .type "BaseException", .type "object"]
theorem exc_obj {K : PySem.W.Frag} {h : Heap} {C : Addr} {bmB : List Value} {newId : String} (X : K.In h) (q : PySem.W.excIn K C bmB newId = true) :
    ∃ bm N nm qn bs hd sn sub ab col dd k0 k1 k2 k3 k5 mN, h.get? C = some (excClassObj nm qn C N bs bm hd sn sub ab col dd k0 k1 k2 k3 k5 newId) ∧ h.Ns N mN ∧ mN "__init__" = none ∧ OwnTail h bmB bm := by
  unfold PySem.W.excIn at q
  split at q
  case h_2 => exact absurd q Bool.false_ne_true
  case h_1 dd cd sl look =>
    split at q
    case h_2 => exact absurd q Bool.false_ne_true
    case h_1 C' bm k0 k1 k2 k3 n k5 hm hs =>
      rw [Bool.and_eq_true, Bool.and_eq_true, Bool.and_eq_true, Bool.and_eq_true, Bool.and_eq_true] at q
      obtain ⟨⟨⟨⟨⟨qc, qn⟩, qd⟩, qt⟩, qo⟩, qi⟩ := q
      have e1 : C' = C := beq_iff_eq.mp qc
      have e2 : n = newId := beq_iff_eq.mp qn
      have e3 : cd.hasDel = false := by simpa using qd
      have hsl : sl = #[k0, k1, k2, k3, some (.builtin n), k5] := by
        apply Array.toList_inj.mp
        exact hs
      have ho := X _ _ look
      subst e1 e2
      cases cd with
      | mk nm bs mro ns qname hdct sn sub ab col del =>
        have e3' : del = false := e3
        have e4 : mro = .ref C' :: bm := hm
        subst e3' e4
        rw [hsl] at ho
        exact ⟨bm, ns, nm, qname, bs, hdct, sn, sub, ab, col, dd, k0, k1, k2, k3, k5, _, ho, Heap.Ns.of_isNs (PySem.W.isNs_of_in X qo), PySem.W.nsMap_none_of_in X qo (beq_iff_eq.mp qi), PySem.W.tail_of_in X qt⟩
section
variable {X : Cx} {x : Str} {C : Addr} {np cpos pos : Pos} {e : Expr} {es : List Expr} {t : TA} {E : XK}
/-- raise C(e, ..), C a class of one's own without an __init__ -/
def tRaise (E : XK) (C : Addr) (t : TA) : TS := fun _ σ H => t σ H fun vs H1 => vs.length ≤ sizeLine ∧ E (.ref C) none H1
theorem ps_raise (hm : Made X E) (hc : X.calm = true) (hg : Gl X x) (hmg : X.mg x = some (.ref C)) (hC : PySem.W.excIn X.K C VB "ValueError.__new__" = true) (ha : PA X (e :: es) t)
    (hdb : (x == ("__debug__" : Str)) = false := by decide) (he : starEach (e :: es) X.env = (false, eval e X.env) :: starEach es X.env := by rfl) (hpl : (backTo cpos (starEach es X.env)).any (·.1) = false := by rfl) :
    PS X (.Raise (some (.Call (.Name x np) (e :: es) [] cpos)) none pos) (tRaise E C t) := by
  intro pins s σ H D I h
  obtain ⟨bm, N, nm, qn, bs, hd, sn, sub, ab, col, dd, k0, k1, k2, k3, k5, mN, h1, h2, h3, h4⟩ := exc_obj I.mod.kin hC
  have hall : (backTo cpos (starEach (e :: es) X.env)).any (·.1) = false := by
    rw [he]
    show (false || (backTo cpos (starEach es X.env)).any (·.1)) = false
    rw [Bool.false_or]
    exact hpl
  refine wpAny_Raise_call_subT (mN := mN) (nm := nm) (q := qn) (N := N) (bs := bs) (hdct := hd) (sn := sn) (sub := sub) (ab := ab) (col := col) (dd := dd) (k0 := k0) (k1 := k1) (k2 := k2) (k3 := k3) (k5 := k5) PySem.F.excBase_ValueError (h4.hasType PySem.F.excBase_ValueError.hasBase) (I.ok.hd hc) hall h3 (ld_glob I hg hmg ⟨rfl, ?_⟩ hdb)
  have hv := ha cpos pins s σ H _ I h
  rw [he] at hv ⊢
  refine Calls.evalArgs_plain (thn hv fun vs s2 hv2 => ?_)
  obtain ⟨ws, H2, I2, r, hz, q⟩ := hv2
  exact ⟨rfl, by rw [← r.length]; exact hz, I2.bk _ _ h1, h2.keeps I2.bk, h4.keeps I2.bk, fun h' e' hx => hm pins σ H2 s2 h' e' _ _ I2 hx q⟩
end

/-! ### texts with places in them: what stands in them is not followed -/
section
variable {X : Cx}
def PJ (X : Cx) (es : List Expr) (n : Nat) (t : St → Hp → (Hp → Prop) → Prop) : Prop :=
  ∀ (pins : List (Addr × Obj)) (s : Shared) (σ : St) (H : Hp) (acc : Str) (R : Str → Shared → Prop) (Q : Hp → Prop), Inv X pins σ H s → acc.length + n ≤ sizeLine → t σ H Q →
    (∀ out s' H', Inv X pins σ H' s' → out.length ≤ sizeLine → Q H' → R out s') → Joins (model X.prog X.w) X.A X.xe (evalEach es X.env) acc R s
def jNil : St → Hp → (Hp → Prop) → Prop := fun _ H Q => Q H
theorem pj_nil : PJ X [] 0 jNil := fun pins s σ H acc R Q I hz h k => k acc s H I (by omega) h
theorem pj_str {y : Str} {j pos} {es : List Expr} {n : Nat} {t : St → Hp → (Hp → Prop) → Prop} (h : PJ X es n t) : PJ X (.Constant (.str y) j pos :: es) (y.length + n) t := by
  intro pins s σ H acc R Q I hz hq k
  have hl : (acc ++ y).length = acc.length + y.length := strLen_append acc y
  refine Calls.Constant_str ⟨y, s.toks, rfl, by omega, ?_⟩
  exact h pins { s with toks := s.toks + 1 } σ H (acc ++ y) R Q (I.tok _) (by omega) hq k
def tJoin (t : St → Hp → (Hp → Prop) → Prop) : TE := fun σ H Q => t σ H fun H1 => ∀ y : Str, Q (.str y) H1
theorem pe_join {v1 v2 : Expr} {rest : List Expr} {n : Nat} {t : St → Hp → (Hp → Prop) → Prop} {pos : Pos} (h : PJ X (v1 :: v2 :: rest) n t) (hn : n ≤ sizeLine := by decide) : PE X (.JoinedStr (v1 :: v2 :: rest) pos) (tJoin t) := by
  intro pins s σ H Q I hq
  refine wpAny_JoinedStr (h pins s σ H Str.empty _ _ I (by rw [show Str.empty.length = 0 from rfl]; omega) hq fun out s' H' I' hz q => ⟨hz, ?_⟩)
  exact ⟨.str out, H', I'.tok _, ⟨_, rfl⟩, q out⟩
end

/-! ### defs that may raise -/
section
variable {P : Program} {w : World} {K : PySem.W.Frag} {mg : Str → Option Value} {base : Heap}
/-- a def by its body, exceptions and all -/
theorem Fun.okX {x qual : Str} {st : Stmt} {f : Addr} {fd : FuncData} {N ps : List Str} {k : Nat} {sp : Sp} (F : Fun K x qual st f fd) (S : FnScope N ps (defScope st)) (len : ∀ vs H Q E, sp vs H Q E → vs.length = ps.length)
    (hb : ∀ (cdv : Value) (A : Around) (outer : List Env) (s : Shared) (H : Hp) (vs : List V) (Q : VK) (E : XK), Room k (A.deeper (envOfC qual (defScope st) s.heap.objs.size f cdv)) → sp vs H Q E →
      ∃ t, PSs (cxOf (CXx P w) P w K mg base N qual (defScope st) f cdv A outer s H E) (defBody st) t ∧ t { nx := fun _ H' => Q .non H', rt := Q } (start N vs) H) : FnOk P w K mg base (CXx P w) (k + 1) f fd ps sp := by
  obtain ⟨oc, od, kV, doc, pm, an, cdv, ct, osl, rfl, lk, hcd⟩ := F.ex
  exact fn_of lk hcd S len fun A outer s H vs Q E hr hsp => hb cdv A outer s H vs Q E hr hsp
/-- a def of the text that may raise, with its promise -/
structure CalX (P : Program) (w : World) (K : PySem.W.Frag) (mg : Str → Option Value) (base : Heap) (k : Nat) (x : Str) (ps : List Str) (sp : Sp) where
  f : Addr
  fd : FuncData
  ok : FnOk P w K mg base (CXx P w) k f fd ps sp
  b : Binds K fd ps []
  kp : PySem.W.keepIn K (.ref f) = true
  mg : mg x = some (.ref f)
end
section
variable {X : Cx} {k : Nat} {x : Str} {ps : List Str} {sp : Sp} {p pos : Pos} {e : Expr} {es : List Expr} {t : TA} {E : XK}
theorem pecX (C : CalX X.prog X.w X.K X.mg X.base k x ps sp) (hr : Room k X.A) (hg : Gl X x) (hp : Passes (CXx X.prog X.w) X E) (ha : PA X (e :: es) t)
    (hdb : (x == ("__debug__" : Str)) = false := by decide) (he : starEach (e :: es) X.env = (false, eval e X.env) :: starEach es X.env := by rfl) (hpl : (backTo pos (starEach es X.env)).any (·.1) = false := by rfl) :
    PE X (.Call (.Name x p) (e :: es) [] pos) (tCall sp [] E t) := pe_call C.ok hr hg C.mg C.kp C.b .nil hp ha hdb he hpl
/-- an exception of a callee reaches what is wanted; Z: by the names' values at the call -/
def Acc (X : Cx) (Z : St → XK) : Prop := ∀ (pins : List (Addr × Obj)) (σ : St) (H : Hp) (s : Shared) (e : Value) (s' : Shared), Inv X pins σ H s → CXx X.prog X.w X.stack H s (Z σ) e s' → X.xe e s'
def tCallZ (sp : Sp) (Z : St → XK) (t : TA) : TE := fun σ H Q => t σ H fun vs H1 => sp vs H1 Q (Z σ)
theorem pecZ {Z : St → XK} (C : CalX X.prog X.w X.K X.mg X.base k x ps sp) (hr : Room k X.A) (hg : Gl X x) (hp : Acc X Z) (ha : PA X (e :: es) t)
    (hdb : (x == ("__debug__" : Str)) = false := by decide) (he : starEach (e :: es) X.env = (false, eval e X.env) :: starEach es X.env := by rfl) (hpl : (backTo pos (starEach es X.env)).any (·.1) = false := by rfl) :
    PE X (.Call (.Name x p) (e :: es) [] pos) (tCallZ sp Z t) := by
  intro pins s σ H Q I h
  refine wpAny_Call_Name_kw (ld_glob I hg C.mg ?_ hdb)
  refine PySem.W.callWith_K (h₀ := X.base) I.ok.mod.kin C.kp (thn (ha pos pins s σ H _ I h) fun us s1 hu => ?_) he hpl
  obtain ⟨vs, H1, I1, r, q⟩ := hu
  refine ⟨I1.kIn, wpAny_call (codeAny_mono (C.ok.run X.A X.stack s1 H1 ⟨us, []⟩ us vs Q (Z σ) hr I1.env0 ?_ r q) fun rs s2 hq => ?_)⟩
  · have hl : us.length = ps.length := by rw [← r.length]; exact C.ok.len _ _ _ _ q
    have hb := C.b s1 us I1.kIn (by rw [List.append_nil]; exact hl)
    rw [List.append_nil] at hb
    exact hb
  · match rs, hq with
    | .error x, hq => exact hp pins σ H1 s1 x s2 I1 hq
    | .ok (.ret u), hq => exact I1.after hq
    | .ok .next, hq => exact False.elim hq
    | .ok .brk, hq => exact False.elim hq
    | .ok .cont, hq => exact False.elim hq
end
end L2
set_option Elab.async false
set_option linter.all false
set_option maxRecDepth 100000
set_option maxHeartbeats 4000000
namespace L2
open PySem PySem.Spec PyProof.Rows

/-! ### isinstance of an exception of one's own -/
/-- an exception of the class cls at x -/
def ExcO (x : Addr) (cls : Value) : HO := .ext fun h => ∃ o vs, h.get? x = some o ∧ o.cls = cls ∧ o.data = .fields vs
/-- what the class at D must be like -/
structure ExcK (K : PySem.W.Frag) (D : Addr) : Prop where
  ga : PySem.W.findIn K (.ref D) "__getattribute__" = some (some (.builtin "BaseException.__getattribute__"))
  hook : PySem.W.findIn K (.ref D) "__getattr__" = some none
  at_ : PySem.W.findIn K (.ref D) "__class__" = some (some (.builtin "object.__class__"))
  exc : PySem.W.mroIn K D (.type "BaseException") = some true
  obj : PySem.W.mroIn K D (.type "object") = some true
  cls : (PySem.W.clsIn K D).isSome = true
section
variable {prog : Program} {w : World} {A : Around} {E : Value → Shared → Prop} {K : PySem.W.Frag} {x D : Addr} {o : Obj}
theorem exc_type {M : Model} {h : Heap} (e : h.get? x = some o) (c : o.cls = .ref D) : PySem.W.Looks M h (typeOf (.ref x)) (.ref D) := by
  rw [← c]
  exact (PySem.W.Looks.ld e).andThen .now
theorem exc_class_get {s : Shared} {R : Result → Shared → Prop} {tp : Value} (X : K.In s.heap) (k : ExcK K D) (e : s.heap.get? x = some o) (c : o.cls = .ref D) (h : R (.ok (.ret (.ref D))) s) :
    codeAny (model prog w) A (.call (.builtin "getset_descriptor.__get__") ⟨[.builtin "object.__class__", .ref x, tp], []⟩) R s := by
  obtain ⟨hh, g, dr, t, os⟩ := s
  have L0 := exc_type (M := model prog w) e c
  have L1 := PySem.W.looks_mroIn (M := model prog w) X k.obj
  refine codeAny_call_builtin PySem.W.KF.slot_gs.plain PySem.W.KF.entry_gs (PySem.W.KF.slot_gs.check _ _ _ _ _ _ _ _ PySem.W.KF.type_class
    (PySem.W.KF.args_gs _ _ _) ?_)
  unfold Builtin.«getset_descriptor.__get__» Builtin.Getset_descriptor.descrGet
  rw [PySem.W.dga_obj]
  refine wpAny_bind (wpAny_pure ?_)
  unfold Builtin.Getset_descriptor.descrGetter Builtin.Getset_descriptor.descrCheckInstance Builtin.Getset_descriptor.descrNameAndClass isInstance
  simp only [PySem.W.KF.owner_class]
  repeat lk
  refine ⟨Code.quiet_builtin _ (by decide +kernel), codeAny_builtin PySem.W.KF.entry_class ?_⟩
  unfold Builtin.«object.__class__» shownTypeOf
  repeat lk
  exact h

theorem exc_check {s : Shared} {nameV : Value} {Q : Unit → Shared → Prop} (X : K.In s.heap) (k : ExcK K D) (e : s.heap.get? x = some o) (c : o.cls = .ref D) (h : Q () s) :
    wpAny (model prog w) A (checkBuiltinCall "BaseException.__getattribute__" ⟨[.ref x, nameV], []⟩) Q E s := by
  have kd : builtinKind "BaseException.__getattribute__" = some .slot := by decide +kernel
  have sp : splitId "BaseException.__getattribute__" = some ("BaseException", "__getattribute__") := by decide +kernel
  have L0 := exc_type (M := model prog w) e c
  have L1 := PySem.W.looks_mroIn (M := model prog w) X k.exc
  have ha := PySem.F.args_bexc_ga (.ref x) nameV
  obtain ⟨hh, g, dr, t, os⟩ := s
  simp only [checkBuiltinCall, kd, sp]
  refine wpAny_bind ?_
  unfold isInstance
  repeat (first | lk | wp_step)
  exact h
theorem exc_ga {s : Shared} {tk : Tok} {Q : Fin → Shared → Prop} (X : K.In s.heap) (k : ExcK K D) (e : s.heap.get? x = some o) (c : o.cls = .ref D) (h : Q (.done (.ret (.ref D))) s) :
    wpAny (model prog w) A (Builtin.«object.__getattribute__» ⟨[.ref x, .str "__class__" tk], []⟩) Q E s := by
  have L0 := exc_type (M := model prog w) e c
  have L1 := PySem.W.looks_findIn (M := model prog w) X k.at_
  obtain ⟨hh, g, dr, t, os⟩ := s
  have hT5 : (⟨hh, g, dr, t, os⟩ : Shared).TypeIs (.builtin "object.__class__") "getset_descriptor" := PySem.F.typeOf_object_class
  have f5 := PySem.F.typeOf_object_class
  have f6 := PySem.F.slot_gs_get.lookup
  have f7 := PySem.F.slot_gs_set.lookup
  repeat (any_goals (first | assumption | with_reducible refine PySem.W.Looks.at (by assumption) ?_ | wp_step))
  refine exc_class_get X k e c ?_
  repeat (any_goals (first | assumption | wp_step))
theorem exc_class {s : Shared} {Q : Option Value → Shared → Prop} (X : K.In s.heap) (k : ExcK K D) (e : s.heap.get? x = some o) (c : o.cls = .ref D) (h : Q (some (.ref D)) { s with toks := s.toks + 1 }) :
    wpAny (model prog w) A (getAttr? (.ref x) "__class__") Q E s := by
  obtain ⟨hh, g, dr, t, os⟩ := s
  have L0 := exc_type (M := model prog w) e c
  have L1 := PySem.W.looks_findIn (M := model prog w) X k.ga
  have L2 := PySem.W.looks_findIn (M := model prog w) X k.hook
  have f3 := PySem.F.attr_ValueError.ga.bind (.ref x)
  unfold getAttr? getAttrBy? getAttrBy
  refine wpAny_bind (wpAny_mkText (wpAny_bind (wpAny_attempt (wpAny_holding (wpAny_bind (L0.at (wpAny_bind (L1.at ?_))))))))
  show wpAny _ _ (getAttrByItsOwn _ _ _ _ _ _) _ _ _
  unfold getAttrByItsOwn
  refine wpAny_bind (L2.at ?_)
  refine wpAny_bind (wpAny_attempt (wpAny_holding ?_))
  show wpAny _ _ (boundAndCalled _ _ _) _ _ _
  unfold boundAndCalled
  rw [f3]
  refine wpAny_bind (wpAny_pure ?_)
  refine wpAny_call (codeAny_call_builtin PySem.F.attr_ValueError.ga.plain PySem.F.entry_bexc_ga (exc_check (s := ⟨hh, g, dr, t + 1, os⟩) X k e c (exc_ga (s := ⟨hh, g, dr, t + 1, os⟩) X k e c ?_)))
  show wpAny _ _ (handedOut (.ref D)) _ _ _
  exact wpAny_mono (PySem.W.handed_on (E := fun _ _ => False) rfl (Q := fun v s' => v = .ref D ∧ s' = ⟨hh, g, dr, t + 1, os⟩) ⟨rfl, rfl⟩) (fun v s' ⟨e1, e2⟩ => by subst e1 e2; exact wpAny_pure h) (fun _ _ z => z.elim)
/-- isinstance's view of such an exception -/
theorem kitx_exc (k : ExcK K D) : PySem.W.KitX K (.ref x) (.ref D) (fun h => ∃ o, h.get? x = some o ∧ o.cls = .ref D) where
  ty := fun _ _ _ ⟨o, e, c⟩ => exc_type e c
  it := fun M h X _ => by
    have z := k.cls
    unfold PySem.W.clsIn at z
    split at z
    · rename_i c' d' cd' sl' ho
      intro A' Q' E' s' kk q
      unfold isType loadHead
      exact wpAny_bind (wpAny_loadPart (kk _ _ (X _ _ ho)) (wpAny_pure q))
    · exact absurd z (by simp)
  ne := fun h tp dd its n sl X htp => by
    rw [Bool.eq_false_iff]
    intro q
    have e : D = tp := Value.ref.inj (beq_iff_eq.mp q)
    have z := k.cls
    rw [e] at z
    unfold PySem.W.clsIn at z
    split at z
    · rename_i c' d' cd' sl' ho
      have u := (X _ _ ho).symm.trans htp
      cases u
    · exact absurd z (by simp)
  ca := fun X ⟨o, e, c⟩ h => exc_class X k e c h
end
section
variable {X : Cx}
/-- a class as a value -/
def clsV : V → Value
  | .ref a => .ref a
  | .ty c => .type c
  | _ => .none
/-- isinstance(e, c), c one class: e an exception at x of the class at D -/
def rIsiX (K : PySem.W.Frag) : List V → Hp → VK → Prop := fun xs H Q => ∃ (x D : Addr) (c : V) (b : Bool), xs = [.ref x, c] ∧ H x = some (ExcO x (.ref D)) ∧ ExcK K D ∧ PySem.W.kitOne K (.ref D) (clsV c) = some b ∧ Q (.bl b) H
theorem clsV_of {c : V} {u : Value} (r : RelV c u) (h : clsV c ≠ .none) : u = clsV c := by
  cases c <;> first | exact absurd rfl h | (cases r; rfl)
theorem call_isiX : CallR X (.builtin "isinstance") (rIsiX X.K) := by
  intro pins s σ H xs us Q I r h
  obtain ⟨x, D, c, b, rfl, hx, k, e, q⟩ := h
  obtain ⟨u, v, rfl, r1, r2⟩ := r.two
  cases r1
  have hv : v = clsV c := clsV_of r2 fun z => by rw [z] at e; cases e
  subst hv
  obtain ⟨⟨o, vs, h1, h2, _⟩, _⟩ := (show ObjOk X.prog X.w H s.heap x (ExcO x (.ref D)) from I.hok x _ hx)
  exact PySem.W.kia_one (kitx_exc k) I.kIn ⟨o, h1, h2⟩ e (fun z => nomatch z) fun tk => ⟨.bl b, H, I.tok tk, rfl, q⟩
/-- isinstance(e, (C, ..)) with classes of one's own -/
def rIsiXT (K : PySem.W.Frag) : List V → Hp → VK → Prop := fun xs H Q => ∃ (x D p : Addr) (cs : List Addr) (b : Bool), xs = [.ref x, .ref p] ∧ H x = some (ExcO x (.ref D)) ∧ ExcK K D ∧ SqT K H p (cs.map V.ref) ∧ PySem.W.kitAny K (.ref D) (cs.map Value.ref) = some b ∧ Q (.bl b) H
theorem vals_refs : ∀ (cs : List Addr) {us : List Value}, Vals (cs.map V.ref) us → us = cs.map Value.ref
  | [], _, r => by cases r; rfl
  | c :: cs, _, r => by
    cases r with
    | cons r1 r2 =>
      have e := vals_refs cs r2
      cases r1
      rw [e]
      rfl
theorem call_isiXT : CallR X (.builtin "isinstance") (rIsiXT X.K) := by
  intro pins s σ H xs us Q I r h
  obtain ⟨x, D, p, cs, b, rfl, hx, k, hp, e, q⟩ := h
  obtain ⟨u, v, rfl, r1, r2⟩ := r.two
  cases r1
  cases r2
  obtain ⟨its, rv, pt, _⟩ := I.tuple hp
  have ei := vals_refs cs rv
  subst ei
  obtain ⟨ot, t1, t2, n, t3⟩ := pt
  obtain ⟨⟨o, vs, h1, h2, _⟩, _⟩ := (show ObjOk X.prog X.w H s.heap x (ExcO x (.ref D)) from I.hok x _ hx)
  have ht : s.heap.get? p = some ⟨.type "tuple", ot.dict, .seq (cs.map Value.ref).toArray n, ot.slots⟩ := by
    rw [t1]
    cases ot with
    | mk c d da sl =>
      have t2' : c = .type "tuple" := t2
      have t3' : da = .seq (cs.map Value.ref).toArray n := t3
      rw [t2', t3']
  exact PySem.W.kia_tup (kitx_exc k) I.kIn ⟨o, h1, h2⟩ ht e (fun z => nomatch z) fun tk => ⟨.bl b, H, I.tok tk, rfl, q⟩
end
end L2
set_option Elab.async false
set_option linter.all false
set_option maxRecDepth 100000
set_option maxHeartbeats 4000000
namespace L2
open PySem PySem.Spec PyProof.Rows

/-! ### try .. except -/
section
variable {M : Model} {A : Around} {E : Value → Shared → Prop} {K : PySem.W.Frag} {x C D : Addr} {s : Shared} {Q : Bool → Shared → Prop} {b : Bool} {o : Obj}
theorem exc_matches (X : K.In s.heap) (hC : PySem.W.typeIn K (.ref C) = some (.type "type")) (hcl : (PySem.W.clsIn K C).isSome = true) (hb : PySem.W.mroIn K C (.type "BaseException") = some true) (hs : PySem.W.subIn K (.ref D) (.ref C) = some b)
    (e : s.heap.get? x = some o) (c : o.cls = .ref D) (q : Q b s) : wpAny M A (excMatches (.ref x) (.ref C)) Q E s := by
  have L0 := exc_type (M := M) e c
  have L1 := PySem.W.looks_typeIn (M := M) X hC
  have L2 := PySem.W.looks_mroIn (M := M) X hb
  have L3 := PySem.W.looks_subIn (M := M) X hs
  have L4 : PySem.W.Looks M s.heap (isType (.ref C)) true := by
    unfold PySem.W.clsIn at hcl
    split at hcl
    · rename_i c' d' cd' sl' ho
      intro A' Q' E' s' k q'
      unfold isType loadHead
      exact wpAny_bind (wpAny_loadPart (k _ _ (X _ _ ho)) (wpAny_pure q'))
    · exact absurd hcl (by simp)
  have f := tc_notTuple
  obtain ⟨hh, g, dr, t, os⟩ := s
  unfold excMatches isInstance isExcClass
  repeat (first | with_reducible refine PySem.W.Looks.at (by assumption) ?_ | wp_step)
  cases b <;> (repeat (first | with_reducible refine PySem.W.Looks.at (by assumption) ?_ | wp_step)) <;> exact q
end
/-- the context of an except suite -/
abbrev Cx.under (X : Cx) (x : Addr) : Cx := { X with A := X.A.mark (some (.ref x)), calm := false, xe := fun _ _ => False }
/-- the context of a try's body -/
abbrev Cx.tried (X : Cx) (E : Value → Shared → Prop) (pn : List (Addr × Obj)) : Cx := { X with xe := E, pn := pn }
section
variable {X : Cx} {pins : List (Addr × Obj)} {σ : St} {H : Hp} {s : Shared}
theorem Cx.Ok.under (ok : X.Ok) (x : Addr) : (X.under x).Ok := ⟨ok.mod, ok.kind, ok.glob, ok.blt, ok.above, ok.inj, ok.has, ok.cab, (fun z => nomatch z), ok.frames, ok.stk, ok.exf, ok.bs, ok.bsz, ok.noex, ok.exfs, ok.funs, ok.frf⟩
theorem Inv.under (I : Inv X pins σ H s) (x : Addr) : Inv (X.under x) pins σ H s := ⟨I.ok.under x, I.os, I.bare, I.base, I.loc, I.cell, I.free, I.freeC, I.pin, I.hok, I.len⟩
theorem Inv.ununder {x : Addr} (I : Inv (X.under x) pins σ H s) (ok : X.Ok) : Inv X pins σ H s := ⟨ok, I.os, I.bare, I.base, I.loc, I.cell, I.free, I.freeC, I.pin, I.hok, I.len⟩
theorem Cx.Ok.tried (ok : X.Ok) (E : Value → Shared → Prop) (pn : List (Addr × Obj)) : (X.tried E pn).Ok := ⟨ok.mod, ok.kind, ok.glob, ok.blt, ok.above, ok.inj, ok.has, ok.cab, ok.hd, ok.frames, ok.stk, ok.exf, ok.bs, ok.bsz, ok.noex, ok.exfs, ok.funs, ok.frf⟩
theorem Inv.tried (I : Inv X pins σ H s) (E : Value → Shared → Prop) : Inv (X.tried E (X.pn ++ pins)) [] σ H s :=
  ⟨I.ok.tried E _, I.os, I.bare, I.base, I.loc, I.cell, I.free, I.freeC, fun p hp => I.pin p (by simpa using hp), I.hok, I.len⟩
theorem Inv.untried {E : Value → Shared → Prop} {pl : List (Addr × Obj)} (I : Inv (X.tried E (X.pn ++ pins)) pl σ H s) (ok : X.Ok) : Inv X pins σ H s :=
  ⟨ok, I.os, I.bare, I.base, I.loc, I.cell, I.free, I.freeC, fun p hp => I.pin p (List.mem_append_left _ hp), I.hok, I.len⟩
/-- an object that was not there at the entry comes to be tracked -/
theorem Inv.track' {x : Addr} {o : HO} (I : Inv X pins σ H s) (h0 : H x = none) (h1 : x ≠ X.env.locals) (h2 : ∀ y c, X.env.cells.lookup y = some c → c ≠ x) (h3 : ∀ p ∈ X.pn ++ pins, p.1 ≠ x) (h4 : X.s₀.heap.get? x = none)
    (new : ObjOk X.prog X.w (upd H x o) s.heap x o) : Inv X pins σ (upd H x o) s := by
  have ne : ∀ b u, H b = some u → b ≠ x := fun b u e => ne_of_none e h0
  have up : ∀ b u, H b = some u → (upd H x o) b = some u := fun b u e => by rw [upd_ne (ne b u e)]; exact e
  refine ⟨I.ok, I.os, I.bare, ⟨I.base.keep, I.base.slot, fun b u e n hx => ?_, I.base.there, fun b xs e => up b _ (I.base.tups b xs e), fun b u xs e => up b _ (I.base.frzs b u xs e), fun b ps e => ?_⟩, I.loc, I.cell, ?_, fun y c e => ?_, fun p hp => ?_, fun b u e => ?_, I.len⟩
  · have hb : b ≠ x := fun z => by rw [z, h4] at e; cases e
    rw [upd_ne hb]
    exact I.base.free b u e n hx
  · obtain ⟨m, q⟩ := I.base.tbls b ps e
    exact ⟨m, up b _ q⟩
  · rw [upd_ne (Ne.symm h1)]; exact I.free
  · rw [upd_ne (h2 y c e)]; exact I.freeC y c e
  · obtain ⟨a, b, c, d, e⟩ := I.pin p hp
    exact ⟨a, by rw [upd_ne (h3 p hp)]; exact b, c, d, e⟩
  · by_cases hb : b = x
    · rw [hb, upd_same] at e
      cases e
      rw [hb]
      exact new
    · rw [upd_ne hb] at e
      exact (I.hok b u e).stay (fun _ _ _ q => q) (fun c q => up c _ q) fun c xs q => up c _ q
/-- a name is unbound -/
theorem unbind_ok {M : Model} {A : Around} {E : Value → Shared → Prop} {i : Nat} {n : Str} {pos : Pos} {Q : Unit → Shared → Prop} (I : Inv X pins σ H s) (hN : X.N.Nodup) (hi : X.N[i]? = some n) (hl : X.env.scope.names.lookup n = some .local)
    (h : ∀ s', Inv X pins (σ.set i none) H s' → Q () s') : wpAny M A (do bindName X.env n .none; unbindBehindTheSuite X.env n pos) Q E s := by
  obtain ⟨m, hn, hk⟩ := id I.loc
  have hcl : (X.env.scope.kind == .class || (X.env.scope.kind == .module && X.env.locals != X.env.globals)) = false := by rw [I.ok.kind]; rfl
  refine wpAny_nameGoes_keeps hl hn hcl fun h' v hn' hs => h _ ?_
  have old : ∀ b o, X.s₀.heap.get? b = some o → b ≠ X.env.locals := fun b o e => Nat.ne_of_lt (Nat.lt_of_lt_of_le (Heap.lt_size e) I.ok.above)
  obtain ⟨oL, _, _, hoL, _⟩ := id hn
  refine ⟨I.ok, I.os, I.bare, ⟨fun b o e n hb hx => ?_, fun b o e n hb hx => ?_, I.base.free, fun b o e hx => ?_, I.base.tups, I.base.frzs, I.base.tbls⟩, ⟨_, hn', fun j y w e1 e2 e3 => ?_⟩, fun y c e => ?_, I.free, I.freeC, fun p hp => ?_, ?_, ?_⟩
  · exact (hs.2 b (old b o e)).trans (I.base.keep b o e n hb hx)
  · obtain ⟨sl, q⟩ := I.base.slot b o e n hb hx
    exact ⟨sl, (hs.2 b (old b o e)).trans q⟩
  · obtain ⟨o', q⟩ := I.base.there b o e hx
    exact ⟨o', (hs.2 b (old b o e)).trans q⟩
  · have hj : j ≠ i := fun z => by
      rw [z] at e2
      have hlt : i < σ.length := by rw [I.len]; exact (List.getElem?_eq_some_iff.mp hi).1
      rw [List.getElem?_set_self hlt] at e2
      cases e2
    rw [List.getElem?_set_ne (Ne.symm hj)] at e2
    obtain ⟨u, r, l⟩ := hk j y w e1 e2 e3
    have hy : y ≠ n := fun z => hj (nodup_ix hN e1 (by rw [z]; exact hi))
    refine ⟨u, r, ?_⟩
    rcases l with ⟨k, e⟩ | ⟨k, c, e, z⟩
    · exact .inl ⟨k, (if_neg hy).trans e⟩
    · exact .inr ⟨k, c, e, z.sameBut hs (I.cne y c e)⟩
  · obtain ⟨w, z⟩ := I.cell y c e
    exact ⟨w, z.sameBut hs (I.cne y c e)⟩
  · obtain ⟨e, f, ne, nf, d⟩ := I.pin p hp
    exact ⟨(hs.2 p.1 ne).trans e, f, ne, nf, d⟩
  · refine I.hok.over fun b u o e q => (hs.2 b fun z => ?_).trans q
    rw [z, I.free] at e
    cases e
  · rw [List.length_set]; exact I.len

/-- the exception at x has come to this frame -/
def Landed (X : Cx) (pins : List (Addr × Obj)) (σ : St) (H : Hp) (x : Addr) (cls : Value) (s : Shared) : Prop := Inv X pins σ H s ∧ ∃ a0 B Hs ss, Inv X pins σ Hs ss ∧ Fly X.prog X.w X.stack Hs ss x cls a0 H B s
abbrev THd := Value → Ends → St → Hp → Prop
/-- the handlers of a try -/
def PH (X : Cx) (hs : List ExceptHandler) (t : THd) : Prop :=
  ∀ (pins : List (Addr × Obj)) (s : Shared) (σ : St) (H : Hp) (D : Ends) (x : Addr) (cls : Value), Landed X pins σ H x cls s → t cls D σ H → wpAny (model X.prog X.w) X.A (handleBy (.ref x) X.env hs) (SP X pins D) X.xe s
def hNone : THd := fun _ _ _ _ => False
theorem ph_nil : PH X [] hNone := fun _ _ _ _ _ _ _ _ h => h.elim
/-- the ends of a suite behind whose last row the name at i is gone -/
def Ends.gone (D : Ends) (i : Nat) : Ends := { nx := fun σ H => D.nx (σ.set i none) H, rt := D.rt, bk := fun σ H => D.bk (σ.set i none) H, ct := fun σ H => D.ct (σ.set i none) H }
/-- the class of a handler -/
structure HdK (K : PySem.W.Frag) (C : Addr) : Prop where
  ty : PySem.W.typeIn K (.ref C) = some (.type "type")
  cls : (PySem.W.clsIn K C).isSome = true
  exc : PySem.W.mroIn K C (.type "BaseException") = some true
def hAs (K : PySem.W.Frag) (C : Addr) (i : Nat) (th : TS) (rest : THd) : THd := fun cls D σ H => ∃ (G : Addr) (b : Bool), cls = .ref G ∧ PySem.W.subIn K (.ref G) (.ref C) = some b ∧
  if b = true then ∀ x, H x = none → th (D.gone i) (σ.set i (some (.ref x))) (upd H x (ExcO x cls)) else rest cls D σ H
theorem Landed.track {x : Addr} {cls : Value} (L : Landed X pins σ H x cls s) (hex : X.ex = []) : Inv X pins σ (upd H x (ExcO x cls)) s := by
  obtain ⟨I, a0, B, Hs, ss, Is, F⟩ := L
  obtain ⟨oe, vs, h1, h2, h3, _⟩ := F.fly.first
  refine I.track' F.new (fun z => ?_) (fun y c e z => ?_) (fun p hp z => ?_) ?_ ⟨⟨oe, vs, h1, h2, h3⟩, ⟨oe, h1⟩, fun k1 k2 ⟨o, ws, q1, q2, q3⟩ k => ⟨o, ws, k o q1, q2, q3⟩⟩
  · obtain ⟨m, ⟨o, es, ep, ho, hd, _⟩, _⟩ := I.loc
    rw [← z, h1] at ho
    cases ho
    rw [h3] at hd
    cases hd
  · obtain ⟨w, o, ho, hd⟩ := I.cell y c e
    rw [z, h1] at ho
    cases ho
    rw [h3] at hd
    cases hd
  · obtain ⟨e, _⟩ := Is.pin p hp
    rw [z, F.fresh] at e
    cases e
  · cases q : X.s₀.heap.get? x with
    | none => rfl
    | some o =>
      obtain ⟨o', e⟩ := Is.base.there x o q (by rw [hex]; simp)
      rw [F.fresh] at e
      cases e
theorem Landed.again {x : Addr} {cls : Value} {Q : Unit → Shared → Prop} {A : Around} {E : Value → Shared → Prop} {M : Model} (L : Landed X pins σ H x cls s) (h : ∀ s', Landed X pins σ H x cls s' → Q () s') : wpAny M A (setFlight (.ref x) none) Q E s := by
  obtain ⟨I, a0, B, Hs, ss, Is, F⟩ := L
  refine lands_againW F.fly fun h6 fl up => h _ ?_
  have F6 := F.move (t := s.toks) fl up
  exact ⟨Is.call' F6.os F6.un F6.hok' F6.bare (fun b z => nomatch z), a0, B, Hs, ss, Is, F6⟩
end
end L2
set_option Elab.async false
set_option linter.all false
set_option maxRecDepth 100000
set_option maxHeartbeats 4000000
namespace L2
open PySem PySem.Spec PyProof.Rows
section
variable {X : Cx} {c n : Str} {C : Addr} {i : Nat} {np pos : Pos} {b₀ : Stmt} {suite : List Stmt} {rest : List ExceptHandler} {th : TS} {tr : THd}
theorem SP.ununder {x : Addr} {pins : List (Addr × Obj)} {D : Ends} {f : Flow} {s : Shared} (h : SP (X.under x) pins D f s) (ok : X.Ok) : SP X pins D f s := by
  cases f with
  | next => obtain ⟨σ, H, I, q⟩ := h; exact ⟨σ, H, I.ununder ok, q⟩
  | brk => obtain ⟨σ, H, I, q⟩ := h; exact ⟨σ, H, I.ununder ok, q⟩
  | cont => obtain ⟨σ, H, I, q⟩ := h; exact ⟨σ, H, I.ununder ok, q⟩
  | ret u => obtain ⟨v, σ, H, I, r, q⟩ := h; exact ⟨v, σ, H, I.ununder ok, r, q⟩
/-- except C as n: .. -/
theorem ph_as (hg : Gl X c) (hm : X.mg c = some (.ref C)) (k : HdK X.K C) (hex : X.ex = []) (hN : X.N.Nodup) (hi : X.N[i]? = some n) (hl : X.env.scope.names.lookup n = some .local) (hb : ∀ x, PSs (X.under x) (b₀ :: suite) th) (hr : PH X rest tr)
    (hd : (c == ("__debug__" : Str)) = false := by decide) : PH X (.ExceptHandler (some (.Name c np)) (some n) (b₀ :: suite) pos :: rest) (hAs X.K C i th tr) := by
  intro pins s σ H D x cls L h
  obtain ⟨G, b, rfl, hs, h⟩ := h
  obtain ⟨I, a0, B, Hs, ss, Is, F⟩ := id L
  obtain ⟨ob, hob, hoc⟩ := F.fly.there
  refine wpAny_handleBy_cons (codeAny_handlers_test (ld_glob (X := X.under x) (I.under x) hg hm ?_ hd)) (fun q => nomatch q)
  refine exc_matches I.kIn k.ty k.cls k.exc hs hob hoc ?_
  cases b with
  | false => exact hr pins s σ H D x _ L h
  | true =>
    refine codeAny_handlers_suite_as (L.again fun s6 L6 => ?_)
    refine store_ok (X := X.under x) ((L6.track hex).under x) hN hi (.inl hl) (v := .ref x) rfl (fun s8 I8 => ?_) (.inr hl)
    refine wpAny_mono (hb x pins s8 _ _ _ I8 (h x F.new)) (fun f s9 q => ?_) (fun _ _ z => z.elim)
    have q' := SP.ununder q I.ok
    show wpAny _ _ (do bindName X.env n .none; unbindBehindTheSuite X.env n pos) _ _ _
    cases f with
    | next =>
      obtain ⟨σ', H', I', q⟩ := q'
      exact unbind_ok I' hN hi hl fun s' J => ⟨_, _, J, q⟩
    | brk =>
      obtain ⟨σ', H', I', q⟩ := q'
      exact unbind_ok I' hN hi hl fun s' J => ⟨_, _, J, q⟩
    | cont =>
      obtain ⟨σ', H', I', q⟩ := q'
      exact unbind_ok I' hN hi hl fun s' J => ⟨_, _, J, q⟩
    | ret u =>
      obtain ⟨v, σ', H', I', r, q⟩ := q'
      exact unbind_ok I' hN hi hl fun s' J => ⟨v, _, _, J, r, q⟩
/-- try: body, without else and finally; Z: what is wanted of an exception of the body, by the names' values at its call -/
def tTry (tb : (St → XK) → TS) (th : THd) : TS := fun D σ H => tb (fun σ' cls _ H' => th cls D σ' H') D σ H
theorem ps_try {body : List Stmt} {h₀ : ExceptHandler} {hs : List ExceptHandler} {tb : (St → XK) → TS} {th : THd} (hst : X.stack = X.env :: X.outer) (hfr : X.env.frame = some X.env.locals)
    (hb : ∀ (Z : St → XK) (E : Value → Shared → Prop) (pn : List (Addr × Obj)), Acc (X.tried E pn) Z → PSs (X.tried E pn) body (tb Z)) (hh : PH X (h₀ :: hs) th) : PS X (.Try body (h₀ :: hs) [] [] pos) (tTry tb th) := by
  intro pins s σ H D I h
  have sp : ∀ {E : Value → Shared → Prop} {f : Flow} {s1 : Shared}, SP (X.tried E (X.pn ++ pins)) [] D f s1 → SP X pins D f s1 := fun {E f s1} q => by
    cases f with
    | next => obtain ⟨σ, H, J, q⟩ := q; exact ⟨σ, H, J.untried I.ok, q⟩
    | brk => obtain ⟨σ, H, J, q⟩ := q; exact ⟨σ, H, J.untried I.ok, q⟩
    | cont => obtain ⟨σ, H, J, q⟩ := q; exact ⟨σ, H, J.untried I.ok, q⟩
    | ret u => obtain ⟨v, σ, H, J, r, q⟩ := q; exact ⟨v, σ, H, J.untried I.ok, r, q⟩
  refine wpAny_Try_except (wpAny_mono (hb (fun σ' cls _ H' => th cls D σ' H') _ (X.pn ++ pins) ?_ [] s σ H D (I.tried _) h) (fun f s1 q => ?_) fun _ _ z => z)
  · intro pl σ2 H2 s2 e s3 J hx
    obtain ⟨x, cls, a0, H', B, rfl, F, q⟩ := hx
    have J2 := J.untried I.ok
    have F' : Fly X.prog X.w (X.env :: X.outer) H2 s2 x cls a0 H' B s3 := by rw [← hst]; exact F
    have fr : X.A.frames = some (X.env :: X.outer) := by rw [← hst]; exact I.ok.frames
    show wpAny _ _ (noteFrame (.ref x) X.env) _ _ _
    refine wpAny_looks_onW fr hfr F'.fly fun h4 held up4 => ?_
    refine wpAny_landsW held fun h5 fl up5 => ?_
    have F5 : Fly X.prog X.w X.stack H2 s2 x cls a0 H' B { s3 with heap := h5 } := by
      rw [hst]
      exact F'.move (t := s3.toks) fl (up4.trans up5)
    exact hh pins _ σ2 H' D x cls ⟨J2.call' F5.os F5.un F5.hok' F5.bare (fun b z => nomatch z), a0, B, H2, s2, J2, F5⟩ q
  · have q' := sp q
    cases f with
    | next => exact wpAny_execs_nil q'
    | brk => exact q'
    | cont => exact q'
    | ret u => exact q'
end
end L2
set_option Elab.async false
set_option linter.all false
set_option maxRecDepth 100000
set_option maxHeartbeats 4000000
namespace L2
open PySem PySem.Spec PyProof.Rows
theorem boot_ValueError : bootBuiltins "ValueError" = some (.type "ValueError") := PyProof.Rows.Boot.«ValueError»
theorem passX0 {X : Cx} : Passes (CXx X.prog X.w) X E0 := fun _ _ _ _ _ _ _ h => by
  obtain ⟨_, _, _, _, _, _, _, z⟩ := h
  exact z.elim
theorem cls_of_dict {K : PySem.W.Frag} {D : Addr} (h : PySem.W.hasDictIn K D = true) : (PySem.W.clsIn K D).isSome = true := by
  unfold PySem.W.hasDictIn at h
  cases q : PySem.W.clsIn K D with
  | none => rw [q] at h; exact absurd h (by simp)
  | some z => rfl
section
variable {X : Cx} {K : PySem.W.Frag}
theorem call_isiXK (h : X.K = K) : CallR X (.builtin "isinstance") (rIsiX K) := h ▸ call_isiX
theorem call_isiXTK (h : X.K = K) : CallR X (.builtin "isinstance") (rIsiXT K) := h ▸ call_isiXT
end
/-! ### sum of a list of ints -/
section
variable {X : Cx}
end
/-! ### a comprehension over a list -/
end L2
set_option Elab.async false
set_option linter.all false
set_option maxRecDepth 100000
set_option maxHeartbeats 4000000
namespace L2
open PySem PySem.Spec PyProof.Rows
section
variable {X : Cx} {K : PySem.W.Frag}
end
/-! ### a comprehension over a list, with a test -/
end L2
set_option Elab.async false
set_option linter.all false
set_option maxRecDepth 100000
set_option maxHeartbeats 4000000
namespace L2
open PySem PySem.Spec PyProof.Rows
section
variable {X : Cx}
/-- an item that is no starred one -/
def plainE : Expr → Bool
  | .Starred _ _ => false
  | _ => true
theorem star_plain {e : Expr} {es : List Expr} {env : Env} (h : plainE e = true) : starEach (e :: es) env = (false, eval e env) :: starEach es env := by
  cases e with
  | Starred _ _ => cases h
  | _ => rfl
theorem pa_consP {e : Expr} {es : List Expr} {te : TE} {t : TA} (ha : PE X e te) (hr : PA X es t) (h : plainE e = true := by rfl) : PA X (e :: es) (tCons te t) := pa_cons ha hr (star_plain h)
end
end L2
set_option Elab.async false
set_option linter.all false
set_option maxRecDepth 100000
set_option maxHeartbeats 4000000
namespace L2
open PySem PySem.Spec PyProof.Rows
section
variable {X : Cx} {K : PySem.W.Frag}
end
end L2
set_option Elab.async false
set_option linter.all false
set_option maxRecDepth 100000
set_option maxHeartbeats 4000000
namespace L2
open PySem PySem.Spec PyProof.Rows
theorem hu1 {A : Around} {k : Nat} (hr : Room k A) : A.units + 1 < cLine := by
  have := hr.units
  omega
theorem vals_of_get : ∀ {xs : List V} {us : List Value}, xs.length = us.length → (∀ (i : Nat) x u, xs[i]? = some x → us[i]? = some u → RelV x u) → Vals xs us
  | [], [], _, _ => .nil
  | [], _ :: _, h, _ => by cases h
  | _ :: _, [], h, _ => by cases h
  | x :: xs, u :: us, h, g => .cons (g 0 x u rfl rfl) (vals_of_get (by simpa using h) fun i y v h1 h2 => g (i + 1) y v (by simpa using h1) (by simpa using h2))
section
variable {X : Cx}
end
end L2
set_option Elab.async false
set_option linter.all false
set_option maxRecDepth 100000
set_option maxHeartbeats 4000000
namespace L2
open PySem PySem.Spec PyProof.Rows
/-! ### min and max of a list with a default -/
section
variable {prog : Program} {w : World} {A : Around} {E : Value → Shared → Prop} {s : Shared}
end
section
variable {X : Cx} {id : String} {x : Str} {p pos : Pos} {e : Expr} {es : List Expr} {kws : List Keyword} {t tk : TA} {r : List V → List V → Hp → VK → Prop} {ks : List Str}
end

section
variable {prog : Program} {w : World} {A : Around} {R : Result → Shared → Prop} {J Z : Addr} {fp wr : List Addr} {n : Nat} {P : Nat → Value → Prop} {St : Nat → Heap → Prop}
end
section
variable {prog : Program} {w : World} {A : Around} {E : Value → Shared → Prop} {s : Shared}
end
section
variable {X : Cx}
end

section
variable {prog : Program} {w : World} {A : Around} {R : Result → Shared → Prop} {J Z : Addr} {fp wr : List Addr} {n : Nat} {P : Nat → Value → Prop} {St : Nat → Heap → Prop}
end
section
variable {prog : Program} {w : World} {A : Around} {E : Value → Shared → Prop} {s : Shared}
end
section
variable {X : Cx}
end

section
variable {X : Cx}
open PySem.SeqAt in
theorem op_neT (hu : X.A.units + 64 < cLine) : OpR X (compareOp .NotEq) (fun x y H Q => tupsTold X.K x y H ∧ Q (.bl false) H) := by
  intro pins s σ H x y v u Q I rx ry h
  obtain ⟨⟨n, a, b, xs, ys, ds, hn, rfl, rfl, h1, h2, h3, h4⟩, q⟩ := h
  cases rx
  cases ry
  obtain ⟨its, rv, p, _⟩ := I.tuple h1
  obtain ⟨its', rv', p', _⟩ := I.tuple h2
  obtain ⟨k1, k2⟩ := told_items I (A := X.A) (n := n) (by omega) h3 h4 rv rv'
  refine (RcNeAt.tuples (e := fun _ => true) (show s.heap.IsTuple a its.toArray from p) (show s.heap.IsTuple b its'.toArray from p') (by omega) k2) X.prog X.w _ _ ?_
  have e : (!((List.range (min its.toArray.size its'.toArray.size)).all (fun _ => true) && its.toArray.size == its'.toArray.size)) = false := by
    rw [k1]; simp
  rw [e]
  exact ⟨.bl false, H, I, rfl, q⟩
end
end L2
set_option Elab.async false
set_option linter.all false
set_option maxRecDepth 100000
set_option maxHeartbeats 4000000
namespace L2
open PySem PySem.Spec PyProof.Rows
/-! ### methods of own classes, with their promises -/
structure MCal (P : Program) (w : World) (K : PySem.W.Frag) (mg : Str → Option Value) (base : Heap) (C : Addr) (k : Nat) (m : Str) (ps : List Str) (sp : Sp) where
  f : Addr
  fd : FuncData
  ok : FnOk P w K mg base CX0 k f fd ps sp
  b : Binds K fd ps []
  mt : Meth K C m f
/-- one that may raise -/
structure MCalX (P : Program) (w : World) (K : PySem.W.Frag) (mg : Str → Option Value) (base : Heap) (C : Addr) (k : Nat) (m : Str) (ps : List Str) (sp : Sp) where
  f : Addr
  fd : FuncData
  ok : FnOk P w K mg base (CXx P w) k f fd ps sp
  b : Binds K fd ps []
  mt : Meth K C m f
/-- a class that is made -/
structure MkCal (P : Program) (w : World) (K : PySem.W.Frag) (mg : Str → Option Value) (base : Heap) (C : Addr) (k : Nat) (x : Str) (ps : List Str) (sp : Sp) where
  f : Addr
  fd : FuncData
  ok : FnOk P w K mg base CX0 k f fd ps sp
  b : Binds K fd ps []
  mkd : Mk K C f
  mg : mg x = some (.ref C)
section
variable {X : Cx} {k : Nat} {m : Str} {C : Addr} {ps : List Str} {sp : Sp} {apos pos : Pos} {o e : Expr} {es : List Expr} {ta : TE} {t : TA}
end
end L2
set_option Elab.async false
set_option linter.all false
set_option maxRecDepth 100000
set_option maxHeartbeats 4000000
namespace L2
open PySem PySem.Spec PyProof.Rows
section
variable {X : Cx}
end
end L2
set_option Elab.async false
set_option linter.all false
set_option maxRecDepth 100000
set_option maxHeartbeats 4000000
namespace L2
open PySem PySem.Spec PyProof.Rows
/-! ### == of lists of tuples (or of lists) of ints, whatever the answer -/
theorem all_eq {α : Type} [DecidableEq α] {xs ys : List α} (d : α) (h : xs.length = ys.length) : ((List.range xs.length).all fun j => decide (xs.getD j d = ys.getD j d)) = decide (xs = ys) := by
  rw [Bool.eq_iff_iff, List.all_eq_true, decide_eq_true_iff]
  constructor
  · intro g
    refine List.ext_getElem h fun i h1 h2 => ?_
    have := of_decide_eq_true (g i (List.mem_range.mpr h1))
    rw [List.getD_eq_getElem?_getD, List.getD_eq_getElem?_getD, List.getElem?_eq_getElem h1, List.getElem?_eq_getElem h2] at this
    exact this
  · rintro rfl i _
    exact decide_eq_true rfl
theorem isList_uniq {h : Heap} {a : Addr} {x y : Array Value} (h1 : h.IsList a x) (h2 : h.IsList a y) : x = y := by
  obtain ⟨o, e1, _, n, d1⟩ := h1
  obtain ⟨o', e2, _, n', d2⟩ := h2
  rw [e1] at e2
  cases e2
  rw [d1] at d2
  injection d2
section
variable {X : Cx} {pins : List (Addr × Obj)} {σ : St} {H : Hp} {s : Shared}
open PySem.SeqAt in
/-- None and a list are not equal -/
theorem op_eqNL (hu : X.A.units + 64 < cLine) : OpR X (compareOp .Eq) (fun x y H Q => ((x = .non ∧ ∃ b ws, y = .ref b ∧ SqL X.K H b ws) ∨ (y = .non ∧ ∃ a vs, x = .ref a ∧ SqL X.K H a vs)) ∧ Q (.bl false) H) := by
  intro pins s σ H x y v u Q I rx ry h
  obtain ⟨h, q⟩ := h
  rcases h with ⟨rfl, b, ws, rfl, h2⟩ | ⟨rfl, a, vs, rfl, h1⟩
  · cases rx
    cases ry
    obtain ⟨its, rv, p, _⟩ := I.list h2
    exact RcAt.none_list p.isList (by omega) X.prog X.w _ _ ⟨.bl false, H, I, rfl, q⟩
  · cases rx
    cases ry
    obtain ⟨its, rv, p, _⟩ := I.list h1
    exact RcAt.list_none p.isList (by omega) X.prog X.w _ _ ⟨.bl false, H, I, rfl, q⟩
end
end L2
set_option Elab.async false
set_option linter.all false
set_option maxRecDepth 100000
set_option maxHeartbeats 4000000
namespace L2
open PySem PySem.Spec PyProof.Rows
/-! ### lists by their length (smaller than a match of each def's own) -/
theorem lenE1 : ∀ {us : List Value}, us.length = 1 → ∃ a, us = [a]
  | [a], _ => ⟨a, rfl⟩
theorem lenE2 : ∀ {us : List Value}, us.length = 2 → ∃ a b, us = [a, b]
  | [a, b], _ => ⟨a, b, rfl⟩
theorem lenE3 : ∀ {us : List Value}, us.length = 3 → ∃ a b c, us = [a, b, c]
  | [a, b, c], _ => ⟨a, b, c, rfl⟩
theorem lenE4 : ∀ {us : List Value}, us.length = 4 → ∃ a b c d, us = [a, b, c, d]
  | [a, b, c, d], _ => ⟨a, b, c, d, rfl⟩
theorem lenE6 : ∀ {us : List Value}, us.length = 6 → ∃ a b c d e f, us = [a, b, c, d, e, f]
  | [a, b, c, d, e, f], _ => ⟨a, b, c, d, e, f, rfl⟩
/-! ### any of a list of bools -/
section
variable {X : Cx} {K : PySem.W.Frag}
/-- pe_comp by way of comp_core (which ps_setComp wants too): the smaller text -/
theorem pe_compS {elt iter : Expr} {x : Str} {px : Pos} {ifs : List Expr} {scope : Scope} {pos : Pos} {wi : TI} {tt : TT} {te : TE} (F : List Str) (fr : List Nat) (hc : X.calm = true) (hi : PI X (.Name x px) iter wi)
    (ht : ∀ s3 H3 ex, PTs (compCx X (x :: F) scope s3 H3 ex) ifs tt) (he : ∀ s3 H3 ex, PE (compCx X (x :: F) scope s3 H3 ex) elt te)
    (hk : compChk X.env.scope X.N scope x F fr = true := by rfl) (hs : ∀ x, foldedSetIterable iter X.env x = pure x := by intro _; rfl) :
    PE X (.ListComp elt [⟨.Name x px, iter, ifs, 0⟩] scope pos) (tComp wi fr tt te) := by
  intro pins s σ H Q I h
  rw [eval_ListComp]
  refine comp_core (use := none) F fr hc hi ht he I h hk hs fun s5 H5 D C m IT hm hC q => ?_
  obtain ⟨c0, c1, c2, c3, c4, c5⟩ := hC
  refine ⟨m, hm, fun h' hs' => ?_⟩
  exact ⟨.ref D, H5, IT.turned (t' := s5.toks) (it := C) (fun b o hb e => (hs'.2 b hb).trans e) c0 c1 c3 c4 c5, rfl, q⟩
end
end L2
set_option Elab.async false
set_option linter.all false
set_option maxRecDepth 100000
set_option maxHeartbeats 4000000
namespace L2
open PySem PySem.Spec PyProof.Rows
/-! ### a def (or method) with defaults, of which all parameters are given -/
structure FunD (K : PySem.W.Frag) (x qual : Str) (st : Stmt) (f : Addr) (fd : FuncData) : Prop where
  ex : ∃ (oc : Value) (od : Option Addr) (dV kV doc pm : Value) (an : Option Addr) (cdv ct : Value) (osl : Array (Option Value)),
    fd = PySem.W.fnOf x qual (defArgs st) (defBody st) (defScope st) dV kV doc pm an cdv ct ∧ K.lookup f = some ⟨oc, od, .func fd, osl⟩ ∧ PySem.W.codeIn K cdv qual = true
  kp : PySem.W.keepIn K (.ref f) = true
section
variable {P : Program} {w : World} {K : PySem.W.Frag} {mg : Str → Option Value} {base : Heap}
theorem FunD.okX {x qual : Str} {st : Stmt} {f : Addr} {fd : FuncData} {N ps : List Str} {k : Nat} {sp : Sp} (F : FunD K x qual st f fd) (S : FnScope N ps (defScope st)) (len : ∀ vs H Q E, sp vs H Q E → vs.length = ps.length)
    (hb : ∀ (cdv : Value) (A : Around) (outer : List Env) (s : Shared) (H : Hp) (vs : List V) (Q : VK) (E : XK), Room k (A.deeper (envOfC qual (defScope st) s.heap.objs.size f cdv)) → sp vs H Q E →
      ∃ t, PSs (cxOf (CXx P w) P w K mg base N qual (defScope st) f cdv A outer s H E) (defBody st) t ∧ t { nx := fun _ H' => Q .non H', rt := Q } (start N vs) H) : FnOk P w K mg base (CXx P w) (k + 1) f fd ps sp := by
  obtain ⟨oc, od, dV, kV, doc, pm, an, cdv, ct, osl, rfl, lk, hcd⟩ := F.ex
  exact fn_of lk hcd S len fun A outer s H vs Q E hr hsp => hb cdv A outer s H vs Q E hr hsp
theorem fun_mkD {x qual : Str} {st : Stmt} {f : Addr} {oc : Value} {od an : Option Addr} {osl : Array (Option Value)} {dV kV doc pm cdv ct : Value} (l : K.lookup f = some ⟨oc, od, .func (PySem.W.fnOf x qual (defArgs st) (defBody st) (defScope st) dV kV doc pm an cdv ct), osl⟩)
    (c : PySem.W.codeIn K cdv qual = true) (k : PySem.W.keepIn K (.ref f) = true) : FunD K x qual st f (PySem.W.fnOf x qual (defArgs st) (defBody st) (defScope st) dV kV doc pm an cdv ct) := ⟨⟨oc, od, dV, kV, doc, pm, an, cdv, ct, osl, rfl, l, c⟩, k⟩
end
end L2
set_option Elab.async false
set_option linter.all false
set_option maxRecDepth 100000
set_option maxHeartbeats 4000000
namespace L2
open PySem PySem.W PyProof.Rows
/-! ### the library's tree of questions that sorts, asked of an order: what comes out is in order -/
section
variable {lt : Nat → Nat → Bool}
end
end L2
set_option Elab.async false
set_option linter.all false
set_option maxRecDepth 100000
set_option maxHeartbeats 4000000
namespace L2
open PySem PySem.W PyProof.Rows
/-! ### what the sorting tree asks lies within the list -/
section
variable {n : Nat} (h0 : 0 < n)
include h0
end
/-! ### pairs of ints, in order -/
section
variable {prog : Program} {w : World} {A : Around} {E : Value → Shared → Prop} {s : Shared}
end
section
variable {X : Cx}
end
end L2
namespace L2
open PySem PySem.Spec PyProof.Rows

/-! ### lists of pairs as tables -/
section
variable {κ : Type} [DecidableEq κ]
def valV (kvs : List (κ × V)) (k : κ) : Option V := (kvs.find? fun kv => decide (kv.1 = k)).map (·.2)
/-- in its place, or at the end -/
def putK (kvs : List (κ × V)) (k : κ) (v : V) : List (κ × V) :=
  if (kvs.any fun kv => decide (kv.1 = k)) = true then kvs.map (fun kv => if kv.1 = k then (kv.1, v) else kv) else kvs ++ [(k, v)]
def dropK (kvs : List (κ × V)) (k : κ) : List (κ × V) := kvs.filter fun kv => decide (kv.1 ≠ k)

theorem valV_pos {p : κ × V} {r : List (κ × V)} {k : κ} (e : p.1 = k) : valV (p :: r) k = some p.2 := by simp [valV, List.find?_cons, e]
theorem valV_neg {p : κ × V} {r : List (κ × V)} {k : κ} (e : ¬ p.1 = k) : valV (p :: r) k = valV r k := by simp [valV, List.find?_cons, e]
theorem valV_any (k : κ) : ∀ kvs : List (κ × V), (kvs.any fun kv => decide (kv.1 = k)) = (valV kvs k).isSome
  | [] => rfl
  | p :: r => by
    rw [List.any_cons]
    by_cases e : p.1 = k
    · simp only [valV_pos e, decide_eq_true e, Bool.true_or, Option.isSome_some]
    · rw [valV_neg e, decide_eq_false e, Bool.false_or]; exact valV_any k r
theorem length_putK (kvs : List (κ × V)) (k : κ) (v : V) : (putK kvs k v).length ≤ kvs.length + 1 := by
  unfold putK
  split
  · rw [List.length_map]; omega
  · rw [List.length_append, List.length_cons, List.length_nil]; omega
theorem putK_new {kvs : List (κ × V)} {k : κ} (v : V) (h : valV kvs k = none) : putK kvs k v = kvs ++ [(k, v)] := by
  unfold putK
  rw [valV_any, h]
  exact if_neg (by decide)

theorem RelO.isSome_eq {o : Option V} {u : Option Value} (r : RelO o u) : o.isSome = u.isSome := by
  cases o with
  | none => cases u with
    | none => rfl
    | some _ => exact (show False from r).elim
  | some _ => cases u with
    | none => exact (show False from r).elim
    | some _ => rfl
/-- raw tables of the same keys -/
theorem KV.val {kvs : List (κ × V)} {vs : List (κ × Value)} (r : KV kvs vs) (k : κ) : RelO (valV kvs k) (valueAt vs k) := by
  unfold KV at r
  induction r with
  | nil => exact True.intro
  | @cons p q ps qs h t ih =>
    obtain ⟨h1, h2⟩ := h
    by_cases e : p.1 = k
    · have e' : q.1 = k := h1.symm.trans e
      have b : valueAt (q :: qs) k = some q.2 := by simp [valueAt, List.find?_cons, e']
      rw [valV_pos e, b]; exact h2
    · have e' : ¬ q.1 = k := fun z => e (h1.trans z)
      have b : valueAt (q :: qs) k = valueAt qs k := by simp [valueAt, List.find?_cons, e']
      rw [valV_neg e, b]; exact ih
theorem KV.any {kvs : List (κ × V)} {vs : List (κ × Value)} (r : KV kvs vs) (k : κ) : (kvs.any fun kv => decide (kv.1 = k)) = vs.any fun kv => decide (kv.1 = k) := by
  unfold KV at r
  induction r with
  | nil => rfl
  | cons h t ih => rw [List.any_cons, List.any_cons, ih, h.1]
theorem KV.repl {kvs : List (κ × V)} {vs : List (κ × Value)} (r : KV kvs vs) (k : κ) {y : V} {u : Value} (ry : RelV y u) :
    KV (kvs.map fun kv => if kv.1 = k then (kv.1, y) else kv) (vs.map fun kv => if kv.1 = k then (kv.1, u) else kv) := by
  unfold KV at r ⊢
  induction r with
  | nil => exact .nil
  | @cons p q ps qs h t ih =>
    rw [List.map_cons, List.map_cons]
    refine .cons ?_ ih
    obtain ⟨h1, h2⟩ := h
    by_cases e : p.1 = k
    · rw [if_pos e, if_pos (h1.symm.trans e)]; exact ⟨h1, ry⟩
    · rw [if_neg e, if_neg (fun z => e (h1.trans z))]; exact ⟨h1, h2⟩
theorem KV.put {kvs : List (κ × V)} {vs : List (κ × Value)} (r : KV kvs vs) (k : κ) {y : V} {u : Value} (ry : RelV y u) : KV (putK kvs k y) (stored vs k u) := by
  unfold putK stored
  rw [r.any k]
  by_cases e : (vs.any fun kv => decide (kv.1 = k)) = true
  · rw [if_pos e, if_pos e]; exact r.repl k ry
  · rw [if_neg e, if_neg e]; exact Paired.snoc r ⟨rfl, ry⟩
theorem KV.drop {kvs : List (κ × V)} {vs : List (κ × Value)} (r : KV kvs vs) (k : κ) : KV (dropK kvs k) (without vs k) := by
  unfold KV at r ⊢
  unfold dropK without
  induction r with
  | nil => exact .nil
  | @cons p q ps qs h t ih =>
    obtain ⟨h1, h2⟩ := h
    rw [List.filter_cons, List.filter_cons]
    by_cases e : p.1 = k
    · have a : ¬ decide (p.1 ≠ k) = true := by simp [e]
      have b : ¬ decide (q.1 ≠ k) = true := by simp [h1.symm.trans e]
      rw [if_neg a, if_neg b]; exact ih
    · have e' : ¬ q.1 = k := fun z => e (h1.trans z)
      have a : decide (p.1 ≠ k) = true := by simp [e]
      have b : decide (q.1 ≠ k) = true := by simp [e']
      rw [if_pos a, if_pos b]; exact .cons ⟨h1, h2⟩ ih
theorem KV.length {kvs : List (κ × V)} {vs : List (κ × Value)} (r : KV kvs vs) : kvs.length = vs.length := Paired.length r
theorem dropK_le (kvs : List (κ × V)) (k : κ) : (dropK kvs k).length ≤ kvs.length := List.length_filter_le _ _
end


/-! ### a tracked dict, its keys ints and texts or tuples of these -/
theorem kV_is {P : Program} {w : World} {k : Key} {u : Value} (r : RelV (kV k) u) : (mixKind P w).is k u = true := by
  cases k with
  | inl i => obtain ⟨t, e⟩ := (show ∃ t, u = Value.int i t from r); subst e; exact mixKind_int P w i t
  | inr x => obtain ⟨t, e⟩ := (show ∃ t, u = Value.str x t from r); subst e; exact mixKind_str P w x t
theorem items_are {P : Program} {w : World} : ∀ {ks : List Key} {us : List Value}, Vals (ks.map kV) us → ItemsAre (mixKind P w) ks us
  | [], _, r => by rw [List.map_nil] at r; cases r; exact .nil
  | k :: ks, _, r => by
    rw [List.map_cons] at r
    cases r with
    | cons h t => exact .cons (kV_is h) (items_are t)

/-- raw entries of a dict with tuple keys -/
abbrev KT (H : Hp) : List (List Key × V) → List (List Key × Addr × Value) → Prop := Paired fun p q => p.1 = q.1 ∧ H q.2.1 = some (.tup (p.1.map kV)) ∧ RelV p.2 q.2.2
theorem KT.val {H : Hp} {kvs : List (List Key × V)} {xs : List (List Key × Addr × Value)} (r : KT H kvs xs) (k : List Key) : RelO (valV kvs k) ((atKey xs k).map (·.2)) := by
  induction r with
  | nil => exact True.intro
  | @cons p q ps qs h t ih =>
    obtain ⟨h1, _, h2⟩ := h
    by_cases e : p.1 = k
    · have e' : q.1 = k := h1.symm.trans e
      have b : atKey (q :: qs) k = some q.2 := by simp [atKey, List.find?_cons, e']
      rw [valV_pos e, b]; exact h2
    · have e' : ¬ q.1 = k := fun z => e (h1.trans z)
      have b : atKey (q :: qs) k = atKey qs k := by simp [atKey, List.find?_cons, e']
      rw [valV_neg e, b]; exact ih
theorem KT.repl {H : Hp} {kvs : List (List Key × V)} {xs : List (List Key × Addr × Value)} (r : KT H kvs xs) (k : List Key) {y : V} {u : Value} (ry : RelV y u) :
    KT H (kvs.map fun kv => if kv.1 = k then (kv.1, y) else kv) (xs.map (putAt k u)) := by
  induction r with
  | nil => exact .nil
  | @cons p q ps qs h t ih =>
    rw [List.map_cons, List.map_cons]
    refine .cons ?_ ih
    obtain ⟨h1, h2, h3⟩ := h
    unfold putAt
    by_cases e : p.1 = k
    · rw [if_pos e, if_pos (h1.symm.trans e)]; exact ⟨h1, h2, ry⟩
    · rw [if_neg e, if_neg (fun z => e (h1.trans z))]; exact ⟨h1, h2, h3⟩
theorem KT.put {H : Hp} {kvs : List (List Key × V)} {xs : List (List Key × Addr × Value)} (r : KT H kvs xs) (k : List Key) {b : Addr} {y : V} {u : Value} (hb : H b = some (.tup (k.map kV))) (ry : RelV y u) :
    KT H (putK kvs k y) (storedH xs k b u) := by
  have e : (kvs.any fun kv => decide (kv.1 = k)) = (atKey xs k).isSome := by
    rw [valV_any, (r.val k).isSome_eq, Option.isSome_map]
  unfold putK storedH
  rw [e]
  by_cases q : (atKey xs k).isSome = true
  · rw [if_pos q, if_pos q]; exact r.repl k ry
  · rw [if_neg q, if_neg q]; exact Paired.snoc r ⟨rfl, hb, ry⟩
theorem KT.keeps {H H' : Hp} {kvs : List (List Key × V)} {xs : List (List Key × Addr × Value)} (r : KT H kvs xs) (ht : ∀ b ys, H b = some (.tup ys) → H' b = some (.tup ys)) : KT H' kvs xs :=
  Paired.mapP r fun _ _ z => ⟨z.1, ht _ _ z.2.1, z.2.2⟩

section
variable {P : Program} {w : World} {H : Hp} {h : Heap} {a : Addr}
theorem rd_of {u : HO} (ok : HOk P w H h) (e : Rd H a u) : ObjOk P w H h a u := e.ok ok
theorem dk_rd {kvs : List (Key × V)} (ok : HOk P w H h) (e : Rd H a (.dK kvs)) : kvs.length ≤ sizeLine ∧ (a == sysModules) = false ∧ ∃ vs, KV kvs vs ∧ h.DictOf (mixKind P w) a vs :=
  show ObjOk P w H h a (.dK kvs) from rd_of ok e
theorem dk_of {kvs : List (Key × V)} (ok : HOk P w H h) (e : H a = some (.dK kvs)) : kvs.length ≤ sizeLine ∧ (a == sysModules) = false ∧ ∃ vs, KV kvs vs ∧ h.DictOf (mixKind P w) a vs := dk_rd ok (.inl e)
/-- a tracked tuple of ints and texts is a key -/
theorem key_of {ks : List Key} (ok : HOk P w H h) (e : H a = some (.tup (ks.map kV))) : (tupleKind (mixKind P w)).is h ks a := by
  obtain ⟨_, its, r, o, h1, h2, n, h3⟩ := (show ObjOk P w H h a (.tup (ks.map kV)) from ok a _ e)
  exact ⟨o, its.toArray, n, h1, h2, h3, by simpa using items_are r⟩
theorem dt_rd {kvs : List (List Key × V)} (ok : HOk P w H h) (e : Rd H a (.dT kvs)) : kvs.length ≤ sizeLine ∧ (a == sysModules) = false ∧
    ∃ xs, KT H kvs xs ∧ h.DictOfH (tupleKind (mixKind P w)) a xs := by
  obtain ⟨z, y, xs, r, o, es, ep, h1, h2, h3, h4, h5⟩ := (show ObjOk P w H h a (.dT kvs) from rd_of ok e)
  refine ⟨z, y, xs, r, o, es, ep, h1, h2, h3, h4, fun x hx => ?_, h5⟩
  have all : ∀ {l : List (List Key × V)} {m : List (List Key × Addr × Value)}, KT H l m → ∀ x ∈ m, (tupleKind (mixKind P w)).is h x.1 x.2.1 := by
    intro l m q
    induction q with
    | nil => intro x hx; exact nomatch hx
    | @cons p q ps qs hq t ih =>
      intro x hx
      rcases List.mem_cons.mp hx with e | hx
      · subst e
        exact key_of ok (by rw [← hq.1]; exact hq.2.1)
      · exact ih x hx
  exact all r x hx
theorem dt_of {kvs : List (List Key × V)} (ok : HOk P w H h) (e : H a = some (.dT kvs)) : kvs.length ≤ sizeLine ∧ (a == sysModules) = false ∧
    ∃ xs, KT H kvs xs ∧ h.DictOfH (tupleKind (mixKind P w)) a xs := dt_rd ok (.inl e)
end

/-- what the dict at a holds at the key y -/
def DGet (H : Hp) (a : Addr) (y : V) (r : Option V) : Prop :=
  (∃ kvs k, Rd H a (.dK kvs) ∧ y = kV k ∧ r = valV kvs k) ∨ ∃ kvs k b, Rd H a (.dT kvs) ∧ y = .ref b ∧ H b = some (.tup (k.map kV)) ∧ r = valV kvs k
/-- the heap behind a[y] = v -/
def DPut (H : Hp) (a : Addr) (y v : V) (H' : Hp) : Prop :=
  (∃ kvs k, H a = some (.dK kvs) ∧ y = kV k ∧ kvs.length < sizeLine ∧ H' = upd H a (.dK (putK kvs k v))) ∨
  ∃ kvs k b, H a = some (.dT kvs) ∧ y = .ref b ∧ H b = some (.tup (k.map kV)) ∧ kvs.length < sizeLine ∧ H' = upd H a (.dT (putK kvs k v))
theorem DGet.k {H : Hp} {a : Addr} {kvs : List (Key × V)} {k : Key} (e : H a = some (.dK kvs)) : DGet H a (kV k) (valV kvs k) := .inl ⟨kvs, k, .inl e, rfl, rfl⟩
theorem DPut.k {H : Hp} {a : Addr} {kvs : List (Key × V)} {k : Key} {v : V} (e : H a = some (.dK kvs)) (hl : kvs.length < sizeLine) : DPut H a (kV k) v (upd H a (.dK (putK kvs k v))) := .inl ⟨kvs, k, e, rfl, hl, rfl⟩
section
variable {X : Cx} {pins : List (Addr × Obj)} {σ : St} {H : Hp} {s : Shared} {a : Addr} {y v : V} {u r : Value} {o : Option V} {A : Around} {E : Value → Shared → Prop}

theorem Inv.big (I : Inv X pins σ H s) : sysModules < s.heap.objs.size := by
  have h : mainGlobals < s.heap.objs.size := (I.mod.glob.keeps I.bk).lt
  exact Nat.lt_trans (by decide) h

/-- d[y], there -/
theorem d_getItem {Q : Value → Shared → Prop} (hu : A.units + 1 < cLine) (I : Inv X pins σ H s) (g : DGet H a y (some v)) (ry : RelV y u) (h : ∀ w' s', Inv X pins σ H s' → RelV v w' → Q w' s') :
    wpAny (model X.prog X.w) A (getItem (.ref a) u) Q E s := by
  rcases g with ⟨kvs, k, e, ey, l⟩ | ⟨kvs, k, b, e, ey, eb, l⟩
  · subst ey
    obtain ⟨z, hd, vs, rel, dd⟩ := dk_rd I.hok e
    obtain ⟨w', hw, rw'⟩ := RelO.some_of (v := v) (o := valueAt vs k) (by rw [l]; exact rel.val k)
    exact wpAny_getItem_of (kV_is ry) dd.mapOf hw (h w' _ (I.tok _) rw')
  · subst ey
    cases (show u = Value.ref b from ry)
    obtain ⟨z, hd, xs, rel, dd⟩ := dt_rd I.hok e
    obtain ⟨w', hw, rw'⟩ := RelO.some_of (v := v) (o := (atKey xs k).map (·.2)) (by rw [l]; exact rel.val k)
    obtain ⟨p, hp, hp2⟩ := Option.map_eq_some_iff.mp hw
    refine wpAny_getItem_heap (tupleKind_room_in1 hu) (key_of I.hok eb) dd hp ?_
    rw [hp2]
    exact h w' _ (I.tok _) rw'
/-- y in d -/
theorem d_in {Q : Value → Shared → Prop} (hu : A.units + 1 < cLine) (I : Inv X pins σ H s) (g : DGet H a y o) (ry : RelV y u) (h : ∀ s', Inv X pins σ H s' → Q (.bool o.isSome) s') :
    wpAny (model X.prog X.w) A (compareOp .In u (.ref a)) Q E s := by
  rcases g with ⟨kvs, k, e, ey, l⟩ | ⟨kvs, k, b, e, ey, eb, l⟩
  · subst ey
    obtain ⟨z, hd, vs, rel, dd⟩ := dk_rd I.hok e
    refine wpAny_in_of (kV_is ry) hd dd.mapOf ?_
    rw [← (rel.val k).isSome_eq, ← l]
    exact h _ (I.tok _)
  · subst ey
    cases (show u = Value.ref b from ry)
    obtain ⟨z, hd, xs, rel, dd⟩ := dt_rd I.hok e
    refine wpAny_in_heap (tupleKind_room_in1 hu) (key_of I.hok eb) hd dd ?_
    have q := (rel.val k).isSome_eq
    rw [Option.isSome_map] at q
    rw [← q, ← l]
    exact h _ (I.tok _)
theorem d_notIn {Q : Value → Shared → Prop} (hu : A.units + 1 < cLine) (I : Inv X pins σ H s) (g : DGet H a y o) (ry : RelV y u) (h : ∀ s', Inv X pins σ H s' → Q (.bool (!o.isSome)) s') :
    wpAny (model X.prog X.w) A (compareOp .NotIn u (.ref a)) Q E s := by
  rcases g with ⟨kvs, k, e, ey, l⟩ | ⟨kvs, k, b, e, ey, eb, l⟩
  · subst ey
    obtain ⟨z, hd, vs, rel, dd⟩ := dk_rd I.hok e
    refine wpAny_notIn_of (kV_is ry) hd dd.mapOf ?_
    rw [← (rel.val k).isSome_eq, ← l]
    exact h _ (I.tok _)
  · subst ey
    cases (show u = Value.ref b from ry)
    obtain ⟨z, hd, xs, rel, dd⟩ := dt_rd I.hok e
    refine wpAny_notIn_heap (tupleKind_room_in1 hu) (key_of I.hok eb) hd dd ?_
    have q := (rel.val k).isSome_eq
    rw [Option.isSome_map] at q
    rw [← q, ← l]
    exact h _ (I.tok _)
/-- a dict's object is replaced -/
theorem d_write {h' : Heap} {t' : Nat} {ob : HO} (I : Inv X pins σ H s) (mu : Mut (H a)) (hs : Heap.SameBut a s.heap h') (he : ∃ q, h'.get? a = some q) (new : ObjOk X.prog X.w (upd H a ob) h' a ob) :
    Inv X pins σ (upd H a ob) { s with heap := h', toks := t' } :=
  I.write (x := a) (e := a) mu (.inl rfl) (fun b q hb z => (hs.2 b hb).trans z) he new
theorem dk_new {P : Program} {w : World} {H' : Hp} {h' : Heap} {kvs : List (Key × V)} {vs : List (Key × Value)} (z : kvs.length ≤ sizeLine) (hd : (a == sysModules) = false) (rel : KV kvs vs) (dd : h'.DictOf (mixKind P w) a vs) :
    ObjOk P w H' h' a (.dK kvs) := ⟨z, hd, vs, rel, dd⟩
/-- d[y] = v -/
theorem d_setItem {H' : Hp} {Q : Unit → Shared → Prop} (hu : A.units + 1 < cLine) (I : Inv X pins σ H s) (g : DPut H a y v H') (ry : RelV y u) (rv : RelV v r) (h : ∀ s', Inv X pins σ H' s' → Q () s') :
    wpAny (model X.prog X.w) A (setItem (.ref a) u r) Q E s := by
  rcases g with ⟨kvs, k, e, ey, l, eH⟩ | ⟨kvs, k, b, e, ey, eb, l, eH⟩
  · subst ey eH
    obtain ⟨z, hd, vs, rel, dd⟩ := dk_of I.hok e
    have hz : vs.length ≤ sizeLine := by rw [← rel.length]; exact z
    have hl : (putK kvs k v).length ≤ sizeLine := by have := length_putK kvs k v; omega
    refine wpAny_setItem_pairs (hsz := hz) (kV_is ry) dd fun h' dd' hs => h _ ?_
    have he : ∃ q, h'.get? a = some q := let ⟨q, _, _, hq, _⟩ := dd'; ⟨q, hq⟩
    exact d_write I (by rw [e]; exact True.intro) hs he (dk_new hl hd (rel.put k rv) dd')
  · subst ey eH
    cases (show u = Value.ref b from ry)
    obtain ⟨z, hd, xs, rel, dd⟩ := dt_of I.hok e
    have hz : xs.length ≤ sizeLine := by rw [← Paired.length rel]; exact z
    have hl : (putK kvs k v).length ≤ sizeLine := by have := length_putK kvs k v; omega
    refine wpAny_setItem_heap (hsz := hz) (tupleKind_room_in1 hu) (key_of I.hok eb) dd fun h' dd' hs => h _ ?_
    obtain ⟨q, es, ep, hq, h2, h3, h4, _, h5⟩ := dd'
    refine d_write I (by rw [e]; exact True.intro) hs ⟨q, hq⟩ ⟨hl, hd, _, (rel.put k eb rv).keeps fun c ys ec => ?_, q, es, ep, hq, h2, h3, h4, h5⟩
    rw [upd_ne (ne_of ec e (fun z => nomatch z))]
    exact ec
end

section
variable {X : Cx} {pins : List (Addr × Obj)} {σ : St} {H : Hp} {s : Shared} {a : Addr} {kvs : List (Key × V)} {k : Key} {u : Value} {A : Around} {E : Value → Shared → Prop}
/-- d.pop(k[, x]), there -/
theorem d_pop {v : V} {more : List Value} {Q : Value → Shared → Prop} (I : Inv X pins σ H s) (e : H a = some (.dK kvs)) (ry : RelV (kV k) u) (l : valV kvs k = some v) (hm : more = [] ∨ ∃ x, more = [x])
    (h : ∀ w' s', Inv X pins σ (upd H a (.dK (dropK kvs k))) s' → RelV v w' → Q w' s') : wpAny (model X.prog X.w) A (call (.builtin "dict.pop") (.ref a :: u :: more)) Q E s := by
  obtain ⟨z, hd, vs, rel, dd⟩ := dk_of I.hok e
  obtain ⟨w', hw, rw'⟩ := RelO.some_of (v := v) (o := valueAt vs k) (by rw [← l]; exact rel.val k)
  have hp : (keyPart u).isSome = true := by
    cases k with
    | inl i => obtain ⟨t, q⟩ := (show ∃ t, u = Value.int i t from ry); subst q; rfl
    | inr x => obtain ⟨t, q⟩ := (show ∃ t, u = Value.str x t from ry); subst q; rfl
  have ha : argsOk "dict.pop" ⟨.ref a :: u :: more, []⟩ := by
    rcases hm with q | ⟨x, q⟩
    · subst q; exact PySem.F.args_dict_pop_2 _ _
    · subst q; exact PySem.F.args_dict_pop_3 _ _ _
  refine call_meetsIn PySem.F.slot_dict_pop dd.typeIs PySem.F.entry_dict_pop ha (meets_dict_pop_there (mixKind X.prog X.w) a (kV_is ry) more hm hp)
    ⟨vs, w', dd, by rw [← rel.length]; exact z, hw, fun h' dd' hs => h w' _ ?_ rw'⟩
  have he : ∃ q, h'.get? a = some q := let ⟨q, _, _, hq, _⟩ := dd'; ⟨q, hq⟩
  exact d_write I (by rw [e]; exact True.intro) hs he (dk_new (Nat.le_trans (dropK_le kvs k) z) hd (rel.drop k) dd')
end


/-! ### readings and rules -/
/-- the element of a subscription, not a slice -/
def NoSl (i : Expr) : Prop := ∀ ov iv, subscripted i false ov iv = operate [ov, iv] (getItem ov iv)
theorem subD_of {prog : Program} {w : World} {A : Around} {E : Value → Shared → Prop} {s : Shared} {env : Env} {value slice : Expr} {pos : Pos} {T id : String} {Q : Value → Shared → Prop}
    (hl : typeLookup (.type T) "__getitem__" = pure (some (.builtin id))) (hs : NoSl slice)
    (h : wpAny (model prog w) A (eval value env) (fun o s₁ => wpAny (model prog w) A (eval slice env) (fun i s₂ => s₂.TypeIs o T ∧ wpAny (model prog w) A (getItem o i) Q E s₂) E s₁) E s) :
    wpAny (model prog w) A (eval (.Subscript value slice pos) env) Q E s := by
  refine Subscript_ (wpAny_mono h (fun o s₁ h₁ => wpAny_mono h₁ (fun i s₂ h₂ => ?_) fun _ _ x => x) fun _ _ x => x)
  obtain ⟨hT, h₂⟩ := h₂
  unfold subscriptTail
  refine wpAny_bind ?_
  rw [getitemInPython_of_ne hT.not_modules]
  refine wpAny_bind (wpAny_specialOf hT hl ?_)
  have fin : wpAny (model prog w) A (subscripted slice false o i) (fun r s₃ => wpAny (model prog w) A (letTemporaryGo value o r >>= fun _ => pure r) Q E s₃) E s₂ := by
    rw [hs o i]
    exact wpAny_operating (wpAny_mono h₂ (fun r s₃ h₃ => wpAny_bind (wpAny_letTemporaryGo (wpAny_pure h₃))) fun _ _ x => x)
  first
    | exact wpAny_pure (wpAny_bind fin)
    | exact wpAny_bind (wpAny_pure (wpAny_bind fin))
    | exact wpAny_bind fin

theorem dict_typeIs {X : Cx} {pins : List (Addr × Obj)} {σ : St} {H : Hp} {s : Shared} {a : Addr} {y : V} {o : Option V} (I : Inv X pins σ H s) (g : DGet H a y o) : s.TypeIs (.ref a) "dict" := by
  rcases g with ⟨kvs, k, e, _, _⟩ | ⟨kvs, k, b, e, _, _, _⟩
  · obtain ⟨_, _, vs, _, dd⟩ := dk_rd I.hok e
    exact dd.typeIs
  · obtain ⟨_, _, xs, _, dd⟩ := dt_rd I.hok e
    exact dd.typeIs
/-- d[y] -/
def tDGet (td ty : TE) : TE := fun σ H Q => td σ H fun x H1 => ty σ H1 fun y H2 => ∃ a v, x = .ref a ∧ DGet H2 a y (some v) ∧ Q v H2
/-- y in d, y not in d -/
def tDIn (ty td : TE) : TE := fun σ H Q => ty σ H fun y H1 => td σ H1 fun x H2 => ∃ a o, x = .ref a ∧ DGet H2 a y o ∧ Q (.bl o.isSome) H2
def tDNotIn (ty td : TE) : TE := fun σ H Q => ty σ H fun y H1 => td σ H1 fun x H2 => ∃ a o, x = .ref a ∧ DGet H2 a y o ∧ Q (.bl (!o.isSome)) H2
/-- d[y] = v -/
def sDPut (td ty tv : TE) : TS := fun D σ H => tv σ H fun v H1 => td σ H1 fun x H2 => ty σ H2 fun y H3 => ∃ a H4, x = .ref a ∧ DPut H3 a y v H4 ∧ D.nx σ H4
section
variable {X : Cx} {o i e value : Expr} {pos pos' tpos : Pos} {td ty tv : TE}
theorem pe_dget (hu : X.A.units + 1 < cLine) (ho : PE X o td) (hi : PE X i ty) (hs : NoSl i) : PE X (.Subscript o i pos) (tDGet td ty) := by
  intro pins s σ H Q I h
  refine subD_of PySem.F.slot_dict_getitem.lookup hs (thn (ho pins s σ H _ I h) fun u s1 ⟨x, H1, I1, rx, q1⟩ => thn (hi pins s1 σ H1 _ I1 q1) fun iv s2 ⟨y, H2, I2, ry, a, v, ex, g, q2⟩ => ?_)
  subst ex
  obtain rfl : u = Value.ref a := rx
  exact ⟨dict_typeIs I2 g, d_getItem hu I2 g ry fun w' s3 I3 rw' => ⟨v, H2, I3, rw', q2⟩⟩
theorem pc_din (hu : X.A.units + 1 < cLine) (hi : PE X i ty) (ho : PE X o td) : PC X .In i o (tDIn ty td) := by
  intro pins s σ H Q I h
  refine thn (hi pins s σ H _ I h) fun iv s1 ⟨y, H1, I1, ry, q1⟩ => thn (ho pins s1 σ H1 _ I1 q1) fun u s2 ⟨x, H2, I2, rx, a, ov, ex, g, q2⟩ => ?_
  subst ex
  obtain rfl : u = Value.ref a := rx
  exact d_in hu I2 g ry fun s3 I3 => ⟨.bl ov.isSome, H2, I3, rfl, q2⟩
theorem pc_dnotin (hu : X.A.units + 1 < cLine) (hi : PE X i ty) (ho : PE X o td) : PC X .NotIn i o (tDNotIn ty td) := by
  intro pins s σ H Q I h
  refine thn (hi pins s σ H _ I h) fun iv s1 ⟨y, H1, I1, ry, q1⟩ => thn (ho pins s1 σ H1 _ I1 q1) fun u s2 ⟨x, H2, I2, rx, a, ov, ex, g, q2⟩ => ?_
  subst ex
  obtain rfl : u = Value.ref a := rx
  exact d_notIn hu I2 g ry fun s3 I3 => ⟨.bl (!ov.isSome), H2, I3, rfl, q2⟩
theorem ps_dput (hu : X.A.units + 1 < cLine) (ho : PE X o td) (hi : PE X i ty) (hv : PE X value tv) (hs : swapsWith value (some (.Subscript o i pos')) pos.line X.env = pure false) :
    PS X (.Assign [.Subscript o i pos'] value pos) (sDPut td ty tv) := by
  intro pins s σ H D I h
  refine wpAny_Assign_Subscript (thn (hv pins s σ H _ I h) fun r s1 ⟨v, H1, I1, rv, q1⟩ => thn (ho pins s1 σ H1 _ I1 q1) fun u s2 ⟨x, H2, I2, rx, q2⟩ => thn (hi pins s2 σ H2 _ I2 q2) fun iv s3 ⟨y, H3, I3, ry, a, H4, ex, g, q3⟩ => ?_) hs
  subst ex
  obtain rfl : u = Value.ref a := rx
  exact d_setItem hu I3 g ry rv fun s4 I4 => ⟨σ, H4, I4, q3⟩
end


/-! ### displays -/
theorem dk_empty {P : Program} {w : World} {H : Hp} (h : Heap) (hb : sysModules < h.objs.size) : ObjOk P w H (h.push { cls := .type "dict", data := .dict #[] }) h.objs.size (.dK []) :=
  ⟨Nat.zero_le _, beq_eq_false_iff_ne.mpr (Ne.symm (Nat.ne_of_lt hb)), [], .nil, Heap.DictOf.new h⟩
/-- {}, to be a dict of the kind that is wanted -/
def tDNewK : TE := fun _ H Q => ∀ p, H p = none → Q (.ref p) (upd H p (.dK []))
section
variable {X : Cx} {pos : Pos}
theorem pe_dnewK : PE X (.Dict [] [] pos) tDNewK := fun pins s σ H Q I h =>
  wpAny_Dict_empty ⟨.ref s.heap.objs.size, _, I.laid (a := s.heap.objs.size) (o := .dK []) (t' := s.toks) (fun _ _ q => Heap.get?_push_of_some _ q) (Nat.le_refl _) (dk_empty s.heap I.big), rfl, h _ (I.hok.fresh (Nat.le_refl _))⟩
end

/-! ### methods -/
/-- a method call o.m(e) of a built-in, with one argument: what must be seen of the text -/
structure M1 (X : Cx) (o : Expr) (m : Str) (apos : Pos) (e : Expr) (cpos : Pos) : Prop where
  base : attributeBase o m X.env (eval o X.env) = eval o X.env
  few : ((backTo cpos (starEach [e] X.env)).all (fun x => !x.1) && (backToKw cpos (keywordEach [] X.env)).all (fun x => x.1.isSome)
    && decide (([e] : List Expr).length + ([] : List Keyword).length + (if ([] : List Keyword).isEmpty then 0 else 1) < 30)) = true
  line : (apos.endLine == cpos.line) = true
  trees : backTo cpos (starEach [e] X.env) = [(false, eval e X.env)]
/-- a is a dict, whatever its keys -/
def IsD (H : Hp) (a : Addr) : Prop := (∃ kvs, Rd H a (.dK kvs)) ∨ ∃ kvs, Rd H a (.dT kvs)
theorem isD_at {X : Cx} {pins : List (Addr × Obj)} {σ : St} {H : Hp} {s : Shared} {a : Addr} (I : Inv X pins σ H s) (d : IsD H a) :
    s.TypeIs (.ref a) "dict" ∧ (∀ b, Value.ref a = .ref b → ∃ ob, s.heap.get? b = some ob ∧ ob.dict = none) ∧ (a == sysModules) = false := by
  rcases d with ⟨kvs, e⟩ | ⟨kvs, e⟩
  · obtain ⟨_, hd, vs, _, dd⟩ := dk_rd I.hok e
    refine ⟨dd.typeIs, fun b q => ?_, hd⟩
    cases q
    obtain ⟨ob, _, _, h1, h2, _⟩ := dd
    exact ⟨ob, h1, h2.2.1⟩
  · obtain ⟨_, hd, xs, _, dd⟩ := dt_rd I.hok e
    refine ⟨dd.typeIs, fun b q => ?_, hd⟩
    cases q
    obtain ⟨ob, _, _, h1, h2, _⟩ := dd
    exact ⟨ob, h1, h2.2.1⟩

section
variable {X : Cx} {pins : List (Addr × Obj)} {σ : St} {H : Hp} {s : Shared} {a : Addr} {y d : V} {u r : Value} {o : Option V} {A : Around} {E : Value → Shared → Prop}
end

/-- d.pop(k): there; d.pop(k, x): there or not -/
def tDPop1 (td ty : TE) : TE := fun σ H Q => td σ H fun x H1 => ∃ a, x = .ref a ∧ IsD H1 a ∧ ty σ H1 fun y H2 => ∃ kvs k v, H2 a = some (.dK kvs) ∧ y = kV k ∧ valV kvs k = some v ∧ Q v (upd H2 a (.dK (dropK kvs k)))
section
variable {X : Cx} {o e f : Expr} {apos cpos : Pos} {td ty tx : TE}
theorem pe_dpop1 (ho : PE X o td) (he : PE X e ty) (m : M1 X o "pop" apos e cpos) : PE X (.Call (.Attribute o "pop" apos) [e] [] cpos) (tDPop1 td ty) := by
  intro pins s σ H Q I h
  refine wpAny_Call_method m.base m.few m.line PySem.F.plainAttrs_dict PySem.F.slot_dict_pop PySem.F.type_dict_pop (thn (ho pins s σ H _ I h) fun u s1 ⟨x, H1, I1, rx, a, ex, d, q1⟩ => ?_)
  subst ex
  obtain rfl : u = Value.ref a := rx
  obtain ⟨t1, t2, _⟩ := isD_at I1 d
  refine ⟨t1, t2, ?_⟩
  rw [m.trees]
  refine Calls.callWith_builtin rfl (Calls.evalArgs_plain (Calls.spliced_cons (thn (he pins s1 σ H1 _ I1 q1) fun iv s2 ⟨y, H2, I2, ry, kvs, k, v, ea, ey, l, q2⟩ => Calls.spliced_nil ?_)))
  subst ey
  exact d_pop I2 ea ry l (.inl rfl) fun w' s3 I3 rw' => ⟨v, _, I3, rw', q2⟩
end

/-! ### dict(d): a copy -/
section
variable {X : Cx} {pins : List (Addr × Obj)} {σ : St} {H : Hp} {s : Shared} {a : Addr} {kvs : List (Key × V)} {A : Around} {E : Value → Shared → Prop}
theorem d_copyOf {Q : Value → Shared → Prop} (I : Inv X pins σ H s) (e : Rd H a (.dK kvs)) (h : ∀ p s', H p = none → Inv X pins σ (upd H p (.dK kvs)) s' → Q (.ref p) s') : wpAny (model X.prog X.w) A (call (.type "dict") [.ref a]) Q E s := by
  obtain ⟨z, hd, vs, rel, dd⟩ := dk_rd I.hok e
  refine kt_call_dict hd dd (by rw [← rel.length]; exact z) fun h' dd' hs => ?_
  refine h _ _ (I.hok.fresh (Nat.le_refl _)) (I.laid (a := s.heap.objs.size) (o := .dK kvs) (t' := s.toks) (fun b q hq => ?_) (Nat.le_refl _) (dk_new z (beq_eq_false_iff_ne.mpr (Ne.symm (Nat.ne_of_lt I.big))) rel dd'))
  exact (hs.2 b (Nat.ne_of_lt (Heap.lt_size hq))).trans (Heap.get?_push_of_some _ hq)
end


section
variable {X : Cx} {pins : List (Addr × Obj)} {σ : St} {H : Hp} {s : Shared} {a : Addr} {y : V} {u : Value} {A : Around} {E : Value → Shared → Prop}
end
end L2

namespace L2
open PySem PySem.Spec PyProof.Rows
/-! ### a dict's pairs: keys that differ -/
section
variable {κ : Type} [DecidableEq κ]
theorem nd_snoc : ∀ {l : List κ} {k : κ}, l.Nodup → ¬ k ∈ l → (l ++ [k]).Nodup
  | [], k, _, _ => by simp
  | a :: r, k, h, hk => by
    obtain ⟨h1, h2⟩ := List.nodup_cons.mp h
    show (a :: (r ++ [k])).Nodup
    refine List.nodup_cons.mpr ⟨fun m => ?_, nd_snoc h2 fun m => hk (List.mem_cons.mpr (Or.inr m))⟩
    rcases List.mem_append.mp m with q | q
    · exact h1 q
    · exact hk (List.mem_cons.mpr (Or.inl (List.mem_singleton.mp q).symm))
theorem dropK_pos {p : κ × V} {r : List (κ × V)} {k : κ} (e : p.1 = k) : dropK (p :: r) k = dropK r k := by
  unfold dropK
  rw [List.filter_cons, if_neg (by simp [e])]
theorem dropK_neg {p : κ × V} {r : List (κ × V)} {k : κ} (e : ¬ p.1 = k) : dropK (p :: r) k = p :: dropK r k := by
  unfold dropK
  rw [List.filter_cons, if_pos (by simp [e])]
end
end L2
set_option Elab.async false
set_option linter.all false
set_option maxRecDepth 100000
set_option maxHeartbeats 4000000
/-! A dict that a loop walks: it is frozen ahead of the first turn and thawed behind the last -/
namespace L2
open PySem PySem.Spec PyProof.Rows

theorem is_kV {P : Program} {w : World} {k : Key} {u : Value} (h : (mixKind P w).is k u = true) : RelV (kV k) u := by
  rw [mixKind_is] at h
  cases k with
  | inl i =>
    cases u <;> simp [keyIs, Value.isInt] at h
    all_goals first | (subst h; exact ⟨_, rfl⟩) | skip
  | inr x =>
    cases u <;> simp [keyIs, Value.isStrOf] at h
    all_goals first | (subst h; exact ⟨_, rfl⟩) | skip
theorem KV.get : ∀ {kvs : List (Key × V)} {vs : List (Key × Value)} {i : Nat} {k : Key} {v : V}, KV kvs vs → kvs[i]? = some (k, v) → ∃ u, vs[i]? = some (k, u) ∧ RelV v u
  | _, _, _, _, _, .nil, e => by simp at e
  | _, (b1, b2) :: _, 0, _, _, .cons r _, e => by
    simp at e; subst e
    exact ⟨b2, by rw [show b1 = _ from r.1.symm]; rfl, r.2⟩
  | _, _, i + 1, _, _, .cons _ t, e => by
    simp at e
    obtain ⟨u, q, r⟩ := KV.get t e
    exact ⟨u, by simpa using q, r⟩

section
variable {X : Cx} {pins : List (Addr × Obj)} {σ : St} {H : Hp} {s : Shared} {a : Addr} {kvs : List (Key × V)} {ob : Obj}
/-- nothing at a was known by its object when the def was entered -/
def NoFrz (X : Cx) (a : Addr) : Prop := ∀ o u, X.H₀ a ≠ some (.frz o u)
theorem Inv.freeze (I : Inv X pins σ H s) (e : H a = some (.dK kvs)) : ∃ o, s.heap.get? a = some o ∧ Inv X pins σ (upd H a (.frz o (.dK kvs))) s ∧ NoFrz X a := by
  have oa := I.hok a _ e
  obtain ⟨z, hd, vs, rel, o, es, ep, e1, c⟩ := id oa
  refine ⟨o, e1, ?_, fun o' u' q => ?_⟩
  · have := I.write (x := a) (e := a) (h' := s.heap) (t' := s.toks) (o := .frz o (.dK kvs)) (by rw [e]; trivial) (.inl rfl) (fun b q hb z => z) ⟨o, e1⟩ ⟨e1, z, hd, vs, rel, o, es, ep, e1, c⟩
    exact this
  · have := I.base.frzs a _ _ q
    rw [e] at this; cases this
theorem Inv.thaw (I : Inv X pins σ H s) (e : H a = some (.frz ob (.dK kvs))) (hn : NoFrz X a) : Inv X pins σ (upd H a (.dK kvs)) s := by
  have ne : ∀ {b : Addr}, H b = none → b ≠ a := fun q z => by subst z; rw [e] at q; cases q
  have net : ∀ {b : Addr} {xs : List V}, H b = some (.tup xs) → b ≠ a := fun q z => by subst z; rw [e] at q; cases q
  have neo : ∀ {b y : Addr}, H b = some (.own y) → b ≠ a := fun q z => by subst z; rw [e] at q; cases q
  have neb : ∀ {b : Addr} {ps : Array Value}, H b = some (.tbl ps) → b ≠ a := fun q z => by subst z; rw [e] at q; cases q
  exact {
    ok := I.ok
    os := I.os
    bare := I.bare
    base := {
      keep := I.base.keep
      slot := I.base.slot
      free := fun b o h1 h2 h3 => by
        have q := I.base.free b o h1 h2 h3
        rw [upd_ne (ne q)]; exact q
      there := I.base.there
      tups := fun b xs q => by
        have q' := I.base.tups b xs q
        rw [upd_ne (net q')]; exact q'
      frzs := fun b o u q => by
        have q' := I.base.frzs b o u q
        have hb : b ≠ a := fun z => by subst z; exact hn _ _ q
        rw [upd_ne hb]; exact q'
      tbls := fun b ps q => by
        obtain ⟨more, q'⟩ := I.base.tbls b ps q
        exact ⟨more, by rw [upd_ne (neb q')]; exact q'⟩ }
    loc := I.loc
    cell := I.cell
    free := by rw [upd_ne (ne I.free)]; exact I.free
    freeC := fun x c q => by rw [upd_ne (ne (I.freeC x c q))]; exact I.freeC x c q
    pin := fun p hp => by
      obtain ⟨q1, q2, q3⟩ := I.pin p hp
      exact ⟨q1, by rw [upd_ne (ne q2)]; exact q2, q3⟩
    hok := fun b u q => by
      by_cases hb : b = a
      · subst hb
        rw [upd_same] at q; cases q
        exact (I.hok b _ e).2
      · rw [upd_ne hb] at q
        exact (I.hok b u q).stay (fun _ _ _ q => q) (fun c q => by rw [upd_ne (neo q)]; exact q) fun c xs q => by rw [upd_ne (net q)]; exact q
    len := I.len }

/-- the dict of the object ob at a, walked by its keys (val false) or its values -/
def Itd (val : Bool) (a : Addr) (ob : Obj) (kvs : List (Key × V)) : It :=
  ⟨fun i H => H a = some (.frz ob (.dK kvs)) ∧ i < kvs.length, fun i H x H' => H' = H ∧ ∃ k v, kvs[i]? = some (k, v) ∧ x = if val then v else kV k, fun i H => H a = some (.frz ob (.dK kvs)) ∧ kvs.length ≤ i⟩
theorem Inv.dictAt (I : Inv X pins σ H s) (e : H a = some (.frz ob (.dK kvs))) {es : Array DictEntry} {ep : Nat} (he : ob.data = .dict es ep) : ∃ vs, KV kvs vs ∧ s.heap.DictAt (mixKind X.prog X.w) a vs ep := by
  obtain ⟨e1, z, hd, vs, rel, o, es', ep', e2, c1, c2, c3⟩ := I.hok a _ e
  rw [e1] at e2; cases e2
  rw [he] at c2; cases c2
  exact ⟨vs, rel, ob, es, e1, c1, he, c3⟩
theorem turn_keys {P : Program} {w : World} {K : PySem.W.Frag} {tg : Expr} (a it : Addr) (ob : Obj) (kvs : List (Key × V)) {es : Array DictEntry} {ep : Nat} (he : ob.data = .dict es ep) :
    Turn P w K tg (Itd false a ob kvs) [it] it (fun i h => h.IsKeyIter it a i kvs.length ep) where
  mem := by simp
  obj := fun i h st b hb => by
    have e : b = it := by simpa using hb
    subst e
    obtain ⟨o, e, c, d⟩ := st
    exact ⟨o, e, fun v z => by rw [d] at z; cases z⟩
  keep := fun i h h' st k => st.at fun o e => k it (by simp) o e
  item := by
    intro X hP hw hK hc i pins s σ H E I hf st hg
    subst hP hw hK
    obtain ⟨hq, hi⟩ := hg
    obtain ⟨vs, rel, D⟩ := I.dictAt hq he
    obtain ⟨⟨k, v⟩, hx⟩ : ∃ p, kvs[i]? = some p := ⟨kvs[i], by simp [hi]⟩
    obtain ⟨u, hu, ru⟩ := rel.get hx
    obtain ⟨f0, f1, f2, f3, f4, f5⟩ := hf it (by simp)
    rw [rel.length] at st
    refine wpAny_pyNext_dict_item st D hu fun key h' hk st' sb => ?_
    have I1 : Inv X pins σ H { s with heap := h' } := I.turned (t' := s.toks) (fun b o hb e => (sb.2 b hb).trans e) f0 f1 f3 f4 f5
    rw [← rel.length] at st'
    obtain ⟨o, e, c, d⟩ := id st'
    exact ⟨key, rfl, go_of (s := { s with heap := h' }) e c d (by decide) ⟨kV k, H, I1, is_kV hk, ⟨rfl, k, v, hx, rfl⟩, st', fun b hb => (hf b hb).1⟩⟩
  done := by
    intro X hP hw hK hc i pins s σ H E I hf st hg
    subst hP hw hK
    obtain ⟨hq, hi⟩ := hg
    obtain ⟨vs, rel, D⟩ := I.dictAt hq he
    obtain ⟨f0, f1, f2, f3, f4, f5⟩ := hf it (by simp)
    rw [rel.length] at st
    exact wpAny_pyNext_dict_end (I.ok.hd hc) st D (by have := rel.length; simp; omega) fun h' eb => ⟨rfl, I.turned (t' := s.toks) (fun b o hb e => eb b o hb e) f0 f1 f3 f4 f5⟩
  self := fun _ _ _ _ _ st h => wpAny_pyIter_keyiter st h
theorem turn_values {P : Program} {w : World} {K : PySem.W.Frag} {tg : Expr} (a it : Addr) (ob : Obj) (kvs : List (Key × V)) {es : Array DictEntry} {ep : Nat} (he : ob.data = .dict es ep) :
    Turn P w K tg (Itd true a ob kvs) [it] it (fun i h => h.IsValIter it a i kvs.length ep) where
  mem := by simp
  obj := fun i h st b hb => by
    have e : b = it := by simpa using hb
    subst e
    obtain ⟨o, e, c, d⟩ := st
    exact ⟨o, e, fun v z => by rw [d] at z; cases z⟩
  keep := fun i h h' st k => st.at fun o e => k it (by simp) o e
  item := by
    intro X hP hw hK hc i pins s σ H E I hf st hg
    subst hP hw hK
    obtain ⟨hq, hi⟩ := hg
    obtain ⟨vs, rel, D⟩ := I.dictAt hq he
    obtain ⟨⟨k, v⟩, hx⟩ : ∃ p, kvs[i]? = some p := ⟨kvs[i], by simp [hi]⟩
    obtain ⟨u, hu, ru⟩ := rel.get hx
    obtain ⟨f0, f1, f2, f3, f4, f5⟩ := hf it (by simp)
    rw [rel.length] at st
    refine wpAny_pyNext_values_item st D hu fun h' st' sb => ?_
    have I1 : Inv X pins σ H { s with heap := h' } := I.turned (t' := s.toks) (fun b o hb e => (sb.2 b hb).trans e) f0 f1 f3 f4 f5
    rw [← rel.length] at st'
    obtain ⟨o, e, c, d⟩ := id st'
    exact ⟨u, rfl, go_of (s := { s with heap := h' }) e c d (by decide) ⟨v, H, I1, ru, ⟨rfl, k, v, hx, rfl⟩, st', fun b hb => (hf b hb).1⟩⟩
  done := by
    intro X hP hw hK hc i pins s σ H E I hf st hg
    subst hP hw hK
    obtain ⟨hq, hi⟩ := hg
    obtain ⟨vs, rel, D⟩ := I.dictAt hq he
    obtain ⟨f0, f1, f2, f3, f4, f5⟩ := hf it (by simp)
    rw [rel.length] at st
    exact wpAny_pyNext_values_end (I.ok.hd hc) st D (by have := rel.length; simp; omega) fun h' eb => ⟨rfl, I.turned (t' := s.toks) (fun b o hb e => eb b o hb e) f0 f1 f3 f4 f5⟩
  self := fun _ _ _ _ _ st h => wpAny_pyIter_valiter st h
end
/-- NF a: whatever holds of a dict that was not known by its object ahead of the loop -/
def iDict (NF : Addr → Prop) (val : Bool) (td : TE) : TI := fun σ H R => td σ H fun x H1 => ∃ a kvs, x = .ref a ∧ H1 a = some (.dK kvs) ∧ ∀ ob, NF a → R (Itd val a ob kvs) (upd H1 a (.frz ob (.dK kvs)))
/-- for k in d; for v in d.values(): the dict stands still meanwhile (in the body it is frozen), behind the loop it is as it was -/
def tForD (val : Bool) (td : TE) (g : TG) (tb : TS) : TS := fun D σ H => ∀ NF : Addr → Prop, tFor (iDict NF val td) g tb { D with nx := fun σ H => ∃ a ob kvs, NF a ∧ H a = some (.frz ob (.dK kvs)) ∧ D.nx σ (upd H a (.dK kvs)) } σ H
theorem pi_keys {X : Cx} {tg l : Expr} {td : TE} (hl : PE X l td) : PI X tg l (iDict (NoFrz X) false td) := by
  intro pins s σ H R I h
  refine thn (hl pins s σ H _ I h) fun v s1 ⟨x, H1, I1, r1, q1⟩ => ?_
  obtain ⟨a, kvs, e, ha, q⟩ := q1
  subst e
  cases r1
  obtain ⟨ob, eo, I2, nf⟩ := I1.freeze ha
  obtain ⟨z, hd, vs, rel, o, es, ep, e2, c1, c2, c3⟩ := I1.hok a _ ha
  rw [eo] at e2; cases e2
  have len := rel.length
  refine wpAny_pyIter_dict (knd := mixKind X.prog X.w) (kvs := vs) hd ⟨ob, es, eo, c1, c2, c3⟩ ?_
  refine ⟨s1.heap.objs.size, [s1.heap.objs.size], _, _, _, rfl, I2.kept (t' := s1.toks) fun b o e => Heap.get?_push_of_some _ e, turn_keys a _ ob kvs c2, ⟨_, Heap.get?_push_size _ rfl, rfl, by rw [len]; rfl⟩, fun b hb => ?_, q ob nf⟩
  have e : b = s1.heap.objs.size := by simpa using hb
  subst e
  exact I2.fpOk (Nat.le_refl _) (I2.hok.fresh (Nat.le_refl _))
theorem pi_values {X : Cx} {tg l : Expr} {td : TE} {apos cpos : Pos} (hl : PE X l td) (hb : attributeBase l "values" X.env (eval l X.env) = eval l X.env := by rfl) (hline : (apos.endLine == cpos.line) = true := by rfl) :
    PI X tg (.Call (.Attribute l "values" apos) [] [] cpos) (iDict (NoFrz X) true td) := by
  intro pins s σ H R I h
  refine wpAny_Call_method hb rfl hline PySem.F.plainAttrs_dict PySem.F.slot_dict_values PySem.F.type_dict_values (thn (hl pins s σ H _ I h) fun v s1 ⟨x, H1, I1, r1, q1⟩ => ?_)
  obtain ⟨a, kvs, e, ha, q⟩ := q1
  subst e
  cases r1
  obtain ⟨t1, t2, t3⟩ := isD_at I1 (.inl ⟨kvs, .inl ha⟩)
  refine ⟨t1, t2, ?_⟩
  obtain ⟨ob, eo, I2, nf⟩ := I1.freeze ha
  obtain ⟨z, hd, vs, rel, o, es, ep, e2, c1, c2, c3⟩ := I1.hok a _ ha
  rw [eo] at e2; cases e2
  have len := rel.length
  have hD : s1.heap.DictOf (mixKind X.prog X.w) a vs := ⟨ob, es, ep, eo, c1, c2, c3⟩
  refine Calls.callWith_builtin rfl (PySem.evalArgs_none ?_)
  refine call_meetsIn PySem.F.slot_dict_values hD.typeIs PySem.F.entry_dict_values (PySem.F.args_dict_values_1 _) (meets_dict_values (mixKind X.prog X.w) a hd) ⟨⟨vs, hD⟩, ?_⟩
  have I3 : Inv X pins σ (upd H1 a (.frz ob (.dK kvs))) { s1 with heap := s1.heap.push { cls := .type "dict_values", data := .fields #[.ref a] } } := I2.kept (t' := s1.toks) fun b o e => Heap.get?_push_of_some _ e
  refine wpAny_pyIter_values (knd := mixKind X.prog X.w) (kvs := vs) ⟨_, Heap.get?_push_size _ rfl, rfl, rfl⟩ ⟨ob, es, Heap.get?_push_of_some _ eo, c1, c2, c3⟩ ?_
  refine ⟨(s1.heap.push { cls := .type "dict_values", data := .fields #[.ref a] }).objs.size, [(s1.heap.push { cls := .type "dict_values", data := .fields #[.ref a] }).objs.size], _, _, _, rfl, I3.kept (t' := s1.toks) fun b o e => Heap.get?_push_of_some _ e, turn_values a _ ob kvs c2, ⟨_, Heap.get?_push_size _ rfl, rfl, by rw [len]; rfl⟩, fun b hb => ?_, q ob nf⟩
  have e : b = (s1.heap.push { cls := .type "dict_values", data := .fields #[.ref a] }).objs.size := by simpa using hb
  subst e
  exact I3.fpOk (Nat.le_refl _) (I3.hok.fresh (Nat.le_refl _))
theorem ps_forD {X : Cx} {tg iter : Expr} {val : Bool} {td : TE} {body : List Stmt} {g : TG} {tb : TS} {pos : Pos} (hp : PassesOwn (model X.prog X.w) X.A X.env X.xe) (hc : X.calm = true) (hi : PI X tg iter (iDict (NoFrz X) val td)) (hg : PG X tg g) (hb : PSs X body tb)
    (hs : ∀ x, foldedSetIterable iter X.env x = pure x := by intro _; rfl) : PS X (.For tg iter body [] pos) (tForD val td g tb) := by
  intro pins s σ H D I h
  refine thn (ps_for (pos := pos) hp hc hi hg hb hs pins s σ H _ I (h (NoFrz X))) fun f s7 q7 => ?_
  cases f with
  | next => obtain ⟨σ7, H7, I7, a, ob, kvs, nf, e, n7⟩ := q7; exact ⟨σ7, _, I7.thaw e nf, n7⟩
  | cont => exact q7
  | brk => exact q7
  | ret v => exact q7
/-- over a dict that the body leaves as it is -/
theorem for_dict {NF : Addr → Prop} {val : Bool} {a : Addr} {ob : Obj} {kvs : List (Key × V)} {g : TG} {tb : TS} {D : Ends} {σ : St} {H : Hp} (Pv : Nat → St → Hp → Prop) (h0 : Pv 0 σ (upd H a (.frz ob (.dK kvs)))) (hl : ∀ i σ H, i ≤ kvs.length → Pv i σ H → H a = some (.frz ob (.dK kvs)))
    (hs : ∀ i k v σ H, kvs[i]? = some (k, v) → Pv i σ H → g (if val then v else kV k) σ H fun σ2 H2 => tb { D with nx := Pv (i + 1), ct := Pv (i + 1), bk := D.nx } σ2 H2) (hd : ∀ σ H, Pv kvs.length σ H → D.nx σ H) :
    ∃ W : Nat → Nat → St → Hp → Prop, (∃ m, W 0 m σ (upd H a (.frz ob (.dK kvs)))) ∧ ∀ i m σ H, W i m σ H →
      ((Itd val a ob kvs).stop i H ∧ D.nx σ H) ∨ ((Itd val a ob kvs).go i H ∧ ∃ N : St → Hp → Prop, (∀ σ' H', N σ' H' → ∃ m', m' < m ∧ W (i + 1) m' σ' H') ∧ ∀ x H', (Itd val a ob kvs).yld i H x H' → g x σ H' fun σ2 H2 => tb { D with nx := N, ct := N, bk := D.nx } σ2 H2) := by
  refine ⟨fun i m σ H => m = kvs.length - i ∧ i ≤ kvs.length ∧ Pv i σ H, ⟨kvs.length, by simp, Nat.zero_le _, h0⟩, ?_⟩
  rintro i m σ H ⟨rfl, hi, p⟩
  have q := hl i σ H hi p
  by_cases hlt : i < kvs.length
  · refine .inr ⟨⟨q, hlt⟩, Pv (i + 1), fun σ' H' p' => ⟨kvs.length - (i + 1), by omega, rfl, hlt, p'⟩, fun x H' y => ?_⟩
    obtain ⟨e, k, v, hx, ex⟩ := y
    subst e ex
    exact hs i k v σ _ hx p
  · have e : i = kvs.length := by omega
    subst e
    exact .inl ⟨⟨q, Nat.le_refl _⟩, hd σ H p⟩
end L2
set_option Elab.async false
set_option linter.all false
set_option maxRecDepth 100000
set_option maxHeartbeats 4000000
/-! list(d), list(d.values()) for a dict of any keys, reversed(list) in a loop -/
namespace L2
open PySem PySem.Spec PyProof.Rows PySem.W
section
variable {prog : Program} {w : World} {A : Around} {E : Value → Shared → Prop} {s : Shared}
end
end L2
set_option Elab.async false
set_option linter.all false
set_option maxRecDepth 100000
set_option maxHeartbeats 4000000
namespace L2
open PySem PySem.Spec PyProof.Rows PySem.W
section
variable {X : Cx} {pins : List (Addr × Obj)} {σ : St} {H : Hp} {s : Shared} {a : Addr}
end
section
variable {X : Cx}
/-- list(d): its keys -/
theorem call_listD (hc : X.calm = true) : CallR X (.type "list") (fun xs H Q => ∃ a kvs, xs = [.ref a] ∧ Rd H a (.dK kvs) ∧ ∀ l, H l = none → Q (.ref l) (upd H l (.lst (kvs.map fun p => kV p.1)))) := by
  intro pins s σ H xs us Q I r h
  obtain ⟨a, kvs, rfl, e, q⟩ := h
  obtain ⟨u, rfl, rx⟩ := vals1 r
  cases rx
  obtain ⟨z, hd, vs, rel, dd⟩ := dk_rd I.hok e
  obtain ⟨ep, hat⟩ := dd.dictAt
  have len := rel.length
  refine kdl_call (kdl_dict (knd := mixKind X.prog X.w) (kvs := vs) (ep := ep) hd) (I.ok.hd hc) hat (by rw [← len]; exact z) fun h' tk acc c hk hS hacc => ?_
  have rv : Vals (kvs.map fun p => kV p.1) acc.toList := by
    refine vals_of_get (by rw [List.length_map, show acc.toList.length = acc.size from rfl, hacc.1, len]) fun i x u h1 h2 => ?_
    obtain ⟨k, v, hx, hk⟩ := hacc.2 i u (by simpa using h2)
    rw [List.getElem?_map] at h1
    cases hp : kvs[i]? with
    | none => rw [hp] at h1; cases h1
    | some p =>
      rw [hp] at h1
      obtain ⟨u', hu, _⟩ := rel.get (k := p.1) (v := p.2) hp
      rw [hu] at hx; cases hx
      cases h1
      exact is_kV hk
  exact ⟨.ref _, _, I.laid (t' := tk) hk (Nat.le_refl _) (show ObjOk X.prog X.w _ h' _ (.lst _) from ⟨by rw [List.length_map]; exact z, acc.toList, c, rv, by simpa using hS⟩), rfl, q _ (I.hok.fresh (Nat.le_refl _))⟩
end

/-! ### reversed(list) in a loop -/
end L2
set_option Elab.async false
set_option linter.all false
set_option maxRecDepth 100000
set_option maxHeartbeats 4000000
namespace L2
open PySem PySem.Spec PyProof.Rows PySem.W
/-- a def with defaults, of which all parameters are given: its defaults are read all the same -/
theorem FunD.bindsT {K : PySem.W.Frag} {x qual : Str} {st : Stmt} {f : Addr} {fd : FuncData} {ps : List Str} {T : Addr} {o : Obj} {items : Array Value} {n : Nat} (_F : FunD K x qual st f fd) (lk : K.lookup T = some o) (hd : fd.defaults = .ref T) (hs : o.data = .seq items n)
    (h : ∀ us : List Value, us.length = ps.length → ∃ k, bindArgs fd ⟨us, []⟩ = seqItems? fd.defaults >>= k ∧ k (some items) = pure (ps.zip us)) : Binds K fd ps [] := fun s us hk hl => by
  rw [List.append_nil] at hl ⊢
  obtain ⟨k, h1, h2⟩ := h us hl
  exact .of_defaults hd (hk _ _ lk) hs h1 h2
end L2
set_option Elab.async false
set_option linter.all false
set_option maxRecDepth 100000
set_option maxHeartbeats 4000000
namespace L2
open PySem PySem.Spec PyProof.Rows PySem.W
/-- a def with defaults, of which the last one is not given -/
theorem FunD.bindsS {K : PySem.W.Frag} {x qual : Str} {st : Stmt} {f : Addr} {fd : FuncData} {ps : List Str} {ds : List Value} {T : Addr} {o : Obj} {items : Array Value} {n : Nat} (_F : FunD K x qual st f fd) (lk : K.lookup T = some o) (hd : fd.defaults = .ref T) (hs : o.data = .seq items n)
    (h : ∀ us : List Value, (us ++ ds).length = ps.length → ∃ k, bindArgs fd ⟨us, []⟩ = seqItems? fd.defaults >>= k ∧ k (some items) = pure (ps.zip (us ++ ds))) : Binds K fd ps ds := fun s us hk hl => by
  obtain ⟨k, h1, h2⟩ := h us hl
  exact .of_defaults hd (hk _ _ lk) hs h1 h2
end L2
set_option Elab.async false
set_option linter.all false
set_option maxRecDepth 100000
set_option maxHeartbeats 4000000
namespace L2
open PySem PySem.Spec PyProof.Rows PySem.W
/-! ### dict(d): a new dict of the same pairs; a text times 1, 2 or 3 -/
section
variable {X : Cx}
theorem call_dictD : CallR X (.type "dict") (fun xs H Q => ∃ a kvs, xs = [.ref a] ∧ Rd H a (.dK kvs) ∧ ∀ p, H p = none → Q (.ref p) (upd H p (.dK kvs))) := by
  intro pins s σ H xs us Q I r h
  obtain ⟨a, kvs, rfl, e, q⟩ := h
  obtain ⟨u, rfl, rx⟩ := vals1 r
  cases rx
  exact d_copyOf I e fun p s' hp I' => ⟨.ref p, _, I', rfl, q p hp⟩
end
end L2
set_option Elab.async false
set_option linter.all false
set_option maxRecDepth 100000
set_option maxHeartbeats 4000000
namespace L2
open PySem PySem.Spec PyProof.Rows PySem.W
/-! ### == of tables (lists of lists of ints or None), whatever the answer -/
/-- a list of ints or None -/
def OvSeq (K : PySem.W.Frag) (H : Hp) (v : V) (xs : List (Option Int)) : Prop := ∃ a, v = .ref a ∧ SqL K H a (xs.map ov)
theorem ovs_inj {xs ys : List (Option Int)} (h : xs.map ov = ys.map ov) : xs = ys := by
  induction xs generalizing ys with
  | nil => cases ys with
    | nil => rfl
    | cons y ys => cases h
  | cons x xs ih => cases ys with
    | nil => cases h
    | cons y ys =>
      injection h with h1 h2
      rw [ih h2]
      cases x with
      | none => cases y with
        | none => rfl
        | some z => cases h1
      | some z => cases y with
        | none => cases h1
        | some w =>
          injection h1 with h1
          rw [h1]
section
variable {X : Cx} {pins : List (Addr × Obj)} {σ : St} {H : Hp} {s : Shared}
open PySem.SeqAt in
theorem ov_items {A : Around} {xs ys : List (Option Int)} {its its' : List Value} (rv : Vals (xs.map ov) its) (rv' : Vals (ys.map ov) its') :
    ∀ j (h1 : j < its.toArray.size) (h2 : j < its'.toArray.size), EqAt A s its.toArray[j] its'.toArray[j] (decide (xs.getD j none = ys.getD j none)) := fun j h1 h2 => by
  have l1 : its.toArray.size = xs.length := by rw [List.size_toArray, ← rv.length, List.length_map]
  have l2 : its'.toArray.size = ys.length := by rw [List.size_toArray, ← rv'.length, List.length_map]
  have k1 : j < xs.length := by omega
  have k2 : j < ys.length := by omega
  obtain ⟨u1, e1, r1⟩ := rv.get (show (xs.map ov)[j]? = some (ov xs[j]) by rw [List.getElem?_map, List.getElem?_eq_getElem k1]; rfl)
  obtain ⟨u2, e2, r2⟩ := rv'.get (show (ys.map ov)[j]? = some (ov ys[j]) by rw [List.getElem?_map, List.getElem?_eq_getElem k2]; rfl)
  have f1 : its.toArray[j] = u1 := by
    have := (List.getElem?_eq_some_iff.mp e1).2
    simpa using this
  have f2 : its'.toArray[j] = u2 := by
    have := (List.getElem?_eq_some_iff.mp e2).2
    simpa using this
  have d1 : xs.getD j none = xs[j] := by rw [List.getD_eq_getElem?_getD, List.getElem?_eq_getElem k1]; rfl
  have d2 : ys.getD j none = ys[j] := by rw [List.getD_eq_getElem?_getD, List.getElem?_eq_getElem k2]; rfl
  rw [f1, f2, d1, d2]
  generalize xs[j] = o1 at r1 ⊢
  generalize ys[j] = o2 at r2 ⊢
  cases o1 with
  | none =>
    have q1 : u1 = .none := by cases r1; rfl
    subst q1
    cases o2 with
    | none =>
      have q2 : u2 = .none := by cases r2; rfl
      subst q2
      rw [decide_eq_true rfl]
      exact EqAt.same _
    | some z =>
      obtain ⟨t, rfl⟩ := r2
      rw [decide_eq_false (by simp)]
      exact EqAt.none_int z t
  | some z =>
    obtain ⟨t, rfl⟩ := r1
    cases o2 with
    | none =>
      have q2 : u2 = .none := by cases r2; rfl
      subst q2
      rw [decide_eq_false (by simp)]
      exact EqAt.int_none z t
    | some w =>
      obtain ⟨t', rfl⟩ := r2
      have e : decide (some z = some w) = (z == w) := by rw [Bool.eq_iff_iff]; simp
      rw [e]
      exact EqAt.int_int z t w t'
open PySem.SeqAt in
theorem ov_seq_eq (I : Inv X pins σ H s) {A : Around} (hu : A.units + 1 < cLine) {v w : V} {u u' : Value} {xs ys : List (Option Int)} (h1 : OvSeq X.K H v xs) (h2 : OvSeq X.K H w ys) (r1 : RelV v u) (r2 : RelV w u') : EqAt A s u u' (decide (xs = ys)) := by
  obtain ⟨a, rfl, h1⟩ := h1
  obtain ⟨b, rfl, h2⟩ := h2
  cases r1
  cases r2
  obtain ⟨its, rv, p, _⟩ := I.list h1
  obtain ⟨its', rv', p', _⟩ := I.list h2
  have q : s.heap.IsList a its.toArray := p.isList
  have q' : s.heap.IsList b its'.toArray := p'.isList
  have l1 : its.toArray.size = xs.length := by rw [List.size_toArray, ← rv.length, List.length_map]
  have l2 : its'.toArray.size = ys.length := by rw [List.size_toArray, ← rv'.length, List.length_map]
  by_cases c : a = b
  · subst c
    have e := isList_uniq q q'
    have e' : its = its' := by simpa using e
    subst e'
    rw [decide_eq_true (ovs_inj (rv.inj rv'))]
    exact EqAt.same _
  · refine EqAt.of_refs c ?_
    by_cases hl : xs.length = ys.length
    · have g := RcAt.lists (A := A) q q' (by omega) (by omega) (ov_items (A := A.in1) rv rv')
      rw [l1, all_eq none hl] at g
      exact g
    · have g := RcAt.lists_lengths (A := A) q q' (bne_iff_ne.mpr (by omega)) (by omega)
      rw [decide_eq_false (fun h => hl (by rw [h]))]
      exact g
open PySem.SeqAt in
theorem op_eqTT (hu : X.A.units + 64 < cLine) : OpR X (compareOp .Eq) (fun x y H Q => ∃ a b vs ws xss yss, x = .ref a ∧ y = .ref b ∧ SqL X.K H a vs ∧ SqL X.K H b ws ∧ Paired (OvSeq X.K H) vs xss ∧ Paired (OvSeq X.K H) ws yss ∧ Q (.bl (decide (xss = yss))) H) := by
  intro pins s σ H x y v u Q I rx ry h
  obtain ⟨a, b, vs, ws, xss, yss, rfl, rfl, h1, h2, h3, h4, q⟩ := h
  cases rx
  cases ry
  obtain ⟨its, rv, p, _⟩ := I.list h1
  obtain ⟨its', rv', p', _⟩ := I.list h2
  have l1 : its.toArray.size = xss.length := by rw [List.size_toArray, ← rv.length, Paired.length h3]
  have l2 : its'.toArray.size = yss.length := by rw [List.size_toArray, ← rv'.length, Paired.length h4]
  by_cases hl : xss.length = yss.length
  · refine eq_listAt (e := fun j => decide (xss.getD j [] = yss.getD j [])) p.isList p'.isList (by omega) (by omega) (fun j k1 k2 => ?_) ?_
    · have j1 : j < vs.length := by rw [Paired.length h3]; omega
      have j2 : j < ws.length := by rw [Paired.length h4]; omega
      obtain ⟨u1, e1, r1⟩ := rv.get (List.getElem?_eq_getElem j1)
      obtain ⟨u2, e2, r2⟩ := rv'.get (List.getElem?_eq_getElem j2)
      have f1 : its.toArray[j] = u1 := by
        have := (List.getElem?_eq_some_iff.mp e1).2
        simpa using this
      have f2 : its'.toArray[j] = u2 := by
        have := (List.getElem?_eq_some_iff.mp e2).2
        simpa using this
      have pg : ∀ {l₁ : List V} {l₂ : List (List (Option Int))} {i : Nat} {x : V}, Paired (OvSeq X.K H) l₁ l₂ → l₁[i]? = some x → OvSeq X.K H x (l₂.getD i []) := by
        intro l₁ l₂ i x hp
        induction hp generalizing i with
        | nil => intro e; simp at e
        | cons r t ih =>
          intro e
          cases i with
          | zero => simp at e; subst e; simpa using r
          | succ i => simpa using ih (by simpa using e)
      rw [f1, f2]
      exact ov_seq_eq I (by rw [units_in1]; omega) (pg h3 (List.getElem?_eq_getElem j1)) (pg h4 (List.getElem?_eq_getElem j2)) r1 r2
    · rw [l1, all_eq [] hl]
      exact ⟨.bl _, H, I, rfl, q⟩
  · refine eq_list_lengthsAt p.isList p'.isList (bne_iff_ne.mpr (by omega)) (by omega) ?_
    rw [decide_eq_false (fun h => hl (by rw [h]))] at q
    exact ⟨.bl false, H, I, rfl, q⟩
end
end L2
set_option Elab.async false
set_option linter.all false
set_option maxRecDepth 100000
set_option maxHeartbeats 4000000
namespace L2
open PySem PySem.Spec PyProof.Rows PySem.W
/-! ### texts: a part, a join, the repr within an f-text; keyword arguments of a method -/
section
variable {X : Cx}
/-- s[lo:hi] of a text -/
def rSlS : V → Option Int → Option Int → Hp → VK → Prop := fun x lo hi H Q => ∃ z : Str, x = .str z ∧ z.length ≤ sizeLine ∧ Q (.str (Txt.slice z lo hi)) H
theorem part_of {v : Value} {o : Option Int} (h : IsPart v o) : ∃ l : Option (Int × Tok), v = partValue l ∧ l.map (·.1) = o := by
  cases h with
  | none => exact ⟨none, rfl, rfl⟩
  | int i t => exact ⟨some (i, t), rfl, rfl⟩
theorem sl_str : SlR X rSlS := by
  intro pins s σ H x v vl vu lo hi sl Q I rx hs pl pu h
  obtain ⟨z, rfl, hz, q⟩ := h
  obtain ⟨t, rfl⟩ := rx
  obtain ⟨l, rfl, el⟩ := part_of pl
  obtain ⟨u, rfl, eu⟩ := part_of pu
  refine ⟨"str", _, F.slot_str_getitem.lookup, typeIs_str _ _ _, wpAny_getItem_str_slice (l := l) (u := u) (st := none) hs rfl ?_⟩
  unfold sliceMade slicePicked
  rw [el, eu]
  exact post_val_or_str ⟨Nat.le_trans (Txt.slice_le z lo hi) hz, fun t' k => ⟨.str (Txt.slice z lo hi), H, I.tok _, ⟨_, rfl⟩, q⟩⟩
theorem strs_are : ∀ {ys : List Str} {its : List Value}, Vals (ys.map V.str) its → StrsAre its ys
  | [], its, h => by
    cases h
    exact .nil
  | y :: ys, its, h => by
    cases h with
    | cons r t =>
      obtain ⟨k, rfl⟩ := r
      exact .cons y k (strs_are t)
theorem mt_join : MtR X "str.join" (fun x xs H Q => ∃ (sep : Str) (p : Addr) (ys : List Str), x = .str sep ∧ xs = [.ref p] ∧ SqL X.K H p (ys.map V.str) ∧ (ys.map (·.length)).sum + ys.length * sep.length ≤ 1000 ∧ Q (.str (Txt.join sep ys)) H) := by
  intro pins s σ H x vs v us Q I rx rv h
  obtain ⟨sep, p, ys, rfl, rfl, hq, hz, q⟩ := h
  obtain ⟨t, rfl⟩ := rx
  obtain ⟨u, rfl, ru⟩ := rv.one
  cases ru
  obtain ⟨its, r, pl, _⟩ := I.list hq
  exact join_list pl.isList (strs_are r) (by omega) fun t' k => ⟨.str (Txt.join sep ys), H, I.tok _, ⟨_, rfl⟩, q⟩
def jRepr (te : TE) (t : St → Hp → (Hp → Prop) → Prop) : St → Hp → (Hp → Prop) → Prop := fun σ H Q => te σ H fun v H1 => ∃ x : Str, v = .str x ∧ (reprText x).length ≤ 1000 ∧ t σ H1 Q
theorem pj_repr {e : Expr} {te : TE} {pos : Pos} {es : List Expr} {n : Nat} {t : St → Hp → (Hp → Prop) → Prop} (he : PE X e te) (h : PJ X es n t) : PJ X (.FormattedValue e 114 none pos :: es) (1000 + n) (jRepr te t) := by
  intro pins s σ H acc R Q I hz hq k
  show wpAny _ _ (eval (.FormattedValue e 114 none pos) X.env) _ _ s
  refine wpAny_FormattedValue_repr (thn (he pins s σ H _ I hq) fun v s1 h1 => ?_)
  obtain ⟨v', H1, I1, r, x, e1, h2, h4⟩ := h1
  subst e1
  obtain ⟨tk, rfl⟩ := r
  have hx : (reprText x).length ≤ sizeLine := Nat.le_trans h2 (by decide)
  have hl := strLen_append acc (reprText x)
  refine wpAny_pyReprObj_gives (typeIs_str s1 x tk) F.slot_str_repr F.entry_str_repr (F.args_str_repr_1 _) (gives_str_repr x tk) ?_ rfl hx
  refine wpAny_formatField_str ⟨_, _, rfl, by omega, ?_⟩ ⟨_, _, rfl, by omega, ?_⟩ hx
  · exact h pins { s1 with toks := s1.toks + 1 } σ H1 _ R Q (I1.tok _) (by omega) h4 k
  · exact h pins { s1 with toks := s1.toks + 1 + 1 } σ H1 _ R Q (I1.tok _) (by omega) h4 k
/-- a text of signs below 128 -/
def Asc (s : Str) : Prop := ∀ c ∈ s.cps.toList, c < 128
theorem Asc.app {a b : Str} (h : Asc a) (g : Asc b) : Asc (a ++ b) := fun c hc => by
  have hc : c ∈ (a.cps ++ b.cps).toList := hc
  rw [Array.toList_append] at hc
  rcases List.mem_append.mp hc with m | m
  · exact h c m
  · exact g c m
theorem asc_join {sep : Str} (hs : Asc sep) : ∀ {ys : List Str}, (∀ y ∈ ys, Asc y) → Asc (PySem.Str.join sep ys)
  | [], _ => fun c hc => by cases hc
  | [x], h => h x (List.mem_cons_self ..)
  | x :: y :: r, h => ((h x (List.mem_cons_self ..)).app hs).app (asc_join hs fun z hz => h z (List.mem_cons_of_mem _ hz))
theorem asc_tjoin {sep : Str} {ys : List Str} (hs : Asc sep) (h : ∀ y ∈ ys, Asc y) : Asc (Txt.join sep ys) := by
  unfold Txt.join
  rw [StrLaws.glued_eq_join]
  exact asc_join hs h
theorem len_tjoin (sep : Str) (ys : List Str) : (Txt.join sep ys).length ≤ (ys.map (·.length)).sum + ys.length * sep.length := by
  unfold Txt.join
  rw [StrLaws.glued_eq_join]
  exact StrLaws.join_length_le sep ys
theorem asc_slice {z : Str} (h : Asc z) (lo hi : Option Int) : Asc (Txt.slice z lo hi) := by
  unfold Txt.slice
  split
  · exact h
  · intro c hc
    have hc : c ∈ (List.filterMap (z.cps[·]?) (Builtin.Str.strSliceIndices lo hi 1 z.length)).toArray.toList := hc
    simp only [List.toList_toArray] at hc
    obtain ⟨i, _, e⟩ := List.mem_filterMap.mp hc
    refine h c ?_
    have := Array.mem_of_getElem? e
    simpa using this
theorem asc_one {z : Str} {c : Nat} {i : Int} (h : Asc z) (e : atI z.cps.toList i = some c) : Asc ⟨#[c]⟩ := fun d hd => by
  obtain ⟨j, _, h2, _⟩ := atI_get e
  have hd : d ∈ [c] := hd
  rw [List.mem_singleton.mp hd]
  exact h c (List.mem_of_getElem? h2)
theorem repr_char : ∀ c, c < 128 → (Builtin.Str.reprChar 34 c).length ≤ 4 ∧ (Builtin.Str.reprChar 39 c).length ≤ 4 := by decide +kernel
theorem repr_len {x : Str} (h : Asc x) : (reprText x).length ≤ 4 * x.length + 2 := by
  rw [← reprLen_eq, ← Array.foldl_toList]
  have hq : reprQuote x = 34 ∨ reprQuote x = 39 := by
    unfold reprQuote
    split
    · exact .inl rfl
    · exact .inr rfl
  have go : ∀ (l : List Nat) (n : Nat), (∀ c ∈ l, c < 128) → l.foldl (fun n c => n + (Builtin.Str.reprChar (reprQuote x) c).length) n ≤ n + 4 * l.length := by
    intro l
    induction l with
    | nil => intro n _; exact Nat.le_refl _
    | cons c r ih =>
      intro n hc
      have h1 := repr_char c (hc c (List.mem_cons_self ..))
      have h2 : (Builtin.Str.reprChar (reprQuote x) c).length ≤ 4 := by
        rcases hq with e | e <;> rw [e]
        · exact h1.1
        · exact h1.2
      have := ih (n + (Builtin.Str.reprChar (reprQuote x) c).length) fun d hd => hc d (List.mem_cons_of_mem _ hd)
      rw [List.foldl_cons, List.length_cons]
      omega
  have := go x.cps.toList 2 h
  have hl : x.cps.toList.length = x.length := by simp [Str.length]
  omega
/-- o.m(e, .., k = v) -/
def tMethK (C : Addr) (m : Str) (sp : Sp) (gV : List V → List V → List V) (E : XK) (ta : TE) (t tk : TA) : TE := fun σ H Q => ta σ H fun x H1 => ∃ a dx fs, x = .ref a ∧ H1 a = some (.ins C dx fs) ∧ fs.lookup m = none ∧
  t σ H1 fun vs H2 => tk σ H2 fun zs H3 => sp (gV (x :: vs) zs) H3 Q E
theorem pe_methK {C f : Addr} {m : Str} {CX : CXT} {E : XK} {k : Nat} {fd : FuncData} {ps ks : List Str} {sp : Sp} {g : List Value → List Value → List Value} {gV : List V → List V → List V} {o e : Expr} {es : List Expr} {kws : List Keyword} {ta : TE} {t tk : TA} {apos pos : Pos} {pl : Sem Bool}
    (he : PE X o ta) (c : Cls X.K C) (hm : Meth X.K C m f) (F : FnOk X.prog X.w X.K X.mg X.base CX k f fd ps sp) (hr : Room k X.A) (hb : KBinds X.K fd ps ks g gV) (hx : Passes CX X E) (ha : PA X (e :: es) t) (hkw : PK X kws tk)
    (hall : (backToKw pos (keywordEach kws X.env)).all (·.1.isSome) = true := by rfl) (hks : (backToKw pos (keywordEach kws X.env)).filterMap (·.1) = ks := by rfl)
    (hst : starEach (e :: es) X.env = (false, eval e X.env) :: starEach es X.env := by rfl)
    (hpl : ((backTo pos (starEach (e :: es) X.env)).any (·.1) || (backToKw pos (keywordEach kws X.env)).any (·.1.isNone)) = false := by rfl)
    (ht : eval (.Call (.Attribute o m apos) (e :: es) kws pos) X.env = (do
      let ov ← eval o X.env
      standAt apos.atName
      let (f, first) ← holding [ov] (getMethod ov m pl)
      callWith pos f first (backTo pos (starEach (e :: es) X.env)) (backToKw pos (keywordEach kws X.env))) := by rfl) :
    PE X (.Call (.Attribute o m apos) (e :: es) kws pos) (tMethK C m sp gV E ta t tk) := by
  intro pins s σ H Q I h
  refine PySem.W.methodCall_KW (pl := pl) (thn (he pins s σ H _ I h) fun u s1 ⟨x, H1, I1, rx, a, dx, fs, ex, ea, l, q⟩ => ?_) ht
  subst ex
  obtain rfl : u = Value.ref a := rx
  refine getmeth_ok I1 ea c hm l ?_
  refine PySem.W.callWith_KW (first := [.ref a]) (h₀ := X.base) I.ok.mod.kin hm.kp hall (thn (ha pos pins s1 σ H1 _ I1 q) fun us s2 ⟨vs, H2, I2, r, q2⟩ => ?_) hpl hst
  refine thn (hkw pos pins s2 σ H2 _ I2 q2) fun ws s3 ⟨zs, H3, I3, rz, q3⟩ => ⟨I3.kIn, ?_⟩
  rw [hks]
  exact run_fnk (us := .ref a :: us) (vs := .ref a :: vs) F hr hb hx I3 (.cons rfl r) rz q3
end
/-- the last parameter by its name, the one ahead of it left out -/
def gHi (us ws : List Value) : List Value := match ws with | [h] => us ++ [.none, h] | _ => []
def gHiV (vs zs : List V) : List V := match zs with | [h] => vs ++ [.non, h] | _ => []
/-- the last but one by its name, the last left out -/
def gLo (us ws : List Value) : List Value := match ws with | [h] => us ++ [h, .none] | _ => []
def gLoV (vs zs : List V) : List V := match zs with | [h] => vs ++ [h, .non] | _ => []
theorem valsNN : Vals [V.non, V.non] [Value.none, Value.none] := .cons rfl (.cons rfl .nil)
theorem gHi_rel {vs : List V} {us : List Value} {zs : List V} {ws : List Value} (r : Vals vs us) (rz : Vals zs ws) : Vals (gHiV vs zs) (gHi us ws) := by
  cases rz with
  | nil => exact .nil
  | cons h t => cases t with
    | nil => exact r.append (.cons rfl (.cons h .nil))
    | cons _ _ => exact .nil
theorem gLo_rel {vs : List V} {us : List Value} {zs : List V} {ws : List Value} (r : Vals vs us) (rz : Vals zs ws) : Vals (gLoV vs zs) (gLo us ws) := by
  cases rz with
  | nil => exact .nil
  | cons h t => cases t with
    | nil => exact r.append (.cons h (.cons rfl .nil))
    | cons _ _ => exact .nil
/-- a method that may raise: all its parameters given, the last two left out, one of them by its name -/
structure MCalA (P : Program) (w : World) (K : PySem.W.Frag) (mg : Str → Option Value) (base : Heap) (C : Addr) (k : Nat) (m : Str) (ps : List Str) (sp : Sp) where
  f : Addr
  fd : FuncData
  ok : FnOk P w K mg base (CXx P w) k f fd ps sp
  b : Binds K fd ps []
  b2 : Binds K fd ps [.none, .none]
  kh : KBinds K fd ps ["high"] gHi gHiV
  kl : KBinds K fd ps ["low"] gLo gLoV
  mt : Meth K C m f
theorem lenS2 {us : List Value} {n : Nat} (h : (us ++ [Value.none, Value.none]).length = n + 2) : us.length = n := by
  rw [List.length_append] at h
  exact Nat.add_right_cancel (m := 2) h
theorem FunD.kbHi {K : PySem.W.Frag} {x qual : Str} {st : Stmt} {f : Addr} {fd : FuncData} {ps : List Str} {T : Addr} {o : Obj} {items : Array Value} {n : Nat} (_F : FunD K x qual st f fd) (lk : K.lookup T = some o) (hd : fd.defaults = .ref T) (hs : o.data = .seq items n)
    (h : ∀ (us : List Value) (w : Value), (us ++ [.none, w]).length = ps.length → ∃ k, bindArgs fd ⟨us, [("high", w)]⟩ = seqItems? fd.defaults >>= k ∧ k (some items) = pure (ps.zip (us ++ [.none, w]))) (h0 : 0 < ps.length) : KBinds K fd ps ["high"] gHi gHiV := by
  refine ⟨fun s us ws hk hl => ?_, gHi_rel⟩
  match ws with
  | [] => exact absurd hl (by show ¬ (0 = _); omega)
  | [w] =>
    obtain ⟨k, h1, h2⟩ := h us w hl
    exact .of_defaults hd (hk _ _ lk) hs h1 h2
  | _ :: _ :: _ => exact absurd hl (by show ¬ (0 = _); omega)
theorem FunD.kbLo {K : PySem.W.Frag} {x qual : Str} {st : Stmt} {f : Addr} {fd : FuncData} {ps : List Str} {T : Addr} {o : Obj} {items : Array Value} {n : Nat} (_F : FunD K x qual st f fd) (lk : K.lookup T = some o) (hd : fd.defaults = .ref T) (hs : o.data = .seq items n)
    (h : ∀ (us : List Value) (w : Value), (us ++ [w, .none]).length = ps.length → ∃ k, bindArgs fd ⟨us, [("low", w)]⟩ = seqItems? fd.defaults >>= k ∧ k (some items) = pure (ps.zip (us ++ [w, .none]))) (h0 : 0 < ps.length) : KBinds K fd ps ["low"] gLo gLoV := by
  refine ⟨fun s us ws hk hl => ?_, gLo_rel⟩
  match ws with
  | [] => exact absurd hl (by show ¬ (0 = _); omega)
  | [w] =>
    obtain ⟨k, h1, h2⟩ := h us w hl
    exact .of_defaults hd (hk _ _ lk) hs h1 h2
  | _ :: _ :: _ => exact absurd hl (by show ¬ (0 = _); omega)
theorem len2 {us : List Value} {a b : Value} {n : Nat} (h : (us ++ [a, b]).length = n + 2) : us.length = n := by
  rw [List.length_append] at h
  exact Nat.add_right_cancel (m := 2) h
end L2

namespace Toy
open PySem PySem.Spec PyProof.Rows L2
def top (i : Nat) : Stmt := PySem.Challenge.pw_waithouse_k27_names_of_gaps.main.body.getD i (.Pass ⟨0, 0, 0, 0⟩)
abbrev s_bounds_of : Stmt := top 9
abbrev s_wide : Stmt := top 11
abbrev s_wide_row : Stmt := top 12
abbrev s_table_of : Stmt := top 13
abbrev s_held : Stmt := top 14
abbrev s_shuts : Stmt := top 15
abbrev s_held_row : Stmt := top 16
abbrev s_total : Stmt := top 17
abbrev s_lesser : Stmt := top 18
abbrev s_all_bounds : Stmt := top 31
abbrev s_law_cell : Stmt := top 36
abbrev s_law_whole : Stmt := top 37
abbrev s_law_spread : Stmt := top 38
abbrev s_law_big : Stmt := top 39
abbrev s_law_names : Stmt := top 40
abbrev s_law_gap : Stmt := top 41
abbrev s_law_added : Stmt := top 42
abbrev s_law_deed : Stmt := top 43
abbrev s_law_refused : Stmt := top 44
abbrev s_law_right : Stmt := top 45
abbrev s_law : Stmt := top 46
abbrev s_House___init__ : Stmt := inClass (top 30) 0
abbrev s_House_add : Stmt := inClass (top 30) 1
abbrev s_House_drop : Stmt := inClass (top 30) 2
abbrev s_House_need : Stmt := inClass (top 30) 3
abbrev s_House_names : Stmt := inClass (top 30) 4
abbrev s_House_gap : Stmt := inClass (top 30) 5
abbrev s_House_table : Stmt := inClass (top 30) 6
abbrev s_House_idle : Stmt := inClass (top 30) 9
structure Cl where
  WaitError : Addr
  NoLink : Addr
  NoRoom : Addr
  NoTime : Addr
  NoName : Addr
  NoKeep : Addr
  NoRow : Addr
  House : Addr
structure Txt (K : PySem.W.Frag) (mg : Str → Option Value) (cl : Cl) : Prop where
  z_ValueError : mg "ValueError" = none
  z_bool : mg "bool" = none
  z_dict : mg "dict" = none
  z_int : mg "int" = none
  z_isinstance : mg "isinstance" = none
  z_len : mg "len" = none
  z_list : mg "list" = none
  z_min : mg "min" = none
  z_range : mg "range" = none
  z_tuple : mg "tuple" = none
  g_WaitError : mg "WaitError" = some (.ref cl.WaitError)
  g_NoLink : mg "NoLink" = some (.ref cl.NoLink)
  g_NoRoom : mg "NoRoom" = some (.ref cl.NoRoom)
  g_NoTime : mg "NoTime" = some (.ref cl.NoTime)
  g_NoName : mg "NoName" = some (.ref cl.NoName)
  g_NoKeep : mg "NoKeep" = some (.ref cl.NoKeep)
  g_NoRow : mg "NoRow" = some (.ref cl.NoRow)
  g_House : mg "House" = some (.ref cl.House)
  x_NoName : PySem.W.excIn K cl.NoName VB "ValueError.__new__" = true
  k_NoName : ExcK K cl.NoName
  h_WaitError : HdK K cl.WaitError
  cl_House : Cls K cl.House
  n_House_count : NoAttr K cl.House "count"
  n_House_gaps : NoAttr K cl.House "gaps"
  sub_W : PySem.W.subIn K (.ref cl.NoName) (.ref cl.WaitError) = some true
  is_V : PySem.W.kitOne K (.ref cl.NoName) (.type "ValueError") = some true
  is_N : PySem.W.kitOne K (.ref cl.NoName) (.ref cl.NoName) = some true
  no_T : PySem.W.kitAny K (.ref cl.NoName) [.ref cl.NoLink, .ref cl.NoRoom, .ref cl.NoTime, .ref cl.NoKeep, .ref cl.NoRow] = some false
theorem ints_snoc {acc : List V} {zs : List Int} (h : acc = zs.map V.int) (y : Int) : acc ++ [V.int y] = (zs ++ [y]).map V.int := by
  rw [h, List.map_append]; rfl
theorem cut_map {α : Type} (f : α → V) (zs : List α) (lo hi : Option Int) : ∃ ys : List α, cutV (zs.map f) lo hi = ys.map f ∧ ys.length ≤ zs.length := by
  refine ⟨(zs.drop (HT.sIx zs.length 0 lo)).take (HT.sIx zs.length zs.length hi - HT.sIx zs.length 0 lo), ?_, ?_⟩
  · unfold cutV
    rw [List.length_map, List.map_take, List.map_drop]
  · rw [List.length_take, List.length_drop]; omega
def sp_law_cell (K : PySem.W.Frag) : Sp := fun vs H Q _ => ∃ (a : Addr) (ns : List Int) (k : Int), vs = [.ref a, .int k] ∧ SqL K H a (ns.map V.int) ∧ ns.length ≤ 63 ∧ 0 ≤ k ∧ k ≤ 100 ∧ ∀ i : Int, Q (.int i) H
def sp_law_whole (K : PySem.W.Frag) : Sp := fun vs H Q _ => ∃ i : Int, vs = [.int i] ∧ Q (.bl true) H
def sp_law_big (K : PySem.W.Frag) : Sp := fun vs H Q _ => ∃ c : Int, vs = [.int c] ∧ ∀ i : Int, Q (.int i) H
def sp_law (K : PySem.W.Frag) : Sp := fun vs H Q _ => ∃ (a : Addr) (ns : List Int), vs = [.ref a] ∧ SqL K H a (ns.map V.int) ∧ ns.length ≤ 63 ∧ ∀ H', Q (.bl true) H'
/-! bounds: triples of numbers, each a tuple of its own -/
abbrev Bd := Int × Int × Int
def bv (m : Bd) : List V := [.int m.1, .int m.2.1, .int m.2.2]
def AreB (H : Hp) : List V → List Bd → Prop := Paired fun v m => ∃ p, v = .ref p ∧ H p = some (.tup (bv m))
theorem AreB.same {H H' : Hp} {vs : List V} {ms : List Bd} (s : Same H H') (h : AreB H vs ms) : AreB H' vs ms := Paired.mapP h fun _ _ ⟨p, e, q⟩ => ⟨p, e, s _ _ q⟩
theorem AreB.len {H : Hp} {vs : List V} {ms : List Bd} (h : AreB H vs ms) : vs.length = ms.length := Paired.length h
theorem AreB.get {H : Hp} : ∀ {vs : List V} {ms : List Bd} {i : Nat} {v : V}, AreB H vs ms → vs[i]? = some v → ∃ p m, ms[i]? = some m ∧ v = .ref p ∧ H p = some (.tup (bv m))
  | _, _, _, _, .nil, e => by simp at e
  | _, _, 0, _, .cons ⟨p, e1, q⟩ _, e => by
    simp at e
    exact ⟨p, _, rfl, e.symm.trans e1, q⟩
  | _, _, i + 1, v, .cons _ t, e => by
    obtain ⟨p, m, h1, h2⟩ := AreB.get (i := i) (v := v) t (by simpa using e)
    exact ⟨p, m, by simpa using h1, h2⟩
theorem AreB.snoc {H : Hp} {vs : List V} {ms : List Bd} {p : Addr} {m : Bd} (h : AreB H vs ms) (e : H p = some (.tup (bv m))) : AreB H (vs ++ [.ref p]) (ms ++ [m]) := Paired.snoc h ⟨p, rfl, e⟩
/-- a new tuple is appended to a list that is not among what stood before -/
theorem app_same {H H1 : Hp} {r p : Addr} {o u : HO} (hr : H r = none) (s : Same H H1) (hp : H1 p = none) : Same H (upd (upd H1 p o) r u) := fun b x e => by
  rw [upd_ne (ne_of_none e hr), upd_ne (ne_of_none (s b x e) hp)]; exact s b x e
theorem app_at {H1 : Hp} {r p : Addr} {o u w : HO} (h1 : H1 r = some w) (hp : H1 p = none) : (upd (upd H1 p o) r u) p = some o := by
  rw [upd_ne (Ne.symm (ne_of_none h1 hp)), upd_same]
theorem AreB.app {H1 : Hp} {vs xs : List V} {ms : List Bd} {r p : Addr} {m : Bd} {u : HO} (h : AreB H1 vs ms) (h1 : H1 r = some (.lst xs)) (hp : H1 p = none) : AreB (upd (upd H1 p (.tup (bv m))) r u) (vs ++ [.ref p]) (ms ++ [m]) := by
  refine AreB.snoc (Paired.mapP h fun v m ⟨t, e, q⟩ => ⟨t, e, ?_⟩) (app_at h1 hp)
  rw [upd_ne (ne_of q h1 (fun z => by cases z)), upd_ne (ne_of_none q hp)]; exact q
theorem atI_of {α : Type} {xs : List α} {i : Int} {n : Nat} {v : α} (h0 : 0 ≤ i) (hn : i.toNat = n) (h : xs[n]? = some v) : atI xs i = some v := by
  have e : i = ((n : Nat) : Int) := by omega
  rw [e]
  exact atI_nat h
def sp_law_spread (K : PySem.W.Frag) : Sp := fun vs H Q _ => ∃ c k : Int, vs = [.int c, .int k] ∧ 0 ≤ k ∧ k ≤ 100 ∧ ∀ i : Int, Q (.int i) H
/-- the bounds of a gap -/
def hiB (a b : Int) : Option Int → List Bd
  | none => []
  | some h => [(a, b, h)]
def loB (a b : Int) : Option Int → List Bd
  | none => []
  | some l => [(b, a, -l)]
def bnds (a b : Int) (low high : Option Int) : List Bd := hiB a b high ++ loB a b low
def sp_bounds_of (K : PySem.W.Frag) : Sp := fun vs H Q _ => ∃ (u : Addr) (a b : Int) (low high : Option Int), vs = [.ref u] ∧ SqT K H u [.int a, .int b, ov low, ov high] ∧
  ∀ (r : Addr) (H' : Hp) (qs : List V), H r = none → Same H H' → H' r = some (.lst qs) → AreB H' qs (bnds a b low high) → Q (.ref r) H'
/-! tables, chains, rings: the mathematics of bounds -/
abbrev Tab := List (List (Option Int))
def ent (t : Tab) (a b : Int) : Option Int := (t.getD a.toNat []).getD b.toNat none
def inN (a : Int) (n : Nat) : Prop := 0 ≤ a ∧ a < n
inductive Path (bs : List Bd) : Int → Int → Int → Prop where
  | nil (a : Int) : Path bs a a 0
  | cons {a x b c d : Int} (h : (a, x, c) ∈ bs) (r : Path bs x b d) : Path bs a b (c + d)
theorem Path.one {bs : List Bd} {a b c : Int} (h : (a, b, c) ∈ bs) : Path bs a b c := by
  have q := Path.cons h (.nil b)
  rw [Int.add_zero] at q
  exact q
theorem Path.trans {bs : List Bd} {a b c d e : Int} (p : Path bs a b c) : Path bs b d e → Path bs a d (c + e) := by
  induction p with
  | nil a => intro q; rw [Int.zero_add]; exact q
  | cons h r ih =>
    intro q
    rw [Int.add_assoc]
    exact .cons h (ih q)
theorem Path.mono {bs cs : List Bd} {a b c : Int} (p : Path bs a b c) (h : ∀ m ∈ bs, m ∈ cs) : Path cs a b c := by
  induction p with
  | nil a => exact .nil a
  | cons k r ih => exact .cons (h _ k) ih
def Within (n : Nat) (bs : List Bd) : Prop := ∀ m ∈ bs, inN m.1 n ∧ inN m.2.1 n
def NegR (bs : List Bd) : Prop := ∃ a c, c < 0 ∧ Path bs a a c
/-- t is the table of the bounds -/
structure Right (n : Nat) (bs : List Bd) (t : Tab) : Prop where
  len : t.length = n
  row : ∀ r ∈ t, r.length = n
  low : ∀ a b c, inN a n → inN b n → Path bs a b c → ∃ e, ent t a b = some e ∧ e ≤ c
  hit : ∀ a b e, inN a n → inN b n → ent t a b = some e → Path bs a b e
theorem Right.self {n : Nat} {bs : List Bd} {t : Tab} (R : Right n bs t) {a : Int} (ha : inN a n) : ent t a a = some 0 := by
  obtain ⟨e, h1, h2⟩ := R.low a a 0 ha ha (.nil a)
  have p := R.hit a a e ha ha h1
  obtain ⟨e', h3, h4⟩ := R.low a a (e + e) ha ha (p.trans p)
  rw [h1] at h3
  cases h3
  have : e = 0 := by omega
  rw [h1, this]
theorem Right.tri {n : Nat} {bs : List Bd} {t : Tab} (R : Right n bs t) {a p b x y : Int} (ha : inN a n) (hp : inN p n) (hb : inN b n) (h1 : ent t a p = some x) (h2 : ent t p b = some y) : ∃ e, ent t a b = some e ∧ e ≤ x + y :=
  R.low a b (x + y) ha hb ((R.hit a p x ha hp h1).trans (R.hit p b y hp hb h2))
theorem ent_nat (t : Tab) (i j : Nat) : ent t (i : Int) (j : Int) = (t.getD i []).getD j none := by
  unfold ent; rw [Int.toNat_natCast, Int.toNat_natCast]
/-! tables in the heap -/
def RowsAt (H : Hp) : List Addr → Tab → Prop := Paired fun r row => H r = some (.lst (row.map ov))
structure TabAt (H : Hp) (p : Addr) (rs : List Addr) (t : Tab) : Prop where
  ob : H p = some (.lst (rs.map V.ref))
  rows : RowsAt H rs t
def Square (n : Nat) (t : Tab) : Prop := t.length = n ∧ ∀ r ∈ t, r.length = n
theorem Right.square {n : Nat} {bs : List Bd} {t : Tab} (R : Right n bs t) : Square n t := ⟨R.len, R.row⟩
theorem TabAt.same {H H' : Hp} {p : Addr} {rs : List Addr} {t : Tab} (s : Same H H') (h : TabAt H p rs t) : TabAt H' p rs t := ⟨s _ _ h.ob, Paired.mapP h.rows fun _ _ q => s _ _ q⟩
theorem paired_get {α β : Type} {F : α → β → Prop} : ∀ {l₁ : List α} {l₂ : List β} {i : Nat} {x : α}, Paired F l₁ l₂ → l₁[i]? = some x → ∃ y, l₂[i]? = some y ∧ F x y
  | _, _, _, _, .nil, e => by simp at e
  | _, _, 0, _, .cons r _, e => by simp at e; subst e; exact ⟨_, rfl, r⟩
  | _, _, i + 1, x, .cons _ t, e => by
    obtain ⟨y, h1, h2⟩ := paired_get (i := i) (x := x) t (by simpa using e)
    exact ⟨y, by simpa using h1, h2⟩
theorem TabAt.at {H : Hp} {p : Addr} {rs : List Addr} {t : Tab} {n : Nat} (T : TabAt H p rs t) (S : Square n t) {a b : Int} (ha : inN a n) (hb : inN b n) :
    ∃ (r : Addr) (row : List (Option Int)), atI (rs.map V.ref) a = some (.ref r) ∧ H r = some (.lst (row.map ov)) ∧ atI (row.map ov) b = some (ov (ent t a b)) := by
  have hl := Paired.length T.rows
  have h1 : a.toNat < rs.length := by have := ha.1; have := ha.2; have := S.1; omega
  obtain ⟨row, e1, e2⟩ := paired_get T.rows (List.getElem?_eq_getElem h1)
  have hr := S.2 row (List.mem_of_getElem? e1)
  have h2 : b.toNat < row.length := by have := hb.1; have := hb.2; omega
  refine ⟨rs[a.toNat], row, atI_of ha.1 rfl ?_, e2, atI_of hb.1 rfl ?_⟩
  · rw [List.getElem?_map, List.getElem?_eq_getElem h1]; rfl
  · have q : ent t a b = row[b.toNat] := by
      unfold ent
      simp only [List.getD_eq_getElem?_getD]
      rw [e1, Option.getD_some, List.getElem?_eq_getElem h2, Option.getD_some]
    rw [q, List.getElem?_map, List.getElem?_eq_getElem h2]
    rfl
/-! the program's tables: mathematics -/
def tot : Option Int → Option Int → Option Int
  | some x, some y => some (x + y)
  | _, _ => none
def les : Option Int → Option Int → Option Int
  | none, y => y
  | some x, none => some x
  | some x, some y => some (if y < x then y else x)
def mkT (n : Nat) (f : Int → Int → Option Int) : Tab := (List.range n).map fun (i : Nat) => (List.range n).map fun (j : Nat) => f (i : Int) (j : Int)
theorem mkT_square (n : Nat) (f : Int → Int → Option Int) : Square n (mkT n f) := by
  refine ⟨by unfold mkT; simp, fun r hr => ?_⟩
  unfold mkT at hr
  obtain ⟨i, _, e⟩ := List.mem_map.mp hr
  rw [← e]; simp
theorem mkT_ent {n : Nat} (f : Int → Int → Option Int) {a b : Int} (ha : inN a n) (hb : inN b n) : ent (mkT n f) a b = f a b := by
  obtain ⟨i, rfl⟩ : ∃ i : Nat, a = (i : Int) := ⟨a.toNat, by have := ha.1; omega⟩
  obtain ⟨j, rfl⟩ : ∃ j : Nat, b = (j : Int) := ⟨b.toNat, by have := hb.1; omega⟩
  have hi : i < n := by have := ha.2; omega
  have hj : j < n := by have := hb.2; omega
  rw [ent_nat]
  unfold mkT
  simp [List.getD_eq_getElem?_getD, hi, hj]
def wideT (n : Nat) : Tab := mkT n fun a b => if a = b then some 0 else none
def heldF (t : Tab) (m : Bd) (a b : Int) : Option Int := les (ent t a b) (tot (tot (ent t a m.1) (some m.2.2)) (ent t m.2.1 b))
def heldT (n : Nat) (t : Tab) (m : Bd) : Tab := mkT n (heldF t m)
def shutB (t : Tab) (m : Bd) : Bool := match ent t m.2.1 m.1 with
  | none => false
  | some e => decide (e + m.2.2 < 0)
theorem Path.none {a b c : Int} (p : Path [] a b c) : a = b ∧ c = 0 := by
  cases p with
  | nil => exact ⟨rfl, rfl⟩
  | cons h _ => exact (nomatch h)
theorem wide_right (n : Nat) : Right n [] (wideT n) where
  len := (mkT_square n _).1
  row := (mkT_square n _).2
  low a b c ha hb p := by
    obtain ⟨rfl, rfl⟩ := p.none
    exact ⟨0, by unfold wideT; rw [mkT_ent _ ha hb, if_pos rfl], Int.le_refl _⟩
  hit a b e ha hb h := by
    unfold wideT at h
    rw [mkT_ent _ ha hb] at h
    by_cases q : a = b
    · rw [if_pos q] at h
      cases h
      rw [q]; exact .nil b
    · rw [if_neg q] at h; cases h
theorem held_old {t : Tab} {m : Bd} {a b e : Int} (h : ent t a b = some e) : ∃ f, heldF t m a b = some f ∧ f ≤ e := by
  unfold heldF
  rw [h]
  cases tot (tot (ent t a m.1) (some m.2.2)) (ent t m.2.1 b) with
  | none => exact ⟨e, rfl, Int.le_refl _⟩
  | some y =>
    refine ⟨_, rfl, ?_⟩
    split <;> omega
theorem held_new {t : Tab} {m : Bd} {a b e1 e2 : Int} (h1 : ent t a m.1 = some e1) (h2 : ent t m.2.1 b = some e2) : ∃ f, heldF t m a b = some f ∧ f ≤ e1 + m.2.2 + e2 := by
  unfold heldF
  rw [h1, h2]
  cases ent t a b with
  | none => exact ⟨_, rfl, Int.le_refl _⟩
  | some x =>
    refine ⟨_, rfl, ?_⟩
    split <;> omega
theorem held_from {t : Tab} {m : Bd} {a b e : Int} (h : heldF t m a b = some e) : ent t a b = some e ∨ ∃ e1 e2, ent t a m.1 = some e1 ∧ ent t m.2.1 b = some e2 ∧ e = e1 + m.2.2 + e2 := by
  unfold heldF at h
  cases h1 : ent t a m.1 with
  | none =>
    rw [h1] at h
    have e0 : tot (tot none (some m.2.2)) (ent t m.2.1 b) = none := by cases ent t m.2.1 b <;> rfl
    rw [e0] at h
    cases h3 : ent t a b with
    | none => rw [h3] at h; cases h
    | some x => rw [h3] at h; exact .inl h
  | some e1 =>
    rw [h1] at h
    cases h2 : ent t m.2.1 b with
    | none =>
      rw [h2] at h
      have e0 : tot (tot (some e1) (some m.2.2)) none = none := rfl
      rw [e0] at h
      cases h3 : ent t a b with
      | none => rw [h3] at h; cases h
      | some x => rw [h3] at h; exact .inl h
    | some e2 =>
      rw [h2] at h
      have e0 : tot (tot (some e1) (some m.2.2)) (some e2) = some (e1 + m.2.2 + e2) := rfl
      rw [e0] at h
      cases h3 : ent t a b with
      | none => rw [h3] at h; exact .inr ⟨e1, e2, rfl, rfl, (Option.some.inj h).symm⟩
      | some x =>
        rw [h3] at h
        have h' := Option.some.inj h
        by_cases c : e1 + m.2.2 + e2 < x
        · rw [if_pos c] at h'
          exact .inr ⟨e1, e2, rfl, rfl, h'.symm⟩
        · rw [if_neg c] at h'
          exact .inl (by rw [h'])
theorem shut_neg {n : Nat} {bs : List Bd} {t : Tab} {m : Bd} (R : Right n bs t) (h1 : inN m.1 n) (h2 : inN m.2.1 n) (h : shutB t m = true) : NegR (bs ++ [m]) := by
  unfold shutB at h
  cases e : ent t m.2.1 m.1 with
  | none => rw [e] at h; cases h
  | some z =>
    rw [e] at h
    have h' : z + m.2.2 < 0 := of_decide_eq_true h
    have p := (R.hit _ _ z h2 h1 e).mono (cs := bs ++ [m]) fun x hx => List.mem_append_left _ hx
    exact ⟨m.1, m.2.2 + z, by omega, .cons (List.mem_append_right _ (List.mem_singleton.mpr rfl)) p⟩
theorem held_low {n : Nat} {bs : List Bd} {t : Tab} {m : Bd} (R : Right n bs t) (hw : Within n (bs ++ [m])) (h : shutB t m = false) {a b d : Int} (p : Path (bs ++ [m]) a b d) : inN a n → inN b n → ∃ e, heldF t m a b = some e ∧ e ≤ d := by
  have hm := hw m (List.mem_append_right _ (List.mem_singleton.mpr rfl))
  induction p with
  | nil a => exact fun ha _ => held_old (R.self ha)
  | @cons a z b k d' hin r ih =>
    intro ha hb
    have hz : inN z n := (hw _ hin).2
    obtain ⟨e, g1, g2⟩ := ih hz hb
    rcases List.mem_append.mp hin with hin | hin
    · obtain ⟨k', q1, q2⟩ := R.low a z k ha hz (.one hin)
      rcases held_from g1 with g | ⟨e1, e2, f1, f2, f3⟩
      · obtain ⟨x, y1, y2⟩ := R.tri ha hz hb q1 g
        obtain ⟨f, w1, w2⟩ := held_old (m := m) y1
        exact ⟨f, w1, by omega⟩
      · obtain ⟨x, y1, y2⟩ := R.tri ha hz hm.1 q1 f1
        obtain ⟨f, w1, w2⟩ := held_new y1 f2
        exact ⟨f, w1, by omega⟩
    · have em := List.mem_singleton.mp hin
      have ea : a = m.1 := by rw [← em]
      have ez : z = m.2.1 := by rw [← em]
      have ek : k = m.2.2 := by rw [← em]
      subst ea ez ek
      rcases held_from g1 with g | ⟨e1, e2, f1, f2, f3⟩
      · obtain ⟨f, w1, w2⟩ := held_new (R.self ha) g
        exact ⟨f, w1, by omega⟩
      · obtain ⟨f, w1, w2⟩ := held_new (R.self ha) f2
        unfold shutB at h
        rw [f1] at h
        have h' : ¬ e1 + m.2.2 < 0 := of_decide_eq_false h
        exact ⟨f, w1, by omega⟩
theorem held_right {n : Nat} {bs : List Bd} {t : Tab} {m : Bd} (R : Right n bs t) (hw : Within n (bs ++ [m])) (h : shutB t m = false) : Right n (bs ++ [m]) (heldT n t m) where
  len := (mkT_square n _).1
  row := (mkT_square n _).2
  low a b c ha hb p := by
    unfold heldT
    rw [mkT_ent _ ha hb]
    exact held_low R hw h p ha hb
  hit a b e ha hb q := by
    have hm := hw m (List.mem_append_right _ (List.mem_singleton.mpr rfl))
    unfold heldT at q
    rw [mkT_ent _ ha hb] at q
    have mo : ∀ x ∈ bs, x ∈ bs ++ [m] := fun x hx => List.mem_append_left _ hx
    rcases held_from q with g | ⟨e1, e2, f1, f2, f3⟩
    · exact (R.hit a b e ha hb g).mono mo
    · have p1 := (R.hit a m.1 e1 ha hm.1 f1).mono mo
      have p2 := (R.hit m.2.1 b e2 hm.2 hb f2).mono mo
      have p0 : Path (bs ++ [m]) m.1 m.2.1 m.2.2 := .one (List.mem_append_right _ (List.mem_singleton.mpr rfl))
      rw [f3]
      exact (p1.trans p0).trans p2
theorem NegR.mono {bs cs : List Bd} (h : NegR bs) (hs : ∀ m ∈ bs, m ∈ cs) : NegR cs := by
  obtain ⟨a, c, hc, p⟩ := h
  exact ⟨a, c, hc, p.mono hs⟩
/-! tables in the heap, made new -/
theorem TabAt.rowAt {H : Hp} {p : Addr} {rs : List Addr} {t : Tab} {n : Nat} (T : TabAt H p rs t) (S : Square n t) {a : Int} (ha : inN a n) :
    ∃ (r : Addr) (row : List (Option Int)), atI (rs.map V.ref) a = some (.ref r) ∧ H r = some (.lst (row.map ov)) ∧ row.length = n ∧ ∀ b, inN b n → atI (row.map ov) b = some (ov (ent t a b)) := by
  have hl := Paired.length T.rows
  have h1 : a.toNat < rs.length := by have := ha.1; have := ha.2; have := S.1; omega
  obtain ⟨row, e1, e2⟩ := paired_get T.rows (List.getElem?_eq_getElem h1)
  have hr := S.2 row (List.mem_of_getElem? e1)
  refine ⟨rs[a.toNat], row, atI_of ha.1 rfl ?_, e2, hr, fun b hb => atI_of hb.1 rfl ?_⟩
  · rw [List.getElem?_map, List.getElem?_eq_getElem h1]; rfl
  · have h2 : b.toNat < row.length := by have := hb.1; have := hb.2; omega
    have q : ent t a b = row[b.toNat] := by
      unfold ent
      simp only [List.getD_eq_getElem?_getD]
      rw [e1, Option.getD_some, List.getElem?_eq_getElem h2, Option.getD_some]
    rw [q, List.getElem?_map, List.getElem?_eq_getElem h2]
    rfl
theorem TabAt.len {H : Hp} {p : Addr} {rs : List Addr} {t : Tab} {n : Nat} (T : TabAt H p rs t) (S : Square n t) : (rs.map V.ref).length = n := by
  rw [List.length_map, Paired.length T.rows]; exact S.1
structure NewT (H H' : Hp) (p : Addr) (rs : List Addr) (t : Tab) : Prop where
  p0 : H p = none
  r0 : ∀ r ∈ rs, H r = none
  nd : (p :: rs).Nodup
  sm : Same H H'
  tb : TabAt H' p rs t
theorem none_of {H H' : Hp} (s : Same H H') {p : Addr} (h : H' p = none) : H p = none := by
  cases e : H p with
  | none => rfl
  | some o => rw [s _ _ e] at h; cases h
/-- a comprehension over a range that makes a new row in each turn -/
theorem comp_rows {n : Nat} {fr : List Nat} {te : TE} {σ : L2.St} {H : Hp} {Q : VK} (f : Nat → List (Option Int)) (hn : n ≤ sizeLine)
    (hs : ∀ i H1, i < n → Same H H1 → ∀ R : VK, (∀ r H2, H1 r = none → Same H1 H2 → H2 r = some (.lst ((f i).map ov)) → R (.ref r) H2) → te ((compSt σ fr).set 0 (some (.int (0 + (i : Int))))) H1 R)
    (hd : ∀ p rs H', NewT H H' p rs ((List.range n).map f) → Q (.ref p) H') : CompGo fr tYes te σ Q (Itr 0 n) H := by
  refine comp_range (lo := 0) (n := n) (fun i acc H1 => Same H H1 ∧ ∃ rs : List Addr, acc = rs.map V.ref ∧ (∀ r ∈ rs, H r = none) ∧ rs.Nodup ∧ RowsAt H1 rs ((List.range i).map f)) hn ⟨fun _ _ e => e, [], rfl, fun _ h => (nomatch h), .nil, .nil⟩
    (fun i acc H1 ⟨_, rs, e, _, _, w⟩ => by rw [e, List.length_map, Paired.length w]; simp) ?_ ?_
  · rintro i acc H1 hi ⟨s1, rs, rfl, r0, nd, w⟩ R kR
    refine hs i H1 hi s1 _ fun r H2 n0 s2 e2 => kR _ _ ⟨s1.trans s2, rs ++ [r], by simp, fun x hx => ?_, ?_, ?_⟩
    · rcases List.mem_append.mp hx with hx | hx
      · exact r0 x hx
      · rw [List.mem_singleton.mp hx]; exact none_of s1 n0
    · rw [List.nodup_append]
      refine ⟨nd, by simp, fun x hx y hy => ?_⟩
      rw [List.mem_singleton.mp hy]
      rintro rfl
      obtain ⟨k, hk⟩ := List.mem_iff_getElem?.mp hx
      obtain ⟨_, _, q⟩ := paired_get w hk
      rw [q] at n0; cases n0
    · rw [List.range_succ, List.map_append]
      exact Paired.snoc (Paired.mapP w fun _ _ q => s2 _ _ q) e2
  · rintro acc H1 ⟨s1, rs, rfl, r0, nd, w⟩ p hp
    have hne : ∀ x ∈ rs, x ≠ p := fun x hx e => by
      obtain ⟨k, hk⟩ := List.mem_iff_getElem?.mp hx
      obtain ⟨_, _, q⟩ := paired_get w hk
      rw [e, hp] at q; cases q
    refine hd p rs _ ⟨none_of s1 hp, r0, List.nodup_cons.mpr ⟨fun h => hne p h rfl, nd⟩, s1.trans (same_new hp _), upd_same, ?_⟩
    exact Paired.mapP w fun _ _ q => same_new hp _ _ _ q
/-- a comprehension over a range whose turns leave the heap -/
theorem comp_vals {n : Nat} {fr : List Nat} {te : TE} {σ : L2.St} {H : Hp} {Q : VK} (f : Nat → V) (hn : n ≤ sizeLine)
    (hs : ∀ i, i < n → ∀ R : VK, R (f i) H → te ((compSt σ fr).set 0 (some (.int (0 + (i : Int))))) H R)
    (hd : ∀ p, H p = none → Q (.ref p) (upd H p (.lst ((List.range n).map f)))) : CompGo fr tYes te σ Q (Itr 0 n) H := by
  refine comp_range (lo := 0) (n := n) (fun i acc H1 => H1 = H ∧ acc = (List.range i).map f) hn ⟨rfl, rfl⟩ (fun i acc H1 ⟨_, e⟩ => by rw [e]; simp) ?_ ?_
  · rintro i acc H1 hi ⟨rfl, rfl⟩ R kR
    exact hs i hi _ (kR _ _ ⟨rfl, by rw [List.range_succ, List.map_append]; rfl⟩)
  · rintro acc H1 ⟨rfl, rfl⟩ p hp
    exact hd p hp
def sp_total (_ : PySem.W.Frag) : Sp := fun vs H Q _ => ∃ x y : Option Int, vs = [ov x, ov y] ∧ Q (ov (tot x y)) H
def sp_lesser (_ : PySem.W.Frag) : Sp := fun vs H Q _ => ∃ x y : Option Int, vs = [ov x, ov y] ∧ Q (ov (les x y)) H
def sp_wide_row (_ : PySem.W.Frag) : Sp := fun vs H Q _ => ∃ (n : Nat) (a : Int), vs = [.int n, .int a] ∧ n ≤ 100 ∧ ∀ r, H r = none → Q (.ref r) (upd H r (.lst (((List.range n).map fun (j : Nat) => if a = (j : Int) then some (0 : Int) else none).map ov)))
def sp_wide (_ : PySem.W.Frag) : Sp := fun vs H Q _ => ∃ n : Nat, vs = [.int n] ∧ n ≤ 100 ∧ ∀ p rs H', NewT H H' p rs (wideT n) → Q (.ref p) H'
def sp_shuts (K : PySem.W.Frag) : Sp := fun vs H Q _ => ∃ (u p : Addr) (m : Bd) (rs : List Addr) (t : Tab) (n : Nat), vs = [.ref u, .ref p] ∧ SqT K H u (bv m) ∧ TabAt H p rs t ∧ Square n t ∧ inN m.1 n ∧ inN m.2.1 n ∧ Q (.bl (shutB t m)) H
def sp_held_row (K : PySem.W.Frag) : Sp := fun vs H Q _ => ∃ (u p : Addr) (a : Int) (m : Bd) (rs : List Addr) (t : Tab) (n : Nat), vs = [.ref p, .int a, .ref u] ∧ SqT K H u (bv m) ∧ TabAt H p rs t ∧ Square n t ∧ n ≤ 100 ∧ inN a n ∧ inN m.1 n ∧ inN m.2.1 n ∧ ∀ r, H r = none → Q (.ref r) (upd H r (.lst (((List.range n).map fun (j : Nat) => heldF t m a (j : Int)).map ov)))
def sp_held (K : PySem.W.Frag) : Sp := fun vs H Q _ => ∃ (u : Addr) (v : V) (m : Bd), vs = [v, .ref u] ∧ SqT K H u (bv m) ∧
  ((v = .non ∧ Q .non H) ∨ ∃ (p : Addr) (rs : List Addr) (t : Tab) (n : Nat), v = .ref p ∧ TabAt H p rs t ∧ Square n t ∧ n ≤ 100 ∧ inN m.1 n ∧ inN m.2.1 n ∧ (shutB t m = true → Q .non H) ∧ (shutB t m = false → ∀ p' rs' H', NewT H H' p' rs' (heldT n t m) → Q (.ref p') H'))
theorem same_refl (H : Hp) : Same H H := fun _ _ e => e
/-! a table's entry is written -/
/-- ways that go on alike, but for the heap and the names' values -/
theorem restJ {G : Prop} (C : Hp → L2.St → Prop) {P : Hp → L2.St → Prop} (h : (∀ H σ, C H σ → P H σ) → G) (r : ∀ H σ, C H σ → P H σ) : G := h r
/-- a table or none, told by table_of: all its lists are new -/
def IsTN (H H' : Hp) (v : V) (n : Nat) (bs : List Bd) : Prop := (v = .non ∧ NegR bs) ∨ ∃ p rs t, v = .ref p ∧ NewT H H' p rs t ∧ Right n bs t
theorem NewT.since {H H1 H2 : Hp} {p : Addr} {rs : List Addr} {t : Tab} (s : Same H H1) (N : NewT H1 H2 p rs t) : NewT H H2 p rs t := ⟨none_of s N.p0, fun r hr => none_of s (N.r0 r hr), N.nd, s.trans N.sm, N.tb⟩
theorem IsTN.since {H H1 H2 : Hp} {v : V} {n : Nat} {bs : List Bd} (s : Same H H1) (h : IsTN H1 H2 v n bs) : IsTN H H2 v n bs := h.imp id fun ⟨p, rs, t, e, N, R⟩ => ⟨p, rs, t, e, N.since s, R⟩
def sp_table_of (K : PySem.W.Frag) : Sp := fun vs H Q _ => ∃ (n : Nat) (r : Addr) (qs : List V) (bs : List Bd), vs = [.int n, .ref r] ∧ SqL K H r qs ∧ AreB H qs bs ∧ 1 ≤ n ∧ n ≤ 8 ∧ Within n bs ∧ bs.length ≤ 150 ∧ ∀ v H', Same H H' → IsTN H H' v n bs → Q v H'
/-- all but what stands at x is as it was -/
def But (x : Addr) (H H' : Hp) : Prop := ∀ b o, H b = some o → b ≠ x → H' b = some o
theorem but_same {x : Addr} {H H' : Hp} (s : Same H H') : But x H H' := fun b o e _ => s b o e
/-! houses: gaps by their names, in the heap -/
abbrev Gp := Int × Int × Option Int × Option Int
def gv (g : Gp) : List V := [.int g.1, .int g.2.1, ov g.2.2.1, ov g.2.2.2]
def gbs (g : Gp) : List Bd := bnds g.1 g.2.1 g.2.2.1 g.2.2.2
def GapsIn (H : Hp) : List (Key × V) → List (Str × Gp) → Prop := Paired fun kv g => kv.1 = Sum.inr g.1 ∧ ∃ p, kv.2 = .ref p ∧ H p = some (.tup (gv g.2))
/-- the bounds of gaps, gap by gap -/
def allB (gs : List (Str × Gp)) : List Bd := gs.flatMap fun g => gbs g.2
def gnames (gs : List (Str × Gp)) : List Str := gs.map (·.1)
theorem GapsIn.keep {H H' : Hp} {kvs : List (Key × V)} {gs : List (Str × Gp)} (h : GapsIn H kvs gs) (k : ∀ p xs, H p = some (.tup xs) → H' p = some (.tup xs)) : GapsIn H' kvs gs := Paired.mapP h fun _ _ ⟨e, p, e2, q⟩ => ⟨e, p, e2, k _ _ q⟩
theorem GapsIn.same {H H' : Hp} {kvs : List (Key × V)} {gs : List (Str × Gp)} (s : Same H H') (h : GapsIn H kvs gs) : GapsIn H' kvs gs := h.keep fun _ _ q => s _ _ q
theorem GapsIn.len {H : Hp} {kvs : List (Key × V)} {gs : List (Str × Gp)} (h : GapsIn H kvs gs) : kvs.length = gs.length := Paired.length h
theorem GapsIn.val_none {H : Hp} {nm : Str} : ∀ {kvs : List (Key × V)} {gs : List (Str × Gp)}, GapsIn H kvs gs → ¬ nm ∈ gnames gs → valV kvs (Sum.inr nm : Key) = none
  | _, _, .nil, _ => rfl
  | _, _, .cons ⟨e, _⟩ t, h => by
    rw [valV_neg (fun z => h (by rw [e] at z; cases z; exact List.mem_cons_self ..))]
    exact GapsIn.val_none t fun z => h (List.mem_cons_of_mem _ z)
theorem GapsIn.val_some {H : Hp} {nm : Str} : ∀ {kvs : List (Key × V)} {gs : List (Str × Gp)}, GapsIn H kvs gs → nm ∈ gnames gs → ∃ p g, (nm, g) ∈ gs ∧ valV kvs (Sum.inr nm : Key) = some (.ref p) ∧ H p = some (.tup (gv g))
  | _, _, .nil, h => by cases h
  | _, g :: gs, .cons ⟨e, p, e2, q⟩ t, h => by
    by_cases c : g.1 = nm
    · refine ⟨p, g.2, ?_, ?_, q⟩
      · rw [← c]; exact List.mem_cons_self ..
      · rw [valV_pos (by rw [e, c]), e2]
    · have h' : nm ∈ gnames gs := by
        rcases List.mem_cons.mp h with z | z
        · exact absurd z.symm c
        · exact z
      obtain ⟨p', g', m, v, q'⟩ := GapsIn.val_some t h'
      exact ⟨p', g', List.mem_cons_of_mem _ m, by rw [valV_neg (fun z => c (by rw [e] at z; cases z; rfl))]; exact v, q'⟩
/-- the gaps without the one by the name -/
def gdrop (nm : Str) (gs : List (Str × Gp)) : List (Str × Gp) := gs.filter fun g => decide (g.1 ≠ nm)
theorem GapsIn.drop {H : Hp} {nm : Str} : ∀ {kvs : List (Key × V)} {gs : List (Str × Gp)}, GapsIn H kvs gs → GapsIn H (dropK kvs (Sum.inr nm : Key)) (gdrop nm gs)
  | _, _, .nil => .nil
  | _, g :: gs, .cons ⟨e, r⟩ t => by
    have ih := GapsIn.drop (nm := nm) t
    by_cases c : g.1 = nm
    · rw [dropK_pos (by rw [e, c])]
      unfold gdrop
      rw [List.filter_cons_of_neg (by simpa using c)]
      exact ih
    · rw [dropK_neg (fun z => c (by rw [e] at z; cases z; rfl))]
      unfold gdrop
      rw [List.filter_cons_of_pos (by simpa using c)]
      exact .cons ⟨e, r⟩ ih
theorem gdrop_len (nm : Str) (gs : List (Str × Gp)) : (gdrop nm gs).length ≤ gs.length := List.length_filter_le _ _
theorem gdrop_mem {nm : Str} {gs : List (Str × Gp)} {g : Str × Gp} (h : g ∈ gdrop nm gs) : g ∈ gs := (List.mem_filter.mp h).1
theorem GapsIn.snoc {H : Hp} {kvs : List (Key × V)} {gs : List (Str × Gp)} {nm : Str} {g : Gp} {p : Addr} (h : GapsIn H kvs gs) (hp : H p = some (.tup (gv g))) : GapsIn H (kvs ++ [(Sum.inr nm, .ref p)]) (gs ++ [(nm, g)]) := Paired.snoc h ⟨rfl, p, rfl, hp⟩
theorem f_cg : ¬ (("count" : Str) = "gaps") := by decide +kernel
def fldh (n : Nat) (d : Addr) : List (Str × V) := putF "gaps" (.ref d) (putF "count" (.int n) [])
theorem fldh_gaps (n : Nat) (d : Addr) : (fldh n d).lookup ("gaps" : Str) = some (.ref d) := by
  unfold fldh
  rw [lookup_putF, if_pos rfl]
theorem fldh_count (n : Nat) (d : Addr) : (fldh n d).lookup ("count" : Str) = some (.int n) := by
  unfold fldh
  rw [lookup_putF, if_neg f_cg, lookup_putF, if_pos rfl]
theorem fldh_no (n : Nat) (d : Addr) {m : Str} (h0 : ¬ m = "gaps") (h1 : ¬ m = "count") : (fldh n d).lookup m = none := by
  unfold fldh
  rw [lookup_putF, if_neg h0, lookup_putF, if_neg h1]
  all_goals rfl
structure HouseAt (C : Addr) (H : Hp) (x d : Addr) (n : Nat) (gs : List (Str × Gp)) : Prop where
  ob : ∃ dx, H x = some (.ins C dx (fldh n d))
  dc : ∃ kvs, H d = some (.dK kvs) ∧ GapsIn H kvs gs
theorem HouseAt.same {C : Addr} {H H' : Hp} {x d : Addr} {n : Nat} {gs : List (Str × Gp)} (s : Same H H') (W : HouseAt C H x d n gs) : HouseAt C H' x d n gs := by
  obtain ⟨dx, h⟩ := W.ob
  obtain ⟨kvs, h1, h2⟩ := W.dc
  exact ⟨⟨dx, s _ _ h⟩, kvs, s _ _ h1, h2.same s⟩
def sp_House___init__ (_ : PySem.W.Frag) (cl : Cl) : Sp := fun vs H Q _ => ∃ (x dx : Addr) (n : Nat), vs = [.ref x, .int n] ∧ H x = some (.ins cl.House dx []) ∧ ∀ d H', HouseAt cl.House H' x d n [] → But x H H' → H d = none → Q .non H'
def sp_House_table (_ : PySem.W.Frag) (cl : Cl) : Sp := fun vs H Q _ => ∃ (x d : Addr) (n : Nat) (gs : List (Str × Gp)), vs = [.ref x] ∧ HouseAt cl.House H x d n gs ∧ 1 ≤ n ∧ n ≤ 8 ∧ Within n (allB gs) ∧ gs.length ≤ 64 ∧ ∀ v H', Same H H' → IsTN H H' v n (allB gs) → Q v H'
def sp_all_bounds (_ : PySem.W.Frag) : Sp := fun vs H Q _ => ∃ (d : Addr) (kvs : List (Key × V)) (gs : List (Str × Gp)), vs = [.ref d] ∧ H d = some (.dK kvs) ∧ GapsIn H kvs gs ∧ gs.length ≤ 64 ∧
  ∀ (r : Addr) (H' : Hp) (qs : List V), H r = none → Same H H' → H' r = some (.lst qs) → AreB H' qs (allB gs) → Q (.ref r) H'
theorem gbs_len (g : Gp) : (gbs g).length ≤ 2 := by
  obtain ⟨a, b, lo, hi⟩ := g
  unfold gbs bnds
  cases lo <;> cases hi <;> simp [hiB, loB]
theorem allB_len : ∀ gs : List (Str × Gp), (allB gs).length ≤ 2 * gs.length
  | [] => Nat.le_refl _
  | g :: gs => by
    have := allB_len gs
    have h2 := gbs_len g.2
    unfold allB at *
    rw [List.flatMap_cons, List.length_append, List.length_cons]
    omega
theorem valV_get {κ : Type} [DecidableEq κ] : ∀ {kvs : List (κ × V)} {i : Nat} {k : κ} {v : V}, (kvs.map (·.1)).Nodup → kvs[i]? = some (k, v) → valV kvs k = some v
  | [], _, _, _, _, e => by simp at e
  | p :: r, 0, k, v, _, e => by
    simp at e; subst e
    exact valV_pos rfl
  | p :: r, i + 1, k, v, h, e => by
    simp at e
    obtain ⟨h1, h2⟩ := List.nodup_cons.mp h
    have np : ¬ p.1 = k := fun z => h1 (by
      show p.1 ∈ _
      rw [z]
      exact List.mem_map_of_mem (f := fun x : κ × V => x.1) (List.mem_of_getElem? e))
    rw [valV_neg np]
    exact valV_get h2 e
theorem GapsIn.keys {H : Hp} : ∀ {kvs : List (Key × V)} {gs : List (Str × Gp)}, GapsIn H kvs gs → kvs.map (·.1) = (gnames gs).map Sum.inr
  | _, _, .nil => rfl
  | _, _, .cons ⟨e, _⟩ t => by
    unfold gnames
    rw [List.map_cons, e, GapsIn.keys t]; rfl
theorem GapsIn.nodup {H : Hp} {kvs : List (Key × V)} {gs : List (Str × Gp)} (h : GapsIn H kvs gs) (hn : (gnames gs).Nodup) : (kvs.map (·.1)).Nodup := by
  rw [h.keys]
  exact List.Pairwise.map _ (fun a b c e => c (Sum.inr.inj e)) hn
theorem AreB.append {H : Hp} : ∀ {qs : List V} {bs : List Bd} {qs2 : List V} {cs : List Bd}, AreB H qs bs → AreB H qs2 cs → AreB H (qs ++ qs2) (bs ++ cs)
  | _, _, _, _, .nil, g => g
  | _, _, _, _, .cons h t, g => .cons h (AreB.append t g)
theorem AreB.tups {H H' : Hp} {qs : List V} {bs : List Bd} (a : AreB H qs bs) (k : ∀ p xs, H p = some (.tup xs) → H' p = some (.tup xs)) : AreB H' qs bs := Paired.mapP a fun _ _ ⟨p, e, q⟩ => ⟨p, e, k _ _ q⟩
theorem allB_take {gs : List (Str × Gp)} {i : Nat} {g : Str × Gp} (h : gs[i]? = some g) : allB (gs.take (i + 1)) = allB (gs.take i) ++ gbs g.2 := by
  unfold allB
  rw [List.take_add_one, h, Option.toList_some, List.flatMap_append, List.flatMap_cons, List.flatMap_nil, List.append_nil]
/-! the names of bounds: a gap's name and the end -/
/-! the laws' own gaps and houses -/
/-! a house and the law's own dict of the same gaps -/
theorem gbs_in {n : Nat} {g : Gp} (ha : inN g.1 n) (hb : inN g.2.1 n) : ∀ m ∈ gbs g, inN m.1 n ∧ inN m.2.1 n := by
  obtain ⟨a, b, lo, hi⟩ := g
  intro m hm
  unfold gbs bnds at hm
  cases lo <;> cases hi <;> simp [hiB, loB] at hm
  · subst hm; exact ⟨ha, hb⟩
  · subst hm; exact ⟨hb, ha⟩
  · rcases hm with e | e <;> subst e
    · exact ⟨ha, hb⟩
    · exact ⟨hb, ha⟩
theorem allB_mem {gs : List (Str × Gp)} {m : Bd} : m ∈ allB gs ↔ ∃ g ∈ gs, m ∈ gbs g.2 := List.mem_flatMap
theorem HouseAt.but {C : Addr} {H H' : Hp} {x d e : Addr} {n : Nat} {gs : List (Str × Gp)} {kvs : List (Key × V)} (W : HouseAt C H x d n gs) (b : But e H H') (he : H e = some (.dK kvs)) (ne : d ≠ e) : HouseAt C H' x d n gs := by
  obtain ⟨dx, h⟩ := W.ob
  obtain ⟨kv, h1, h2⟩ := W.dc
  exact ⟨⟨dx, b _ _ h (ne_of h he (fun z => by cases z))⟩, kv, b _ _ h1 ne, h2.keep fun p xs q => b _ _ q (ne_of q he (fun z => by cases z))⟩
structure HG (cl : Cl) (H : Hp) (n : Nat) (x dh dg : Addr) (gs : List (Str × Gp)) : Prop where
  W : HouseAt cl.House H x dh n gs
  D : ∃ kvs, H dg = some (.dK kvs) ∧ GapsIn H kvs gs
  ne : dg ≠ dh
  nd : (gnames gs).Nodup
  wi : ∀ g ∈ gs, inN g.2.1 n ∧ inN g.2.2.1 n
theorem HG.within {cl : Cl} {H : Hp} {n : Nat} {x dh dg : Addr} {gs : List (Str × Gp)} (L : HG cl H n x dh dg gs) : Within n (allB gs) := fun m hm => by
  obtain ⟨g, hg, h⟩ := allB_mem.mp hm
  exact gbs_in (L.wi g hg).1 (L.wi g hg).2 m h
theorem HG.same {cl : Cl} {H H' : Hp} {n : Nat} {x dh dg : Addr} {gs : List (Str × Gp)} (s : Same H H') (L : HG cl H n x dh dg gs) : HG cl H' n x dh dg gs := by
  obtain ⟨kvs, h1, h2⟩ := L.D
  exact ⟨L.W.same s, ⟨kvs, s _ _ h1, h2.same s⟩, L.ne, L.nd, L.wi⟩
/-- all but two addresses as it was -/
def But2h (a b : Addr) (H H' : Hp) : Prop := ∀ c o, H c = some o → c ≠ a → c ≠ b → H' c = some o
theorem HG.tup {cl : Cl} {H H2 : Hp} {n : Nat} {x dh dg : Addr} {gs : List (Str × Gp)} (L : HG cl H n x dh dg gs) (b : But2h dg dh H H2) : ∀ p xs, H p = some (.tup xs) → H2 p = some (.tup xs) := fun p xs h => by
  obtain ⟨kvs, hd, _⟩ := L.D
  obtain ⟨kvh, he, _⟩ := L.W.dc
  exact b _ _ h (ne_of h hd (fun z => by cases z)) (ne_of h he (fun z => by cases z))
/-- the gap by the name is taken out of both -/
theorem HG.drop {cl : Cl} {H H2 : Hp} {n : Nat} {x dh dg : Addr} {gs : List (Str × Gp)} {kvs : List (Key × V)} {nm : Str} (L : HG cl H n x dh dg gs) (G : GapsIn H kvs gs)
    (hd2 : H2 dg = some (.dK (dropK kvs (Sum.inr nm)))) (b : But2h dg dh H H2) (W : HouseAt cl.House H2 x dh n (gdrop nm gs)) : HG cl H2 n x dh dg (gdrop nm gs) :=
  ⟨W, ⟨_, hd2, G.drop.keep (L.tup b)⟩, L.ne, (List.filter_sublist.map _).nodup L.nd, fun g hg => L.wi g (gdrop_mem hg)⟩
/-- a gap by a new name is put into both -/
theorem HG.add {cl : Cl} {H H2 : Hp} {n : Nat} {x dh dg p : Addr} {gs : List (Str × Gp)} {kvs : List (Key × V)} {nm : Str} {g : Gp} (L : HG cl H n x dh dg gs) (G : GapsIn H kvs gs) (hn : ¬ nm ∈ gnames gs) (hp : H p = some (.tup (gv g)))
    (ha : inN g.1 n) (hb : inN g.2.1 n) (hd2 : H2 dg = some (.dK (kvs ++ [(Sum.inr nm, .ref p)]))) (b : But2h dg dh H H2) (W : HouseAt cl.House H2 x dh n (gs ++ [(nm, g)])) : HG cl H2 n x dh dg (gs ++ [(nm, g)]) := by
  refine ⟨W, ⟨_, hd2, (G.snoc hp).keep (L.tup b)⟩, L.ne, ?_, fun g' hg => ?_⟩
  · unfold gnames
    rw [List.map_append]
    exact nd_snoc L.nd hn
  · rcases List.mem_append.mp hg with h | h
    · exact L.wi g' h
    · rw [List.mem_singleton.mp h]; exact ⟨ha, hb⟩
/-! houses that refuse names -/
def sp_House_need (_ : PySem.W.Frag) (cl : Cl) : Sp := fun vs H Q E => ∃ (x d : Addr) (n : Nat) (gs : List (Str × Gp)) (nm : Str), vs = [.ref x, .str nm] ∧ HouseAt cl.House H x d n gs ∧ (reprText nm).length ≤ 1000 ∧ (nm ∈ gnames gs → Q .non H) ∧ (¬ nm ∈ gnames gs → E (.ref cl.NoName) none H)
def sp_House_add (_ : PySem.W.Frag) (cl : Cl) : Sp := fun vs H Q E => ∃ (x d : Addr) (n : Nat) (gs : List (Str × Gp)) (nm : Str) (g : Gp), vs = [.ref x, .str nm, .int g.1, .int g.2.1, ov g.2.2.1, ov g.2.2.2] ∧ HouseAt cl.House H x d n gs ∧ (reprText nm).length ≤ 1000 ∧ gs.length ≤ 100 ∧ (nm ∈ gnames gs → E (.ref cl.NoName) none H) ∧
  (¬ nm ∈ gnames gs → ∀ H', HouseAt cl.House H' x d n (gs ++ [(nm, g)]) → But d H H' → Q .non H')
def sp_House_drop (_ : PySem.W.Frag) (cl : Cl) : Sp := fun vs H Q E => ∃ (x d : Addr) (n : Nat) (gs : List (Str × Gp)) (nm : Str), vs = [.ref x, .str nm] ∧ HouseAt cl.House H x d n gs ∧ (reprText nm).length ≤ 1000 ∧ (nm ∈ gnames gs → ∀ H', HouseAt cl.House H' x d n (gdrop nm gs) → But d H H' → Q .non H') ∧ (¬ nm ∈ gnames gs → E (.ref cl.NoName) none H)
def sp_House_gap (_ : PySem.W.Frag) (cl : Cl) : Sp := fun vs H Q E => ∃ (x d : Addr) (n : Nat) (gs : List (Str × Gp)) (nm : Str), vs = [.ref x, .str nm] ∧ HouseAt cl.House H x d n gs ∧ (reprText nm).length ≤ 1000 ∧ (∀ g p, (nm, g) ∈ gs → H p = some (.tup (gv g)) → Q (.ref p) H) ∧ (¬ nm ∈ gnames gs → E (.ref cl.NoName) none H)
def sp_House_names (_ : PySem.W.Frag) (cl : Cl) : Sp := fun vs H Q _ => ∃ (x d : Addr) (n : Nat) (gs : List (Str × Gp)), vs = [.ref x] ∧ HouseAt cl.House H x d n gs ∧ ∀ r H', H r = none → Same H H' → H' r = some (.lst ((gnames gs).map V.str)) → Q (.ref r) H'
def sp_House_idle (_ : PySem.W.Frag) (cl : Cl) : Sp := fun vs H Q E => ∃ (x d : Addr) (n : Nat) (gs : List (Str × Gp)) (nm : Str), vs = [.ref x, .str nm] ∧ HouseAt cl.House H x d n gs ∧ (reprText nm).length ≤ 1000 ∧ 1 ≤ n ∧ n ≤ 8 ∧ Within n (allB gs) ∧ gs.length ≤ 64 ∧ (nm ∈ gnames gs → ∀ b H', Same H H' → Q (.bl b) H') ∧ (¬ nm ∈ gnames gs → E (.ref cl.NoName) none H)
theorem ovs_rows {K : PySem.W.Frag} {H : Hp} : ∀ {rs : List Addr} {t : Tab}, RowsAt H rs t → Paired (OvSeq K H) (rs.map V.ref) t
  | _, _, .nil => .nil
  | _, _, .cons h r => .cons ⟨_, rfl, SqL.of h⟩ (ovs_rows r)
theorem GapsIn.kv {H : Hp} {kvs : List (Key × V)} {gs : List (Str × Gp)} (G : GapsIn H kvs gs) : kvs.map (fun p => kV p.1) = (gnames gs).map V.str := by
  have h := congrArg (List.map kV) G.keys
  rw [List.map_map, List.map_map] at h
  exact h
theorem within_drop {n : Nat} {gs : List (Str × Gp)} (hw : Within n (allB gs)) (nm : Str) : Within n (allB (gdrop nm gs)) := fun m hm => by
  obtain ⟨g, hg, h⟩ := allB_mem.mp hm
  exact hw m (allB_mem.mpr ⟨g, gdrop_mem hg, h⟩)
/-- a name of the law: a text of few signs below 128 -/
def NmT (s : Str) : Prop := Asc s ∧ s.length ≤ 100
theorem NmT.repr {s : Str} (h : NmT s) : (reprText s).length ≤ 1000 := by
  have := repr_len h.1
  have := h.2
  omega
theorem sg_at {S : Str} (hl : S.cps.toList.length = 94) {i : Int} (h0 : 0 ≤ i) (h1 : i < 94) : ∃ c, atI S.cps.toList i = some c := by
  generalize S.cps.toList = xs at hl ⊢
  exact ⟨_, atI_of h0 rfl (List.getElem?_eq_getElem (show i.toNat < xs.length by omega))⟩
theorem len_app (a b : Str) : (a ++ b).length = a.length + b.length := Array.size_append
theorem sum_ones : ∀ (ys : List Str), (∀ y ∈ ys, y.length ≤ 1) → (ys.map (·.length)).sum ≤ ys.length
  | [], _ => Nat.le_refl _
  | y :: ys, h => by
    have h1 := h y (List.mem_cons_self ..)
    have h2 := sum_ones ys fun z hz => h z (List.mem_cons_of_mem _ hz)
    rw [List.map_cons, List.sum_cons, List.length_cons]
    omega
/-- what stands behind a deed that is not refused -/
def aft (k : Int) (nm : Str) (g : Gp) (gs : List (Str × Gp)) : List (Str × Gp) := if k = 0 then gs ++ [(nm, g)] else if k = 1 then gdrop nm gs else gs
def sp_law_names (K : PySem.W.Frag) : Sp := fun vs H Q _ => ∃ (a : Addr) (ns : List Int), vs = [.ref a] ∧ SqL K H a (ns.map V.int) ∧ ns.length ≤ 63 ∧ ∀ r H' (nms : List Str), Same H H' → H' r = some (.lst (nms.map V.str)) → nms.length = 7 → (∀ s ∈ nms, NmT s) → Q (.ref r) H'
def sp_law_gap (_ : PySem.W.Frag) : Sp := fun vs H Q _ => ∃ (c : Int) (n : Nat), vs = [.int c, .int n] ∧ 1 ≤ n ∧ n ≤ 8 ∧ ∀ p (g : Gp), H p = none → inN g.1 n → inN g.2.1 n → Q (.ref p) (upd H p (.tup (gv g)))
def sp_law_added (_ : PySem.W.Frag) (cl : Cl) : Sp := fun vs H Q E => ∃ (x d p : Addr) (n : Nat) (gs : List (Str × Gp)) (nm : Str) (g : Gp), vs = [.ref x, .str nm, .ref p] ∧ HouseAt cl.House H x d n gs ∧ NmT nm ∧ gs.length ≤ 100 ∧ H p = some (.tup (gv g)) ∧ (nm ∈ gnames gs → E (.ref cl.NoName) none H) ∧
  (¬ nm ∈ gnames gs → ∀ H', HouseAt cl.House H' x d n (gs ++ [(nm, g)]) → But d H H' → Q .non H')
def sp_law_deed (_ : PySem.W.Frag) (cl : Cl) : Sp := fun vs H Q E => ∃ (x d p : Addr) (n : Nat) (gs : List (Str × Gp)) (nm : Str) (k : Int) (g : Gp), vs = [.ref x, .int k, .str nm, .ref p] ∧ HouseAt cl.House H x d n gs ∧ NmT nm ∧ gs.length ≤ 60 ∧ H p = some (.tup (gv g)) ∧ 1 ≤ n ∧ n ≤ 8 ∧ Within n (allB gs) ∧ ((nm ∈ gnames gs ↔ k = 0) → E (.ref cl.NoName) none H) ∧
  (¬ (nm ∈ gnames gs ↔ k = 0) → ∀ H', HouseAt cl.House H' x d n (aft k nm g gs) → But d H H' → Q .non H')
def sp_law_refused (_ : PySem.W.Frag) (cl : Cl) : Sp := fun vs H Q _ => ∃ (x d p : Addr) (n : Nat) (gs : List (Str × Gp)) (nm : Str) (k : Int) (g : Gp), vs = [.ref x, .int k, .str nm, .ref p] ∧ HouseAt cl.House H x d n gs ∧ NmT nm ∧ gs.length ≤ 60 ∧ H p = some (.tup (gv g)) ∧ 1 ≤ n ∧ n ≤ 8 ∧ Within n (allB gs) ∧ (nm ∈ gnames gs ↔ k = 0) ∧ ∀ H', Same H H' → Q (.bl true) H'
def sp_law_right (_ : PySem.W.Frag) (cl : Cl) : Sp := fun vs H Q _ => ∃ (x dh dg : Addr) (n : Nat) (gs : List (Str × Gp)), vs = [.ref x, .ref dg] ∧ HG cl H n x dh dg gs ∧ (∀ s ∈ gnames gs, NmT s) ∧ gs.length ≤ 60 ∧ ∀ H', Same H H' → Q (.bl true) H'
theorem told_strs {K : PySem.W.Frag} {H : Hp} : ∀ ns : List Str, Paired (Told K H 0) (ns.map V.str) (ns.map Dt.str)
  | [] => .nil
  | _ :: ns => .cons rfl (told_strs ns)
def odt : Option Int → Dt
  | none => .non
  | some z => .int z
theorem told_odt {K : PySem.W.Frag} {H : Hp} (o : Option Int) : Told K H 0 (ov o) (odt o) := by
  cases o with
  | none => exact trivial
  | some z => exact (rfl : z = z)
theorem told_gv {K : PySem.W.Frag} {H : Hp} (g : Gp) : Paired (Told K H 0) (gv g) [Dt.int g.1, Dt.int g.2.1, odt g.2.2.1, odt g.2.2.2] := .cons rfl (.cons rfl (.cons (told_odt _) (.cons (told_odt _) .nil)))
theorem gv_part {g : Gp} {i : Nat} {v : V} (h : (gv g)[i]? = some v) : v = .non ∨ ∃ z, v = .int z := by
  have ho : ∀ o : Option Int, ov o = .non ∨ ∃ z, ov o = .int z := fun o => by
    cases o with
    | none => exact .inl rfl
    | some z => exact .inr ⟨z, rfl⟩
  rcases i with _ | _ | _ | _ | i
  · cases h; exact .inr ⟨_, rfl⟩
  · cases h; exact .inr ⟨_, rfl⟩
  · cases h; exact ho _
  · cases h; exact ho _
  · cases h
theorem nodup_gap : ∀ {gs : List (Str × Gp)} {nm : Str} {g g' : Gp}, (gnames gs).Nodup → (nm, g) ∈ gs → (nm, g') ∈ gs → g = g'
  | [], _, _, _, _, h, _ => by cases h
  | x :: gs, nm, g, g', hn, h, h' => by
    obtain ⟨h1, h2⟩ := List.nodup_cons.mp (show (x.1 :: gnames gs).Nodup from hn)
    rcases List.mem_cons.mp h with e | m
    · rcases List.mem_cons.mp h' with e' | m'
      · exact (Prod.mk.inj (e.trans e'.symm)).2
      · exact absurd (by rw [← e]; show nm ∈ gnames gs; exact List.mem_map_of_mem (f := fun x : Str × Gp => x.1) m') h1
    · rcases List.mem_cons.mp h' with e' | m'
      · exact absurd (by rw [← e']; show nm ∈ gnames gs; exact List.mem_map_of_mem (f := fun x : Str × Gp => x.1) m) h1
      · exact nodup_gap h2 m m'
theorem cut_len {α : Type} (f : α → V) (zs : List α) {k m : Int} (h0 : 0 ≤ k) (h1 : 0 ≤ m) : (cutV (zs.map f) (some k) (some (k + m))).length ≤ m.toNat := by
  obtain ⟨k', rfl⟩ : ∃ k' : Nat, k = (k' : Int) := ⟨k.toNat, by omega⟩
  obtain ⟨m', rfl⟩ : ∃ m' : Nat, m = (m' : Int) := ⟨m.toNat, by omega⟩
  unfold cutV
  rw [List.length_take, show ((k' : Int) + (m' : Int)) = ((k' + m' : Nat) : Int) by omega, HT.sIx_nat, HT.sIx_nat]
  omega
theorem two_at (f : Bool → Addr) {w : Int} {j : Bool} (h : w = if j then 1 else 0) : atI [V.ref (f false), V.ref (f true)] w = some (V.ref (f j)) := by
  cases j <;> subst h <;> rfl
theorem two_or {w : Int} (h0 : 0 ≤ w) (h1 : w < 2) : ∃ j : Bool, w = if j then 1 else 0 := by
  rcases (show w = 0 ∨ w = 1 by omega) with h | h
  · exact ⟨false, h⟩
  · exact ⟨true, h⟩
theorem kinds_at {z : Int} (h0 : 0 ≤ z) (h1 : z < 6) : ∃ k : Int, atI [V.int 0, V.int 1, V.int 0, V.int 2, V.int 0, V.int 3] z = some (.int k) := by
  rcases (show z = 0 ∨ z = 1 ∨ z = 2 ∨ z = 3 ∨ z = 4 ∨ z = 5 by omega) with h | h | h | h | h | h <;> subst h <;> exact ⟨_, rfl⟩
theorem HG.oth2 {cl : Cl} {H H' : Hp} {n : Nat} {x dh dg a1 a2 : Addr} {gs : List (Str × Gp)} {k1 k2 : List (Key × V)} (L : HG cl H n x dh dg gs) (b : But2h a1 a2 H H')
    (h1 : H a1 = some (.dK k1)) (h2 : H a2 = some (.dK k2)) (n1 : dg ≠ a1) (n2 : dg ≠ a2) (n3 : dh ≠ a1) (n4 : dh ≠ a2) : HG cl H' n x dh dg gs := by
  have tp : ∀ p xs, H p = some (.tup xs) → H' p = some (.tup xs) := fun p xs h => b _ _ h (ne_of h h1 (fun z => by cases z)) (ne_of h h2 (fun z => by cases z))
  obtain ⟨kvs, hd, G⟩ := L.D
  obtain ⟨dx, hx⟩ := L.W.ob
  obtain ⟨kvh, he, Gh⟩ := L.W.dc
  exact ⟨⟨⟨dx, b _ _ hx (ne_of hx h1 (fun z => by cases z)) (ne_of hx h2 (fun z => by cases z))⟩, kvh, b _ _ he n3 n4, Gh.keep tp⟩, ⟨kvs, b _ _ hd n1 n2, G.keep tp⟩, L.ne, L.nd, L.wi⟩
/-- both houses, the law's dicts, the names, as they stand behind i deeds -/
structure LN (H0 : Hp) (cl : Cl) (H : Hp) (i n : Nat) (a rn rh rg rc : Addr) (X DH DG : Bool → Addr) (GS : Bool → List (Str × Gp)) (nms : List Str) (zs : List Int) : Prop where
  hg : ∀ j, HG cl H n (X j) (DH j) (DG j) (GS j)
  ne : ∀ j, DG j ≠ DG (!j) ∧ DG j ≠ DH (!j) ∧ DH j ≠ DH (!j) ∧ DH j ≠ DG (!j)
  len : ∀ j, (GS j).length ≤ i
  nm : ∀ j, ∀ s ∈ gnames (GS j), NmT s
  rn : H rn = some (.lst (nms.map V.str))
  rh : H rh = some (.lst [.ref (X false), .ref (X true)])
  rg : H rg = some (.lst [.ref (DG false), .ref (DG true)])
  rc : H rc = some (.lst (zs.map V.int))
theorem LN.same {H0 : Hp} {cl : Cl} {H H' : Hp} {i n : Nat} {a rn rh rg rc : Addr} {X DH DG : Bool → Addr} {GS : Bool → List (Str × Gp)} {nms : List Str} {zs : List Int} (s : Same H H') (W : LN H0 cl H i n a rn rh rg rc X DH DG GS nms zs) : LN H0 cl H' i n a rn rh rg rc X DH DG GS nms zs :=
  ⟨fun j => (W.hg j).same s, W.ne, W.len, W.nm, s _ _ W.rn, s _ _ W.rh, s _ _ W.rg, s _ _ W.rc⟩
theorem LN.more {H0 : Hp} {cl : Cl} {H : Hp} {i n : Nat} {a rn rh rg rc : Addr} {X DH DG : Bool → Addr} {GS : Bool → List (Str × Gp)} {nms : List Str} {zs : List Int} (W : LN H0 cl H i n a rn rh rg rc X DH DG GS nms zs) : LN H0 cl H (i + 1) n a rn rh rg rc X DH DG GS nms zs :=
  ⟨W.hg, W.ne, fun j => Nat.le_succ_of_le (W.len j), W.nm, W.rn, W.rh, W.rg, W.rc⟩
/-- the gaps of the one house become others -/
def setG (GS : Bool → List (Str × Gp)) (j : Bool) (gs : List (Str × Gp)) : Bool → List (Str × Gp) := fun i => if i = j then gs else GS i
theorem LN.deed {H0 : Hp} {cl : Cl} {H H' : Hp} {i n : Nat} {a rn rh rg rc : Addr} {X DH DG : Bool → Addr} {GS : Bool → List (Str × Gp)} {nms : List Str} {zs : List Int} (W : LN H0 cl H i n a rn rh rg rc X DH DG GS nms zs) {j : Bool} {gs : List (Str × Gp)} (L : HG cl H' n (X j) (DH j) (DG j) gs) (bt : But2h (DG j) (DH j) H H') (l : gs.length ≤ i + 1) (nm : ∀ s ∈ gnames gs, NmT s) : LN H0 cl H' (i + 1) n a rn rh rg rc X DH DG (setG GS j gs) nms zs := by
  obtain ⟨k1, h1, _⟩ := (W.hg j).D
  obtain ⟨k2, h2, _⟩ := (W.hg j).W.dc
  have ls : ∀ p xs, H p = some (.lst xs) → H' p = some (.lst xs) := fun p xs h => bt _ _ h (ne_of h h1 (fun z => by cases z)) (ne_of h h2 (fun z => by cases z))
  have oth : ∀ k, k ≠ j → k = !j := fun k h => by cases k <;> cases j <;> simp at h ⊢
  refine ⟨fun k => ?_, W.ne, fun k => ?_, fun k => ?_, ls _ _ W.rn, ls _ _ W.rh, ls _ _ W.rg, ls _ _ W.rc⟩
  · unfold setG
    by_cases c : k = j
    · subst c; rw [if_pos rfl]; exact L
    · rw [if_neg c]
      have ek := oth k c
      subst ek
      obtain ⟨m1, m2, m3, m4⟩ := W.ne j
      exact (W.hg (!j)).oth2 bt h1 h2 (Ne.symm m1) (Ne.symm m4) (Ne.symm m2) (Ne.symm m3)
  · unfold setG
    by_cases c : k = j
    · rw [if_pos c]; exact l
    · rw [if_neg c]; have := W.len k; omega
  · unfold setG
    by_cases c : k = j
    · rw [if_pos c]; exact nm
    · rw [if_neg c]; exact W.nm k
theorem din_iff {H : Hp} {kvs : List (Key × V)} {gs : List (Str × Gp)} {nm : Str} {k : Int} (G : GapsIn H kvs gs) : (V.bl (valV kvs (Sum.inr nm : Key)).isSome = V.bl (decide (V.int k = V.int 0))) ↔ (nm ∈ gnames gs ↔ k = 0) := by
  have hk : decide (V.int k = V.int 0) = decide (k = 0) := by
    by_cases c : k = 0
    · rw [decide_eq_true c, decide_eq_true (by rw [c])]
    · rw [decide_eq_false c, decide_eq_false (fun h => c (V.int.inj h))]
  rw [hk]
  by_cases hn : nm ∈ gnames gs
  · obtain ⟨p, g, _, hv, _⟩ := G.val_some hn
    rw [hv]
    by_cases c : k = 0
    · rw [decide_eq_true c]; exact ⟨fun _ => ⟨fun _ => c, fun _ => hn⟩, fun _ => rfl⟩
    · rw [decide_eq_false c]; exact ⟨fun h => (nomatch h), fun h => absurd (h.mp hn) c⟩
  · rw [G.val_none hn]
    by_cases c : k = 0
    · rw [decide_eq_true c]; exact ⟨fun h => (nomatch h), fun h => absurd (h.mpr c) hn⟩
    · rw [decide_eq_false c]; exact ⟨fun _ => ⟨fun h => absurd h hn, fun h => absurd h c⟩, fun _ => rfl⟩
section
variable {P : Program} {w : World} {K : PySem.W.Frag} {mg : Str → Option Value} {base : Heap} {cl : Cl}
seal L2.PSs L2.PS L2.PE L2.PA L2.PT L2.PI L2.PG L2.PGs L2.PTs L2.PW L2.PC L2.PO
theorem sc_bounds_of : FnScope ["gap", "a", "b", "low", "high", "found"] ["gap"] (defScope s_bounds_of) := ⟨rfl, rfl, rfl, by decide +kernel, rfl, by decide +kernel, by decide +kernel⟩
theorem ok_bounds_of {f : Addr} {fd : FuncData} (F : Fun K "bounds_of" "bounds_of" s_bounds_of f fd) (T : Txt K mg cl)  : FnOk P w K mg base CX0 1 f fd ["gap"] (sp_bounds_of K) := by
  refine F.ok sc_bounds_of (fun vs H Q E h => ?_) (fun cdv A outer s H vs Q E hr h => ?_)
  · obtain ⟨u, a, b, low, high, rfl, hB, q⟩ := h
    rfl
  · obtain ⟨u, a, b, low, high, rfl, hB, q⟩ := h
    refine ⟨_, (pss_cons (ps_set (i := 1) sc_bounds_of.nd rfl (Or.inl rfl) (pe_ix ix_tup (pv 0) pe_int (fun _ _ => rfl)))
      (pss_cons (ps_set (i := 2) sc_bounds_of.nd rfl (Or.inl rfl) (pe_ix ix_tup (pv 0) pe_int (fun _ _ => rfl)))
      (pss_cons (ps_set (i := 3) sc_bounds_of.nd rfl (Or.inl rfl) (pe_ix ix_tup (pv 0) pe_int (fun _ _ => rfl)))
      (pss_cons (ps_set (i := 4) sc_bounds_of.nd rfl (Or.inl rfl) (pe_ix ix_tup (pv 0) pe_int (fun _ _ => rfl)))
      (pss_cons (ps_set (i := 5) sc_bounds_of.nd rfl (Or.inl rfl) (pe_lst pa_nil))
      (pss_cons (ps_if (pt_cmpR op_notN (pv 4) pe_non (nomark _))
      (pss_one (ps_expr (pe_bm PySem.F.plainAttrs_list PySem.F.slot_list_append PySem.F.type_list_append mt_append (pv 5) (pa_cons (pe_tup (pa_cons (pv 1) (pa_cons (pv 2) (pa_cons (pv 4) pa_nil)))) pa_nil))))
      pss_nil)
      (pss_cons (ps_if (pt_cmpR op_notN (pv 3) pe_non (nomark _))
      (pss_one (ps_expr (pe_bm PySem.F.plainAttrs_list PySem.F.slot_list_append PySem.F.type_list_append mt_append (pv 5) (pa_cons (pe_tup (pa_cons (pv 2) (pa_cons (pv 1) (pa_cons (pe_un un_neg (pv 3)) pa_nil)))) pa_nil))))
      pss_nil)
      (pss_one (ps_ret (pv 5)))))))))), ?_⟩
    refine ⟨_, rfl, u, _, 0, _, rfl, rfl, hB, rfl, _, rfl, u, _, 1, _, rfl, rfl, hB, rfl, _, rfl, u, _, 2, _, rfl, rfl, hB, rfl, _, rfl, u, _, 3, _, rfl, rfl, hB, rfl, (by show 0 ≤ sizeLine; decide), fun r hr0 => ?_⟩
    have s0 := same_new hr0 (.lst [])
    have e0 : (upd H r (.lst [])) r = some (.lst []) := upd_same
    generalize upd H r (.lst []) = H1 at s0 e0
    have a0 : AreB H1 [] [] := .nil
    cases high with
    | none =>
      refine ⟨_, rfl, rfl, _, rfl, iteF ?_⟩
      cases low with
      | none => exact ⟨_, rfl, rfl, _, rfl, iteF ⟨_, rfl, q r _ [] hr0 s0 e0 a0⟩⟩
      | some l =>
        refine ⟨_, rfl, rfl, _, rfl, iteT ⟨_, rfl, .inl ⟨rfl, _, SqL.of e0⟩, _, rfl, _, rfl, _, rfl, _, rfl, (by show 3 ≤ sizeLine; decide), fun p hp => ⟨r, [], _, rfl, rfl, same_new hp _ _ _ e0, (by show 0 < sizeLine; decide), _, rfl, ?_⟩⟩⟩
        exact q r _ _ hr0 (app_same hr0 s0 hp) upd_same (a0.app (m := (b, a, -l)) e0 hp)
    | some h =>
      refine ⟨_, rfl, rfl, _, rfl, iteT ⟨_, rfl, .inl ⟨rfl, _, SqL.of e0⟩, _, rfl, _, rfl, _, rfl, (by show 3 ≤ sizeLine; decide), fun p hp => ⟨r, [], _, rfl, rfl, same_new hp _ _ _ e0, (by show 0 < sizeLine; decide), ?_⟩⟩⟩
      have s1 := app_same (o := .tup (bv (a, b, h))) (u := .lst ([] ++ [.ref p])) hr0 s0 hp
      have e1 : (upd (upd H1 p (.tup (bv (a, b, h)))) r (.lst ([] ++ [.ref p]))) r = some (.lst [.ref p]) := upd_same
      have a1 : AreB (upd (upd H1 p (.tup (bv (a, b, h)))) r (.lst ([] ++ [.ref p]))) [.ref p] [(a, b, h)] := a0.app (m := (a, b, h)) e0 hp
      cases low with
      | none => exact ⟨_, rfl, rfl, _, rfl, iteF ⟨_, rfl, q r _ _ hr0 s1 e1 a1⟩⟩
      | some l =>
        refine ⟨_, rfl, rfl, _, rfl, iteT ⟨_, rfl, .inl ⟨rfl, _, SqL.of e1⟩, _, rfl, _, rfl, _, rfl, _, rfl, (by show 3 ≤ sizeLine; decide), fun p2 hp2 => ⟨r, _, _, rfl, rfl, same_new hp2 _ _ _ e1, (by show 1 < sizeLine; decide), _, rfl, ?_⟩⟩⟩
        exact q r _ _ hr0 (app_same hr0 s1 hp2) upd_same (a1.app (m := (b, a, -l)) e1 hp2)
theorem sc_wide_row : FnScope ["count", "a"] ["count", "a"] (defScope s_wide_row) := ⟨rfl, rfl, rfl, by decide +kernel, rfl, by decide +kernel, by decide +kernel⟩
theorem ok_wide_row {f : Addr} {fd : FuncData} (F : Fun K "wide_row" "wide_row" s_wide_row f fd) (T : Txt K mg cl)  : FnOk P w K mg base CX0 1 f fd ["count", "a"] (sp_wide_row K) := by
  refine F.ok sc_wide_row (fun vs H Q E h => ?_) (fun cdv A outer s H vs Q E hr h => ?_)
  · obtain ⟨n, a, rfl, hn, q⟩ := h
    rfl
  · obtain ⟨n, a, rfl, hn, q⟩ := h
    refine ⟨_, (pss_one (ps_ret (pe_compS ["a"] [1] rfl (pi_range1 rfl T.z_range (pa_cons (pv 0) pa_nil)) (fun _ _ _ => pts_nil) (fun _ _ _ => (pe_ifExp (pt_cmpR op_eq (pv 1) (pv 0) (nomark _)) pe_int pe_non)) (hk := by kernel_rfl)))), ?_⟩
    refine ⟨_, rfl, (n : Int), rfl, by omega, by omega, comp_vals (n := ((n : Nat) : Int).toNat) (fun j => ov (if a = (j : Int) then some (0 : Int) else none)) (small (by omega)) ?_ ?_⟩
    · intro i hi R kR
      refine ⟨_, rfl, _, rfl, rfl, _, rfl, ?_⟩
      refine ite2 (fun c => ?_) (fun c => ?_)
      · have c' := of_decide_eq_true c
        have e : a = (i : Int) := by have := V.int.inj c'; omega
        rw [if_pos e] at kR
        exact kR
      · have c' := of_decide_eq_false (Bool.eq_false_iff.mpr c)
        have e : ¬ a = (i : Int) := fun e => c' (by rw [e, Int.zero_add])
        rw [if_neg e] at kR
        exact kR
    · intro p hp
      have := q p hp
      rw [List.map_map] at this
      rw [Int.toNat_natCast]
      exact this
theorem sc_shuts : FnScope ["bound", "table", "back"] ["bound", "table"] (defScope s_shuts) := ⟨rfl, rfl, rfl, by decide +kernel, rfl, by decide +kernel, by decide +kernel⟩
theorem ok_shuts {f : Addr} {fd : FuncData} (F : Fun K "shuts" "shuts" s_shuts f fd) (T : Txt K mg cl)  : FnOk P w K mg base CX0 1 f fd ["bound", "table"] (sp_shuts K) := by
  refine F.ok sc_shuts (fun vs H Q E h => ?_) (fun cdv A outer s H vs Q E hr h => ?_)
  · obtain ⟨u, p, m, rs, t, n, rfl, hB, hT, hS, h1, h2, q⟩ := h
    rfl
  · obtain ⟨u, p, m, rs, t, n, rfl, hB, hT, hS, h1, h2, q⟩ := h
    refine ⟨_, (pss_cons (ps_set (i := 2) sc_shuts.nd rfl (Or.inl rfl) (pe_ix ix_list (pe_ix ix_list (pv 1) (pe_ix ix_tup (pv 0) pe_int (fun _ _ => rfl)) (fun _ _ => rfl)) (pe_ix ix_tup (pv 0) pe_int (fun _ _ => rfl)) (fun _ _ => rfl)))
      (pss_one (ps_ret (pe_and (pe_cmpR op_notN (pv 2) pe_non (nomark _)) (pe_one (pe_cmpR op_lt (pe_op op_add (pv 2) (pe_ix ix_tup (pv 0) pe_int (fun _ _ => rfl))) pe_int (nomark _))))))), ?_⟩
    obtain ⟨r, row, g1, g2, g3⟩ := hT.at hS h2 h1
    refine ⟨_, rfl, _, rfl, u, _, 1, _, rfl, rfl, hB, rfl, p, _, _, _, rfl, rfl, SqL.of hT.ob, g1, _, rfl, u, _, 0, _, rfl, rfl, hB, rfl, r, _, _, _, rfl, rfl, SqL.of g2, g3, ?_⟩
    refine ⟨_, rfl, rfl, _, rfl, ?_⟩
    unfold shutB at q
    cases e : ent t m.2.1 m.1 with
    | none => rw [e] at q; exact iteF q
    | some z =>
      rw [e] at q
      exact iteT ⟨_, rfl, _, rfl, u, _, 2, _, rfl, rfl, hB, rfl, _, _, rfl, rfl, _, _, rfl, rfl, q⟩
theorem sc_total : FnScope ["one", "other"] ["one", "other"] (defScope s_total) := ⟨rfl, rfl, rfl, by decide +kernel, rfl, by decide +kernel, by decide +kernel⟩
theorem ok_total {f : Addr} {fd : FuncData} (F : Fun K "total" "total" s_total f fd) (T : Txt K mg cl)  : FnOk P w K mg base CX0 1 f fd ["one", "other"] (sp_total K) := by
  refine F.ok sc_total (fun vs H Q E h => ?_) (fun cdv A outer s H vs Q E hr h => ?_)
  · obtain ⟨x, y, rfl, q⟩ := h
    rfl
  · obtain ⟨x, y, rfl, q⟩ := h
    refine ⟨_, (pss_cons (ps_if (PW.pt (pw_or (pt_cmpR op_isN (pv 0) pe_non (nomark _)) (pw_or1 (pt_cmpR op_isN (pv 1) pe_non (nomark _)))))
      (pss_one (ps_ret pe_non))
      pss_nil)
      (pss_one (ps_ret (pe_op op_add (pv 0) (pv 1))))), ?_⟩
    refine ⟨_, rfl, rfl, _, rfl, ?_⟩
    cases x with
    | none => exact iteT (iteT q)
    | some x =>
      refine iteF ⟨_, rfl, rfl, _, rfl, ?_⟩
      cases y with
      | none => exact iteT q
      | some y => exact iteF ⟨_, rfl, _, rfl, _, _, rfl, rfl, q⟩
theorem sc_lesser : FnScope ["one", "other"] ["one", "other"] (defScope s_lesser) := ⟨rfl, rfl, rfl, by decide +kernel, rfl, by decide +kernel, by decide +kernel⟩
theorem ok_lesser {f : Addr} {fd : FuncData} (F : Fun K "lesser" "lesser" s_lesser f fd) (T : Txt K mg cl)  : FnOk P w K mg base CX0 1 f fd ["one", "other"] (sp_lesser K) := by
  refine F.ok sc_lesser (fun vs H Q E h => ?_) (fun cdv A outer s H vs Q E hr h => ?_)
  · obtain ⟨x, y, rfl, q⟩ := h
    rfl
  · obtain ⟨x, y, rfl, q⟩ := h
    refine ⟨_, (pss_cons (ps_if (pt_cmpR op_isN (pv 0) pe_non (nomark _))
      (pss_one (ps_ret (pv 1)))
      pss_nil)
      (pss_cons (ps_if (pt_cmpR op_isN (pv 1) pe_non (nomark _))
      (pss_one (ps_ret (pv 0)))
      pss_nil)
      (pss_one (ps_ret (pe_callB (call_min2 rfl) rfl T.z_min boot_min (pa_cons (pv 0) (pa_cons (pv 1) pa_nil))))))), ?_⟩
    refine ⟨_, rfl, rfl, _, rfl, ?_⟩
    cases x with
    | none => exact iteT ⟨_, rfl, q⟩
    | some x =>
      refine iteF ⟨_, rfl, rfl, _, rfl, ?_⟩
      cases y with
      | none => exact iteT ⟨_, rfl, q⟩
      | some y => exact iteF ⟨_, rfl, _, rfl, x, y, rfl, q⟩
theorem sc_all_bounds : FnScope ["gaps", "found", "gap"] ["gaps"] (defScope s_all_bounds) := ⟨rfl, rfl, rfl, by decide +kernel, rfl, by decide +kernel, by decide +kernel⟩
theorem ok_all_bounds {f : Addr} {fd : FuncData} (F : Fun K "all_bounds" "all_bounds" s_all_bounds f fd) (T : Txt K mg cl) (C_bounds_of : Cal P w K mg base 1 "bounds_of" ["gap"] (sp_bounds_of K)) : FnOk P w K mg base CX0 2 f fd ["gaps"] (sp_all_bounds K) := by
  refine F.ok sc_all_bounds (fun vs H Q E h => ?_) (fun cdv A outer s H vs Q E hr h => ?_)
  · obtain ⟨d, kvs, gs, rfl, hd, G, hl, q⟩ := h
    rfl
  · obtain ⟨d, kvs, gs, rfl, hd, G, hl, q⟩ := h
    refine ⟨_, (pss_cons (ps_set (i := 1) sc_all_bounds.nd rfl (Or.inl rfl) (pe_lst pa_nil))
      (pss_cons (ps_forD PassesOwn.never rfl (pi_values (pv 0)) (pg_name (i := 2) sc_all_bounds.nd rfl (Or.inl rfl))
      (pss_one (ps_expr (pe_bm PySem.F.plainAttrs_list PySem.F.slot_list_extend PySem.F.type_list_extend mt_extend (pv 1) (pa_cons (pec C_bounds_of (hr.mono (by decide)) rfl (pa_cons (pv 2) pa_nil)) pa_nil)))))
      (pss_one (ps_ret (pv 1))))), ?_⟩
    have len := G.len
    refine ⟨(by show 0 ≤ sizeLine; decide), fun r hr0 => ?_⟩
    have s1 := same_new hr0 (.lst [])
    have e1 : (upd H r (.lst [])) r = some (.lst []) := upd_same
    generalize upd H r (.lst []) = H1 at s1 e1 ⊢
    have nr : r ≠ d := Ne.symm (ne_of_none hd hr0)
    have hd1 := s1 _ _ hd
    intro NF
    refine ⟨_, rfl, d, kvs, rfl, hd1, fun ob nf => for_dict (NF := NF) (a := d) (ob := ob) (kvs := kvs) (fun i σ H2 => Same (upd H d (.frz ob (.dK kvs))) H2 ∧ (∃ u3, σ = [some (.ref d), some (.ref r), u3]) ∧ ∃ qs, H2 r = some (.lst qs) ∧ AreB H2 qs (allB (gs.take i))) ?_ ?_ ?_ ?_⟩
    · refine ⟨fun b o e => ?_, ⟨_, rfl⟩, [], by rw [upd_ne nr]; exact e1, .nil⟩
      by_cases c : b = d
      · subst c; rw [upd_same] at e ⊢; exact e
      · rw [upd_ne c] at e ⊢; exact s1 _ _ e
    · rintro i σ H2 _ ⟨s2, _⟩
      exact s2 _ _ upd_same
    · rintro i k v σ H2 hi ⟨s2, ⟨u3, rfl⟩, qs, e2, A2⟩
      obtain ⟨g, hg, _, p, hv, hp⟩ := paired_get G hi
      have hv : v = .ref p := hv
      subst hv
      have hp2 : H2 p = some (.tup (gv g.2)) := s2 _ _ (by rw [upd_ne (ne_of hp hd (fun z => by cases z))]; exact hp)
      have hlt : i < gs.length := (List.getElem?_eq_some_iff.mp hg).1
      have l1 := A2.len
      have l2 := allB_len (gs.take i)
      have l3 := gbs_len g.2
      rw [List.length_take] at l2
      refine ⟨_, rfl, .inl ⟨rfl, _, SqL.of e2⟩, _, rfl, p, g.2.1, g.2.2.1, g.2.2.2.1, g.2.2.2.2, rfl, SqT.of hp2, fun r3 H3 qs3 hr3 s3 e3 A3 => ?_⟩
      have l4 := A3.len
      have e3' := s3 _ _ e2
      have l5 : (bnds g.2.1 g.2.2.1 g.2.2.2.1 g.2.2.2.2).length ≤ 2 := l3
      refine ⟨r, r3, qs, qs3, rfl, rfl, e3', e3, small (by omega), ?_⟩
      refine ⟨fun b o e => ?_, ⟨_, rfl⟩, _, upd_same, ?_⟩
      · have nb : b ≠ r := fun z => by
          subst z
          rw [upd_ne nr, hr0] at e; cases e
        rw [upd_ne nb]; exact s3 _ _ (s2 _ _ e)
      · rw [allB_take hg]
        exact AreB.tups (AreB.append (A2.same s3) A3) fun c xs e => by rw [upd_ne (ne_of e e3' (fun z => by cases z))]; exact e
    · rintro σ H2 ⟨s2, ⟨u3, rfl⟩, qs, e2, A2⟩
      rw [len, List.take_length] at A2
      have hf := s2 d _ upd_same
      refine ⟨d, ob, kvs, nf, hf, _, rfl, q r _ qs hr0 (fun b o e => ?_) (by rw [upd_ne nr]; exact e2) (A2.tups fun c xs e => by rw [upd_ne (ne_of e hf (fun z => by cases z))]; exact e)⟩
      by_cases c : b = d
      · subst c; rw [upd_same, ← hd]; exact e
      · rw [upd_ne c]; exact s2 _ _ (by rw [upd_ne c]; exact e)
theorem sc_law_cell : FnScope ["_law_script", "_law_k", "_law_seed", "_law_some"] ["_law_script", "_law_k"] (defScope s_law_cell) := ⟨rfl, rfl, rfl, by decide +kernel, rfl, by decide +kernel, by decide +kernel⟩
theorem ok_law_cell {f : Addr} {fd : FuncData} (F : Fun K "_law_cell" "_law_cell" s_law_cell f fd) (T : Txt K mg cl)  : FnOk P w K mg base CX0 1 f fd ["_law_script", "_law_k"] (sp_law_cell K) := by
  refine F.ok sc_law_cell (fun vs H Q E h => ?_) (fun cdv A outer s H vs Q E hr h => ?_)
  · obtain ⟨a, ns, k, rfl, hS, h63, h0, h1, q⟩ := h
    rfl
  · obtain ⟨a, ns, k, rfl, hS, h63, h0, h1, q⟩ := h
    refine ⟨_, (pss_cons (ps_if (pt_cmpR op_lt (pv 1) (pe_callB call_len_seq rfl T.z_len PySem.boot_len (pa_cons (pv 0) pa_nil)) (nomark _))
      (pss_one (ps_ret (pe_ix ix_list (pv 0) (pv 1) (fun _ _ => rfl))))
      pss_nil)
      (pss_cons (ps_set (i := 2) sc_law_cell.nd rfl (Or.inl rfl) (pe_op op_mul (pv 1) pe_int))
      (pss_cons (ps_if (pt_cmpR op_gt (pe_callB call_len_seq rfl T.z_len PySem.boot_len (pa_cons (pv 0) pa_nil)) pe_int (nomark _))
      (pss_one (ps_set (i := 2) sc_law_cell.nd rfl (Or.inl rfl) (pe_op op_add (pv 2) (pe_op op_mod (pe_ix ix_list (pv 0) (pe_op op_mod (pv 1) (pe_callB call_len_seq rfl T.z_len PySem.boot_len (pa_cons (pv 0) pa_nil))) (fun _ _ => rfl)) pe_int))))
      pss_nil)
      (pss_cons (ps_set (i := 3) sc_law_cell.nd rfl (Or.inl rfl) (pe_op op_mod (pe_op op_mul (pv 2) pe_int) pe_int))
      (pss_one (ps_ret (pe_op op_mod (pe_op op_fdiv (pe_op op_mul (pv 3) (pe_op op_add (pe_op op_add (pv 3) (pe_op op_mul pe_int (pv 1))) pe_int)) pe_int) pe_int))))))), ?_⟩
    have hl : (ns.map V.int).length = ns.length := List.length_map _
    refine ⟨_, rfl, _, rfl, a, _, rfl, .inl hS, _, _, rfl, rfl, _, rfl, ?_⟩
    refine ite2 (fun c => ?_) (fun c => ?_)
    · have c' : k < (((ns.map V.int).length : Nat) : Int) := of_decide_eq_true c
      rw [hl] at c'
      exact ⟨_, rfl, _, rfl, a, _, k, _, rfl, rfl, hS, at_int h0 c', q _⟩
    · refine ⟨_, rfl, _, _, rfl, rfl, .inl ⟨by omega, by omega⟩, _, rfl, a, _, rfl, .inl hS, _, _, rfl, rfl, _, rfl, ?_⟩
      have fin : ∀ z : Int, tSeq (tAsg (tOp (rI (fun _ j => 0 < j) fun i j => .int (i % j)) (tOp (rI CMul fun i j => .int (i * j)) (tVar 2) (tC (.int 48271))) (tC (.int 65537))) (gName 3))
          (tRet (tOp (rI (fun _ j => 0 < j) fun i j => .int (i % j)) (tOp (rI CDiv fun i j => .int (i / j)) (tOp (rI CMul fun i j => .int (i * j)) (tVar 3) (tOp (rI0 fun i j => .int (i + j)) (tOp (rI0 fun i j => .int (i + j)) (tVar 3) (tOp (rI CMul fun i j => .int (i * j)) (tC (.int 2)) (tVar 1))) (tC (.int 1)))) (tC (.int 7))) (tC (.int 65521)))) { nx := fun _ H' => Q .non H', rt := Q } [some (.ref a), some (.int k), some (.int z), none] H := fun z => by
        refine ⟨_, rfl, _, _, rfl, rfl, .inr ⟨by decide, by decide⟩, _, _, rfl, rfl, (by show (0 : Int) < 65537; decide), ?_⟩
        have m1 := Int.emod_nonneg (z * 48271) (show (65537 : Int) ≠ 0 by decide)
        have m2 := Int.emod_lt_of_pos (z * 48271) (show (0 : Int) < 65537 by decide)
        exact ⟨_, rfl, _, rfl, _, rfl, _, _, rfl, rfl, .inl ⟨by decide, by decide⟩, _, _, rfl, rfl, _, _, rfl, rfl, _, _, rfl, rfl, .inl ⟨by omega, by omega⟩, _, _, rfl, rfl, ⟨by decide, by decide⟩, _, _, rfl, rfl, (by show (0 : Int) < 65521; decide), q _⟩
      refine ite2 (fun c2 => ?_) (fun c2 => fin _)
      have c3 : (0 : Int) < (((ns.map V.int).length : Nat) : Int) := of_decide_eq_true c2
      have m1 := Int.emod_nonneg k (show (((ns.map V.int).length : Nat) : Int) ≠ 0 by omega)
      have m2 := Int.emod_lt_of_pos k c3
      refine ⟨_, rfl, _, rfl, _, rfl, _, rfl, a, _, rfl, .inl hS, _, _, rfl, rfl, c3, a, _, _, _, rfl, rfl, hS, at_int m1 (by rw [hl] at m2 ⊢; exact m2), _, _, rfl, rfl, (by show (0 : Int) < 65537; decide), _, _, rfl, rfl, fin _⟩
theorem sc_law_whole : FnScope ["_law_found"] ["_law_found"] (defScope s_law_whole) := ⟨rfl, rfl, rfl, by decide +kernel, rfl, by decide +kernel, by decide +kernel⟩
theorem ok_law_whole {f : Addr} {fd : FuncData} (F : Fun K "_law_whole" "_law_whole" s_law_whole f fd) (T : Txt K mg cl)  : FnOk P w K mg base CX0 1 f fd ["_law_found"] (sp_law_whole K) := by
  refine F.ok sc_law_whole (fun vs H Q E h => ?_) (fun cdv A outer s H vs Q E hr h => ?_)
  · obtain ⟨i, rfl, q⟩ := h
    rfl
  · obtain ⟨i, rfl, q⟩ := h
    refine ⟨_, (pss_one (ps_ret (pe_and (pe_callB call_isi rfl T.z_isinstance boot_isinstance (pa_cons (pv 0) (pa_cons (pe_bltn (v := .ty "int") rfl T.z_int boot_int rfl) pa_nil))) (pe_one (pe_not (pe_callB call_isi rfl T.z_isinstance boot_isinstance (pa_cons (pv 0) (pa_cons (pe_bltn (v := .ty "bool") rfl T.z_bool boot_bool rfl) pa_nil)))))))), ?_⟩
    exact ⟨_, rfl, _, _, _, _, rfl, .int i, kit_same, _, rfl, iteT ⟨_, rfl, _, _, _, _, rfl, .int i, kit_int_bool, _, rfl, q⟩⟩
theorem sc_law_spread : FnScope ["_law_cell_here", "_law_k"] ["_law_cell_here", "_law_k"] (defScope s_law_spread) := ⟨rfl, rfl, rfl, by decide +kernel, rfl, by decide +kernel, by decide +kernel⟩
theorem ok_law_spread {f : Addr} {fd : FuncData} (F : Fun K "_law_spread" "_law_spread" s_law_spread f fd) (T : Txt K mg cl)  : FnOk P w K mg base CX0 1 f fd ["_law_cell_here", "_law_k"] (sp_law_spread K) := by
  refine F.ok sc_law_spread (fun vs H Q E h => ?_) (fun cdv A outer s H vs Q E hr h => ?_)
  · obtain ⟨c, k, rfl, h0, h1, q⟩ := h
    rfl
  · obtain ⟨c, k, rfl, h0, h1, q⟩ := h
    refine ⟨_, (pss_cons (ps_if (pt_chain op_lt op_lt (pe_un un_neg pe_int) (pv 0) pe_int)
      (pss_one (ps_ret (pe_op op_mod (pe_op op_mul (pe_op op_add (pe_op op_mul (pe_op op_add (pv 0) pe_int) (pe_op op_add (pe_op op_add (pv 0) pe_int) (pe_op op_mul pe_int (pv 1)))) (pe_op op_mul pe_int (pv 1))) pe_int) pe_int)))
      pss_nil)
      (pss_one (ps_ret (pv 0)))), ?_⟩
    refine ⟨_, rfl, _, rfl, _, _, rfl, rfl, _, rfl, ?_⟩
    refine ite2 (fun g1 => ?_) (fun g1 => ?_)
    · have g1' : -1000 < c := of_decide_eq_true g1
      refine ⟨_, _, rfl, rfl, _, rfl, ?_⟩
      refine ite2 (fun g2 => ?_) (fun g2 => ?_)
      · have g2' : c < 1000 := of_decide_eq_true g2
        exact ⟨_, rfl, _, _, rfl, rfl, _, rfl, _, _, rfl, rfl, _, rfl, _, _, rfl, rfl, .inl ⟨by decide, by decide⟩, _, _, rfl, rfl, _, _, rfl, rfl, .inl ⟨by omega, by omega⟩, _, rfl, _, _, rfl, rfl, .inl ⟨by decide, by decide⟩, _, _, rfl, rfl, _, _, rfl, rfl, .inr ⟨by decide, by decide⟩, _, _, rfl, rfl, (by show (0 : Int) < 1000003; decide), q _⟩
      · exact ⟨_, rfl, q _⟩
    · exact ⟨_, rfl, iteF ⟨_, rfl, q _⟩⟩
theorem sc_law_big : FnScope ["_law_cell_here"] ["_law_cell_here"] (defScope s_law_big) := ⟨rfl, rfl, rfl, by decide +kernel, rfl, by decide +kernel, by decide +kernel⟩
theorem ok_law_big {f : Addr} {fd : FuncData} (F : Fun K "_law_big" "_law_big" s_law_big f fd) (T : Txt K mg cl)  : FnOk P w K mg base CX0 1 f fd ["_law_cell_here"] (sp_law_big K) := by
  refine F.ok sc_law_big (fun vs H Q E h => ?_) (fun cdv A outer s H vs Q E hr h => ?_)
  · obtain ⟨c, rfl, q⟩ := h
    rfl
  · obtain ⟨c, rfl, q⟩ := h
    refine ⟨_, (pss_cons (ps_if (pt_cmpR op_eq (pe_op op_mod (pv 0) pe_int) pe_int (nomark _))
      (pss_one (ps_ret (pe_op op_mul (pe_op op_mod (pe_op op_fdiv (pv 0) pe_int) (pe_op op_pow pe_int pe_int)) (pe_op op_sub pe_int (pe_op op_mul (pe_op op_mod (pe_op op_fdiv (pv 0) pe_int) pe_int) pe_int)))))
      pss_nil)
      (pss_one (ps_ret (pe_op op_sub (pe_op op_mod (pe_op op_fdiv (pv 0) pe_int) pe_int) pe_int)))), ?_⟩
    refine ⟨_, rfl, _, _, rfl, rfl, (by show (0 : Int) < 4; decide), rfl, _, rfl, ?_⟩
    refine ite2 (fun _ => ?_) (fun _ => ?_)
    · refine ⟨_, rfl, _, _, rfl, rfl, ⟨by decide, by decide⟩, _, _, rfl, rfl, ⟨by decide, by decide, by decide⟩, _, _, rfl, rfl, (by show (0 : Int) < 10 ^ 60; decide), _, rfl, _, _, rfl, rfl, ⟨by decide, by decide⟩, _, _, rfl, rfl, (by show (0 : Int) < 2; decide), _, _, rfl, rfl, .inr ⟨by decide, by decide⟩, _, _, rfl, rfl, _, _, rfl, rfl, .inr ⟨?_, ?_⟩, q _⟩
      all_goals
        have m1 := Int.emod_nonneg (c / 4) (show (2 : Int) ≠ 0 by decide)
        have m2 := Int.emod_lt_of_pos (c / 4) (show (0 : Int) < 2 by decide)
        omega
    · exact ⟨_, rfl, _, _, rfl, rfl, ⟨by decide, by decide⟩, _, _, rfl, rfl, (by show (0 : Int) < 21; decide), _, _, rfl, rfl, q _⟩
theorem sc_law_names : FnScope ["_law_script", "_law_signs", "_law_cell_here", "_law_size", "_law_base", "_law_at", "_law_names_here", "_law_k", "_law_name"] ["_law_script"] (defScope s_law_names) := ⟨rfl, rfl, rfl, by decide +kernel, rfl, by decide +kernel, by decide +kernel⟩
theorem ok_law_names {f : Addr} {fd : FuncData} (F : Fun K "_law_names" "_law_names" s_law_names f fd) (T : Txt K mg cl) (C_law_cell : Cal P w K mg base 1 "_law_cell" ["_law_script", "_law_k"] (sp_law_cell K)) : FnOk P w K mg base CX0 2 f fd ["_law_script"] (sp_law_names K) := by
  refine F.ok sc_law_names (fun vs H Q E h => ?_) (fun cdv A outer s H vs Q E hr h => ?_)
  · obtain ⟨a, ns, rfl, hS, h63, q⟩ := h
    rfl
  · obtain ⟨a, ns, rfl, hS, h63, q⟩ := h
    refine ⟨_, (pss_cons (ps_set (i := 1) sc_law_names.nd rfl (Or.inr rfl) pe_str)
      (pss_cons (ps_set (i := 1) sc_law_names.nd rfl (Or.inr rfl) (pe_op op_add_str (pv 1) pe_str))
      (pss_cons (ps_set (i := 2) sc_law_names.nd rfl (Or.inr rfl) (pec C_law_cell (hr.mono (by decide)) rfl (pa_cons (pv 0) (pa_cons pe_int pa_nil))))
      (pss_cons (ps_set (i := 3) sc_law_names.nd rfl (Or.inl rfl) (pe_op op_add pe_int (pe_op op_mod (pv 2) pe_int)))
      (pss_cons (ps_set (i := 4) sc_law_names.nd rfl (Or.inl rfl) (pe_bm PySem.F.plainAttrs_str PySem.F.slot_str_join PySem.F.type_str_join mt_join pe_str (pa_cons (pe_compS ["_law_signs", "_law_script", "_law_cell_here"] [1, 0, 2] rfl (pi_range1 rfl T.z_range (pa_cons (pv 3) pa_nil)) (fun _ _ _ => pts_nil) (fun _ _ _ => (pe_ix ix_str (pv 1) (pe_op op_mod (pe_op op_add (pe_op op_add (pe_op op_mod (pe_op op_fdiv (pv 3) pe_int) pe_int) (pe_op op_mul pe_int (pv 0))) (pe_op op_fdiv (pec C_law_cell (hr.mono (by decide)) rfl (pa_cons (pv 2) (pa_cons pe_int pa_nil))) (pe_op op_add (pv 0) pe_int))) pe_int) (fun _ _ => rfl))) (hk := by kernel_rfl)) pa_nil)))
      (pss_cons (ps_set (i := 5) sc_law_names.nd rfl (Or.inl rfl) (pe_op op_mod (pec C_law_cell (hr.mono (by decide)) rfl (pa_cons (pv 0) (pa_cons pe_int pa_nil))) (pv 3)))
      (pss_cons (ps_set (i := 6) sc_law_names.nd rfl (Or.inl rfl) (pe_lst pa_nil))
      (pss_cons (ps_for PassesOwn.never rfl (pi_range1 rfl T.z_range (pa_cons pe_int pa_nil)) (pg_name (i := 7) sc_law_names.nd rfl (Or.inl rfl))
      (pss_cons (ps_set (i := 8) sc_law_names.nd rfl (Or.inl rfl) (pe_op op_add_str (pe_op op_add_str (pe_slice sl_str (pv 4) po_none (po_some (pv 5))) (pe_ix ix_str (pv 1) (pe_op op_mod (pe_op op_add (pe_op op_mod (pec C_law_cell (hr.mono (by decide)) rfl (pa_cons (pv 0) (pa_cons pe_int pa_nil))) pe_int) (pe_op op_mul pe_int (pv 7))) pe_int) (fun _ _ => rfl))) (pe_slice sl_str (pv 4) (po_some (pe_op op_add (pv 5) pe_int)) po_none)))
      (pss_cons (ps_if (PW.pt (pw_and (pt_cmpR op_eq (pe_op op_mod (pec C_law_cell (hr.mono (by decide)) rfl (pa_cons (pv 0) (pa_cons pe_int pa_nil))) pe_int) pe_int (nomark _)) (pw_and1 (pt_cmpR op_gt (pv 3) pe_int (nomark _)))))
      (pss_one (ps_set (i := 8) sc_law_names.nd rfl (Or.inl rfl) (pe_slice sl_str (pv 4) po_none (po_some (pe_op op_sub (pv 3) (pv 7))))))
      pss_nil)
      (pss_one (ps_expr (pe_bm PySem.F.plainAttrs_list PySem.F.slot_list_append PySem.F.type_list_append mt_append (pv 6) (pa_cons (pv 8) pa_nil)))))))
      (pss_one (ps_ret (pv 6))))))))))), ?_⟩
    refine ⟨_, rfl, _, _, rfl, rfl, (by decide +kernel), ?_⟩
    generalize hsg : (HAppend.hAppend (α := Str) (β := Str) (γ := Str) _ _) = sg
    have sg_asc : Asc sg := by rw [← hsg]; unfold Asc; decide +kernel
    have sg_len : sg.cps.toList.length = 94 := by rw [← hsg]; decide +kernel
    have hsz : sg.length ≤ sizeLine := by rw [← hsg]; decide +kernel
    clear hsg
    refine ⟨_, rfl, a, ns, 1, rfl, hS, h63, by decide, by decide, fun c1 => ?_⟩
    refine ⟨_, rfl, _, _, rfl, rfl, (by show (0 : Int) < 30; decide), _, _, rfl, rfl, ?_⟩
    dsimp only
    obtain ⟨sz, esz, s1, s30⟩ : ∃ n : Nat, 1 + c1 % 30 = (n : Int) ∧ 1 ≤ n ∧ n ≤ 30 := ⟨(1 + c1 % 30).toNat, by omega, by omega, by omega⟩
    rw [esz]
    have e0 : ("" : Str).length = 0 := by decide +kernel
    have a0 : Asc ("" : Str) := by unfold Asc; decide +kernel
    refine ⟨rfl, _, rfl, ((sz : Nat) : Int), rfl, by omega, by omega, comp_range (lo := 0) (n := ((sz : Nat) : Int).toNat) (fun i acc Hx => Hx = H ∧ ∃ ys : List Str, ys.length = i ∧ acc = ys.map V.str ∧ ∀ y ∈ ys, Asc y ∧ y.length ≤ 1) (small (by omega)) ⟨rfl, [], rfl, rfl, fun _ h => (nomatch h)⟩ (fun i acc Hx ⟨_, ys, g1, g2, _⟩ => by rw [g2, List.length_map, g1]) ?_ ?_⟩
    · rintro i acc Hx hi ⟨rfl, ys, g1, g2, g3⟩ R kR
      refine ⟨_, rfl, _, rfl, _, _, rfl, rfl, ⟨by decide, by decide⟩, _, _, rfl, rfl, (by show (0 : Int) < 94; decide), _, rfl, _, _, rfl, rfl, .inl ⟨by decide, by decide⟩, _, _, rfl, rfl, _, rfl, a, ns, 2, rfl, hS, h63, by decide, by decide, fun c2 => ⟨_, rfl, _, _, rfl, rfl, _, _, rfl, rfl, ⟨by omega, by omega⟩, _, _, rfl, rfl, _, _, rfl, rfl, (by show (0 : Int) < 94; decide), ?_⟩⟩
      have he := (sg_at sg_len (i := (c1 / 30 % 94 + 7 * (0 + (i : Int)) + c2 / (0 + (i : Int) + 1)) % 94) (Int.emod_nonneg _ (by decide)) (Int.emod_lt_of_pos _ (by decide))).choose_spec
      refine ⟨sg, _, _, rfl, rfl, hsz, he, kR _ _ ⟨rfl, ys ++ [_], by rw [List.length_append, g1]; rfl, by rw [g2, List.map_append]; rfl, fun y hy => ?_⟩⟩
      rcases List.mem_append.mp hy with hy | hy
      · exact g3 y hy
      · rw [List.mem_singleton.mp hy]
        exact ⟨asc_one sg_asc he, Nat.le_refl _⟩
    rintro acc Hx ⟨rfl, ys, g1, g2, g3⟩ p hp
    have sm := sum_ones ys fun y hy => (g3 y hy).2
    have lj := len_tjoin "" ys
    have aj := asc_tjoin a0 fun y hy => (g3 y hy).1
    rw [e0] at lj
    have hys : ys.length ≤ 30 := by omega
    have s1' := same_new hp (.lst acc)
    have e1 : (upd Hx p (.lst acc)) p = some (.lst (ys.map V.str)) := by rw [upd_same, g2]
    generalize upd Hx p (.lst acc) = H1 at s1' e1 ⊢
    refine ⟨"", p, ys, rfl, rfl, SqL.of e1, by rw [e0]; omega, ?_⟩
    have lB : (Txt.join "" ys).length ≤ 30 := by omega
    generalize Txt.join "" ys = B at lB aj ⊢
    have hB : B.length ≤ sizeLine := small (by omega)
    refine ⟨_, rfl, a, ns, 2, rfl, s1'.seq hS, h63, by decide, by decide, fun c2 => ⟨_, rfl, _, _, rfl, rfl, (by show (0 : Int) < ((sz : Nat) : Int); omega), ?_⟩⟩
    dsimp only
    generalize c2 % ((sz : Nat) : Int) = at'
    refine ⟨(by show 0 ≤ sizeLine; decide), fun r hr0 => ?_⟩
    have s2 := s1'.trans (same_new hr0 (.lst []))
    have r00 := none_of s1' hr0
    have f2 : (upd H1 r (.lst [])) r = some (.lst []) := upd_same
    generalize upd H1 r (.lst []) = H2 at s2 f2 ⊢
    refine ⟨7, rfl, by decide, by decide, for_range (lo := 0) (n := 7) (fun i σ Hy => Same Hx Hy ∧ (∃ nms : List Str, Hy r = some (.lst (nms.map V.str)) ∧ nms.length = i ∧ ∀ s ∈ nms, NmT s) ∧ ∃ u7 u8, σ = [some (.ref a), some (.str sg), some (.int c1), some (.int sz), some (.str B), some (.int at'), some (.ref r), u7, u8])
      ⟨s2, ⟨[], f2, rfl, fun _ h => (nomatch h)⟩, _, _, rfl⟩ ?_ (fun σ Hy ⟨sy, ⟨nms, h1, h2, h3⟩, u7, u8, e⟩ => by rw [e]; exact ⟨_, rfl, q r Hy nms sy h1 h2 h3⟩)⟩
    rintro i σ Hy hi ⟨sy, ⟨nms, h1, h2, h3⟩, u7, u8, rfl⟩
    have S := sy.seq hS
    have i7 : i < 7 := hi
    refine ⟨_, rfl, _, rfl, _, rfl, B, rfl, hB, _, rfl, _, rfl, a, ns, 3, rfl, S, h63, by decide, by decide, fun c3 => ?_⟩
    have he := (sg_at sg_len (i := (c3 % 94 + 13 * (0 + (i : Int))) % 94) (Int.emod_nonneg _ (by decide)) (Int.emod_lt_of_pos _ (by decide))).choose_spec
    have l1 := Txt.slice_le B none (some at')
    have l2 := Txt.slice_le B (some (at' + 1)) none
    have ac := ((asc_slice aj none (some at')).app (asc_one sg_asc he)).app (asc_slice aj (some (at' + 1)) none)
    refine ⟨_, _, rfl, rfl, (by show (0 : Int) < 94; decide), _, rfl, _, _, rfl, rfl, .inl ⟨by decide, by decide⟩, _, _, rfl, rfl, _, _, rfl, rfl, (by show (0 : Int) < 94; decide), sg, _, _, rfl, rfl, hsz, he, _, _, rfl, rfl, small (by show _ + 1 ≤ _; omega), _, rfl, _, rfl, _, _, rfl, rfl, _, rfl, B, rfl, hB, _, _, rfl, rfl, small (by rw [len_app]; show _ + 1 + _ ≤ _; omega), ?_⟩
    have nt : NmT (Txt.slice B none (some at') ++ (⟨#[_]⟩ : Str) ++ Txt.slice B (some (at' + 1)) none) := ⟨ac, by rw [len_app, len_app]; show _ + 1 + _ ≤ _; omega⟩
    generalize (Txt.slice B none (some at') ++ (⟨#[_]⟩ : Str) ++ Txt.slice B (some (at' + 1)) none) = nm1 at nt ⊢
    apply restJ (C := fun H' σ => H' = Hy ∧ ∃ s : Str, NmT s ∧ σ = [some (.ref a), some (.str sg), some (.int c1), some (.int sz), some (.str B), some (.int at'), some (.ref r), some (.int (0 + (i : Int))), some (.str s)])
    · intro rest
      refine ⟨_, rfl, a, ns, 4, rfl, S, h63, by decide, by decide, fun c4 => ⟨_, _, rfl, rfl, (by show (0 : Int) < 3; decide), rfl, _, rfl, ?_⟩⟩
      refine ite2 (fun _ => ?h1) (fun _ => ?h2)
      case h2 =>
        refine iteF ?_
        generalize hH : Hy = Hw
        generalize hσ : (List.set _ _ _ : L2.St) = σ'
        exact rest Hw σ' ⟨hH.symm, nm1, nt, by rw [← hσ]; rfl⟩
      case h1 =>
        refine ⟨_, rfl, _, _, rfl, rfl, _, rfl, ?_⟩
        refine ite2 (fun _ => ?_) (fun _ => rest _ _ ⟨rfl, nm1, nt, rfl⟩)
        have l3 := Txt.slice_le B none (some (((sz : Nat) : Int) - (0 + (i : Int))))
        exact ⟨_, rfl, _, rfl, _, rfl, _, _, rfl, rfl, _, rfl, B, rfl, hB, rest _ _ ⟨rfl, _, ⟨asc_slice aj _ _, by omega⟩, rfl⟩⟩
    rintro _ _ ⟨rfl, s, hs, rfl⟩
    refine ⟨_, rfl, .inl ⟨rfl, _, SqL.of h1⟩, _, rfl, r, _, _, rfl, rfl, h1, small1000 (by rw [List.length_map]; omega), ?_⟩
    refine ⟨fun b o h => by rw [upd_ne (ne_of_none h r00)]; exact sy _ _ h, ⟨nms ++ [s], by rw [upd_same, List.map_append]; rfl, by rw [List.length_append, h2]; rfl, fun z hz => ?_⟩, _, _, rfl⟩
    rcases List.mem_append.mp hz with hz | hz
    · exact h3 z hz
    · rw [List.mem_singleton.mp hz]; exact hs
theorem sc_law_gap : FnScope ["_law_cell_here", "_law_count", "_law_least", "_law_most"] ["_law_cell_here", "_law_count"] (defScope s_law_gap) := ⟨rfl, rfl, rfl, by decide +kernel, rfl, by decide +kernel, by decide +kernel⟩
theorem ok_law_gap {f : Addr} {fd : FuncData} (F : Fun K "_law_gap" "_law_gap" s_law_gap f fd) (T : Txt K mg cl) (C_law_big : Cal P w K mg base 1 "_law_big" ["_law_cell_here"] (sp_law_big K)) : FnOk P w K mg base CX0 2 f fd ["_law_cell_here", "_law_count"] (sp_law_gap K) := by
  refine F.ok sc_law_gap (fun vs H Q E h => ?_) (fun cdv A outer s H vs Q E hr h => ?_)
  · obtain ⟨c, n, rfl, n1, n8, q⟩ := h
    rfl
  · obtain ⟨c, n, rfl, n1, n8, q⟩ := h
    refine ⟨_, (pss_cons (ps_set (i := 2) sc_law_gap.nd rfl (Or.inl rfl) (pec C_law_big (hr.mono (by decide)) rfl (pa_cons (pe_op op_fdiv (pv 0) pe_int) pa_nil)))
      (pss_cons (ps_set (i := 3) sc_law_gap.nd rfl (Or.inl rfl) (pec C_law_big (hr.mono (by decide)) rfl (pa_cons (pe_op op_fdiv (pv 0) pe_int) pa_nil)))
      (pss_cons (ps_if (pt_cmpR op_eq (pe_op op_mod (pe_op op_fdiv (pv 0) pe_int) pe_int) pe_int (nomark _))
      (pss_one (ps_set (i := 2) sc_law_gap.nd rfl (Or.inl rfl) pe_non))
      pss_nil)
      (pss_cons (ps_if (pt_cmpR op_eq (pe_op op_mod (pe_op op_fdiv (pv 0) pe_int) pe_int) pe_int (nomark _))
      (pss_one (ps_set (i := 3) sc_law_gap.nd rfl (Or.inl rfl) pe_non))
      pss_nil)
      (pss_one (ps_ret (pe_tup (pa_cons (pe_op op_mod (pv 0) (pv 1)) (pa_cons (pe_op op_mod (pe_op op_fdiv (pv 0) pe_int) (pv 1)) (pa_cons (pv 2) (pa_cons (pv 3) pa_nil))))))))))), ?_⟩
    have L1 : (0 : Int) < ((n : Nat) : Int) := by omega
    refine ⟨_, rfl, _, _, rfl, rfl, ⟨by decide, by decide⟩, _, rfl, fun lo => ?_⟩
    refine ⟨_, rfl, _, _, rfl, rfl, ⟨by decide, by decide⟩, _, rfl, fun hi => ?_⟩
    have fin : ∀ (l h : Option Int) (p : Addr), H p = none → Q (.ref p) (upd H p (.tup [.int (c % ((n : Nat) : Int)), .int (c / 8 % ((n : Nat) : Int)), ov l, ov h])) := fun l h p hp => q p (_, _, l, h) hp ⟨Int.emod_nonneg _ (by omega), Int.emod_lt_of_pos _ L1⟩ ⟨Int.emod_nonneg _ (by omega), Int.emod_lt_of_pos _ L1⟩
    refine ⟨_, rfl, _, _, rfl, rfl, ⟨by decide, by decide⟩, _, _, rfl, rfl, (by show (0 : Int) < 3; decide), rfl, _, rfl, ?_⟩
    refine ite2 (fun _ => ?_) (fun _ => ?_)
    all_goals
      refine ⟨_, rfl, _, _, rfl, rfl, ⟨by decide, by decide⟩, _, _, rfl, rfl, (by show (0 : Int) < 3; decide), rfl, _, rfl, ?_⟩
      refine ite2 (fun _ => ?_) (fun _ => ?_)
    all_goals
      refine ⟨_, rfl, _, rfl, _, _, rfl, rfl, L1, _, rfl, _, _, rfl, rfl, ⟨by decide, by decide⟩, _, rfl, _, _, rfl, rfl, L1, _, rfl, _, rfl, (by show 4 ≤ sizeLine; decide), fun p hp => ?_⟩
      first
        | exact fin none none p hp
        | exact fin none (some _) p hp
        | exact fin (some _) none p hp
        | exact fin (some _) (some _) p hp
theorem sc_House___init__ : FnScope ["self", "count"] ["self", "count"] (defScope s_House___init__) := ⟨rfl, rfl, rfl, by decide +kernel, rfl, by decide +kernel, by decide +kernel⟩
theorem ok_House___init__ {f : Addr} {fd : FuncData} (F : Fun K "__init__" "House.__init__" s_House___init__ f fd) (T : Txt K mg cl)  : FnOk P w K mg base CX0 1 f fd ["self", "count"] (sp_House___init__ K cl) := by
  refine F.ok sc_House___init__ (fun vs H Q E h => ?_) (fun cdv A outer s H vs Q E hr h => ?_)
  · obtain ⟨x, dx, n, rfl, hx, q⟩ := h
    rfl
  · obtain ⟨x, dx, n, rfl, hx, q⟩ := h
    refine ⟨_, (pss_cons (ps_fld (pv 0) (pv 1) rfl)
      (pss_one (ps_fld (pv 0) pe_dnewK rfl))), ?_⟩
    refine ⟨_, rfl, _, rfl, x, cl.House, dx, [], rfl, hx, T.cl_House, T.n_House_count, (by show 0 < 1000; decide), fun d hd => ?_⟩
    have b1 : But x H (upd H x (.ins cl.House dx (putF "count" (.int n) []))) := fun b o e h => by rw [upd_ne h]; exact e
    have x1 : (upd H x (.ins cl.House dx (putF "count" (.int n) []))) x = some (.ins cl.House dx (putF "count" (.int n) [])) := upd_same
    generalize upd H x (.ins cl.House dx (putF "count" (.int n) [])) = H1 at b1 x1 hd ⊢
    have s2 := same_new hd (.dK [])
    have e2 : (upd H1 d (.dK [])) d = some (.dK []) := upd_same
    generalize upd H1 d (.dK []) = H2 at s2 e2 ⊢
    have x2 := s2 _ _ x1
    refine ⟨_, rfl, x, cl.House, dx, _, rfl, x2, T.cl_House, T.n_House_gaps, (by show 1 < 1000; decide), ?_⟩
    have nd : d ≠ x := Ne.symm (ne_of_none x1 hd)
    refine q d _ ⟨⟨dx, upd_same⟩, [], by rw [upd_ne nd]; exact e2, .nil⟩ (fun b o e h => by rw [upd_ne h]; exact s2 _ _ (b1 _ _ e h)) ?_
    cases e : H d with
    | none => rfl
    | some o =>
      have := b1 _ _ e nd
      rw [hd] at this; cases this
theorem sc_House_add : FnScope ["self", "name", "a", "b", "low", "high"] ["self", "name", "a", "b", "low", "high"] (defScope s_House_add) := ⟨rfl, rfl, rfl, by decide +kernel, rfl, by decide +kernel, by decide +kernel⟩
theorem ok_House_add {f : Addr} {fd : FuncData} (F : FunD K "add" "House.add" s_House_add f fd) (T : Txt K mg cl)  : FnOk P w K mg base (CXx P w) 1 f fd ["self", "name", "a", "b", "low", "high"] (sp_House_add K cl) := by
  refine F.okX sc_House_add (fun vs H Q E h => ?_) (fun cdv A outer s H vs Q E hr h => ?_)
  · obtain ⟨x, d, n, gs, nm, g, rfl, W, hb, hl, q1, q2⟩ := h
    rfl
  · obtain ⟨x, d, n, gs, nm, g, rfl, W, hb, hl, q1, q2⟩ := h
    refine ⟨_, (pss_cons (ps_if (pt_cmp (pc_din (hu1 hr) (pv 1) (pe_fld (pv 0) rfl)))
      (pss_one (ps_raise made_def rfl rfl T.g_NoName T.x_NoName (pa_cons (pe_join (pj_str (pj_repr (pv 1) pj_nil))) pa_nil)))
      pss_nil)
      (pss_one (ps_dput (hu1 hr) (pe_fld (pv 0) rfl) (pv 1) (pe_tup (pa_cons (pv 2) (pa_cons (pv 3) (pa_cons (pv 4) (pa_cons (pv 5) pa_nil))))) rfl))), ?_⟩
    obtain ⟨dx, hx⟩ := W.ob
    obtain ⟨kvs, hd, G⟩ := W.dc
    have len := G.len
    refine ⟨_, rfl, _, rfl, x, cl.House, dx, _, _, rfl, hx, T.cl_House, T.n_House_gaps, fldh_gaps _ _, d, _, rfl, DGet.k (k := Sum.inr nm) hd, ?_⟩
    by_cases hn : nm ∈ gnames gs
    · obtain ⟨p, g, _, hv, _⟩ := G.val_some hn
      rw [hv]
      exact ⟨_, rfl, iteT ⟨_, rfl, nm, rfl, hb, fun y => ⟨(by show 1 ≤ sizeLine; decide), q1 hn⟩⟩⟩
    have hv := G.val_none hn
    rw [hv]
    refine ⟨_, rfl, iteF ?_⟩
    refine ⟨_, rfl, _, rfl, _, rfl, _, rfl, (by show 4 ≤ sizeLine; decide), fun p hp => ?_⟩
    have s1 := same_new hp (.tup [.int g.1, .int g.2.1, ov g.2.2.1, ov g.2.2.2])
    have e1 : (upd H p (.tup [.int g.1, .int g.2.1, ov g.2.2.1, ov g.2.2.2])) p = some (.tup (gv g)) := upd_same
    generalize upd H p (.tup [.int g.1, .int g.2.1, ov g.2.2.1, ov g.2.2.2]) = H1 at s1 e1 ⊢
    have hx1 := s1 _ _ hx
    have hd1 := s1 _ _ hd
    refine ⟨_, rfl, x, cl.House, dx, _, _, rfl, hx1, T.cl_House, T.n_House_gaps, fldh_gaps _ _, _, rfl, d, _, rfl, DPut.k (k := Sum.inr nm) hd1 (small1000 (by omega)), ?_⟩
    rw [putK_new _ hv]
    have b2 : But d H1 (upd H1 d (.dK (kvs ++ [(Sum.inr nm, .ref p)]))) := fun b o e h => by rw [upd_ne h]; exact e
    refine q2 hn _ ⟨⟨dx, b2 _ _ hx1 (ne_of hx1 hd1 (fun z => by cases z))⟩, _, upd_same, ?_⟩ (fun b o e h => b2 _ _ (s1 _ _ e) h)
    exact ((G.same s1).snoc e1).keep fun c xs e => b2 _ _ e (ne_of e hd1 (fun z => by cases z))
theorem sc_House_need : FnScope ["self", "name"] ["self", "name"] (defScope s_House_need) := ⟨rfl, rfl, rfl, by decide +kernel, rfl, by decide +kernel, by decide +kernel⟩
theorem ok_House_need {f : Addr} {fd : FuncData} (F : Fun K "need" "House.need" s_House_need f fd) (T : Txt K mg cl)  : FnOk P w K mg base (CXx P w) 1 f fd ["self", "name"] (sp_House_need K cl) := by
  refine F.okX sc_House_need (fun vs H Q E h => ?_) (fun cdv A outer s H vs Q E hr h => ?_)
  · obtain ⟨x, d, n, gs, nm, rfl, W, hb, q1, q2⟩ := h
    rfl
  · obtain ⟨x, d, n, gs, nm, rfl, W, hb, q1, q2⟩ := h
    refine ⟨_, (pss_one (ps_if (pt_cmp (pc_dnotin (hu1 hr) (pv 1) (pe_fld (pv 0) rfl)))
      (pss_one (ps_raise made_def rfl rfl T.g_NoName T.x_NoName (pa_cons (pe_join (pj_str (pj_repr (pv 1) pj_nil))) pa_nil)))
      pss_nil)), ?_⟩
    obtain ⟨dx, hx⟩ := W.ob
    obtain ⟨kvs, hd, G⟩ := W.dc
    refine ⟨_, rfl, _, rfl, x, cl.House, dx, _, _, rfl, hx, T.cl_House, T.n_House_gaps, fldh_gaps _ _, d, _, rfl, DGet.k (k := Sum.inr nm) hd, ?_⟩
    by_cases hn : nm ∈ gnames gs
    · obtain ⟨p, g, _, hv, _⟩ := G.val_some hn
      rw [hv]
      exact ⟨_, rfl, iteF (q1 hn)⟩
    · rw [G.val_none hn]
      exact ⟨_, rfl, iteT ⟨_, rfl, nm, rfl, hb, fun y => ⟨(by show 1 ≤ sizeLine; decide), q2 hn⟩⟩⟩
theorem sc_House_names : FnScope ["self"] ["self"] (defScope s_House_names) := ⟨rfl, rfl, rfl, by decide +kernel, rfl, by decide +kernel, by decide +kernel⟩
theorem ok_House_names {f : Addr} {fd : FuncData} (F : Fun K "names" "House.names" s_House_names f fd) (T : Txt K mg cl)  : FnOk P w K mg base CX0 1 f fd ["self"] (sp_House_names K cl) := by
  refine F.ok sc_House_names (fun vs H Q E h => ?_) (fun cdv A outer s H vs Q E hr h => ?_)
  · obtain ⟨x, d, n, gs, rfl, W, q⟩ := h
    rfl
  · obtain ⟨x, d, n, gs, rfl, W, q⟩ := h
    refine ⟨_, (pss_one (ps_ret (pe_callTy (call_listD rfl) rfl T.z_list boot_list (pa_cons (pe_fld (pv 0) rfl) pa_nil)))), ?_⟩
    obtain ⟨dx, hx⟩ := W.ob
    obtain ⟨kvs, hd, G⟩ := W.dc
    exact ⟨_, rfl, x, cl.House, dx, _, _, rfl, hx, T.cl_House, T.n_House_gaps, fldh_gaps _ _, d, kvs, rfl, .inl hd, fun l hl => q l _ hl (same_new hl _) (by rw [upd_same, G.kv])⟩
theorem sc_House_gap : FnScope ["self", "name"] ["self", "name"] (defScope s_House_gap) := ⟨rfl, rfl, rfl, by decide +kernel, rfl, by decide +kernel, by decide +kernel⟩
theorem ok_House_gap {f : Addr} {fd : FuncData} (F : Fun K "gap" "House.gap" s_House_gap f fd) (T : Txt K mg cl) (M_House_need : MCalX P w K mg base cl.House 1 "need" ["self", "name"] (sp_House_need K cl)) : FnOk P w K mg base (CXx P w) 2 f fd ["self", "name"] (sp_House_gap K cl) := by
  refine F.okX sc_House_gap (fun vs H Q E h => ?_) (fun cdv A outer s H vs Q E hr h => ?_)
  · obtain ⟨x, d, n, gs, nm, rfl, W, hb, q1, q2⟩ := h
    rfl
  · obtain ⟨x, d, n, gs, nm, rfl, W, hb, q1, q2⟩ := h
    refine ⟨_, (pss_cons (ps_expr (pe_meth (pv 0) T.cl_House M_House_need.mt M_House_need.ok (hr.mono (by decide)) M_House_need.b .nil passE (pa_cons (pv 1) pa_nil)))
      (pss_one (ps_ret (pe_dget (hu1 hr) (pe_fld (pv 0) rfl) (pv 1) (fun _ _ => rfl))))), ?_⟩
    obtain ⟨dx, hx⟩ := W.ob
    obtain ⟨kvs, hd, G⟩ := W.dc
    refine ⟨_, rfl, x, dx, _, rfl, hx, fldh_no _ _ (by decide +kernel) (by decide +kernel), _, rfl, x, d, n, gs, nm, rfl, W, hb, fun hn => ?_, fun hn => q2 hn⟩
    obtain ⟨p, g, hm, hv, hp⟩ := G.val_some hn
    exact ⟨_, rfl, x, cl.House, dx, _, _, rfl, hx, T.cl_House, T.n_House_gaps, fldh_gaps _ _, _, rfl, d, _, rfl, .inl ⟨kvs, Sum.inr nm, .inl hd, rfl, hv.symm⟩, q1 g p hm hp⟩
theorem sc_wide : FnScope ["count"] ["count"] (defScope s_wide) := ⟨rfl, rfl, rfl, by decide +kernel, rfl, by decide +kernel, by decide +kernel⟩
theorem ok_wide {f : Addr} {fd : FuncData} (F : Fun K "wide" "wide" s_wide f fd) (T : Txt K mg cl) (C_wide_row : Cal P w K mg base 1 "wide_row" ["count", "a"] (sp_wide_row K)) : FnOk P w K mg base CX0 2 f fd ["count"] (sp_wide K) := by
  refine F.ok sc_wide (fun vs H Q E h => ?_) (fun cdv A outer s H vs Q E hr h => ?_)
  · obtain ⟨n, rfl, hn, q⟩ := h
    rfl
  · obtain ⟨n, rfl, hn, q⟩ := h
    refine ⟨_, (pss_one (ps_ret (pe_compS ["count"] [0] rfl (pi_range1 rfl T.z_range (pa_cons (pv 0) pa_nil)) (fun _ _ _ => pts_nil) (fun _ _ _ => (pec C_wide_row (hr.mono (by decide)) rfl (pa_cons (pv 1) (pa_cons (pv 0) pa_nil)))) (hk := by kernel_rfl)))), ?_⟩
    refine ⟨_, rfl, (n : Int), rfl, by omega, by omega, comp_rows (n := ((n : Nat) : Int).toNat) (fun i => (List.range n).map fun (j : Nat) => if (i : Int) = (j : Int) then some (0 : Int) else none) (small (by omega)) ?_ ?_⟩
    · intro i H1 hi s1 R kR
      refine ⟨_, rfl, _, rfl, n, _, rfl, hn, fun r hr => ?_⟩
      refine kR r _ hr (same_new hr _) ?_
      rw [upd_same, Int.zero_add]
    · intro p rs H' N
      rw [Int.toNat_natCast] at N
      exact q p rs H' N
theorem sc_held_row : FnScope ["table", "a", "bound", "ahead", "behind"] ["table", "a", "bound"] (defScope s_held_row) := ⟨rfl, rfl, rfl, by decide +kernel, rfl, by decide +kernel, by decide +kernel⟩
theorem ok_held_row {f : Addr} {fd : FuncData} (F : Fun K "held_row" "held_row" s_held_row f fd) (T : Txt K mg cl) (C_total : Cal P w K mg base 1 "total" ["one", "other"] (sp_total K)) (C_lesser : Cal P w K mg base 1 "lesser" ["one", "other"] (sp_lesser K)) : FnOk P w K mg base CX0 2 f fd ["table", "a", "bound"] (sp_held_row K) := by
  refine F.ok sc_held_row (fun vs H Q E h => ?_) (fun cdv A outer s H vs Q E hr h => ?_)
  · obtain ⟨u, p, a, m, rs, t, n, rfl, hB, hT, hS, hn, ha, h1, h2, q⟩ := h
    rfl
  · obtain ⟨u, p, a, m, rs, t, n, rfl, hB, hT, hS, hn, ha, h1, h2, q⟩ := h
    refine ⟨_, (pss_cons (ps_set (i := 3) sc_held_row.nd rfl (Or.inr rfl) (pec C_total (hr.mono (by decide)) rfl (pa_cons (pe_ix ix_list (pe_ix ix_list (pv 0) (pv 1) (fun _ _ => rfl)) (pe_ix ix_tup (pv 2) pe_int (fun _ _ => rfl)) (fun _ _ => rfl)) (pa_cons (pe_ix ix_tup (pv 2) pe_int (fun _ _ => rfl)) pa_nil))))
      (pss_cons (ps_set (i := 4) sc_held_row.nd rfl (Or.inr rfl) (pe_ix ix_list (pv 0) (pe_ix ix_tup (pv 2) pe_int (fun _ _ => rfl)) (fun _ _ => rfl)))
      (pss_one (ps_ret (pe_compS ["ahead", "table", "a", "behind"] [3, 0, 1, 4] rfl (pi_range1 rfl T.z_range (pa_cons (pe_callB call_len_seq rfl T.z_len PySem.boot_len (pa_cons (pv 0) pa_nil)) pa_nil)) (fun _ _ _ => pts_nil) (fun _ _ _ => (pec C_lesser (hr.mono (by decide)) rfl (pa_cons (pe_ix (ix_listK (K := K) rfl) (pe_ix (ix_listK (K := K) rfl) (pv 2) (pv 3) (fun _ _ => rfl)) (pv 0) (fun _ _ => rfl)) (pa_cons (pec C_total (hr.mono (by decide)) rfl (pa_cons (pv 1) (pa_cons (pe_ix (ix_listK (K := K) rfl) (pv 4) (pv 0) (fun _ _ => rfl)) pa_nil))) pa_nil)))) (hk := by kernel_rfl)))))), ?_⟩
    obtain ⟨r, row, g1, g2, g3, g4⟩ := hT.rowAt hS ha
    obtain ⟨r2, row2, k1, k2, k3, k4⟩ := hT.rowAt hS h2
    have hl := hT.len hS
    refine ⟨_, rfl, _, rfl, p, _, _, _, rfl, rfl, SqL.of hT.ob, g1, _, rfl, u, _, 0, _, rfl, rfl, hB, rfl, r, _, _, _, rfl, rfl, SqL.of g2, g4 _ h1, _, rfl, u, _, 2, _, rfl, rfl, hB, rfl, _, some m.2.2, rfl, ?_⟩
    refine ⟨_, rfl, _, rfl, u, _, 1, _, rfl, rfl, hB, rfl, p, _, _, _, rfl, rfl, SqL.of hT.ob, k1, ?_⟩
    refine ⟨_, rfl, p, _, rfl, .inl (SqL.of hT.ob), (n : Int), by rw [hl], by omega, by omega, comp_vals (n := ((n : Nat) : Int).toNat) (fun j => ov (heldF t m a (j : Int))) (small (by omega)) ?_ ?_⟩
    · intro i hi R kR
      have hi' : inN (0 + (i : Int)) n := ⟨by omega, by omega⟩
      have e0 : (0 + (i : Int)) = (i : Int) := Int.zero_add _
      refine ⟨_, rfl, _, rfl, p, _, _, _, rfl, rfl, SqL.of hT.ob, g1, _, rfl, r, _, _, _, rfl, rfl, SqL.of g2, g4 _ hi', _, rfl, _, rfl, _, rfl, r2, _, _, _, rfl, rfl, SqL.of k2, k4 _ hi', _, _, rfl, _, _, rfl, ?_⟩
      rw [e0]
      exact kR
    · intro p' hp
      have := q p' hp
      rw [List.map_map] at this
      rw [Int.toNat_natCast]
      exact this
theorem sc_law_added : FnScope ["_law_house", "_law_name", "_law_gap_here", "_law_a", "_law_b", "_law_least", "_law_most"] ["_law_house", "_law_name", "_law_gap_here"] (defScope s_law_added) := ⟨rfl, rfl, rfl, by decide +kernel, rfl, by decide +kernel, by decide +kernel⟩
theorem ok_law_added {f : Addr} {fd : FuncData} (F : Fun K "_law_added" "_law_added" s_law_added f fd) (T : Txt K mg cl) (MA_House_add : MCalA P w K mg base cl.House 1 "add" ["self", "name", "a", "b", "low", "high"] (sp_House_add K cl)) : FnOk P w K mg base (CXx P w) 2 f fd ["_law_house", "_law_name", "_law_gap_here"] (sp_law_added K cl) := by
  refine F.okX sc_law_added (fun vs H Q E h => ?_) (fun cdv A outer s H vs Q E hr h => ?_)
  · obtain ⟨x, d, p, n, gs, nm, ⟨ga, gb, lo, hi⟩, rfl, W, hb, hl, hp, q1, q2⟩ := h
    rfl
  · obtain ⟨x, d, p, n, gs, nm, ⟨ga, gb, lo, hi⟩, rfl, W, hb, hl, hp, q1, q2⟩ := h
    refine ⟨_, (pss_cons (ps_asg (pv 2) (pg_tup rfl (pgs_cons (pg_name (i := 3) sc_law_added.nd rfl (Or.inl rfl)) (pgs_cons (pg_name (i := 4) sc_law_added.nd rfl (Or.inl rfl)) (pgs_cons (pg_name (i := 5) sc_law_added.nd rfl (Or.inl rfl)) (pgs_cons (pg_name (i := 6) sc_law_added.nd rfl (Or.inl rfl)) pgs_nil))))))
      (pss_one (ps_if (PW.pt (pw_and (pt_cmpR op_isN (pv 5) pe_non (nomark _)) (pw_and1 (pt_cmpR op_isN (pv 6) pe_non (nomark _)))))
      (pss_one (ps_expr (pe_meth (pv 0) T.cl_House MA_House_add.mt MA_House_add.ok (hr.mono (by decide)) MA_House_add.b2 valsNN passE (pa_cons (pv 1) (pa_cons (pv 3) (pa_cons (pv 4) pa_nil))))))
      (pss_one (ps_if (pt_cmpR op_isN (pv 5) pe_non (nomark _))
      (pss_one (ps_expr (pe_methK (pv 0) T.cl_House MA_House_add.mt MA_House_add.ok (hr.mono (by decide)) MA_House_add.kh passE (pa_cons (pv 1) (pa_cons (pv 3) (pa_cons (pv 4) pa_nil))) (pk_cons (pv 6) pk_nil))))
      (pss_one (ps_if (pt_cmpR op_isN (pv 6) pe_non (nomark _))
      (pss_one (ps_expr (pe_methK (pv 0) T.cl_House MA_House_add.mt MA_House_add.ok (hr.mono (by decide)) MA_House_add.kl passE (pa_cons (pv 1) (pa_cons (pv 3) (pa_cons (pv 4) pa_nil))) (pk_cons (pv 5) pk_nil))))
      (pss_one (ps_expr (pe_meth (pv 0) T.cl_House MA_House_add.mt MA_House_add.ok (hr.mono (by decide)) MA_House_add.b .nil passE (pa_consP (pv 1) (pa_consP (pv 3) (pa_consP (pv 4) (pa_consP (pv 5) (pa_consP (pv 6) pa_nil))))))))))))))), ?_⟩
    obtain ⟨dx, hx⟩ := W.ob
    have hp' : H p = some (.tup [.int ga, .int gb, ov lo, ov hi]) := hp
    refine ⟨_, rfl, p, _, rfl, SqT.of hp', rfl, _, _, rfl, _, _, rfl, _, _, rfl, _, _, rfl, rfl, ?_⟩
    cases lo with
    | none =>
      cases hi with
      | none =>
        refine ⟨_, rfl, rfl, _, rfl, iteT ⟨_, rfl, rfl, _, rfl, iteT ?_⟩⟩
        exact ⟨_, rfl, x, dx, _, rfl, hx, fldh_no _ _ (by decide +kernel) (by decide +kernel), _, rfl, _, rfl, _, rfl, x, d, n, gs, nm, (ga, gb, none, none), rfl, W, hb.repr, hl, q1, q2⟩
      | some h =>
        refine ⟨_, rfl, rfl, _, rfl, iteT ⟨_, rfl, rfl, _, rfl, iteF ⟨_, rfl, rfl, _, rfl, iteT ?_⟩⟩⟩
        exact ⟨_, rfl, x, dx, _, rfl, hx, fldh_no _ _ (by decide +kernel) (by decide +kernel), _, rfl, _, rfl, _, rfl, _, rfl, x, d, n, gs, nm, (ga, gb, none, some h), rfl, W, hb.repr, hl, q1, q2⟩
    | some l =>
      cases hi with
      | none =>
        refine ⟨_, rfl, rfl, _, rfl, iteF (iteF ⟨_, rfl, rfl, _, rfl, iteF ⟨_, rfl, rfl, _, rfl, iteT ?_⟩⟩)⟩
        exact ⟨_, rfl, x, dx, _, rfl, hx, fldh_no _ _ (by decide +kernel) (by decide +kernel), _, rfl, _, rfl, _, rfl, _, rfl, x, d, n, gs, nm, (ga, gb, some l, none), rfl, W, hb.repr, hl, q1, q2⟩
      | some h =>
        refine ⟨_, rfl, rfl, _, rfl, iteF (iteF ⟨_, rfl, rfl, _, rfl, iteF ⟨_, rfl, rfl, _, rfl, iteF ?_⟩⟩)⟩
        exact ⟨_, rfl, x, dx, _, rfl, hx, fldh_no _ _ (by decide +kernel) (by decide +kernel), _, rfl, _, rfl, _, rfl, _, rfl, _, rfl, x, d, n, gs, nm, (ga, gb, some l, some h), rfl, W, hb.repr, hl, q1, q2⟩
theorem sc_law_right : FnScope ["_law_house", "_law_due", "_law_names_here", "_law_name", "_law_found", "_law_part"] ["_law_house", "_law_due"] (defScope s_law_right) := ⟨rfl, rfl, rfl, by decide +kernel, rfl, by decide +kernel, by decide +kernel⟩
theorem ok_law_right {f : Addr} {fd : FuncData} (F : Fun K "_law_right" "_law_right" s_law_right f fd) (T : Txt K mg cl) (C_law_whole : Cal P w K mg base 1 "_law_whole" ["_law_found"] (sp_law_whole K)) (M_House_names : MCal P w K mg base cl.House 1 "names" ["self"] (sp_House_names K cl)) (M_House_gap : MCalX P w K mg base cl.House 2 "gap" ["self", "name"] (sp_House_gap K cl)) : FnOk P w K mg base CX0 3 f fd ["_law_house", "_law_due"] (sp_law_right K cl) := by
  refine F.ok sc_law_right (fun vs H Q E h => ?_) (fun cdv A outer s H vs Q E hr h => ?_)
  · obtain ⟨x, dh, dg, n, gs, rfl, L, hN, hl, q⟩ := h
    rfl
  · obtain ⟨x, dh, dg, n, gs, rfl, L, hN, hl, q⟩ := h
    refine ⟨_, (pss_cons (ps_set (i := 2) sc_law_right.nd rfl (Or.inl rfl) (pe_meth0 (pv 0) T.cl_House M_House_names.mt M_House_names.ok (hr.mono (by decide)) M_House_names.b .nil pass0))
      (pss_cons (ps_if (PW.pt (pw_or (pt_not (pt_val (pe_callB call_isi rfl T.z_isinstance boot_isinstance (pa_cons (pv 2) (pa_cons (pe_bltn (v := .ty "list") rfl T.z_list boot_list rfl) pa_nil))))) (pw_or1 (pt_cmpR (op_neL (hr.units)) (pv 2) (pe_callTy (call_listD rfl) rfl T.z_list boot_list (pa_cons (pv 1) pa_nil)) (nomark _)))))
      (pss_one (ps_ret pe_bl))
      pss_nil)
      (pss_cons (ps_forD PassesOwn.never rfl (pi_keys (pv 1)) (pg_name (i := 3) sc_law_right.nd rfl (Or.inl rfl))
      (pss_cons (ps_set (i := 4) sc_law_right.nd rfl (Or.inl rfl) (pe_meth (pv 0) T.cl_House M_House_gap.mt M_House_gap.ok (hr.mono (by decide)) M_House_gap.b .nil passX0 (pa_cons (pv 3) pa_nil)))
      (pss_cons (ps_if (PW.pt (pw_or (pt_not (pt_val (pe_callB call_isi rfl T.z_isinstance boot_isinstance (pa_cons (pv 4) (pa_cons (pe_bltn (v := .ty "tuple") rfl T.z_tuple boot_tuple rfl) pa_nil))))) (pw_or1 (pt_cmpR (op_neT (hr.units)) (pv 4) (pe_dget (hu1 hr) (pv 1) (pv 3) (fun _ _ => rfl)) (nomark _)))))
      (pss_one (ps_ret pe_bl))
      pss_nil)
      (pss_one (ps_for PassesOwn.never rfl (pi_tup (pv 4)) (pg_name (i := 5) sc_law_right.nd rfl (Or.inl rfl))
      (pss_one (ps_if (PW.pt (pw_and (pt_cmpR op_notN (pv 5) pe_non (nomark _)) (pw_and1 (pt_not (pt_val (pec C_law_whole (hr.mono (by decide)) rfl (pa_cons (pv 5) pa_nil)))))))
      (pss_one (ps_ret pe_bl))
      pss_nil)))))))
      (pss_cons (ps_expr (pe_bm PySem.F.plainAttrs_list PySem.F.slot_list_append PySem.F.type_list_append mt_append (pv 2) (pa_cons pe_str pa_nil)))
      (pss_cons (ps_expr (pe_bm0 PySem.F.plainAttrs_list PySem.F.slot_list_reverse PySem.F.type_list_reverse mt_reverse (pv 2)))
      (pss_one (ps_ret (pe_cmpR (op_eqL (hr.units)) (pe_meth0 (pv 0) T.cl_House M_House_names.mt M_House_names.ok (hr.mono (by decide)) M_House_names.b .nil pass0) (pe_callTy (call_listD rfl) rfl T.z_list boot_list (pa_cons (pv 1) pa_nil)) (nomark _))))))))), ?_⟩
    obtain ⟨dx, hx⟩ := L.W.ob
    refine ⟨_, rfl, x, dx, _, rfl, hx, fldh_no _ _ (by decide +kernel) (by decide +kernel), x, dh, n, gs, rfl, L.W, fun r H1 hr0 s1 e1 => ?_⟩
    have L1 := L.same s1
    obtain ⟨kvs, hd1, G1⟩ := L1.D
    have glen := G1.len
    have lg : (gnames gs).length = gs.length := List.length_map _
    have lgs : ((gnames gs).map V.str).length = gs.length := by rw [List.length_map, lg]
    refine ⟨_, rfl, _, _, _, _, rfl, .lst e1, kit_same, _, rfl, iteF ?_⟩
    refine ⟨_, rfl, _, rfl, dg, kvs, rfl, .inl hd1, fun l hl0 => ?_⟩
    have s2 := same_new hl0 (.lst (kvs.map fun p => kV p.1))
    have e2 : (upd H1 l (.lst (kvs.map fun p => kV p.1))) l = some (.lst ((gnames gs).map V.str)) := by rw [upd_same, G1.kv]
    generalize upd H1 l (.lst (kvs.map fun p => kV p.1)) = H2 at s2 e2 ⊢
    refine ⟨⟨0, r, l, _, _, _, by decide, rfl, rfl, SqL.of (s2 _ _ e1), SqL.of e2, told_strs _, told_strs _⟩, _, rfl, iteF ?_⟩
    have s12 := s1.trans s2
    have L2 := L1.same s2
    have hd2 := s2 _ _ hd1
    have G2 := G1.same s2
    have r2 := s2 _ _ e1
    have x2 := s12 _ _ hx
    have ner : r ≠ dg := ne_of r2 hd2 (fun z => by cases z)
    intro NF
    refine ⟨_, rfl, dg, kvs, rfl, hd2, fun ob nf => for_dict (NF := NF) (a := dg) (ob := ob) (kvs := kvs) (fun i σ H3 => Same (upd H2 dg (.frz ob (.dK kvs))) H3 ∧ ∃ u3 u4 u5, σ = [some (.ref x), some (.ref dg), some (.ref r), u3, u4, u5]) ?_ ?_ ?_ ?_⟩
    · exact ⟨same_refl _, _, _, _, rfl⟩
    · rintro i σ H3 _ ⟨s3, _⟩
      exact s3 _ _ upd_same
    · rintro i k v σ H3 hi ⟨s3, u3, u4, u5, rfl⟩
      obtain ⟨⟨nm, g⟩, hg, hk, p, hv, hp⟩ := paired_get G2 hi
      have hv : v = .ref p := hv
      have hk : k = Sum.inr nm := hk
      subst hv hk
      have hmem := List.mem_of_getElem? hg
      have hnm : nm ∈ gnames gs := List.mem_map_of_mem (f := fun x : Str × Gp => x.1) hmem
      have hp3 : H3 p = some (.tup (gv g)) := s3 _ _ (by rw [upd_ne (ne_of hp hd2 (fun z => by cases z))]; exact hp)
      have hf3 := s3 dg _ upd_same
      have hvl := valV_get (G2.nodup L.nd) hi
      have W3 := (L2.W.but (H' := upd H2 dg (.frz ob (.dK kvs))) (fun b o h nb => by rw [upd_ne nb]; exact h) hd2 (Ne.symm L.ne)).same s3
      obtain ⟨dx3, hx3⟩ := W3.ob
      refine ⟨_, rfl, x, dx3, _, rfl, hx3, fldh_no _ _ (by decide +kernel) (by decide +kernel), _, rfl, x, dh, n, gs, nm, rfl, W3, (hN nm hnm).repr, fun g' p' hm' hp' => ?_, fun hn => (hn hnm).elim⟩
      have eg := nodup_gap L.nd hm' hmem
      subst eg
      refine ⟨_, rfl, _, _, _, _, rfl, .tup hp', kit_same, _, rfl, iteF ?_⟩
      refine ⟨_, rfl, _, rfl, _, rfl, dg, _, rfl, .inl ⟨kvs, Sum.inr nm, .inr ⟨ob, hf3⟩, rfl, hvl.symm⟩, ?_⟩
      refine ⟨⟨0, p', p, _, _, _, by decide, rfl, rfl, SqT.of hp', SqT.of hp3, told_gv g', told_gv g'⟩, _, rfl, iteF ?_⟩
      refine ⟨_, rfl, p', rfl, ⟨_, SqT.of hp'⟩, for_tup (K := K) (a := p') (xs := gv g') (fun _ σ H4 => H4 = H3 ∧ ∃ u5, σ = [some (.ref x), some (.ref dg), some (.ref r), some (.str nm), some (.ref p'), u5]) ⟨rfl, _, rfl⟩ (fun j σ H4 _ ⟨e, _⟩ => by rw [e]; exact SqT.of hp') ?_ (fun σ H4 ⟨e, u5, eσ⟩ => by rw [e, eσ]; exact ⟨s3, _, _, _, rfl⟩)⟩
      rintro j y σ H4 hy ⟨rfl, u5, rfl⟩
      rcases gv_part hy with rfl | ⟨z, rfl⟩
      · exact ⟨_, rfl, rfl, _, rfl, iteF (iteF ⟨rfl, _, rfl⟩)⟩
      · exact ⟨_, rfl, rfl, _, rfl, iteT ⟨_, rfl, z, rfl, _, rfl, iteF ⟨rfl, _, rfl⟩⟩⟩
    · rintro σ H3 ⟨s3, u3, u4, u5, rfl⟩
      have hf := s3 dg _ upd_same
      refine ⟨dg, ob, kvs, nf, hf, ?_⟩
      have s4 : Same H2 (upd H3 dg (.dK kvs)) := fun b o h => by
        by_cases c : b = dg
        · subst c; rw [upd_same, ← hd2]; exact h
        · rw [upd_ne c]; exact s3 _ _ (by rw [upd_ne c]; exact h)
      generalize upd H3 dg (.dK kvs) = H4 at s4 ⊢
      have r4 := s4 _ _ r2
      refine ⟨_, rfl, .inl ⟨rfl, _, SqL.of r4⟩, r, _, _, rfl, rfl, r4, small1000 (by omega), ?_⟩
      have f5 : (upd H4 r (.lst ((gnames gs).map V.str ++ [V.str ""]))) r = some (.lst ((gnames gs).map V.str ++ [V.str ""])) := upd_same
      have s5 : Same H (upd H4 r (.lst ((gnames gs).map V.str ++ [V.str ""]))) := fun b o h => by rw [upd_ne (ne_of_none h hr0)]; exact s4 _ _ (s12 _ _ h)
      generalize upd H4 r (.lst ((gnames gs).map V.str ++ [V.str ""])) = H5 at f5 s5 ⊢
      refine ⟨_, rfl, .inl ⟨rfl, _, SqL.of f5⟩, r, _, rfl, rfl, f5, ?_⟩
      have s6 : Same H (upd H5 r (.lst ((gnames gs).map V.str ++ [V.str ""]).reverse)) := fun b o h => by rw [upd_ne (ne_of_none h hr0)]; exact s5 _ _ h
      generalize upd H5 r (.lst ((gnames gs).map V.str ++ [V.str ""]).reverse) = H6 at s6 ⊢
      have L6 := L.same s6
      obtain ⟨dx6, hx6⟩ := L6.W.ob
      refine ⟨_, rfl, x, dx6, _, rfl, hx6, fldh_no _ _ (by decide +kernel) (by decide +kernel), x, dh, n, gs, rfl, L6.W, fun r7 H7 hr7 s7 e7 => ?_⟩
      have L7 := L6.same s7
      obtain ⟨kvs7, hd7, G7⟩ := L7.D
      refine ⟨_, rfl, dg, kvs7, rfl, .inl hd7, fun l8 hl8 => ?_⟩
      have s8 := same_new hl8 (.lst (kvs7.map fun p => kV p.1))
      have e8 : (upd H7 l8 (.lst (kvs7.map fun p => kV p.1))) l8 = some (.lst ((gnames gs).map V.str)) := by rw [upd_same, G7.kv]
      exact ⟨⟨0, r7, l8, _, _, _, by decide, rfl, rfl, SqL.of (s8 _ _ e7), SqL.of e8, told_strs _, told_strs _⟩, q _ ((s6.trans s7).trans s8)⟩
theorem sc_House_drop : FnScope ["self", "name"] ["self", "name"] (defScope s_House_drop) := ⟨rfl, rfl, rfl, by decide +kernel, rfl, by decide +kernel, by decide +kernel⟩
theorem ok_House_drop {f : Addr} {fd : FuncData} (F : Fun K "drop" "House.drop" s_House_drop f fd) (T : Txt K mg cl) (M_House_need : MCalX P w K mg base cl.House 1 "need" ["self", "name"] (sp_House_need K cl)) : FnOk P w K mg base (CXx P w) 2 f fd ["self", "name"] (sp_House_drop K cl) := by
  refine F.okX sc_House_drop (fun vs H Q E h => ?_) (fun cdv A outer s H vs Q E hr h => ?_)
  · obtain ⟨x, d, n, gs, nm, rfl, W, hb, q1, q2⟩ := h
    rfl
  · obtain ⟨x, d, n, gs, nm, rfl, W, hb, q1, q2⟩ := h
    refine ⟨_, (pss_cons (ps_expr (pe_meth (pv 0) T.cl_House M_House_need.mt M_House_need.ok (hr.mono (by decide)) M_House_need.b .nil passE (pa_cons (pv 1) pa_nil)))
      (pss_one (ps_expr (pe_dpop1 (pe_fld (pv 0) rfl) (pv 1) ⟨rfl, rfl, rfl, rfl⟩)))), ?_⟩
    obtain ⟨dx, hx⟩ := W.ob
    obtain ⟨kvs, hd, G⟩ := W.dc
    refine ⟨_, rfl, x, dx, _, rfl, hx, fldh_no _ _ (by decide +kernel) (by decide +kernel), _, rfl, x, d, n, gs, nm, rfl, W, hb, fun hn => ?_, fun hn => q2 hn⟩
    obtain ⟨p, g, _, hv, _⟩ := G.val_some hn
    refine ⟨_, rfl, x, cl.House, dx, _, _, rfl, hx, T.cl_House, T.n_House_gaps, fldh_gaps _ _, d, rfl, .inl ⟨_, .inl hd⟩, _, rfl, kvs, Sum.inr nm, _, hd, rfl, hv, ?_⟩
    have b2 : But d H (upd H d (.dK (dropK kvs (Sum.inr nm)))) := fun b o e h => by rw [upd_ne h]; exact e
    refine q1 hn _ ⟨⟨dx, b2 _ _ hx (ne_of hx hd (fun z => by cases z))⟩, _, upd_same, ?_⟩ b2
    exact G.drop.keep fun c xs e => b2 _ _ e (ne_of e hd (fun z => by cases z))
theorem sc_held : FnScope ["table", "bound"] ["table", "bound"] (defScope s_held) := ⟨rfl, rfl, rfl, by decide +kernel, rfl, by decide +kernel, by decide +kernel⟩
theorem ok_held {f : Addr} {fd : FuncData} (F : Fun K "held" "held" s_held f fd) (T : Txt K mg cl) (C_shuts : Cal P w K mg base 1 "shuts" ["bound", "table"] (sp_shuts K)) (C_held_row : Cal P w K mg base 2 "held_row" ["table", "a", "bound"] (sp_held_row K)) : FnOk P w K mg base CX0 3 f fd ["table", "bound"] (sp_held K) := by
  refine F.ok sc_held (fun vs H Q E h => ?_) (fun cdv A outer s H vs Q E hr h => ?_)
  · obtain ⟨u, v, m, rfl, hB, q⟩ := h
    rfl
  · obtain ⟨u, v, m, rfl, hB, q⟩ := h
    refine ⟨_, (pss_cons (ps_if (PW.pt (pw_or (pt_cmpR op_isN (pv 0) pe_non (nomark _)) (pw_or1 (pt_val (pec C_shuts (hr.mono (by decide)) rfl (pa_cons (pv 1) (pa_cons (pv 0) pa_nil)))))))
      (pss_one (ps_ret pe_non))
      pss_nil)
      (pss_one (ps_ret (pe_compS ["table", "bound"] [0, 1] rfl (pi_range1 rfl T.z_range (pa_cons (pe_callB call_len_seq rfl T.z_len PySem.boot_len (pa_cons (pv 0) pa_nil)) pa_nil)) (fun _ _ _ => pts_nil) (fun _ _ _ => (pec C_held_row (hr.mono (by decide)) rfl (pa_cons (pv 1) (pa_cons (pv 0) (pa_cons (pv 2) pa_nil))))) (hk := by kernel_rfl))))), ?_⟩
    rcases q with ⟨rfl, q⟩ | ⟨p, rs, t, n, rfl, hT, hS, hn, h1, h2, q1, q2⟩
    · exact ⟨_, rfl, rfl, _, rfl, iteT (iteT q)⟩
    · have hl := hT.len hS
      refine ⟨_, rfl, rfl, _, rfl, iteF ⟨_, rfl, _, rfl, u, p, m, rs, t, n, rfl, hB, hT, hS, h1, h2, _, rfl, ?_⟩⟩
      cases hs : shutB t m with
      | true => exact iteT (q1 hs)
      | false =>
        refine iteF ⟨_, rfl, p, _, rfl, .inl (SqL.of hT.ob), (n : Int), by rw [hl], by omega, by omega, comp_rows (n := ((n : Nat) : Int).toNat) (fun i => (List.range n).map fun (j : Nat) => heldF t m (i : Int) (j : Int)) (small (by omega)) ?_ ?_⟩
        · intro i H1 hi s1 R kR
          refine ⟨_, rfl, _, rfl, _, rfl, u, p, _, m, rs, t, n, rfl, s1.seqT hB, hT.same s1, hS, hn, ⟨by omega, by omega⟩, h1, h2, fun r hr => ?_⟩
          refine kR r _ hr (same_new hr _) ?_
          rw [upd_same, Int.zero_add]
        · intro p' rs' H' N
          rw [Int.toNat_natCast] at N
          exact q2 hs p' rs' H' N
theorem sc_table_of : FnScope ["count", "bounds", "table", "bound"] ["count", "bounds"] (defScope s_table_of) := ⟨rfl, rfl, rfl, by decide +kernel, rfl, by decide +kernel, by decide +kernel⟩
theorem ok_table_of {f : Addr} {fd : FuncData} (F : Fun K "table_of" "table_of" s_table_of f fd) (T : Txt K mg cl) (C_wide : Cal P w K mg base 2 "wide" ["count"] (sp_wide K)) (C_held : Cal P w K mg base 3 "held" ["table", "bound"] (sp_held K)) : FnOk P w K mg base CX0 4 f fd ["count", "bounds"] (sp_table_of K) := by
  refine F.ok sc_table_of (fun vs H Q E h => ?_) (fun cdv A outer s H vs Q E hr h => ?_)
  · obtain ⟨n, r, qs, bs, rfl, hL, hA, n1, n8, hw, hb, qt⟩ := h
    rfl
  · obtain ⟨n, r, qs, bs, rfl, hL, hA, n1, n8, hw, hb, qt⟩ := h
    refine ⟨_, (pss_cons (ps_set (i := 2) sc_table_of.nd rfl (Or.inl rfl) (pec C_wide (hr.mono (by decide)) rfl (pa_cons (pv 0) pa_nil)))
      (pss_cons (ps_for PassesOwn.never rfl (pi_list (pv 1)) (pg_name (i := 3) sc_table_of.nd rfl (Or.inl rfl))
      (pss_one (ps_set (i := 2) sc_table_of.nd rfl (Or.inl rfl) (pec C_held (hr.mono (by decide)) rfl (pa_cons (pv 2) (pa_cons (pv 3) pa_nil))))))
      (pss_one (ps_ret (pv 2))))), ?_⟩
    have hlen := hA.len
    refine ⟨_, rfl, n, rfl, by omega, fun p0 rs0 H0 N0 => ?_⟩
    refine ⟨_, rfl, r, rfl, ⟨_, N0.sm.seq hL⟩, for_list (K := K) (a := r) (xs := qs) (fun i σ H2 => Same H H2 ∧ (∃ v u3, σ = [some (.int n), some (.ref r), some v, u3] ∧ IsTN H H2 v n (bs.take i)))
      ⟨N0.sm, _, _, rfl, .inr ⟨p0, rs0, _, rfl, N0, wide_right n⟩⟩ (fun i σ H2 _ ⟨s, _⟩ => s.seq hL) ?_ ?_⟩
    · rintro i x σ H2 hi ⟨s2, v, u3, rfl, hv⟩
      obtain ⟨pb, m, hm, rfl, hp⟩ := (hA.same s2).get hi
      have htake : bs.take (i + 1) = bs.take i ++ [m] := by rw [List.take_add_one, hm]; rfl
      obtain ⟨m1, m2⟩ := hw m (List.mem_of_getElem? hm)
      refine ⟨_, rfl, _, rfl, pb, v, m, rfl, SqT.of hp, ?_⟩
      rcases hv with ⟨rfl, hn⟩ | ⟨p, rs, t, rfl, N, R⟩
      · refine .inl ⟨rfl, s2, _, _, rfl, .inl ⟨rfl, ?_⟩⟩
        rw [htake]
        exact hn.mono fun x hx => List.mem_append_left _ hx
      · refine .inr ⟨p, rs, t, n, rfl, N.tb, R.square, by omega, m1, m2, fun hs => ?_, fun hs p' rs' H' N' => ?_⟩
        · refine ⟨s2, _, _, rfl, .inl ⟨rfl, ?_⟩⟩
          rw [htake]
          exact shut_neg R m1 m2 hs
        · refine ⟨s2.trans N'.sm, _, _, rfl, .inr ⟨p', rs', _, rfl, N'.since s2, ?_⟩⟩
          rw [htake]
          refine held_right R (fun x hx => ?_) hs
          rcases List.mem_append.mp hx with hx | hx
          · exact hw x (List.mem_of_mem_take hx)
          · rw [List.mem_singleton.mp hx]; exact ⟨m1, m2⟩
    · rintro σ H2 ⟨s2, v, u3, rfl, hv⟩
      rw [hlen, List.take_length] at hv
      exact ⟨_, rfl, qt v H2 s2 hv⟩
theorem sc_House_table : FnScope ["self"] ["self"] (defScope s_House_table) := ⟨rfl, rfl, rfl, by decide +kernel, rfl, by decide +kernel, by decide +kernel⟩
theorem ok_House_table {f : Addr} {fd : FuncData} (F : Fun K "table" "House.table" s_House_table f fd) (T : Txt K mg cl) (C_table_of : Cal P w K mg base 4 "table_of" ["count", "bounds"] (sp_table_of K)) (C_all_bounds : Cal P w K mg base 2 "all_bounds" ["gaps"] (sp_all_bounds K)) : FnOk P w K mg base CX0 5 f fd ["self"] (sp_House_table K cl) := by
  refine F.ok sc_House_table (fun vs H Q E h => ?_) (fun cdv A outer s H vs Q E hr h => ?_)
  · obtain ⟨x, d, n, gs, rfl, W, n1, n8, hw, hl, q⟩ := h
    rfl
  · obtain ⟨x, d, n, gs, rfl, W, n1, n8, hw, hl, q⟩ := h
    refine ⟨_, (pss_one (ps_ret (pec C_table_of (hr.mono (by decide)) rfl (pa_cons (pe_fld (pv 0) rfl) (pa_cons (pec C_all_bounds (hr.mono (by decide)) rfl (pa_cons (pe_fld (pv 0) rfl) pa_nil)) pa_nil))))), ?_⟩
    obtain ⟨dx, hx⟩ := W.ob
    obtain ⟨kvs, hd, G⟩ := W.dc
    refine ⟨_, rfl, x, cl.House, dx, _, _, rfl, hx, T.cl_House, T.n_House_count, fldh_count _ _, _, rfl, x, cl.House, dx, _, _, rfl, hx, T.cl_House, T.n_House_gaps, fldh_gaps _ _, d, kvs, gs, rfl, hd, G, hl, fun r H1 qs hr0 s1 e1 A1 => ?_⟩
    have := allB_len gs
    exact ⟨n, r, qs, allB gs, rfl, SqL.of e1, A1, n1, n8, hw, by omega, fun v H2 s2 I2 => q v H2 (s1.trans s2) (I2.since s1)⟩
theorem sc_House_idle : FnScope ["self", "name", "others"] ["self", "name"] (defScope s_House_idle) := ⟨rfl, rfl, rfl, by decide +kernel, rfl, by decide +kernel, by decide +kernel⟩
theorem ok_House_idle {f : Addr} {fd : FuncData} (F : Fun K "idle" "House.idle" s_House_idle f fd) (T : Txt K mg cl) (C_table_of : Cal P w K mg base 4 "table_of" ["count", "bounds"] (sp_table_of K)) (C_all_bounds : Cal P w K mg base 2 "all_bounds" ["gaps"] (sp_all_bounds K)) (M_House_need : MCalX P w K mg base cl.House 1 "need" ["self", "name"] (sp_House_need K cl)) (M_House_table : MCal P w K mg base cl.House 5 "table" ["self"] (sp_House_table K cl)) : FnOk P w K mg base (CXx P w) 6 f fd ["self", "name"] (sp_House_idle K cl) := by
  refine F.okX sc_House_idle (fun vs H Q E h => ?_) (fun cdv A outer s H vs Q E hr h => ?_)
  · obtain ⟨x, d, n, gs, nm, rfl, W, hb, n1, n8, hw, hl, q1, q2⟩ := h
    rfl
  · obtain ⟨x, d, n, gs, nm, rfl, W, hb, n1, n8, hw, hl, q1, q2⟩ := h
    refine ⟨_, (pss_cons (ps_expr (pe_meth (pv 0) T.cl_House M_House_need.mt M_House_need.ok (hr.mono (by decide)) M_House_need.b .nil passE (pa_cons (pv 1) pa_nil)))
      (pss_cons (ps_set (i := 2) sc_House_idle.nd rfl (Or.inl rfl) (pe_callTy call_dictD rfl T.z_dict boot_dict (pa_cons (pe_fld (pv 0) rfl) pa_nil)))
      (pss_cons (ps_expr (pe_dpop1 (pv 2) (pv 1) ⟨rfl, rfl, rfl, rfl⟩))
      (pss_one (ps_ret (pe_cmpR (OpR.or op_eq (OpR.or (op_eqNL (hr.units)) (op_eqTT (hr.units)))) (pec C_table_of (hr.mono (by decide)) rfl (pa_cons (pe_fld (pv 0) rfl) (pa_cons (pec C_all_bounds (hr.mono (by decide)) rfl (pa_cons (pv 2) pa_nil)) pa_nil))) (pe_meth0 (pv 0) T.cl_House M_House_table.mt M_House_table.ok (hr.mono (by decide)) M_House_table.b .nil pass0) (nomark _))))))), ?_⟩
    obtain ⟨dx, hx⟩ := W.ob
    obtain ⟨kvs, hd, G⟩ := W.dc
    refine ⟨_, rfl, x, dx, _, rfl, hx, fldh_no _ _ (by decide +kernel) (by decide +kernel), _, rfl, x, d, n, gs, nm, rfl, W, hb, fun hn => ?_, fun hn => q2 hn⟩
    obtain ⟨p, g, _, hv, _⟩ := G.val_some hn
    have q := q1 hn
    refine ⟨_, rfl, x, cl.House, dx, _, _, rfl, hx, T.cl_House, T.n_House_gaps, fldh_gaps _ _, d, kvs, rfl, .inl hd, fun o ho => ?_⟩
    have s1 := same_new ho (.dK kvs)
    have e1 : (upd H o (.dK kvs)) o = some (.dK kvs) := upd_same
    generalize upd H o (.dK kvs) = H1 at s1 e1 ⊢
    refine ⟨_, rfl, o, rfl, .inl ⟨_, .inl e1⟩, _, rfl, kvs, Sum.inr nm, _, e1, rfl, hv, ?_⟩
    have s2 : Same H (upd H1 o (.dK (dropK kvs (Sum.inr nm)))) := fun b o' h => by rw [upd_ne (ne_of_none h ho)]; exact s1 _ _ h
    have e2 : (upd H1 o (.dK (dropK kvs (Sum.inr nm)))) o = some (.dK (dropK kvs (Sum.inr nm))) := upd_same
    generalize upd H1 o (.dK (dropK kvs (Sum.inr nm))) = H2 at s2 e2 ⊢
    have dl := gdrop_len nm gs
    have wd := within_drop hw nm
    refine ⟨_, rfl, x, cl.House, dx, _, _, rfl, s2 _ _ hx, T.cl_House, T.n_House_count, fldh_count _ _, _, rfl, o, _, gdrop nm gs, rfl, e2, (G.same s2).drop, by omega, fun r H3 qs hr0 s3 e3 A3 => ?_⟩
    have bl := allB_len (gdrop nm gs)
    refine ⟨n, r, qs, allB (gdrop nm gs), rfl, SqL.of e3, A3, n1, n8, wd, by omega, fun v4 H4 s4 I4 => ?_⟩
    have s24 := (s2.trans s3).trans s4
    refine ⟨_, rfl, x, dx, _, rfl, s24 _ _ hx, fldh_no _ _ (by decide +kernel) (by decide +kernel), x, d, n, gs, rfl, W.same s24, n1, n8, hw, hl, fun v5 H5 s5 I5 => ?_⟩
    have s25 := s24.trans s5
    rcases I4 with ⟨rfl, g4⟩ | ⟨p4, rs4, t4, rfl, N4, R4⟩
    · rcases I5 with ⟨rfl, g5⟩ | ⟨p5, rs5, t5, rfl, N5, R5⟩
      · exact .inl ⟨rfl, q _ H5 s25⟩
      · exact .inr (.inl ⟨.inl ⟨rfl, _, _, rfl, SqL.of N5.tb.ob⟩, q false H5 s25⟩)
    · have T4 := N4.tb.same s5
      rcases I5 with ⟨rfl, g5⟩ | ⟨p5, rs5, t5, rfl, N5, R5⟩
      · exact .inr (.inl ⟨.inr ⟨rfl, _, _, rfl, SqL.of T4.ob⟩, q false H5 s25⟩)
      · exact .inr (.inr ⟨_, _, _, _, _, _, rfl, rfl, SqL.of T4.ob, SqL.of N5.tb.ob, ovs_rows T4.rows, ovs_rows N5.tb.rows, q _ H5 s25⟩)
theorem sc_law_deed : FnScope ["_law_house", "_law_kind", "_law_name", "_law_gap_here"] ["_law_house", "_law_kind", "_law_name", "_law_gap_here"] (defScope s_law_deed) := ⟨rfl, rfl, rfl, by decide +kernel, rfl, by decide +kernel, by decide +kernel⟩
theorem ok_law_deed {f : Addr} {fd : FuncData} (F : Fun K "_law_deed" "_law_deed" s_law_deed f fd) (T : Txt K mg cl) (C_law_added : CalX P w K mg base 2 "_law_added" ["_law_house", "_law_name", "_law_gap_here"] (sp_law_added K cl)) (M_House_drop : MCalX P w K mg base cl.House 2 "drop" ["self", "name"] (sp_House_drop K cl)) (M_House_gap : MCalX P w K mg base cl.House 2 "gap" ["self", "name"] (sp_House_gap K cl)) (M_House_idle : MCalX P w K mg base cl.House 6 "idle" ["self", "name"] (sp_House_idle K cl)) : FnOk P w K mg base (CXx P w) 7 f fd ["_law_house", "_law_kind", "_law_name", "_law_gap_here"] (sp_law_deed K cl) := by
  refine F.okX sc_law_deed (fun vs H Q E h => ?_) (fun cdv A outer s H vs Q E hr h => ?_)
  · obtain ⟨x, d, p, n, gs, nm, k, g, rfl, W, hb, hl, hp, n1, n8, hw, q1, q2⟩ := h
    rfl
  · obtain ⟨x, d, p, n, gs, nm, k, g, rfl, W, hb, hl, hp, n1, n8, hw, q1, q2⟩ := h
    refine ⟨_, (pss_one (ps_if (pt_cmpR op_eq (pv 1) pe_int (nomark _))
      (pss_one (ps_expr (pecX C_law_added (hr.mono (by decide)) rfl passE (pa_cons (pv 0) (pa_cons (pv 2) (pa_cons (pv 3) pa_nil))))))
      (pss_one (ps_if (pt_cmpR op_eq (pv 1) pe_int (nomark _))
      (pss_one (ps_expr (pe_meth (pv 0) T.cl_House M_House_drop.mt M_House_drop.ok (hr.mono (by decide)) M_House_drop.b .nil passE (pa_cons (pv 2) pa_nil))))
      (pss_one (ps_if (pt_cmpR op_eq (pv 1) pe_int (nomark _))
      (pss_one (ps_expr (pe_meth (pv 0) T.cl_House M_House_gap.mt M_House_gap.ok (hr.mono (by decide)) M_House_gap.b .nil passE (pa_cons (pv 2) pa_nil))))
      (pss_one (ps_expr (pe_meth (pv 0) T.cl_House M_House_idle.mt M_House_idle.ok (hr.mono (by decide)) M_House_idle.b .nil passE (pa_cons (pv 2) pa_nil)))))))))), ?_⟩
    obtain ⟨dx, hx⟩ := W.ob
    refine ⟨_, rfl, rfl, _, rfl, ?_⟩
    refine ite2 (fun c => ?_) (fun c => ?_)
    · have ek : k = 0 := V.int.inj (of_decide_eq_true c)
      subst ek
      refine ⟨_, rfl, _, rfl, _, rfl, x, d, p, n, gs, nm, g, rfl, W, hb, by omega, hp, fun hn => q1 ⟨fun _ => rfl, fun _ => hn⟩, fun hn H' W' b' => q2 (fun h => hn (h.mpr rfl)) H' ?_ b'⟩
      unfold aft
      rw [if_pos rfl]
      exact W'
    have k0 : k ≠ 0 := fun e => c (decide_eq_true (by rw [e]))
    have ref1 : ¬ nm ∈ gnames gs → (nm ∈ gnames gs ↔ k = 0) := fun hn => ⟨fun h => absurd h hn, fun h => absurd h k0⟩
    have ref2 : nm ∈ gnames gs → ¬ (nm ∈ gnames gs ↔ k = 0) := fun hn h => k0 (h.mp hn)
    refine ⟨_, rfl, rfl, _, rfl, ?_⟩
    refine ite2 (fun c => ?_) (fun c => ?_)
    · have ek : k = 1 := V.int.inj (of_decide_eq_true c)
      subst ek
      refine ⟨_, rfl, x, dx, _, rfl, hx, fldh_no _ _ (by decide +kernel) (by decide +kernel), _, rfl, x, d, n, gs, nm, rfl, W, hb.repr, fun hn H' W' b' => q2 (ref2 hn) H' ?_ b', fun hn => q1 (ref1 hn)⟩
      unfold aft
      rw [if_neg (by decide), if_pos rfl]
      exact W'
    have k1 : k ≠ 1 := fun e => c (decide_eq_true (by rw [e]))
    have ea : aft k nm g gs = gs := by unfold aft; rw [if_neg k0, if_neg k1]
    rw [ea] at q2
    refine ⟨_, rfl, rfl, _, rfl, ?_⟩
    refine ite2 (fun _ => ?_) (fun _ => ?_)
    · exact ⟨_, rfl, x, dx, _, rfl, hx, fldh_no _ _ (by decide +kernel) (by decide +kernel), _, rfl, x, d, n, gs, nm, rfl, W, hb.repr, fun g' p' hm hp' => q2 (ref2 (List.mem_map_of_mem (f := fun x : Str × Gp => x.1) hm)) H W (fun _ _ h _ => h), fun hn => q1 (ref1 hn)⟩
    · exact ⟨_, rfl, x, dx, _, rfl, hx, fldh_no _ _ (by decide +kernel) (by decide +kernel), _, rfl, x, d, n, gs, nm, rfl, W, hb.repr, n1, n8, hw, by omega, fun hn b H' s' => q2 (ref2 hn) H' (W.same s') (but_same s'), fun hn => q1 (ref1 hn)⟩
theorem sc_law_refused : FnScope ["_law_house", "_law_kind", "_law_name", "_law_gap_here", "e"] ["_law_house", "_law_kind", "_law_name", "_law_gap_here"] (defScope s_law_refused) := ⟨rfl, rfl, rfl, by decide +kernel, rfl, by decide +kernel, by decide +kernel⟩
theorem ok_law_refused {f : Addr} {fd : FuncData} (F : Fun K "_law_refused" "_law_refused" s_law_refused f fd) (T : Txt K mg cl) (C_law_deed : CalX P w K mg base 7 "_law_deed" ["_law_house", "_law_kind", "_law_name", "_law_gap_here"] (sp_law_deed K cl)) : FnOk P w K mg base CX0 8 f fd ["_law_house", "_law_kind", "_law_name", "_law_gap_here"] (sp_law_refused K cl) := by
  refine F.ok sc_law_refused (fun vs H Q E h => ?_) (fun cdv A outer s H vs Q E hr h => ?_)
  · obtain ⟨x, d, p, n, gs, nm, k, g, rfl, W, hb, hl, hp, n1, n8, hw, href, q⟩ := h
    rfl
  · obtain ⟨x, d, p, n, gs, nm, k, g, rfl, W, hb, hl, hp, n1, n8, hw, href, q⟩ := h
    refine ⟨_, (pss_cons (ps_try rfl rfl (fun _ _ _ acc => (pss_one (ps_expr (pecZ C_law_deed (hr.mono (by decide)) rfl acc (pa_cons (pv 0) (pa_cons (pv 1) (pa_cons (pv 2) (pa_cons (pv 3) pa_nil))))))))
      (ph_as (i := 4) rfl T.g_WaitError T.h_WaitError rfl sc_law_refused.nd rfl rfl (fun _ => (pss_cons (ps_if (pt_val (pe_callB (call_isiXTK (K := K) rfl) rfl T.z_isinstance boot_isinstance (pa_cons (pv 4) (pa_cons (pe_tup (pa_consP (pe_glob (v := .ref cl.NoLink) rfl T.g_NoLink rfl) (pa_consP (pe_glob (v := .ref cl.NoRoom) rfl T.g_NoRoom rfl) (pa_consP (pe_glob (v := .ref cl.NoTime) rfl T.g_NoTime rfl) (pa_consP (pe_glob (v := .ref cl.NoKeep) rfl T.g_NoKeep rfl) (pa_consP (pe_glob (v := .ref cl.NoRow) rfl T.g_NoRow rfl) pa_nil)))))) pa_nil))))
      (pss_one (ps_ret pe_bl))
      pss_nil)
      (pss_one (ps_ret (pe_and (pe_callB (call_isiXK (K := K) rfl) rfl T.z_isinstance boot_isinstance (pa_cons (pv 4) (pa_cons (pe_bltn (v := .ty "ValueError") rfl T.z_ValueError boot_ValueError rfl) pa_nil))) (pe_one (pe_callB (call_isiXK (K := K) rfl) rfl T.z_isinstance boot_isinstance (pa_cons (pv 4) (pa_cons (pe_glob (v := .ref cl.NoName) rfl T.g_NoName rfl) pa_nil))))))))) ph_nil))
      (pss_one (ps_ret pe_bl))), ?_⟩
    refine ⟨_, rfl, _, rfl, _, rfl, _, rfl, x, d, p, n, gs, nm, k, g, rfl, W, hb, hl, hp, n1, n8, hw, fun _ => ?_, fun no => absurd href no⟩
    refine ⟨_, true, rfl, T.sub_W, iteT fun e he => ?_⟩
    refine ⟨_, rfl, (by show 5 ≤ sizeLine; decide), fun pt hpt => ?_⟩
    have ex : (upd H e (ExcO e (.ref cl.NoName))) e = some (ExcO e (.ref cl.NoName)) := upd_same
    have st := same_new hpt (.tup [.ref cl.NoLink, .ref cl.NoRoom, .ref cl.NoTime, .ref cl.NoKeep, .ref cl.NoRow])
    refine ⟨e, cl.NoName, pt, [cl.NoLink, cl.NoRoom, cl.NoTime, cl.NoKeep, cl.NoRow], false, rfl, st _ _ ex, T.k_NoName, SqT.of upd_same, T.no_T, _, rfl, iteF ?_⟩
    refine ⟨_, rfl, e, cl.NoName, .ty "ValueError", true, rfl, st _ _ ex, T.k_NoName, T.is_V, _, rfl, iteT ?_⟩
    refine ⟨_, rfl, e, cl.NoName, .ref cl.NoName, true, rfl, st _ _ ex, T.k_NoName, T.is_N, ?_⟩
    exact q _ ((same_new he _).trans st)
theorem sc_law : FnScope ["_law_script", "_law_count", "_law_names_here", "_law_houses", "_law_dues", "_law_cells", "_law_k", "_law_cell_here", "_law_which", "_law_kind", "_law_name", "_law_gap_here", "_law_due", "_law_k_house"] ["_law_script"] (defScope s_law) := ⟨rfl, rfl, rfl, by decide +kernel, rfl, by decide +kernel, by decide +kernel⟩
theorem ok_law {f : Addr} {fd : FuncData} (F : Fun K "law" "law" s_law f fd) (T : Txt K mg cl) (C_law_cell : Cal P w K mg base 1 "_law_cell" ["_law_script", "_law_k"] (sp_law_cell K)) (C_law_spread : Cal P w K mg base 1 "_law_spread" ["_law_cell_here", "_law_k"] (sp_law_spread K)) (C_law_names : Cal P w K mg base 2 "_law_names" ["_law_script"] (sp_law_names K)) (C_law_gap : Cal P w K mg base 2 "_law_gap" ["_law_cell_here", "_law_count"] (sp_law_gap K)) (C_law_deed : CalX P w K mg base 7 "_law_deed" ["_law_house", "_law_kind", "_law_name", "_law_gap_here"] (sp_law_deed K cl)) (C_law_refused : Cal P w K mg base 8 "_law_refused" ["_law_house", "_law_kind", "_law_name", "_law_gap_here"] (sp_law_refused K cl)) (C_law_right : Cal P w K mg base 3 "_law_right" ["_law_house", "_law_due"] (sp_law_right K cl)) (MK_House : MkCal P w K mg base cl.House 1 "House" ["self", "count"] (sp_House___init__ K cl)) : FnOk P w K mg base CX0 9 f fd ["_law_script"] (sp_law K) := by
  refine F.ok sc_law (fun vs H Q E h => ?_) (fun cdv A outer s H vs Q E hr h => ?_)
  · obtain ⟨a, ns, rfl, hS, h63, q⟩ := h
    rfl
  · obtain ⟨a, ns, rfl, hS, h63, q⟩ := h
    refine ⟨_, (pss_cons (ps_set (i := 1) sc_law.nd rfl (Or.inl rfl) (pe_op op_add pe_int (pe_op op_mod (pec C_law_cell (hr.mono (by decide)) rfl (pa_cons (pv 0) (pa_cons pe_int pa_nil))) pe_int)))
      (pss_cons (ps_set (i := 2) sc_law.nd rfl (Or.inl rfl) (pec C_law_names (hr.mono (by decide)) rfl (pa_cons (pv 0) pa_nil)))
      (pss_cons (ps_set (i := 3) sc_law.nd rfl (Or.inl rfl) (pe_lst (pa_cons (pe_make MK_House.mkd MK_House.ok (hr.mono (by decide)) rfl MK_House.mg MK_House.b .nil pass0 (pa_cons (pv 1) pa_nil)) (pa_cons (pe_make MK_House.mkd MK_House.ok (hr.mono (by decide)) rfl MK_House.mg MK_House.b .nil pass0 (pa_cons (pv 1) pa_nil)) pa_nil))))
      (pss_cons (ps_set (i := 4) sc_law.nd rfl (Or.inl rfl) (pe_lst (pa_cons pe_dnewK (pa_cons pe_dnewK pa_nil))))
      (pss_cons (ps_set (i := 5) sc_law.nd rfl (Or.inl rfl) (pe_slice sl_list (pv 0) (po_some pe_int) (po_some pe_int)))
      (pss_cons (ps_if (pt_cmpR op_eq (pe_callB call_len_seq rfl T.z_len PySem.boot_len (pa_cons (pv 5) pa_nil)) pe_int (nomark _))
      (pss_one (ps_setComp (j := 5) ["_law_script"] [0] sc_law.nd rfl rfl rfl (pi_range1 rfl T.z_range (pa_cons (pe_op op_mod (pec C_law_cell (hr.mono (by decide)) rfl (pa_cons (pv 0) (pa_cons pe_int pa_nil))) pe_int) pa_nil)) (fun _ _ _ => pts_nil) (fun _ _ _ => (pec C_law_cell (hr.mono (by decide)) rfl (pa_cons (pv 1) (pa_cons (pe_op op_add pe_int (pv 0)) pa_nil)))) (hk := by kernel_rfl)))
      pss_nil)
      (pss_cons (ps_for PassesOwn.never rfl (pi_range1 rfl T.z_range (pa_cons (pe_callB call_len_seq rfl T.z_len PySem.boot_len (pa_cons (pv 5) pa_nil)) pa_nil)) (pg_name (i := 6) sc_law.nd rfl (Or.inl rfl))
      (pss_cons (ps_set (i := 7) sc_law.nd rfl (Or.inl rfl) (pec C_law_spread (hr.mono (by decide)) rfl (pa_cons (pe_ix ix_list (pv 5) (pv 6) (fun _ _ => rfl)) (pa_cons (pv 6) pa_nil))))
      (pss_cons (ps_set (i := 8) sc_law.nd rfl (Or.inl rfl) (pe_op op_mod (pv 7) pe_int))
      (pss_cons (ps_set (i := 9) sc_law.nd rfl (Or.inl rfl) (pe_ix ix_list (pe_lst (pa_consP pe_int (pa_consP pe_int (pa_consP pe_int (pa_consP pe_int (pa_consP pe_int (pa_consP pe_int pa_nil))))))) (pe_op op_mod (pe_op op_fdiv (pv 7) pe_int) pe_int) (fun _ _ => rfl)))
      (pss_cons (ps_set (i := 10) sc_law.nd rfl (Or.inl rfl) (pe_ix ix_list (pv 2) (pe_op op_mod (pe_op op_fdiv (pv 7) pe_int) pe_int) (fun _ _ => rfl)))
      (pss_cons (ps_set (i := 11) sc_law.nd rfl (Or.inl rfl) (pec C_law_gap (hr.mono (by decide)) rfl (pa_cons (pe_op op_fdiv (pv 7) pe_int) (pa_cons (pv 1) pa_nil))))
      (pss_cons (ps_set (i := 12) sc_law.nd rfl (Or.inl rfl) (pe_ix ix_list (pv 4) (pv 8) (fun _ _ => rfl)))
      (pss_cons (ps_if (pt_cmpR op_eq (pe_cmp (pc_din (hu1 hr) (pv 10) (pv 12))) (pe_cmpR op_eq (pv 9) pe_int (nomark _)) (nomark _))
      (pss_one (ps_if (pt_not (pt_val (pec C_law_refused (hr.mono (by decide)) rfl (pa_cons (pe_ix ix_list (pv 3) (pv 8) (fun _ _ => rfl)) (pa_cons (pv 9) (pa_cons (pv 10) (pa_cons (pv 11) pa_nil)))))))
      (pss_one (ps_ret pe_bl))
      pss_nil))
      (pss_cons (ps_expr (pecX C_law_deed (hr.mono (by decide)) rfl passX0 (pa_cons (pe_ix ix_list (pv 3) (pv 8) (fun _ _ => rfl)) (pa_cons (pv 9) (pa_cons (pv 10) (pa_cons (pv 11) pa_nil))))))
      (pss_cons (ps_if (pt_cmpR op_eq (pv 9) pe_int (nomark _))
      (pss_one (ps_dput (hu1 hr) (pv 12) (pv 10) (pv 11) rfl))
      pss_nil)
      (pss_one (ps_if (pt_cmpR op_eq (pv 9) pe_int (nomark _))
      (pss_one (ps_expr (pe_dpop1 (pv 12) (pv 10) ⟨rfl, rfl, rfl, rfl⟩)))
      pss_nil)))))
      (pss_one (ps_for PassesOwn.never rfl (pi_range1 rfl T.z_range (pa_cons pe_int pa_nil)) (pg_name (i := 13) sc_law.nd rfl (Or.inl rfl))
      (pss_one (ps_if (pt_not (pt_val (pec C_law_right (hr.mono (by decide)) rfl (pa_cons (pe_ix ix_list (pv 3) (pv 13) (fun _ _ => rfl)) (pa_cons (pe_ix ix_list (pv 4) (pv 13) (fun _ _ => rfl)) pa_nil)))))
      (pss_one (ps_ret pe_bl))
      pss_nil))))))))))))
      (pss_one (ps_ret pe_bl))))))))), ?_⟩
    refine ⟨_, rfl, a, ns, 0, rfl, hS, h63, by decide, by decide, fun c0 => ⟨_, _, rfl, rfl, (by show (0 : Int) < 8; decide), _, _, rfl, rfl, ?_⟩⟩
    dsimp only
    obtain ⟨n, en, n1, n8⟩ : ∃ n : Nat, 1 + c0 % 8 = (n : Int) ∧ 1 ≤ n ∧ n ≤ 8 := ⟨(1 + c0 % 8).toNat, by omega, by omega, by omega⟩
    rw [en]
    refine ⟨_, rfl, a, ns, rfl, hS, h63, fun rn H6 nms s6 f6 l7 hN => ?_⟩
    refine ⟨_, rfl, fun x0 dx0 nx0 ndx0 ne0 => ⟨x0, dx0, n, rfl, upd_same, fun dh0 H7 W7 b7 hdn7 => ⟨rfl, ?_⟩⟩⟩
    have s7 : Same H6 H7 := fun b o h => b7 _ _ (by rw [upd_ne (ne_of_none h nx0), upd_ne (ne_of_none h ndx0)]; exact h) (ne_of_none h nx0)
    refine ⟨_, rfl, fun x1 dx1 nx1 ndx1 ne1 => ⟨x1, dx1, n, rfl, upd_same, fun dh1 H8 W8 b8 hdn8 => ⟨rfl, (by show 2 ≤ sizeLine; decide), fun rh hrh => ?_⟩⟩⟩
    have m8 : Same H7 (upd (upd H7 dx1 (.own x1)) x1 (.ins cl.House dx1 [])) := fun b o h => by rw [upd_ne (ne_of_none h nx1), upd_ne (ne_of_none h ndx1)]; exact h
    have s8 : Same H7 H8 := fun b o h => b8 _ _ (m8 _ _ h) (ne_of_none h nx1)
    have nd01 : dh0 ≠ dh1 := by
      obtain ⟨kv, h, _⟩ := W7.dc
      exact ne_of_none (m8 _ _ h) hdn8
    have s9 := same_new hrh (.lst [.ref x0, .ref x1])
    have f9 : (upd H8 rh (.lst [.ref x0, .ref x1])) rh = some (.lst [.ref x0, .ref x1]) := upd_same
    generalize upd H8 rh (.lst [.ref x0, .ref x1]) = H9 at s9 f9 ⊢
    have W09 := (W7.same s8).same s9
    have W19 := W8.same s9
    intro dg0 hdg0
    have s10 := same_new hdg0 (.dK [])
    have f10 : (upd H9 dg0 (.dK [])) dg0 = some (.dK []) := upd_same
    have nA : dg0 ≠ dh0 := by
      obtain ⟨kv, h, _⟩ := W09.dc
      exact Ne.symm (ne_of_none h hdg0)
    have nB : dg0 ≠ dh1 := by
      obtain ⟨kv, h, _⟩ := W19.dc
      exact Ne.symm (ne_of_none h hdg0)
    generalize upd H9 dg0 (.dK []) = H10 at s10 f10 ⊢
    intro dg1 hdg1
    have s11 := same_new hdg1 (.dK [])
    have f11 : (upd H10 dg1 (.dK [])) dg1 = some (.dK []) := upd_same
    have nC : dg1 ≠ dh0 := by
      obtain ⟨kv, h, _⟩ := (W09.same s10).dc
      exact Ne.symm (ne_of_none h hdg1)
    have nD : dg1 ≠ dh1 := by
      obtain ⟨kv, h, _⟩ := (W19.same s10).dc
      exact Ne.symm (ne_of_none h hdg1)
    have nE : dg0 ≠ dg1 := ne_of_none f10 hdg1
    generalize upd H10 dg1 (.dK []) = H11 at s11 f11 ⊢
    refine ⟨(by show 2 ≤ sizeLine; decide), fun rg hrg => ?_⟩
    have s12 := same_new hrg (.lst [.ref dg0, .ref dg1])
    have f12 : (upd H11 rg (.lst [.ref dg0, .ref dg1])) rg = some (.lst [.ref dg0, .ref dg1]) := upd_same
    generalize upd H11 rg (.lst [.ref dg0, .ref dg1]) = H12 at s12 f12 ⊢
    have s912 := (s10.trans s11).trans s12
    have s612 := ((s7.trans s8).trans s9).trans s912
    have S12 := (s6.trans s612).seq hS
    have cl24 : (cutV (ns.map V.int) (some 7) (some 31)).length ≤ 24 := cut_len V.int ns (k := 7) (m := 24) (by decide) (by decide)
    obtain ⟨ys, ey, hy⟩ := cut_map V.int ns (some 7) (some 31)
    rw [ey, List.length_map] at cl24
    refine ⟨_, rfl, _, rfl, _, rfl, a, _, rfl, S12, fun rc0 hrc0 => ?_⟩
    have s13 := same_new hrc0 (.lst (cutV (ns.map V.int) (some 7) (some 31)))
    have f13 : (upd H12 rc0 (.lst (cutV (ns.map V.int) (some 7) (some 31)))) rc0 = some (.lst (ys.map V.int)) := by rw [upd_same, ey]
    generalize upd H12 rc0 (.lst (cutV (ns.map V.int) (some 7) (some 31))) = H13 at s13 f13 ⊢
    have S13 := s13.seq S12
    apply restJ (C := fun H' σ => Same H13 H' ∧ ∃ (rc : Addr) (zs : List Int), H' rc = some (.lst (zs.map V.int)) ∧ zs.length ≤ 24 ∧ σ = [some (.ref a), some (.int n), some (.ref rn), some (.ref rh), some (.ref rg), some (.ref rc), none, none, none, none, none, none, none, none])
    · intro rest
      refine ⟨_, rfl, rc0, _, rfl, .inl (SqL.of f13), rfl, _, rfl, ?_⟩
      refine ite2 (fun _ => ?h1) (fun _ => ?h2)
      case h2 =>
        generalize hH : H13 = Hw
        generalize hσ : (List.set _ _ _ : L2.St) = σ'
        exact rest Hw σ' ⟨by rw [hH]; exact same_refl _, rc0, ys, by rw [← hH]; exact f13, cl24, by rw [← hσ]; rfl⟩
      case h1 =>
        refine ⟨_, rfl, a, ns, 5, rfl, S13, h63, by decide, by decide, fun c5 => ⟨_, _, rfl, rfl, (by show (0 : Int) < 12; decide), c5 % 12, rfl, by omega, by omega, comp_range (lo := 0) (n := (c5 % 12).toNat) (fun i acc Hx => Hx = H13 ∧ ∃ zs : List Int, zs.length = i ∧ acc = zs.map V.int) (small (by omega)) ⟨rfl, [], rfl, rfl⟩ (fun i acc Hx ⟨_, zs, g1, g2⟩ => by rw [g2, List.length_map, g1]) ?_ ?_⟩⟩
        · rintro i acc Hx hi ⟨rfl, zs, g1, g2⟩ R kR
          exact ⟨_, rfl, _, rfl, _, _, rfl, rfl, a, ns, _, rfl, S13, h63, by omega, by omega, fun c => kR _ _ ⟨rfl, _, by rw [List.length_append, g1]; rfl, ints_snoc g2 _⟩⟩
        · rintro acc Hx ⟨rfl, zs, g1, g2⟩ p2 hp2
          exact rest _ _ ⟨same_new hp2 _, p2, zs, by rw [upd_same, g2], by omega, rfl⟩
    rintro H14 _ ⟨s14, rc, zs, f14, lz, rfl⟩
    have hlz : (zs.map V.int).length = zs.length := List.length_map _
    have s1314 := s13.trans s14
    have LN0 : LN H cl H14 0 n a rn rh rg rc (fun j => bif j then x1 else x0) (fun j => bif j then dh1 else dh0) (fun j => bif j then dg1 else dg0) (fun _ => []) nms zs := by
      refine ⟨fun j => ?_, fun j => ?_, fun j => Nat.le_refl _, fun j s h => (nomatch h), s1314 _ _ (s612 _ _ f6), s1314 _ _ (s912 _ _ f9), s1314 _ _ f12, f14⟩
      · cases j
        · exact ⟨(W09.same s912).same s1314, ⟨[], s1314 _ _ ((s11.trans s12) _ _ f10), .nil⟩, nA, .nil, fun g h => (nomatch h)⟩
        · exact ⟨(W19.same s912).same s1314, ⟨[], s1314 _ _ (s12 _ _ f11), .nil⟩, nD, .nil, fun g h => (nomatch h)⟩
      · cases j
        · exact ⟨nE, nB, nd01, Ne.symm nC⟩
        · exact ⟨Ne.symm nE, nC, Ne.symm nd01, Ne.symm nB⟩
    generalize hX : (fun j => bif j then x1 else x0) = X at LN0
    generalize hDH : (fun j => bif j then dh1 else dh0) = DH at LN0
    generalize hDG : (fun j => bif j then dg1 else dg0) = DG at LN0
    refine ⟨_, rfl, rc, _, rfl, .inl (SqL.of f14), _, rfl, by omega, by omega, for_range (lo := 0) (n := (((zs.map V.int).length : Nat) : Int).toNat) (fun i σ Hx => (∃ GS, LN H cl Hx i n a rn rh rg rc X DH DG GS nms zs) ∧ ∃ u6 u7 u8 u9 u10 u11 u12 u13, σ = [some (.ref a), some (.int n), some (.ref rn), some (.ref rh), some (.ref rg), some (.ref rc), u6, u7, u8, u9, u10, u11, u12, u13])
      ⟨⟨_, LN0⟩, _, _, _, _, _, _, _, _, rfl⟩ ?_ (fun σ Hx _ => q Hx)⟩
    rintro i σ Hx hi ⟨⟨GS, W⟩, u6, u7, u8, u9, u10, u11, u12, u13, rfl⟩
    have hi' : i < zs.length := by rw [hlz] at hi; simpa using hi
    refine ⟨_, rfl, _, rfl, rc, _, _, _, rfl, rfl, SqL.of W.rc, at_int (i := 0 + (i : Int)) (by omega) (by omega), _, rfl, _, _, rfl, by omega, by omega, fun c => ?_⟩
    obtain ⟨j, hj⟩ := two_or (w := c % 2) (Int.emod_nonneg _ (by decide)) (Int.emod_lt_of_pos _ (by decide))
    obtain ⟨kd, hkd⟩ := kinds_at (z := c / 2 % 6) (Int.emod_nonneg _ (by decide)) (Int.emod_lt_of_pos _ (by decide))
    refine ⟨_, rfl, _, _, rfl, rfl, (by show (0 : Int) < 2; decide), ?_⟩
    refine ⟨(by show 6 ≤ sizeLine; decide), fun l hl => ⟨_, rfl, _, _, rfl, rfl, ⟨by decide, by decide⟩, _, _, rfl, rfl, (by show (0 : Int) < 6; decide), l, _, _, _, rfl, rfl, SqL.of upd_same, hkd, ?_⟩⟩
    have sa := same_new hl (.lst [.int 0, .int 1, .int 0, .int 2, .int 0, .int 3])
    generalize upd Hx l (.lst [.int 0, .int 1, .int 0, .int 2, .int 0, .int 3]) = Ha at sa ⊢
    have Wa := W.same sa
    have j0 := Int.emod_nonneg (c / 12) (show (7 : Int) ≠ 0 by decide)
    have j1 := Int.emod_lt_of_pos (c / 12) (show (0 : Int) < 7 by decide)
    obtain ⟨nm, hnm⟩ : ∃ nm, nms[(c / 12 % 7).toNat]? = some nm := ⟨_, List.getElem?_eq_getElem (by omega)⟩
    have hN' := hN nm (List.mem_of_getElem? hnm)
    refine ⟨_, rfl, _, rfl, _, _, rfl, rfl, ⟨by decide, by decide⟩, _, _, rfl, rfl, (by show (0 : Int) < 7; decide), rn, _, _, _, rfl, rfl, SqL.of Wa.rn, atI_of (v := V.str nm) j0 rfl (by rw [List.getElem?_map, hnm]; rfl), ?_⟩
    refine ⟨_, rfl, _, _, rfl, rfl, ⟨by decide, by decide⟩, _, rfl, _, n, rfl, n1, n8, fun p g hp ha hb => ?_⟩
    have sb := same_new hp (.tup (gv g))
    have eb : (upd Ha p (.tup (gv g))) p = some (.tup (gv g)) := upd_same
    generalize upd Ha p (.tup (gv g)) = Hb at sb eb ⊢
    have Wb := Wa.same sb
    have Lb := Wb.hg j
    have hlen := Wb.len j
    obtain ⟨kvs, hd, G⟩ := Lb.D
    have glen := G.len
    refine ⟨_, rfl, _, rfl, rg, _, _, _, rfl, rfl, SqL.of Wb.rg, two_at DG hj, ?_⟩
    apply restJ (C := fun H' σ => (∃ GS', LN H cl H' (i + 1) n a rn rh rg rc X DH DG GS' nms zs) ∧ ∃ u13, σ = [some (.ref a), some (.int n), some (.ref rn), some (.ref rh), some (.ref rg), some (.ref rc), some (.int (0 + (i : Int))), some (.int c), some (.int (c % 2)), some (.int kd), some (.str nm), some (.ref p), some (.ref (DG j)), u13])
    · intro rest
      refine ⟨_, rfl, _, rfl, DG j, _, rfl, DGet.k (k := Sum.inr nm) hd, _, rfl, rfl, rfl, _, rfl, ?_⟩
      refine ite2 (fun hc => ?_) (fun hc => ?_)
      · have href := (din_iff G).mp (of_decide_eq_true hc)
        refine ⟨_, rfl, _, rfl, rh, _, _, _, rfl, rfl, SqL.of Wb.rh, two_at X hj, _, rfl, _, rfl, _, rfl, X j, DH j, p, n, GS j, nm, kd, g, rfl, Lb.W, hN', by omega, eb, n1, n8, Lb.within, href, fun Hc sc => ⟨_, rfl, iteF ?_⟩⟩
        generalize hσ : (List.set _ _ _ : L2.St) = σ'
        exact rest Hc σ' ⟨⟨GS, (Wb.same sc).more⟩, _, by rw [← hσ]; rfl⟩
      · have hno : ¬ (nm ∈ gnames (GS j) ↔ kd = 0) := fun h => hc (decide_eq_true ((din_iff G).mpr h))
        refine ⟨_, rfl, _, rfl, rh, _, _, _, rfl, rfl, SqL.of Wb.rh, two_at X hj, _, rfl, _, rfl, _, rfl, X j, DH j, p, n, GS j, nm, kd, g, rfl, Lb.W, hN', by omega, eb, n1, n8, Lb.within, fun h => absurd h hno, fun _ Hc Wc bc => ?_⟩
        have hdc := bc _ _ hd Lb.ne
        obtain ⟨kvh, he, _⟩ := Lb.W.dc
        have pc := bc _ _ eb (ne_of eb he (fun z => by cases z))
        unfold aft at Wc
        refine ⟨_, rfl, rfl, _, rfl, ?_⟩
        by_cases k0 : kd = 0
        · subst k0
          rw [if_pos rfl] at Wc
          have hnew : ¬ nm ∈ gnames (GS j) := fun h => hno ⟨fun _ => rfl, fun _ => h⟩
          refine iteT ⟨_, rfl, _, rfl, _, rfl, DG j, _, rfl, DPut.k (k := Sum.inr nm) hdc (small1000 (by omega)), ?_⟩
          rw [putK_new _ (G.val_none hnew)]
          generalize ed : upd Hc (DG j) (.dK (kvs ++ [(Sum.inr nm, .ref p)])) = Hd
          have bd : But (DG j) Hc Hd := fun b o h nb => by rw [← ed, upd_ne nb]; exact h
          have Wd := Wc.but bd hdc (Ne.symm Lb.ne)
          have b2 : But2h (DG j) (DH j) Hb Hd := fun b o h na nb => bd _ _ (bc _ _ h nb) na
          have Ld := Lb.add G hnew eb ha hb (by rw [← ed]; exact upd_same) b2 Wd
          refine ⟨_, rfl, rfl, _, rfl, iteF ?_⟩
          exact rest _ _ ⟨⟨_, Wb.deed Ld b2 (by rw [List.length_append]; show _ + 1 ≤ _; omega) (fun s hs => by
            unfold gnames at hs
            rw [List.map_append] at hs
            rcases List.mem_append.mp hs with h | h
            · exact Wb.nm j s h
            · rw [List.mem_singleton.mp h]; exact hN')⟩, _, rfl⟩
        · rw [if_neg k0] at Wc
          have hin : nm ∈ gnames (GS j) := Classical.byContradiction fun h => hno ⟨fun h' => absurd h' h, fun h' => absurd h' k0⟩
          refine ite2 (fun h => absurd (V.int.inj (of_decide_eq_true h)) k0) (fun _ => ?_)
          refine ⟨_, rfl, rfl, _, rfl, ?_⟩
          by_cases k1 : kd = 1
          · subst k1
            rw [if_pos rfl] at Wc
            obtain ⟨pv, gg, _, hval, _⟩ := G.val_some hin
            refine iteT ⟨_, rfl, DG j, rfl, .inl ⟨_, .inl hdc⟩, _, rfl, kvs, Sum.inr nm, _, hdc, rfl, hval, ?_⟩
            generalize ed : upd Hc (DG j) (.dK (dropK kvs (Sum.inr nm))) = Hd
            have bd : But (DG j) Hc Hd := fun b o h nb => by rw [← ed, upd_ne nb]; exact h
            have Wd := Wc.but bd hdc (Ne.symm Lb.ne)
            have b2 : But2h (DG j) (DH j) Hb Hd := fun b o h na nb => bd _ _ (bc _ _ h nb) na
            have Ld := Lb.drop G (by rw [← ed]; exact upd_same) b2 Wd
            have dl := gdrop_len nm (GS j)
            exact rest _ _ ⟨⟨_, Wb.deed Ld b2 (by omega) (fun s hs => by
              obtain ⟨g', hg', e⟩ := List.mem_map.mp hs
              rw [← e]
              exact Wb.nm j _ (List.mem_map_of_mem (f := fun x : Str × Gp => x.1) (gdrop_mem hg')))⟩, _, rfl⟩
          · rw [if_neg k1] at Wc
            refine ite2 (fun h => absurd (V.int.inj (of_decide_eq_true h)) k1) (fun _ => ?_)
            have b2 : But2h (DG j) (DH j) Hb Hc := fun b o h na nb => bc _ _ h nb
            have Ld : HG cl Hc n (X j) (DH j) (DG j) (GS j) := ⟨Wc, ⟨kvs, hdc, G.keep (Lb.tup b2)⟩, Lb.ne, Lb.nd, Lb.wi⟩
            exact rest _ _ ⟨⟨_, Wb.deed Ld b2 (by omega) (Wb.nm j)⟩, _, rfl⟩
    rintro Hd _ ⟨⟨GS', Wd⟩, u13', rfl⟩
    refine ⟨2, rfl, by decide, by decide, for_range (lo := 0) (n := 2) (fun _ σ Hy => LN H cl Hy (i + 1) n a rn rh rg rc X DH DG GS' nms zs ∧ ∃ u13, σ = [some (.ref a), some (.int n), some (.ref rn), some (.ref rh), some (.ref rg), some (.ref rc), some (.int (0 + (i : Int))), some (.int c), some (.int (c % 2)), some (.int kd), some (.str nm), some (.ref p), some (.ref (DG j)), u13]) ⟨Wd, _, rfl⟩ ?_ ?_⟩
    · rintro k σ Hy hk ⟨Wy, u13, rfl⟩
      obtain ⟨j', hj'⟩ := two_or (w := 0 + (k : Int)) (by omega) (by omega)
      have hlen' := Wy.len j'
      exact ⟨_, rfl, _, rfl, rh, _, _, _, rfl, rfl, SqL.of Wy.rh, two_at X hj', _, rfl, _, rfl, rg, _, _, _, rfl, rfl, SqL.of Wy.rg, two_at DG hj', X j', DH j', DG j', n, GS' j', rfl, Wy.hg j', Wy.nm j', by omega, fun Hz sz => ⟨_, rfl, iteF ⟨Wy.same sz, _, rfl⟩⟩⟩
    · rintro σ Hy ⟨Wy, u13, rfl⟩
      exact ⟨⟨GS', Wy⟩, _, _, _, _, _, _, _, _, rfl⟩
end
theorem all_mk {l : PySem.W.OpenLaw} {w : World} {K : PySem.W.Frag} {h : Heap} {mg : Str → Option Value} {fa : Addr} (X : K.In h) (G : h.Ns mainGlobals mg) (hfa : mg "law" = some (.ref fa))
    {f1 : Addr} {od1 an1 : Option Addr} {sl1 : Array (Option Value)} {oc1 kV1 dc1 pm1 cd1 ct1 : Value}
    {f2 : Addr} {od2 an2 : Option Addr} {sl2 : Array (Option Value)} {oc2 kV2 dc2 pm2 cd2 ct2 : Value}
    {f3 : Addr} {od3 an3 : Option Addr} {sl3 : Array (Option Value)} {oc3 kV3 dc3 pm3 cd3 ct3 : Value}
    {f4 : Addr} {od4 an4 : Option Addr} {sl4 : Array (Option Value)} {oc4 kV4 dc4 pm4 cd4 ct4 : Value}
    {f5 : Addr} {od5 an5 : Option Addr} {sl5 : Array (Option Value)} {oc5 kV5 dc5 pm5 cd5 ct5 : Value}
    {f6 : Addr} {od6 an6 : Option Addr} {sl6 : Array (Option Value)} {oc6 kV6 dc6 pm6 cd6 ct6 : Value}
    {f7 : Addr} {od7 an7 : Option Addr} {sl7 : Array (Option Value)} {oc7 kV7 dc7 pm7 cd7 ct7 : Value}
    {f8 : Addr} {od8 an8 : Option Addr} {sl8 : Array (Option Value)} {oc8 kV8 dc8 pm8 cd8 ct8 : Value}
    {f9 : Addr} {od9 an9 : Option Addr} {sl9 : Array (Option Value)} {oc9 kV9 dc9 pm9 cd9 ct9 : Value}
    {f10 : Addr} {od10 an10 : Option Addr} {sl10 : Array (Option Value)} {oc10 kV10 dc10 pm10 cd10 ct10 : Value}
    {f11 : Addr} {od11 an11 : Option Addr} {sl11 : Array (Option Value)} {oc11 kV11 dc11 pm11 cd11 ct11 : Value}
    {f12 : Addr} {od12 an12 : Option Addr} {sl12 : Array (Option Value)} {oc12 kV12 dc12 pm12 cd12 ct12 : Value}
    {f13 : Addr} {od13 an13 : Option Addr} {sl13 : Array (Option Value)} {oc13 kV13 dc13 pm13 cd13 ct13 : Value}
    {f14 : Addr} {od14 an14 : Option Addr} {sl14 : Array (Option Value)} {oc14 kV14 dc14 pm14 cd14 ct14 : Value}
    {f15 : Addr} {od15 an15 : Option Addr} {sl15 : Array (Option Value)} {oc15 kV15 dc15 pm15 cd15 ct15 : Value}
    {f16 : Addr} {od16 an16 : Option Addr} {sl16 : Array (Option Value)} {oc16 kV16 dc16 pm16 cd16 ct16 : Value}
    {f17 : Addr} {od17 an17 : Option Addr} {sl17 : Array (Option Value)} {oc17 kV17 dc17 pm17 cd17 ct17 : Value}
    {f18 : Addr} {od18 an18 : Option Addr} {sl18 : Array (Option Value)} {oc18 kV18 dc18 pm18 cd18 ct18 : Value}
    {f19 : Addr} {od19 an19 : Option Addr} {sl19 : Array (Option Value)} {oc19 kV19 dc19 pm19 cd19 ct19 : Value}
    {f20 : Addr} {od20 an20 : Option Addr} {sl20 : Array (Option Value)} {oc20 kV20 dc20 pm20 cd20 ct20 : Value}
    {f21 : Addr} {od21 an21 : Option Addr} {sl21 : Array (Option Value)} {oc21 kV21 dc21 pm21 cd21 ct21 : Value}
    {f22 : Addr} {od22 an22 : Option Addr} {sl22 : Array (Option Value)} {oc22 kV22 dc22 pm22 cd22 ct22 : Value}
    {f23 : Addr} {od23 an23 : Option Addr} {sl23 : Array (Option Value)} {oc23 kV23 dc23 pm23 cd23 ct23 : Value} {T23 : Addr} {ot23 : Value} {odt23 : Option Addr} {nt23 : Nat} {slt23 : Array (Option Value)}
    {f24 : Addr} {od24 an24 : Option Addr} {sl24 : Array (Option Value)} {oc24 kV24 dc24 pm24 cd24 ct24 : Value}
    {f25 : Addr} {od25 an25 : Option Addr} {sl25 : Array (Option Value)} {oc25 kV25 dc25 pm25 cd25 ct25 : Value}
    {f26 : Addr} {od26 an26 : Option Addr} {sl26 : Array (Option Value)} {oc26 kV26 dc26 pm26 cd26 ct26 : Value}
    {f27 : Addr} {od27 an27 : Option Addr} {sl27 : Array (Option Value)} {oc27 kV27 dc27 pm27 cd27 ct27 : Value}
    {f28 : Addr} {od28 an28 : Option Addr} {sl28 : Array (Option Value)} {oc28 kV28 dc28 pm28 cd28 ct28 : Value}
    {f29 : Addr} {od29 an29 : Option Addr} {sl29 : Array (Option Value)} {oc29 kV29 dc29 pm29 cd29 ct29 : Value}
    {ca1 : Addr} (g1 : PySem.W.nsIn K mainGlobals "WaitError" = some (some (.ref ca1)))
    {ca2 : Addr} (g2 : PySem.W.nsIn K mainGlobals "NoLink" = some (some (.ref ca2)))
    {ca3 : Addr} (g3 : PySem.W.nsIn K mainGlobals "NoRoom" = some (some (.ref ca3)))
    {ca4 : Addr} (g4 : PySem.W.nsIn K mainGlobals "NoTime" = some (some (.ref ca4)))
    {ca5 : Addr} (g5 : PySem.W.nsIn K mainGlobals "NoName" = some (some (.ref ca5)))
    {ca6 : Addr} (g6 : PySem.W.nsIn K mainGlobals "NoKeep" = some (some (.ref ca6)))
    {ca7 : Addr} (g7 : PySem.W.nsIn K mainGlobals "NoRow" = some (some (.ref ca7)))
    {ca8 : Addr} (g8 : PySem.W.nsIn K mainGlobals "House" = some (some (.ref ca8)))
    (a1 : PySem.W.nsIn K mainGlobals "bounds_of" = some (some (.ref f1))) (l1 : K.lookup f1 = some ⟨oc1, od1, .func (PySem.W.fnOf "bounds_of" "bounds_of" (defArgs s_bounds_of) (defBody s_bounds_of) (defScope s_bounds_of) .none kV1 dc1 pm1 an1 cd1 ct1), sl1⟩) (c1 : PySem.W.codeIn K cd1 "bounds_of" = true) (k1 : PySem.W.keepIn K (.ref f1) = true)
    (a2 : PySem.W.nsIn K mainGlobals "wide" = some (some (.ref f2))) (l2 : K.lookup f2 = some ⟨oc2, od2, .func (PySem.W.fnOf "wide" "wide" (defArgs s_wide) (defBody s_wide) (defScope s_wide) .none kV2 dc2 pm2 an2 cd2 ct2), sl2⟩) (c2 : PySem.W.codeIn K cd2 "wide" = true) (k2 : PySem.W.keepIn K (.ref f2) = true)
    (a3 : PySem.W.nsIn K mainGlobals "wide_row" = some (some (.ref f3))) (l3 : K.lookup f3 = some ⟨oc3, od3, .func (PySem.W.fnOf "wide_row" "wide_row" (defArgs s_wide_row) (defBody s_wide_row) (defScope s_wide_row) .none kV3 dc3 pm3 an3 cd3 ct3), sl3⟩) (c3 : PySem.W.codeIn K cd3 "wide_row" = true) (k3 : PySem.W.keepIn K (.ref f3) = true)
    (a4 : PySem.W.nsIn K mainGlobals "table_of" = some (some (.ref f4))) (l4 : K.lookup f4 = some ⟨oc4, od4, .func (PySem.W.fnOf "table_of" "table_of" (defArgs s_table_of) (defBody s_table_of) (defScope s_table_of) .none kV4 dc4 pm4 an4 cd4 ct4), sl4⟩) (c4 : PySem.W.codeIn K cd4 "table_of" = true) (k4 : PySem.W.keepIn K (.ref f4) = true)
    (a5 : PySem.W.nsIn K mainGlobals "held" = some (some (.ref f5))) (l5 : K.lookup f5 = some ⟨oc5, od5, .func (PySem.W.fnOf "held" "held" (defArgs s_held) (defBody s_held) (defScope s_held) .none kV5 dc5 pm5 an5 cd5 ct5), sl5⟩) (c5 : PySem.W.codeIn K cd5 "held" = true) (k5 : PySem.W.keepIn K (.ref f5) = true)
    (a6 : PySem.W.nsIn K mainGlobals "shuts" = some (some (.ref f6))) (l6 : K.lookup f6 = some ⟨oc6, od6, .func (PySem.W.fnOf "shuts" "shuts" (defArgs s_shuts) (defBody s_shuts) (defScope s_shuts) .none kV6 dc6 pm6 an6 cd6 ct6), sl6⟩) (c6 : PySem.W.codeIn K cd6 "shuts" = true) (k6 : PySem.W.keepIn K (.ref f6) = true)
    (a7 : PySem.W.nsIn K mainGlobals "held_row" = some (some (.ref f7))) (l7 : K.lookup f7 = some ⟨oc7, od7, .func (PySem.W.fnOf "held_row" "held_row" (defArgs s_held_row) (defBody s_held_row) (defScope s_held_row) .none kV7 dc7 pm7 an7 cd7 ct7), sl7⟩) (c7 : PySem.W.codeIn K cd7 "held_row" = true) (k7 : PySem.W.keepIn K (.ref f7) = true)
    (a8 : PySem.W.nsIn K mainGlobals "total" = some (some (.ref f8))) (l8 : K.lookup f8 = some ⟨oc8, od8, .func (PySem.W.fnOf "total" "total" (defArgs s_total) (defBody s_total) (defScope s_total) .none kV8 dc8 pm8 an8 cd8 ct8), sl8⟩) (c8 : PySem.W.codeIn K cd8 "total" = true) (k8 : PySem.W.keepIn K (.ref f8) = true)
    (a9 : PySem.W.nsIn K mainGlobals "lesser" = some (some (.ref f9))) (l9 : K.lookup f9 = some ⟨oc9, od9, .func (PySem.W.fnOf "lesser" "lesser" (defArgs s_lesser) (defBody s_lesser) (defScope s_lesser) .none kV9 dc9 pm9 an9 cd9 ct9), sl9⟩) (c9 : PySem.W.codeIn K cd9 "lesser" = true) (k9 : PySem.W.keepIn K (.ref f9) = true)
    (a10 : PySem.W.nsIn K mainGlobals "all_bounds" = some (some (.ref f10))) (l10 : K.lookup f10 = some ⟨oc10, od10, .func (PySem.W.fnOf "all_bounds" "all_bounds" (defArgs s_all_bounds) (defBody s_all_bounds) (defScope s_all_bounds) .none kV10 dc10 pm10 an10 cd10 ct10), sl10⟩) (c10 : PySem.W.codeIn K cd10 "all_bounds" = true) (k10 : PySem.W.keepIn K (.ref f10) = true)
    (a11 : PySem.W.nsIn K mainGlobals "_law_cell" = some (some (.ref f11))) (l11 : K.lookup f11 = some ⟨oc11, od11, .func (PySem.W.fnOf "_law_cell" "_law_cell" (defArgs s_law_cell) (defBody s_law_cell) (defScope s_law_cell) .none kV11 dc11 pm11 an11 cd11 ct11), sl11⟩) (c11 : PySem.W.codeIn K cd11 "_law_cell" = true) (k11 : PySem.W.keepIn K (.ref f11) = true)
    (a12 : PySem.W.nsIn K mainGlobals "_law_whole" = some (some (.ref f12))) (l12 : K.lookup f12 = some ⟨oc12, od12, .func (PySem.W.fnOf "_law_whole" "_law_whole" (defArgs s_law_whole) (defBody s_law_whole) (defScope s_law_whole) .none kV12 dc12 pm12 an12 cd12 ct12), sl12⟩) (c12 : PySem.W.codeIn K cd12 "_law_whole" = true) (k12 : PySem.W.keepIn K (.ref f12) = true)
    (a13 : PySem.W.nsIn K mainGlobals "_law_spread" = some (some (.ref f13))) (l13 : K.lookup f13 = some ⟨oc13, od13, .func (PySem.W.fnOf "_law_spread" "_law_spread" (defArgs s_law_spread) (defBody s_law_spread) (defScope s_law_spread) .none kV13 dc13 pm13 an13 cd13 ct13), sl13⟩) (c13 : PySem.W.codeIn K cd13 "_law_spread" = true) (k13 : PySem.W.keepIn K (.ref f13) = true)
    (a14 : PySem.W.nsIn K mainGlobals "_law_big" = some (some (.ref f14))) (l14 : K.lookup f14 = some ⟨oc14, od14, .func (PySem.W.fnOf "_law_big" "_law_big" (defArgs s_law_big) (defBody s_law_big) (defScope s_law_big) .none kV14 dc14 pm14 an14 cd14 ct14), sl14⟩) (c14 : PySem.W.codeIn K cd14 "_law_big" = true) (k14 : PySem.W.keepIn K (.ref f14) = true)
    (a15 : PySem.W.nsIn K mainGlobals "_law_names" = some (some (.ref f15))) (l15 : K.lookup f15 = some ⟨oc15, od15, .func (PySem.W.fnOf "_law_names" "_law_names" (defArgs s_law_names) (defBody s_law_names) (defScope s_law_names) .none kV15 dc15 pm15 an15 cd15 ct15), sl15⟩) (c15 : PySem.W.codeIn K cd15 "_law_names" = true) (k15 : PySem.W.keepIn K (.ref f15) = true)
    (a16 : PySem.W.nsIn K mainGlobals "_law_gap" = some (some (.ref f16))) (l16 : K.lookup f16 = some ⟨oc16, od16, .func (PySem.W.fnOf "_law_gap" "_law_gap" (defArgs s_law_gap) (defBody s_law_gap) (defScope s_law_gap) .none kV16 dc16 pm16 an16 cd16 ct16), sl16⟩) (c16 : PySem.W.codeIn K cd16 "_law_gap" = true) (k16 : PySem.W.keepIn K (.ref f16) = true)
    (a17 : PySem.W.nsIn K mainGlobals "_law_added" = some (some (.ref f17))) (l17 : K.lookup f17 = some ⟨oc17, od17, .func (PySem.W.fnOf "_law_added" "_law_added" (defArgs s_law_added) (defBody s_law_added) (defScope s_law_added) .none kV17 dc17 pm17 an17 cd17 ct17), sl17⟩) (c17 : PySem.W.codeIn K cd17 "_law_added" = true) (k17 : PySem.W.keepIn K (.ref f17) = true)
    (a18 : PySem.W.nsIn K mainGlobals "_law_deed" = some (some (.ref f18))) (l18 : K.lookup f18 = some ⟨oc18, od18, .func (PySem.W.fnOf "_law_deed" "_law_deed" (defArgs s_law_deed) (defBody s_law_deed) (defScope s_law_deed) .none kV18 dc18 pm18 an18 cd18 ct18), sl18⟩) (c18 : PySem.W.codeIn K cd18 "_law_deed" = true) (k18 : PySem.W.keepIn K (.ref f18) = true)
    (a19 : PySem.W.nsIn K mainGlobals "_law_refused" = some (some (.ref f19))) (l19 : K.lookup f19 = some ⟨oc19, od19, .func (PySem.W.fnOf "_law_refused" "_law_refused" (defArgs s_law_refused) (defBody s_law_refused) (defScope s_law_refused) .none kV19 dc19 pm19 an19 cd19 ct19), sl19⟩) (c19 : PySem.W.codeIn K cd19 "_law_refused" = true) (k19 : PySem.W.keepIn K (.ref f19) = true)
    (a20 : PySem.W.nsIn K mainGlobals "_law_right" = some (some (.ref f20))) (l20 : K.lookup f20 = some ⟨oc20, od20, .func (PySem.W.fnOf "_law_right" "_law_right" (defArgs s_law_right) (defBody s_law_right) (defScope s_law_right) .none kV20 dc20 pm20 an20 cd20 ct20), sl20⟩) (c20 : PySem.W.codeIn K cd20 "_law_right" = true) (k20 : PySem.W.keepIn K (.ref f20) = true)
    (a21 : PySem.W.nsIn K mainGlobals "law" = some (some (.ref f21))) (l21 : K.lookup f21 = some ⟨oc21, od21, .func (PySem.W.fnOf "law" "law" (defArgs s_law) (defBody s_law) (defScope s_law) .none kV21 dc21 pm21 an21 cd21 ct21), sl21⟩) (c21 : PySem.W.codeIn K cd21 "law" = true) (k21 : PySem.W.keepIn K (.ref f21) = true)
    (a22 : PySem.W.findIn K (.ref ca8) "__init__" = some (some (.ref f22))) (i22 : PySem.W.isFn K (.ref f22) = true) (l22 : K.lookup f22 = some ⟨oc22, od22, .func (PySem.W.fnOf "__init__" "House.__init__" (defArgs s_House___init__) (defBody s_House___init__) (defScope s_House___init__) .none kV22 dc22 pm22 an22 cd22 ct22), sl22⟩) (c22 : PySem.W.codeIn K cd22 "House.__init__" = true) (k22 : PySem.W.keepIn K (.ref f22) = true)
    (a23 : PySem.W.findIn K (.ref ca8) "add" = some (some (.ref f23))) (i23 : PySem.W.isFn K (.ref f23) = true) (l23 : K.lookup f23 = some ⟨oc23, od23, .func (PySem.W.fnOf "add" "House.add" (defArgs s_House_add) (defBody s_House_add) (defScope s_House_add) (.ref T23) kV23 dc23 pm23 an23 cd23 ct23), sl23⟩) (c23 : PySem.W.codeIn K cd23 "House.add" = true) (k23 : PySem.W.keepIn K (.ref f23) = true) (t23 : K.lookup T23 = some ⟨ot23, odt23, .seq #[.none, .none] nt23, slt23⟩)
    (a24 : PySem.W.findIn K (.ref ca8) "drop" = some (some (.ref f24))) (i24 : PySem.W.isFn K (.ref f24) = true) (l24 : K.lookup f24 = some ⟨oc24, od24, .func (PySem.W.fnOf "drop" "House.drop" (defArgs s_House_drop) (defBody s_House_drop) (defScope s_House_drop) .none kV24 dc24 pm24 an24 cd24 ct24), sl24⟩) (c24 : PySem.W.codeIn K cd24 "House.drop" = true) (k24 : PySem.W.keepIn K (.ref f24) = true)
    (a25 : PySem.W.findIn K (.ref ca8) "need" = some (some (.ref f25))) (i25 : PySem.W.isFn K (.ref f25) = true) (l25 : K.lookup f25 = some ⟨oc25, od25, .func (PySem.W.fnOf "need" "House.need" (defArgs s_House_need) (defBody s_House_need) (defScope s_House_need) .none kV25 dc25 pm25 an25 cd25 ct25), sl25⟩) (c25 : PySem.W.codeIn K cd25 "House.need" = true) (k25 : PySem.W.keepIn K (.ref f25) = true)
    (a26 : PySem.W.findIn K (.ref ca8) "names" = some (some (.ref f26))) (i26 : PySem.W.isFn K (.ref f26) = true) (l26 : K.lookup f26 = some ⟨oc26, od26, .func (PySem.W.fnOf "names" "House.names" (defArgs s_House_names) (defBody s_House_names) (defScope s_House_names) .none kV26 dc26 pm26 an26 cd26 ct26), sl26⟩) (c26 : PySem.W.codeIn K cd26 "House.names" = true) (k26 : PySem.W.keepIn K (.ref f26) = true)
    (a27 : PySem.W.findIn K (.ref ca8) "gap" = some (some (.ref f27))) (i27 : PySem.W.isFn K (.ref f27) = true) (l27 : K.lookup f27 = some ⟨oc27, od27, .func (PySem.W.fnOf "gap" "House.gap" (defArgs s_House_gap) (defBody s_House_gap) (defScope s_House_gap) .none kV27 dc27 pm27 an27 cd27 ct27), sl27⟩) (c27 : PySem.W.codeIn K cd27 "House.gap" = true) (k27 : PySem.W.keepIn K (.ref f27) = true)
    (a28 : PySem.W.findIn K (.ref ca8) "table" = some (some (.ref f28))) (i28 : PySem.W.isFn K (.ref f28) = true) (l28 : K.lookup f28 = some ⟨oc28, od28, .func (PySem.W.fnOf "table" "House.table" (defArgs s_House_table) (defBody s_House_table) (defScope s_House_table) .none kV28 dc28 pm28 an28 cd28 ct28), sl28⟩) (c28 : PySem.W.codeIn K cd28 "House.table" = true) (k28 : PySem.W.keepIn K (.ref f28) = true)
    (a29 : PySem.W.findIn K (.ref ca8) "idle" = some (some (.ref f29))) (i29 : PySem.W.isFn K (.ref f29) = true) (l29 : K.lookup f29 = some ⟨oc29, od29, .func (PySem.W.fnOf "idle" "House.idle" (defArgs s_House_idle) (defBody s_House_idle) (defScope s_House_idle) .none kV29 dc29 pm29 an29 cd29 ct29), sl29⟩) (c29 : PySem.W.codeIn K cd29 "House.idle" = true) (k29 : PySem.W.keepIn K (.ref f29) = true)
    (x_NoName : PySem.W.excIn K ca5 VB "ValueError.__new__" = true)
    (k0_NoName : PySem.W.findIn K (.ref ca5) "__getattribute__" = some (some (.builtin "BaseException.__getattribute__")))
    (k1_NoName : PySem.W.findIn K (.ref ca5) "__getattr__" = some none)
    (k2_NoName : PySem.W.findIn K (.ref ca5) "__class__" = some (some (.builtin "object.__class__")))
    (k3_NoName : PySem.W.mroIn K ca5 (.type "BaseException") = some true)
    (k4_NoName : PySem.W.mroIn K ca5 (.type "object") = some true)
    (k5_NoName : PySem.W.hasDictIn K ca5 = true)
    (h0_WaitError : PySem.W.typeIn K (.ref ca1) = some (.type "type"))
    (h1_WaitError : PySem.W.hasDictIn K ca1 = true)
    (h2_WaitError : PySem.W.mroIn K ca1 (.type "BaseException") = some true)
    (pg_House : PySem.W.plainGet K ca8 Str.empty = true)
    (hd_House : PySem.W.hasDictIn K ca8 = true)
    (po_House : PySem.W.plainOver K ca8 = true)
    (sa_House : PySem.W.findIn K (.ref ca8) "__setattr__" = some (some (.builtin "object.__setattr__")))
    (mk_House : PySem.W.makesIn K ca8 = true)
    (kc_House : PySem.W.keepIn K (.ref ca8) = true)
    (n_House_count : PySem.W.findIn K (.ref ca8) "count" = some none)
    (n_House_gaps : PySem.W.findIn K (.ref ca8) "gaps" = some none)
    (sub_W : PySem.W.subIn K (.ref ca5) (.ref ca1) = some true)
    (is_V : PySem.W.kitOne K (.ref ca5) (.type "ValueError") = some true)
    (is_N : PySem.W.kitOne K (.ref ca5) (.ref ca5) = some true)
    (no_T : PySem.W.kitAny K (.ref ca5) [.ref ca2, .ref ca3, .ref ca4, .ref ca6, .ref ca7] = some false)
    (z1 : PySem.W.nsIn K mainGlobals "ValueError" = some none)
    (z2 : PySem.W.nsIn K mainGlobals "bool" = some none)
    (z3 : PySem.W.nsIn K mainGlobals "dict" = some none)
    (z4 : PySem.W.nsIn K mainGlobals "int" = some none)
    (z5 : PySem.W.nsIn K mainGlobals "isinstance" = some none)
    (z6 : PySem.W.nsIn K mainGlobals "len" = some none)
    (z7 : PySem.W.nsIn K mainGlobals "list" = some none)
    (z8 : PySem.W.nsIn K mainGlobals "min" = some none)
    (z9 : PySem.W.nsIn K mainGlobals "range" = some none)
    (z10 : PySem.W.nsIn K mainGlobals "tuple" = some none)
    : ∃ fd : FuncData, (∀ (s : Shared) (v : Value), BindsTo s fd ⟨[v], []⟩ [("_law_script", v)]) ∧ ∀ base : Heap, K.In base → base.Ns mainGlobals mg → FnOk l.prog w K mg base CX0 9 fa fd ["_law_script"] (sp_law K) := by
  have e := hfa.symm.trans (PySem.W.mg_of X G a21)
  cases e
  let cl : Cl := ⟨ca1, ca2, ca3, ca4, ca5, ca6, ca7, ca8⟩
  have T : Txt K mg cl := ⟨PySem.W.mg_none_of X G z1, PySem.W.mg_none_of X G z2, PySem.W.mg_none_of X G z3, PySem.W.mg_none_of X G z4, PySem.W.mg_none_of X G z5, PySem.W.mg_none_of X G z6, PySem.W.mg_none_of X G z7, PySem.W.mg_none_of X G z8, PySem.W.mg_none_of X G z9, PySem.W.mg_none_of X G z10, PySem.W.mg_of X G g1, PySem.W.mg_of X G g2, PySem.W.mg_of X G g3, PySem.W.mg_of X G g4, PySem.W.mg_of X G g5, PySem.W.mg_of X G g6, PySem.W.mg_of X G g7, PySem.W.mg_of X G g8, x_NoName, ⟨k0_NoName, k1_NoName, k2_NoName, k3_NoName, k4_NoName, cls_of_dict k5_NoName⟩, ⟨h0_WaitError, cls_of_dict h1_WaitError, h2_WaitError⟩, ⟨pg_House, hd_House, po_House, sa_House⟩, n_House_count, n_House_gaps, sub_W, is_V, is_N, no_T⟩
  have F1 := fun_mk (st := s_bounds_of) l1 c1 k1
  have b1 := F1.binds (ps := ["gap"]) fun _ _ _ _ _ _ us hl => by obtain ⟨_, rfl⟩ := lenE1 hl; rfl
  have F2 := fun_mk (st := s_wide) l2 c2 k2
  have b2 := F2.binds (ps := ["count"]) fun _ _ _ _ _ _ us hl => by obtain ⟨_, rfl⟩ := lenE1 hl; rfl
  have F3 := fun_mk (st := s_wide_row) l3 c3 k3
  have b3 := F3.binds (ps := ["count", "a"]) fun _ _ _ _ _ _ us hl => by obtain ⟨_, _, rfl⟩ := lenE2 hl; rfl
  have F4 := fun_mk (st := s_table_of) l4 c4 k4
  have b4 := F4.binds (ps := ["count", "bounds"]) fun _ _ _ _ _ _ us hl => by obtain ⟨_, _, rfl⟩ := lenE2 hl; rfl
  have F5 := fun_mk (st := s_held) l5 c5 k5
  have b5 := F5.binds (ps := ["table", "bound"]) fun _ _ _ _ _ _ us hl => by obtain ⟨_, _, rfl⟩ := lenE2 hl; rfl
  have F6 := fun_mk (st := s_shuts) l6 c6 k6
  have b6 := F6.binds (ps := ["bound", "table"]) fun _ _ _ _ _ _ us hl => by obtain ⟨_, _, rfl⟩ := lenE2 hl; rfl
  have F7 := fun_mk (st := s_held_row) l7 c7 k7
  have b7 := F7.binds (ps := ["table", "a", "bound"]) fun _ _ _ _ _ _ us hl => by obtain ⟨_, _, _, rfl⟩ := lenE3 hl; rfl
  have F8 := fun_mk (st := s_total) l8 c8 k8
  have b8 := F8.binds (ps := ["one", "other"]) fun _ _ _ _ _ _ us hl => by obtain ⟨_, _, rfl⟩ := lenE2 hl; rfl
  have F9 := fun_mk (st := s_lesser) l9 c9 k9
  have b9 := F9.binds (ps := ["one", "other"]) fun _ _ _ _ _ _ us hl => by obtain ⟨_, _, rfl⟩ := lenE2 hl; rfl
  have F10 := fun_mk (st := s_all_bounds) l10 c10 k10
  have b10 := F10.binds (ps := ["gaps"]) fun _ _ _ _ _ _ us hl => by obtain ⟨_, rfl⟩ := lenE1 hl; rfl
  have F11 := fun_mk (st := s_law_cell) l11 c11 k11
  have b11 := F11.binds (ps := ["_law_script", "_law_k"]) fun _ _ _ _ _ _ us hl => by obtain ⟨_, _, rfl⟩ := lenE2 hl; rfl
  have F12 := fun_mk (st := s_law_whole) l12 c12 k12
  have b12 := F12.binds (ps := ["_law_found"]) fun _ _ _ _ _ _ us hl => by obtain ⟨_, rfl⟩ := lenE1 hl; rfl
  have F13 := fun_mk (st := s_law_spread) l13 c13 k13
  have b13 := F13.binds (ps := ["_law_cell_here", "_law_k"]) fun _ _ _ _ _ _ us hl => by obtain ⟨_, _, rfl⟩ := lenE2 hl; rfl
  have F14 := fun_mk (st := s_law_big) l14 c14 k14
  have b14 := F14.binds (ps := ["_law_cell_here"]) fun _ _ _ _ _ _ us hl => by obtain ⟨_, rfl⟩ := lenE1 hl; rfl
  have F15 := fun_mk (st := s_law_names) l15 c15 k15
  have b15 := F15.binds (ps := ["_law_script"]) fun _ _ _ _ _ _ us hl => by obtain ⟨_, rfl⟩ := lenE1 hl; rfl
  have F16 := fun_mk (st := s_law_gap) l16 c16 k16
  have b16 := F16.binds (ps := ["_law_cell_here", "_law_count"]) fun _ _ _ _ _ _ us hl => by obtain ⟨_, _, rfl⟩ := lenE2 hl; rfl
  have F17 := fun_mk (st := s_law_added) l17 c17 k17
  have b17 := F17.binds (ps := ["_law_house", "_law_name", "_law_gap_here"]) fun _ _ _ _ _ _ us hl => by obtain ⟨_, _, _, rfl⟩ := lenE3 hl; rfl
  have F18 := fun_mk (st := s_law_deed) l18 c18 k18
  have b18 := F18.binds (ps := ["_law_house", "_law_kind", "_law_name", "_law_gap_here"]) fun _ _ _ _ _ _ us hl => by obtain ⟨_, _, _, _, rfl⟩ := lenE4 hl; rfl
  have F19 := fun_mk (st := s_law_refused) l19 c19 k19
  have b19 := F19.binds (ps := ["_law_house", "_law_kind", "_law_name", "_law_gap_here"]) fun _ _ _ _ _ _ us hl => by obtain ⟨_, _, _, _, rfl⟩ := lenE4 hl; rfl
  have F20 := fun_mk (st := s_law_right) l20 c20 k20
  have b20 := F20.binds (ps := ["_law_house", "_law_due"]) fun _ _ _ _ _ _ us hl => by obtain ⟨_, _, rfl⟩ := lenE2 hl; rfl
  have F21 := fun_mk (st := s_law) l21 c21 k21
  have F22 := fun_mk (st := s_House___init__) l22 c22 k22
  have b22 := F22.binds (ps := ["self", "count"]) fun _ _ _ _ _ _ us hl => by obtain ⟨_, _, rfl⟩ := lenE2 hl; rfl
  have F23 := fun_mkD (st := s_House_add) l23 c23 k23
  have b23 := F23.bindsT (ps := ["self", "name", "a", "b", "low", "high"]) t23 rfl rfl fun us hl => by obtain ⟨_, _, _, _, _, _, rfl⟩ := lenE6 hl; exact ⟨_, rfl, rfl⟩
  have F24 := fun_mk (st := s_House_drop) l24 c24 k24
  have b24 := F24.binds (ps := ["self", "name"]) fun _ _ _ _ _ _ us hl => by obtain ⟨_, _, rfl⟩ := lenE2 hl; rfl
  have F25 := fun_mk (st := s_House_need) l25 c25 k25
  have b25 := F25.binds (ps := ["self", "name"]) fun _ _ _ _ _ _ us hl => by obtain ⟨_, _, rfl⟩ := lenE2 hl; rfl
  have F26 := fun_mk (st := s_House_names) l26 c26 k26
  have b26 := F26.binds (ps := ["self"]) fun _ _ _ _ _ _ us hl => by obtain ⟨_, rfl⟩ := lenE1 hl; rfl
  have F27 := fun_mk (st := s_House_gap) l27 c27 k27
  have b27 := F27.binds (ps := ["self", "name"]) fun _ _ _ _ _ _ us hl => by obtain ⟨_, _, rfl⟩ := lenE2 hl; rfl
  have F28 := fun_mk (st := s_House_table) l28 c28 k28
  have b28 := F28.binds (ps := ["self"]) fun _ _ _ _ _ _ us hl => by obtain ⟨_, rfl⟩ := lenE1 hl; rfl
  have F29 := fun_mk (st := s_House_idle) l29 c29 k29
  have b29 := F29.binds (ps := ["self", "name"]) fun _ _ _ _ _ _ us hl => by obtain ⟨_, _, rfl⟩ := lenE2 hl; rfl
  refine ⟨PySem.W.fnOf "law" "law" (defArgs s_law) (defBody s_law) (defScope s_law) .none kV21 dc21 pm21 an21 cd21 ct21, fun s v => .of_eq rfl, fun base _ _ => ?_⟩
  have C_bounds_of : Cal l.prog w K mg base 1 "bounds_of" ["gap"] (sp_bounds_of K) := ⟨f1, _, ok_bounds_of F1 T , b1, k1, PySem.W.mg_of X G a1⟩
  have C_wide_row : Cal l.prog w K mg base 1 "wide_row" ["count", "a"] (sp_wide_row K) := ⟨f3, _, ok_wide_row F3 T , b3, k3, PySem.W.mg_of X G a3⟩
  have C_shuts : Cal l.prog w K mg base 1 "shuts" ["bound", "table"] (sp_shuts K) := ⟨f6, _, ok_shuts F6 T , b6, k6, PySem.W.mg_of X G a6⟩
  have C_total : Cal l.prog w K mg base 1 "total" ["one", "other"] (sp_total K) := ⟨f8, _, ok_total F8 T , b8, k8, PySem.W.mg_of X G a8⟩
  have C_lesser : Cal l.prog w K mg base 1 "lesser" ["one", "other"] (sp_lesser K) := ⟨f9, _, ok_lesser F9 T , b9, k9, PySem.W.mg_of X G a9⟩
  have C_all_bounds : Cal l.prog w K mg base 2 "all_bounds" ["gaps"] (sp_all_bounds K) := ⟨f10, _, ok_all_bounds F10 T C_bounds_of, b10, k10, PySem.W.mg_of X G a10⟩
  have C_law_cell : Cal l.prog w K mg base 1 "_law_cell" ["_law_script", "_law_k"] (sp_law_cell K) := ⟨f11, _, ok_law_cell F11 T , b11, k11, PySem.W.mg_of X G a11⟩
  have C_law_whole : Cal l.prog w K mg base 1 "_law_whole" ["_law_found"] (sp_law_whole K) := ⟨f12, _, ok_law_whole F12 T , b12, k12, PySem.W.mg_of X G a12⟩
  have C_law_spread : Cal l.prog w K mg base 1 "_law_spread" ["_law_cell_here", "_law_k"] (sp_law_spread K) := ⟨f13, _, ok_law_spread F13 T , b13, k13, PySem.W.mg_of X G a13⟩
  have C_law_big : Cal l.prog w K mg base 1 "_law_big" ["_law_cell_here"] (sp_law_big K) := ⟨f14, _, ok_law_big F14 T , b14, k14, PySem.W.mg_of X G a14⟩
  have C_law_names : Cal l.prog w K mg base 2 "_law_names" ["_law_script"] (sp_law_names K) := ⟨f15, _, ok_law_names F15 T C_law_cell, b15, k15, PySem.W.mg_of X G a15⟩
  have C_law_gap : Cal l.prog w K mg base 2 "_law_gap" ["_law_cell_here", "_law_count"] (sp_law_gap K) := ⟨f16, _, ok_law_gap F16 T C_law_big, b16, k16, PySem.W.mg_of X G a16⟩
  have MK_House : MkCal l.prog w K mg base cl.House 1 "House" ["self", "count"] (sp_House___init__ K cl) := ⟨f22, _, ok_House___init__ F22 T , b22, ⟨mk_House, a22, i22, kc_House⟩, T.g_House⟩
  have M_House_add : MCalX l.prog w K mg base cl.House 1 "add" ["self", "name", "a", "b", "low", "high"] (sp_House_add K cl) := ⟨f23, _, ok_House_add F23 T , b23, ⟨a23, i23, k23⟩⟩
  have MA_House_add : MCalA l.prog w K mg base cl.House 1 "add" ["self", "name", "a", "b", "low", "high"] (sp_House_add K cl) := ⟨f23, _, ok_House_add F23 T , b23, F23.bindsS t23 rfl rfl (fun us hl => by obtain ⟨_, _, _, _, rfl⟩ := lenE4 (lenS2 hl); exact ⟨_, rfl, rfl⟩), F23.kbHi t23 rfl rfl (fun us w hl => by obtain ⟨_, _, _, _, rfl⟩ := lenE4 (len2 hl); exact ⟨_, rfl, rfl⟩) (by decide), F23.kbLo t23 rfl rfl (fun us w hl => by obtain ⟨_, _, _, _, rfl⟩ := lenE4 (len2 hl); exact ⟨_, rfl, rfl⟩) (by decide), ⟨a23, i23, k23⟩⟩
  have M_House_need : MCalX l.prog w K mg base cl.House 1 "need" ["self", "name"] (sp_House_need K cl) := ⟨f25, _, ok_House_need F25 T , b25, ⟨a25, i25, k25⟩⟩
  have M_House_names : MCal l.prog w K mg base cl.House 1 "names" ["self"] (sp_House_names K cl) := ⟨f26, _, ok_House_names F26 T , b26, ⟨a26, i26, k26⟩⟩
  have M_House_gap : MCalX l.prog w K mg base cl.House 2 "gap" ["self", "name"] (sp_House_gap K cl) := ⟨f27, _, ok_House_gap F27 T M_House_need, b27, ⟨a27, i27, k27⟩⟩
  have C_wide : Cal l.prog w K mg base 2 "wide" ["count"] (sp_wide K) := ⟨f2, _, ok_wide F2 T C_wide_row, b2, k2, PySem.W.mg_of X G a2⟩
  have C_held_row : Cal l.prog w K mg base 2 "held_row" ["table", "a", "bound"] (sp_held_row K) := ⟨f7, _, ok_held_row F7 T C_total C_lesser, b7, k7, PySem.W.mg_of X G a7⟩
  have C_law_added : CalX l.prog w K mg base 2 "_law_added" ["_law_house", "_law_name", "_law_gap_here"] (sp_law_added K cl) := ⟨f17, _, ok_law_added F17 T MA_House_add, b17, k17, PySem.W.mg_of X G a17⟩
  have C_law_right : Cal l.prog w K mg base 3 "_law_right" ["_law_house", "_law_due"] (sp_law_right K cl) := ⟨f20, _, ok_law_right F20 T C_law_whole M_House_names M_House_gap, b20, k20, PySem.W.mg_of X G a20⟩
  have M_House_drop : MCalX l.prog w K mg base cl.House 2 "drop" ["self", "name"] (sp_House_drop K cl) := ⟨f24, _, ok_House_drop F24 T M_House_need, b24, ⟨a24, i24, k24⟩⟩
  have C_held : Cal l.prog w K mg base 3 "held" ["table", "bound"] (sp_held K) := ⟨f5, _, ok_held F5 T C_shuts C_held_row, b5, k5, PySem.W.mg_of X G a5⟩
  have C_table_of : Cal l.prog w K mg base 4 "table_of" ["count", "bounds"] (sp_table_of K) := ⟨f4, _, ok_table_of F4 T C_wide C_held, b4, k4, PySem.W.mg_of X G a4⟩
  have M_House_table : MCal l.prog w K mg base cl.House 5 "table" ["self"] (sp_House_table K cl) := ⟨f28, _, ok_House_table F28 T C_table_of C_all_bounds, b28, ⟨a28, i28, k28⟩⟩
  have M_House_idle : MCalX l.prog w K mg base cl.House 6 "idle" ["self", "name"] (sp_House_idle K cl) := ⟨f29, _, ok_House_idle F29 T C_table_of C_all_bounds M_House_need M_House_table, b29, ⟨a29, i29, k29⟩⟩
  have C_law_deed : CalX l.prog w K mg base 7 "_law_deed" ["_law_house", "_law_kind", "_law_name", "_law_gap_here"] (sp_law_deed K cl) := ⟨f18, _, ok_law_deed F18 T C_law_added M_House_drop M_House_gap M_House_idle, b18, k18, PySem.W.mg_of X G a18⟩
  have C_law_refused : Cal l.prog w K mg base 8 "_law_refused" ["_law_house", "_law_kind", "_law_name", "_law_gap_here"] (sp_law_refused K cl) := ⟨f19, _, ok_law_refused F19 T C_law_deed, b19, k19, PySem.W.mg_of X G a19⟩
  exact ok_law F21 T C_law_cell C_law_spread C_law_names C_law_gap C_law_deed C_law_refused C_law_right MK_House
theorem walk {l : PySem.W.OpenLaw} {q : Program} {loose : List Str} {XP : (Str → Option Value) → Heap → Prop} {YP : World → Heap → Prop} {d : DefRec} {K : Params → PySem.W.Frag} (hn : l.most = some 63) (hdf : d.params.defaults = [])
    (hY : ∀ (w : World) (h : Heap), YP w h → (K w.params).In h)
    (F : ∀ (w : World) (mg : Str → Option Value) (fa : Addr) (h : Heap), (K w.params).In h → h.Ns mainGlobals mg → mg d.name = some (.ref fa) →
      ∃ fd : FuncData, (∀ (s : Shared) (u : Value), BindsTo s fd ⟨[u], []⟩ [("_law_script", u)]) ∧ ∀ base : Heap, (K w.params).In base → base.Ns mainGlobals mg → FnOk l.prog w (K w.params) mg base CX0 9 fa fd ["_law_script"] (sp_law (K w.params))) :
    PySem.W.WalkO q loose XP YP l.row.toRowW d [] (fun f vs => PySem.call f vs) :=
  L2.walk_of (n := 63) (k := 9) (x := "_law_script") (CX := fun _ => CX0) (sp := fun w => sp_law (K w.params)) hn (by decide) hdf ⟨rfl, by decide, by decide⟩ hY F (fun _ _ a ns hl _ hS => ⟨a, ns, rfl, hS, hl, fun _ => rfl⟩) fun _ _ _ _ _ z => z
end Toy
open PySem PySem.W PyProof.Rows
set_option maxRecDepth 100000 in
set_option maxHeartbeats 0 in
theorem PySem.Challenge.cw_waithouse_k27_names_of_gaps_holds : PySem.Challenge.rw_waithouse_k27_names_of_gaps.Holds := by
  w_on; o_law
  refine holds_open (q := Hd.QV) (loose := ["ring_rings", "chain_rings"]) (Xt := fun s => xlAt Hd.QV [] s && recOk (RowW.records (OpenRow.toRowW (OpenLaw.row PySem.Challenge.rw_waithouse_k27_names_of_gaps))) s) (XP := XL Hd.QV []) (Yf := Hook.obs (kHook Hd.KF Hd.KA Hd.KA_eq)) (Ya := Hook.val (kHook Hd.KF Hd.KA Hd.KA_eq)) (YP := Hook.says (kHook Hd.KF Hd.KA Hd.KA_eq)) (N := 6120) Hd.left (Hook.of (kHook Hd.KF Hd.KA Hd.KA_eq)) (Hook.keeps (kHook Hd.KF Hd.KA Hd.KA_eq)) (fun s e => xl_of s (Bool.and_eq_true_iff.mp e).1) XL.keeps (by rfl) (by rfl) (by rfl) (fun s e => recFacts_of (Bool.and_eq_true_iff.mp e).2) (by rfl) (by first | assumption | decide +kernel) (by decide +kernel) ⟨rfl, rfl, rfl, rfl, rfl, by decide +kernel⟩ ?hw ?hc
  case hw => w_witness2
  k_fill
  refine Toy.walk (l := PySem.Challenge.rw_waithouse_k27_names_of_gaps) rfl rfl (fun w h Y => PySem.W.kIn_of Y) ?F
  case F =>
    intro w mg fa h KX G hmg
    refine' Toy.all_mk KX G hmg ?g1 ?g2 ?g3 ?g4 ?g5 ?g6 ?g7 ?g8 ?a1 ?l1 ?c1 ?k1 ?a2 ?l2 ?c2 ?k2 ?a3 ?l3 ?c3 ?k3 ?a4 ?l4 ?c4 ?k4 ?a5 ?l5 ?c5 ?k5 ?a6 ?l6 ?c6 ?k6 ?a7 ?l7 ?c7 ?k7 ?a8 ?l8 ?c8 ?k8 ?a9 ?l9 ?c9 ?k9 ?a10 ?l10 ?c10 ?k10 ?a11 ?l11 ?c11 ?k11 ?a12 ?l12 ?c12 ?k12 ?a13 ?l13 ?c13 ?k13 ?a14 ?l14 ?c14 ?k14 ?a15 ?l15 ?c15 ?k15 ?a16 ?l16 ?c16 ?k16 ?a17 ?l17 ?c17 ?k17 ?a18 ?l18 ?c18 ?k18 ?a19 ?l19 ?c19 ?k19 ?a20 ?l20 ?c20 ?k20 ?a21 ?l21 ?c21 ?k21 ?a22 ?i22 ?l22 ?c22 ?k22 ?a23 ?i23 ?l23 ?c23 ?k23 ?t23 ?a24 ?i24 ?l24 ?c24 ?k24 ?a25 ?i25 ?l25 ?c25 ?k25 ?a26 ?i26 ?l26 ?c26 ?k26 ?a27 ?i27 ?l27 ?c27 ?k27 ?a28 ?i28 ?l28 ?c28 ?k28 ?a29 ?i29 ?l29 ?c29 ?k29 ?x_NoName ?k0_NoName ?k1_NoName ?k2_NoName ?k3_NoName ?k4_NoName ?k5_NoName ?h0_WaitError ?h1_WaitError ?h2_WaitError ?pg_House ?hd_House ?po_House ?sa_House ?mk_House ?kc_House ?n_House_count ?n_House_gaps ?sub_W ?is_V ?is_N ?no_T ?z1 ?z2 ?z3 ?z4 ?z5 ?z6 ?z7 ?z8 ?z9 ?z10
    (case g1 => k_is)
    (case g2 => k_is)
    (case g3 => k_is)
    (case g4 => k_is)
    (case g5 => k_is)
    (case g6 => k_is)
    (case g7 => k_is)
    (case g8 => k_is)
    (case a1 => k_is)
    (case l1 => k_is)
    (case c1 => k_is)
    (case k1 => k_is)
    (case a2 => k_is)
    (case l2 => k_is)
    (case c2 => k_is)
    (case k2 => k_is)
    (case a3 => k_is)
    (case l3 => k_is)
    (case c3 => k_is)
    (case k3 => k_is)
    (case a4 => k_is)
    (case l4 => k_is)
    (case c4 => k_is)
    (case k4 => k_is)
    (case a5 => k_is)
    (case l5 => k_is)
    (case c5 => k_is)
    (case k5 => k_is)
    (case a6 => k_is)
    (case l6 => k_is)
    (case c6 => k_is)
    (case k6 => k_is)
    (case a7 => k_is)
    (case l7 => k_is)
    (case c7 => k_is)
    (case k7 => k_is)
    (case a8 => k_is)
    (case l8 => k_is)
    (case c8 => k_is)
    (case k8 => k_is)
    (case a9 => k_is)
    (case l9 => k_is)
    (case c9 => k_is)
    (case k9 => k_is)
    (case a10 => k_is)
    (case l10 => k_is)
    (case c10 => k_is)
    (case k10 => k_is)
    (case a11 => k_is)
    (case l11 => k_is)
    (case c11 => k_is)
    (case k11 => k_is)
    (case a12 => k_is)
    (case l12 => k_is)
    (case c12 => k_is)
    (case k12 => k_is)
    (case a13 => k_is)
    (case l13 => k_is)
    (case c13 => k_is)
    (case k13 => k_is)
    (case a14 => k_is)
    (case l14 => k_is)
    (case c14 => k_is)
    (case k14 => k_is)
    (case a15 => k_is)
    (case l15 => k_is)
    (case c15 => k_is)
    (case k15 => k_is)
    (case a16 => k_is)
    (case l16 => k_is)
    (case c16 => k_is)
    (case k16 => k_is)
    (case a17 => k_is)
    (case l17 => k_is)
    (case c17 => k_is)
    (case k17 => k_is)
    (case a18 => k_is)
    (case l18 => k_is)
    (case c18 => k_is)
    (case k18 => k_is)
    (case a19 => k_is)
    (case l19 => k_is)
    (case c19 => k_is)
    (case k19 => k_is)
    (case a20 => k_is)
    (case l20 => k_is)
    (case c20 => k_is)
    (case k20 => k_is)
    (case a21 => k_is)
    (case l21 => k_is)
    (case c21 => k_is)
    (case k21 => k_is)
    (case a22 => k_is)
    (case i22 => k_is)
    (case l22 => k_is)
    (case c22 => k_is)
    (case k22 => k_is)
    (case a23 => k_is)
    (case i23 => k_is)
    (case l23 => k_is)
    (case c23 => k_is)
    (case k23 => k_is)
    (case t23 => k_is)
    (case a24 => k_is)
    (case i24 => k_is)
    (case l24 => k_is)
    (case c24 => k_is)
    (case k24 => k_is)
    (case a25 => k_is)
    (case i25 => k_is)
    (case l25 => k_is)
    (case c25 => k_is)
    (case k25 => k_is)
    (case a26 => k_is)
    (case i26 => k_is)
    (case l26 => k_is)
    (case c26 => k_is)
    (case k26 => k_is)
    (case a27 => k_is)
    (case i27 => k_is)
    (case l27 => k_is)
    (case c27 => k_is)
    (case k27 => k_is)
    (case a28 => k_is)
    (case i28 => k_is)
    (case l28 => k_is)
    (case c28 => k_is)
    (case k28 => k_is)
    (case a29 => k_is)
    (case i29 => k_is)
    (case l29 => k_is)
    (case c29 => k_is)
    (case k29 => k_is)
    (case x_NoName => k_exc)
    (case k0_NoName => k_is)
    (case k1_NoName => k_is)
    (case k2_NoName => k_is)
    (case k3_NoName => k_is)
    (case k4_NoName => k_is)
    (case k5_NoName => k_is)
    (case h0_WaitError => k_is)
    (case h1_WaitError => k_is)
    (case h2_WaitError => k_is)
    (case pg_House => k_is)
    (case hd_House => k_is)
    (case po_House => k_is)
    (case sa_House => k_is)
    (case mk_House => k_is)
    (case kc_House => k_is)
    (case n_House_count => k_is)
    (case n_House_gaps => k_is)
    (case sub_W => k_is)
    (case is_V => kit_is)
    (case is_N => kit_is)
    (case no_T => kit_is)
    (case z1 => k_is)
    (case z2 => k_is)
    (case z3 => k_is)
    (case z4 => k_is)
    (case z5 => k_is)
    (case z6 => k_is)
    (case z7 => k_is)
    (case z8 => k_is)
    (case z9 => k_is)
    (case z10 => k_is)

