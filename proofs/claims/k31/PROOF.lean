import PyProof.Rows.All
import Wide.All
import OpenK.AllK
import Wide.FinOn
import Lean
import PyProof.EqAt
import PyProof.EqKinds
import PyProof.TupleCall
import PyProof.NeKinds
import PyProof.ConsumeWalk
import PyProof.FitsBits
import PyProof.Rows.Range3
import PyProof.Rows.TupAdd
import PyProof.ListRange
import PyProof.Rows.CallKwBuiltin
import KE.KSortAsk
import KE.KSortTup
import PyProof.Rows.RuleN_abs
import PyProof.DictWalks
import KE.KDictList
import KE.KRevIter
import PySem.Challenge.RW_waithouse_k31_whole_houses
set_option Elab.async false
set_option linter.all false
set_option maxRecDepth 100000
namespace Hd
open PySem PySem.Spec PyProof.Rows PySem.W
def top (i : Nat) : Stmt := PySem.Challenge.pw_waithouse_k31_whole_houses.main.body.getD i (.Pass ⟨0, 0, 0, 0⟩)
def inClass (s : Stmt) (j : Nat) : Stmt := match s with
  | .ClassDef _ _ _ bd _ _ _ _ _ _ _ => bd.getD j (.Pass ⟨0, 0, 0, 0⟩)
  | _ => .Pass ⟨0, 0, 0, 0⟩
def defArgs (s : Stmt) : Arguments := match s with
  | .FunctionDef _ as _ _ _ _ _ _ _ _ => as
  | _ => { posonlyargs := [], args := [], vararg := none, kwonlyargs := [], kw_defaults := [], kwarg := none, defaults := [] }
def defBody (s : Stmt) : List Stmt := match s with
  | .FunctionDef _ _ bd _ _ _ _ _ _ _ => bd
  | _ => []
def defScope (s : Stmt) : Scope := match s with
  | .FunctionDef _ _ _ _ _ _ scp _ _ _ => scp
  | _ => { kind := .function, names := [], isGenerator := false, isCoroutine := false }
abbrev kE (P : PySem.Params) (x : Str) (t : Nat) (v : Value) : PySem.DictEntry := PySem.DictEntry.mk (PySem.PyData.keyHash P x) (PySem.Value.str x t) v
abbrev kS (x : Str) (t : Nat) : Value := PySem.Value.str x t
abbrev kR (a : Nat) : Value := PySem.Value.ref a
abbrev kN (x : String) : Str := PySem.Str.ofString x
/-- the objects that stand behind the program's top -/
def KF : PySem.Params → PySem.W.Frag := fun P => (nat_lit 2, PySem.Obj.mk PySem.Value.none Option.none (PySem.Data.dict #[]) #[]) ::
  (nat_lit 3, PySem.Obj.mk (PySem.Value.type "dict") Option.none (PySem.Data.dict #[kE P "__name__" 165 (kS "law_waithouse_k31_whole_houses" 492), kE P "__doc__" 166 PySem.Value.none, kE P "__package__" 167 PySem.Value.none, kE P "__loader__" 168 (PySem.Value.builtin "__main__.__loader__#opaque"), kE P "__spec__" 169 PySem.Value.none, kE P "__annotations__" 170 (kR 6), kE P "__builtins__" 171 (kR 4), kE P "__file__" 173 (kS "/claim/cut.py" 172), kE P "__cached__" 174 PySem.Value.none, kE P "WaitError" 206 (kR 24), kE P "NoName" 222 (kR 37), kE P "bounds_of" 236 (kR 46), kE P "wide" 244 (kR 51), kE P "wide_row" 250 (kR 56), kE P "table_of" 260 (kR 63), kE P "held" 266 (kR 68), kE P "shuts" 275 (kR 75), kE P "held_row" 281 (kR 80), kE P "total" 289 (kR 87), kE P "lesser" 297 (kR 94), kE P "ring" 307 (kR 101), kE P "ring_rings" 308 (kR 101), kE P "chain" 319 (kR 108), kE P "chain_rings" 320 (kR 108), kE P "search" 326 (kR 113), kE P "first_ways" 332 (kR 118), kE P "narrowed" 338 (kR 123), kE P "led" 344 (kR 128), kE P "by_way" 355 (kR 135), kE P "House" 462 (kR 216), kE P "all_bounds" 471 (kR 227), kE P "all_bound_names" 477 (kR 232), kE P "ends_of" 485 (kR 239), kE P "names_at" 491 (kR 244), kE P "_law_cell" 503 (kR 251), kE P "_law_whole" 510 (kR 258), kE P "_law_big" 517 (kR 265), kE P "_law_times" 523 (kR 270), kE P "_law_bag" 531 (kR 277), kE P "_law_take" 540 (kR 284), kE P "_law_many" 550 (kR 291), kE P "_law_lies" 561 (kR 298), kE P "_law_kept" 570 (kR 305), kE P "_law_truth" 578 (kR 312), kE P "_law_gap_round" 593 (kR 319), kE P "_law_ends" 606 (kR 326), kE P "_law_due" 612 (kR 331), kE P "_law_deed" 626 (kR 338), kE P "_law_walked" 638 (kR 345), kE P "_law_ring_good" 649 (kR 352), kE P "_law_pair_good" 663 (kR 359), kE P "_law_idle_good" 677 (kR 366), kE P "_law_told" 693 (kR 373), kE P "_law_tries" 699 (kR 378), kE P "law" 705 (kR 383)] 55) #[]) ::
  (nat_lit 15, PySem.Obj.mk (PySem.Value.type "tuple") Option.none (PySem.Data.seq #[PySem.Value.type "ValueError"]) #[]) ::
  (nat_lit 22, PySem.Obj.mk (PySem.Value.type "tuple") Option.none (PySem.Data.seq #[]) #[]) ::
  (nat_lit 23, PySem.Obj.mk (PySem.Value.type "dict") Option.none (PySem.Data.dict #[kE P "__module__" 196 (kS "waithouse.errors" 187), kE P "__firstlineno__" 200 (PySem.Value.int 2 199), kE P "__static_attributes__" 201 (kR 22), kE P "__weakref__" 203 (kR 25), kE P "__doc__" 204 PySem.Value.none] 3) #[]) ::
  (nat_lit 24, PySem.Obj.mk (PySem.Value.type "type") Option.none (PySem.Data.cls (PySem.ClassData.mk (kN "WaitError") [PySem.Value.type "ValueError"] [kR 24, PySem.Value.type "ValueError", PySem.Value.type "Exception", PySem.Value.type "BaseException", PySem.Value.type "object"] 23 (kN "WaitError") Bool.true [] [kR 37] Bool.false Option.none Bool.false)) #[Option.some (kR 15), Option.none, Option.some (kS "WaitError" 189), Option.some (kS "WaitError" 197), Option.some (PySem.Value.builtin "ValueError.__new__"), Option.some (PySem.Value.bool Bool.true)]) ::
  (nat_lit 25, PySem.Obj.mk (PySem.Value.type "getset_descriptor") Option.none (PySem.Data.fields #[kS "__weakref__" 202, kR 24, PySem.Value.builtin "ExceptionGroup.__weakref__", PySem.Value.none]) #[]) ::
  (nat_lit 28, PySem.Obj.mk (PySem.Value.type "tuple") Option.none (PySem.Data.seq #[kR 24]) #[]) ::
  (nat_lit 35, PySem.Obj.mk (PySem.Value.type "tuple") Option.none (PySem.Data.seq #[]) #[]) ::
  (nat_lit 36, PySem.Obj.mk (PySem.Value.type "dict") Option.none (PySem.Data.dict #[kE P "__module__" 214 (kS "waithouse.errors" 187), kE P "__firstlineno__" 218 (PySem.Value.int 4 217), kE P "__static_attributes__" 219 (kR 35), kE P "__doc__" 220 PySem.Value.none] 2) #[]) ::
  (nat_lit 37, PySem.Obj.mk (PySem.Value.type "type") Option.none (PySem.Data.cls (PySem.ClassData.mk (kN "NoName") [kR 24] [kR 37, kR 24, PySem.Value.type "ValueError", PySem.Value.type "Exception", PySem.Value.type "BaseException", PySem.Value.type "object"] 36 (kN "NoName") Bool.true [] [] Bool.false Option.none Bool.false)) #[Option.some (kR 28), Option.none, Option.some (kS "NoName" 207), Option.some (kS "NoName" 215), Option.some (PySem.Value.builtin "ValueError.__new__"), Option.some (PySem.Value.bool Bool.true)]) ::
  (nat_lit 40, PySem.Obj.mk (PySem.Value.type "tuple") Option.none (PySem.Data.seq #[]) #[]) ::
  (nat_lit 42, PySem.Obj.mk (PySem.Value.type "tuple") Option.none (PySem.Data.seq #[kS "gap" 228, kS "a" 229, kS "b" 230, kS "low" 231, kS "high" 232, kS "found" 233]) #[]) ::
  (nat_lit 43, PySem.Obj.mk (PySem.Value.type "tuple") Option.none (PySem.Data.seq #[]) #[]) ::
  (nat_lit 45, PySem.Obj.mk (PySem.Value.type "code") Option.none (PySem.Data.fields #[kS "bounds_of" 225, kS "bounds_of" 226, kS "/claim/cut.py" 227, PySem.Value.int 7 0, PySem.Value.int 1 0, PySem.Value.int 0 0, PySem.Value.int 0 0, PySem.Value.int 3 0, kR 40, PySem.Value.bool Bool.true, PySem.Value.int 181 0, kR 41, PySem.Value.none, kR 42, kR 43, kR 44, PySem.Value.int 234 0, PySem.Value.int 7 0, kS "/claim/cut.py" 235]) #[]) ::
  (nat_lit 46, PySem.Obj.mk (PySem.Value.type "function") Option.none (PySem.Data.func (PySem.FuncData.mk (kN "bounds_of") (kN "bounds_of") (defArgs (top 4)) (PySem.FuncBody.stmts (defBody (top 4))) (defScope (top 4)) 3 [] PySem.Value.none PySem.Value.none PySem.Value.none (kS "waithouse.bounds" 223) Option.none (kR 45) PySem.Value.none 0)) #[]) ::
  (nat_lit 47, PySem.Obj.mk (PySem.Value.type "tuple") Option.none (PySem.Data.seq #[]) #[]) ::
  (nat_lit 50, PySem.Obj.mk (PySem.Value.type "code") Option.none (PySem.Data.fields #[kS "wide" 239, kS "wide" 240, kS "/claim/cut.py" 241, PySem.Value.int 19 0, PySem.Value.int 1 0, PySem.Value.int 0 0, PySem.Value.int 0 0, PySem.Value.int 3 0, kR 47, PySem.Value.bool Bool.true, PySem.Value.int 181 0, kR 48, PySem.Value.none, PySem.Value.none, PySem.Value.none, kR 49, PySem.Value.int 242 0, PySem.Value.int 19 0, kS "/claim/cut.py" 243]) #[]) ::
  (nat_lit 51, PySem.Obj.mk (PySem.Value.type "function") Option.none (PySem.Data.func (PySem.FuncData.mk (kN "wide") (kN "wide") (defArgs (top 6)) (PySem.FuncBody.stmts (defBody (top 6))) (defScope (top 6)) 3 [] PySem.Value.none PySem.Value.none PySem.Value.none (kS "waithouse.tables" 237) Option.none (kR 50) PySem.Value.none 0)) #[]) ::
  (nat_lit 52, PySem.Obj.mk (PySem.Value.type "tuple") Option.none (PySem.Data.seq #[]) #[]) ::
  (nat_lit 55, PySem.Obj.mk (PySem.Value.type "code") Option.none (PySem.Data.fields #[kS "wide_row" 245, kS "wide_row" 246, kS "/claim/cut.py" 247, PySem.Value.int 21 0, PySem.Value.int 2 0, PySem.Value.int 0 0, PySem.Value.int 0 0, PySem.Value.int 3 0, kR 52, PySem.Value.bool Bool.true, PySem.Value.int 181 0, kR 53, PySem.Value.none, PySem.Value.none, PySem.Value.none, kR 54, PySem.Value.int 248 0, PySem.Value.int 21 0, kS "/claim/cut.py" 249]) #[]) ::
  (nat_lit 56, PySem.Obj.mk (PySem.Value.type "function") Option.none (PySem.Data.func (PySem.FuncData.mk (kN "wide_row") (kN "wide_row") (defArgs (top 7)) (PySem.FuncBody.stmts (defBody (top 7))) (defScope (top 7)) 3 [] PySem.Value.none PySem.Value.none PySem.Value.none (kS "waithouse.tables" 237) Option.none (kR 55) PySem.Value.none 0)) #[]) ::
  (nat_lit 57, PySem.Obj.mk (PySem.Value.type "tuple") Option.none (PySem.Data.seq #[]) #[]) ::
  (nat_lit 59, PySem.Obj.mk (PySem.Value.type "tuple") Option.none (PySem.Data.seq #[kS "count" 254, kS "bounds" 255, kS "table" 256, kS "bound" 257]) #[]) ::
  (nat_lit 60, PySem.Obj.mk (PySem.Value.type "tuple") Option.none (PySem.Data.seq #[]) #[]) ::
  (nat_lit 62, PySem.Obj.mk (PySem.Value.type "code") Option.none (PySem.Data.fields #[kS "table_of" 251, kS "table_of" 252, kS "/claim/cut.py" 253, PySem.Value.int 23 0, PySem.Value.int 2 0, PySem.Value.int 0 0, PySem.Value.int 0 0, PySem.Value.int 3 0, kR 57, PySem.Value.bool Bool.true, PySem.Value.int 181 0, kR 58, PySem.Value.none, kR 59, kR 60, kR 61, PySem.Value.int 258 0, PySem.Value.int 23 0, kS "/claim/cut.py" 259]) #[]) ::
  (nat_lit 63, PySem.Obj.mk (PySem.Value.type "function") Option.none (PySem.Data.func (PySem.FuncData.mk (kN "table_of") (kN "table_of") (defArgs (top 8)) (PySem.FuncBody.stmts (defBody (top 8))) (defScope (top 8)) 3 [] PySem.Value.none PySem.Value.none PySem.Value.none (kS "waithouse.tables" 237) Option.none (kR 62) PySem.Value.none 0)) #[]) ::
  (nat_lit 64, PySem.Obj.mk (PySem.Value.type "tuple") Option.none (PySem.Data.seq #[]) #[]) ::
  (nat_lit 67, PySem.Obj.mk (PySem.Value.type "code") Option.none (PySem.Data.fields #[kS "held" 261, kS "held" 262, kS "/claim/cut.py" 263, PySem.Value.int 28 0, PySem.Value.int 2 0, PySem.Value.int 0 0, PySem.Value.int 0 0, PySem.Value.int 3 0, kR 64, PySem.Value.bool Bool.true, PySem.Value.int 181 0, kR 65, PySem.Value.none, PySem.Value.none, PySem.Value.none, kR 66, PySem.Value.int 264 0, PySem.Value.int 28 0, kS "/claim/cut.py" 265]) #[]) ::
  (nat_lit 68, PySem.Obj.mk (PySem.Value.type "function") Option.none (PySem.Data.func (PySem.FuncData.mk (kN "held") (kN "held") (defArgs (top 9)) (PySem.FuncBody.stmts (defBody (top 9))) (defScope (top 9)) 3 [] PySem.Value.none PySem.Value.none PySem.Value.none (kS "waithouse.tables" 237) Option.none (kR 67) PySem.Value.none 0)) #[]) ::
  (nat_lit 69, PySem.Obj.mk (PySem.Value.type "tuple") Option.none (PySem.Data.seq #[]) #[]) ::
  (nat_lit 71, PySem.Obj.mk (PySem.Value.type "tuple") Option.none (PySem.Data.seq #[kS "bound" 270, kS "table" 271, kS "back" 272]) #[]) ::
  (nat_lit 72, PySem.Obj.mk (PySem.Value.type "tuple") Option.none (PySem.Data.seq #[]) #[]) ::
  (nat_lit 74, PySem.Obj.mk (PySem.Value.type "code") Option.none (PySem.Data.fields #[kS "shuts" 267, kS "shuts" 268, kS "/claim/cut.py" 269, PySem.Value.int 32 0, PySem.Value.int 2 0, PySem.Value.int 0 0, PySem.Value.int 0 0, PySem.Value.int 3 0, kR 69, PySem.Value.bool Bool.true, PySem.Value.int 181 0, kR 70, PySem.Value.none, kR 71, kR 72, kR 73, PySem.Value.int 273 0, PySem.Value.int 32 0, kS "/claim/cut.py" 274]) #[]) ::
  (nat_lit 75, PySem.Obj.mk (PySem.Value.type "function") Option.none (PySem.Data.func (PySem.FuncData.mk (kN "shuts") (kN "shuts") (defArgs (top 10)) (PySem.FuncBody.stmts (defBody (top 10))) (defScope (top 10)) 3 [] PySem.Value.none PySem.Value.none PySem.Value.none (kS "waithouse.tables" 237) Option.none (kR 74) PySem.Value.none 0)) #[]) ::
  (nat_lit 76, PySem.Obj.mk (PySem.Value.type "tuple") Option.none (PySem.Data.seq #[]) #[]) ::
  (nat_lit 79, PySem.Obj.mk (PySem.Value.type "code") Option.none (PySem.Data.fields #[kS "held_row" 276, kS "held_row" 277, kS "/claim/cut.py" 278, PySem.Value.int 35 0, PySem.Value.int 3 0, PySem.Value.int 0 0, PySem.Value.int 0 0, PySem.Value.int 3 0, kR 76, PySem.Value.bool Bool.true, PySem.Value.int 181 0, kR 77, PySem.Value.none, PySem.Value.none, PySem.Value.none, kR 78, PySem.Value.int 279 0, PySem.Value.int 35 0, kS "/claim/cut.py" 280]) #[]) ::
  (nat_lit 80, PySem.Obj.mk (PySem.Value.type "function") Option.none (PySem.Data.func (PySem.FuncData.mk (kN "held_row") (kN "held_row") (defArgs (top 11)) (PySem.FuncBody.stmts (defBody (top 11))) (defScope (top 11)) 3 [] PySem.Value.none PySem.Value.none PySem.Value.none (kS "waithouse.tables" 237) Option.none (kR 79) PySem.Value.none 0)) #[]) ::
  (nat_lit 81, PySem.Obj.mk (PySem.Value.type "tuple") Option.none (PySem.Data.seq #[]) #[]) ::
  (nat_lit 83, PySem.Obj.mk (PySem.Value.type "tuple") Option.none (PySem.Data.seq #[kS "one" 285, kS "other" 286]) #[]) ::
  (nat_lit 84, PySem.Obj.mk (PySem.Value.type "tuple") Option.none (PySem.Data.seq #[]) #[]) ::
  (nat_lit 86, PySem.Obj.mk (PySem.Value.type "code") Option.none (PySem.Data.fields #[kS "total" 282, kS "total" 283, kS "/claim/cut.py" 284, PySem.Value.int 39 0, PySem.Value.int 2 0, PySem.Value.int 0 0, PySem.Value.int 0 0, PySem.Value.int 3 0, kR 81, PySem.Value.bool Bool.true, PySem.Value.int 181 0, kR 82, PySem.Value.none, kR 83, kR 84, kR 85, PySem.Value.int 287 0, PySem.Value.int 39 0, kS "/claim/cut.py" 288]) #[]) ::
  (nat_lit 87, PySem.Obj.mk (PySem.Value.type "function") Option.none (PySem.Data.func (PySem.FuncData.mk (kN "total") (kN "total") (defArgs (top 12)) (PySem.FuncBody.stmts (defBody (top 12))) (defScope (top 12)) 3 [] PySem.Value.none PySem.Value.none PySem.Value.none (kS "waithouse.tables" 237) Option.none (kR 86) PySem.Value.none 0)) #[]) ::
  (nat_lit 88, PySem.Obj.mk (PySem.Value.type "tuple") Option.none (PySem.Data.seq #[]) #[]) ::
  (nat_lit 90, PySem.Obj.mk (PySem.Value.type "tuple") Option.none (PySem.Data.seq #[kS "one" 293, kS "other" 294]) #[]) ::
  (nat_lit 91, PySem.Obj.mk (PySem.Value.type "tuple") Option.none (PySem.Data.seq #[]) #[]) ::
  (nat_lit 93, PySem.Obj.mk (PySem.Value.type "code") Option.none (PySem.Data.fields #[kS "lesser" 290, kS "lesser" 291, kS "/claim/cut.py" 292, PySem.Value.int 43 0, PySem.Value.int 2 0, PySem.Value.int 0 0, PySem.Value.int 0 0, PySem.Value.int 3 0, kR 88, PySem.Value.bool Bool.true, PySem.Value.int 181 0, kR 89, PySem.Value.none, kR 90, kR 91, kR 92, PySem.Value.int 295 0, PySem.Value.int 43 0, kS "/claim/cut.py" 296]) #[]) ::
  (nat_lit 94, PySem.Obj.mk (PySem.Value.type "function") Option.none (PySem.Data.func (PySem.FuncData.mk (kN "lesser") (kN "lesser") (defArgs (top 13)) (PySem.FuncBody.stmts (defBody (top 13))) (defScope (top 13)) 3 [] PySem.Value.none PySem.Value.none PySem.Value.none (kS "waithouse.tables" 237) Option.none (kR 93) PySem.Value.none 0)) #[]) ::
  (nat_lit 95, PySem.Obj.mk (PySem.Value.type "tuple") Option.none (PySem.Data.seq #[]) #[]) ::
  (nat_lit 97, PySem.Obj.mk (PySem.Value.type "tuple") Option.none (PySem.Data.seq #[kS "count" 303, kS "bounds" 304]) #[]) ::
  (nat_lit 98, PySem.Obj.mk (PySem.Value.type "tuple") Option.none (PySem.Data.seq #[]) #[]) ::
  (nat_lit 100, PySem.Obj.mk (PySem.Value.type "code") Option.none (PySem.Data.fields #[kS "ring" 300, kS "ring" 301, kS "/claim/cut.py" 302, PySem.Value.int 50 0, PySem.Value.int 2 0, PySem.Value.int 0 0, PySem.Value.int 0 0, PySem.Value.int 3 0, kR 95, PySem.Value.bool Bool.true, PySem.Value.int 181 0, kR 96, PySem.Value.none, kR 97, kR 98, kR 99, PySem.Value.int 305 0, PySem.Value.int 50 0, kS "/claim/cut.py" 306]) #[]) ::
  (nat_lit 101, PySem.Obj.mk (PySem.Value.type "function") Option.none (PySem.Data.func (PySem.FuncData.mk (kN "ring") (kN "ring") (defArgs (top 15)) (PySem.FuncBody.stmts (defBody (top 15))) (defScope (top 15)) 3 [] PySem.Value.none PySem.Value.none PySem.Value.none (kS "waithouse.rings" 298) Option.none (kR 100) PySem.Value.none 0)) #[]) ::
  (nat_lit 102, PySem.Obj.mk (PySem.Value.type "tuple") Option.none (PySem.Data.seq #[]) #[]) ::
  (nat_lit 104, PySem.Obj.mk (PySem.Value.type "tuple") Option.none (PySem.Data.seq #[kS "count" 312, kS "bounds" 313, kS "a" 314, kS "b" 315, kS "ways" 316]) #[]) ::
  (nat_lit 105, PySem.Obj.mk (PySem.Value.type "tuple") Option.none (PySem.Data.seq #[]) #[]) ::
  (nat_lit 107, PySem.Obj.mk (PySem.Value.type "code") Option.none (PySem.Data.fields #[kS "chain" 309, kS "chain" 310, kS "/claim/cut.py" 311, PySem.Value.int 53 0, PySem.Value.int 4 0, PySem.Value.int 0 0, PySem.Value.int 0 0, PySem.Value.int 3 0, kR 102, PySem.Value.bool Bool.true, PySem.Value.int 181 0, kR 103, PySem.Value.none, kR 104, kR 105, kR 106, PySem.Value.int 317 0, PySem.Value.int 53 0, kS "/claim/cut.py" 318]) #[]) ::
  (nat_lit 108, PySem.Obj.mk (PySem.Value.type "function") Option.none (PySem.Data.func (PySem.FuncData.mk (kN "chain") (kN "chain") (defArgs (top 17)) (PySem.FuncBody.stmts (defBody (top 17))) (defScope (top 17)) 3 [] PySem.Value.none PySem.Value.none PySem.Value.none (kS "waithouse.rings" 298) Option.none (kR 107) PySem.Value.none 0)) #[]) ::
  (nat_lit 109, PySem.Obj.mk (PySem.Value.type "tuple") Option.none (PySem.Data.seq #[]) #[]) ::
  (nat_lit 112, PySem.Obj.mk (PySem.Value.type "code") Option.none (PySem.Data.fields #[kS "search" 321, kS "search" 322, kS "/claim/cut.py" 323, PySem.Value.int 59 0, PySem.Value.int 2 0, PySem.Value.int 0 0, PySem.Value.int 0 0, PySem.Value.int 3 0, kR 109, PySem.Value.bool Bool.true, PySem.Value.int 181 0, kR 110, PySem.Value.none, PySem.Value.none, PySem.Value.none, kR 111, PySem.Value.int 324 0, PySem.Value.int 59 0, kS "/claim/cut.py" 325]) #[]) ::
  (nat_lit 113, PySem.Obj.mk (PySem.Value.type "function") Option.none (PySem.Data.func (PySem.FuncData.mk (kN "search") (kN "search") (defArgs (top 19)) (PySem.FuncBody.stmts (defBody (top 19))) (defScope (top 19)) 3 [] PySem.Value.none PySem.Value.none PySem.Value.none (kS "waithouse.rings" 298) Option.none (kR 112) PySem.Value.none 0)) #[]) ::
  (nat_lit 114, PySem.Obj.mk (PySem.Value.type "tuple") Option.none (PySem.Data.seq #[]) #[]) ::
  (nat_lit 117, PySem.Obj.mk (PySem.Value.type "code") Option.none (PySem.Data.fields #[kS "first_ways" 327, kS "first_ways" 328, kS "/claim/cut.py" 329, PySem.Value.int 70 0, PySem.Value.int 1 0, PySem.Value.int 0 0, PySem.Value.int 0 0, PySem.Value.int 3 0, kR 114, PySem.Value.bool Bool.true, PySem.Value.int 181 0, kR 115, PySem.Value.none, PySem.Value.none, PySem.Value.none, kR 116, PySem.Value.int 330 0, PySem.Value.int 70 0, kS "/claim/cut.py" 331]) #[]) ::
  (nat_lit 118, PySem.Obj.mk (PySem.Value.type "function") Option.none (PySem.Data.func (PySem.FuncData.mk (kN "first_ways") (kN "first_ways") (defArgs (top 20)) (PySem.FuncBody.stmts (defBody (top 20))) (defScope (top 20)) 3 [] PySem.Value.none PySem.Value.none PySem.Value.none (kS "waithouse.rings" 298) Option.none (kR 117) PySem.Value.none 0)) #[]) ::
  (nat_lit 119, PySem.Obj.mk (PySem.Value.type "tuple") Option.none (PySem.Data.seq #[]) #[]) ::
  (nat_lit 122, PySem.Obj.mk (PySem.Value.type "code") Option.none (PySem.Data.fields #[kS "narrowed" 333, kS "narrowed" 334, kS "/claim/cut.py" 335, PySem.Value.int 72 0, PySem.Value.int 2 0, PySem.Value.int 0 0, PySem.Value.int 0 0, PySem.Value.int 3 0, kR 119, PySem.Value.bool Bool.true, PySem.Value.int 181 0, kR 120, PySem.Value.none, PySem.Value.none, PySem.Value.none, kR 121, PySem.Value.int 336 0, PySem.Value.int 72 0, kS "/claim/cut.py" 337]) #[]) ::
  (nat_lit 123, PySem.Obj.mk (PySem.Value.type "function") Option.none (PySem.Data.func (PySem.FuncData.mk (kN "narrowed") (kN "narrowed") (defArgs (top 21)) (PySem.FuncBody.stmts (defBody (top 21))) (defScope (top 21)) 3 [] PySem.Value.none PySem.Value.none PySem.Value.none (kS "waithouse.rings" 298) Option.none (kR 122) PySem.Value.none 0)) #[]) ::
  (nat_lit 124, PySem.Obj.mk (PySem.Value.type "tuple") Option.none (PySem.Data.seq #[]) #[]) ::
  (nat_lit 127, PySem.Obj.mk (PySem.Value.type "code") Option.none (PySem.Data.fields #[kS "led" 339, kS "led" 340, kS "/claim/cut.py" 341, PySem.Value.int 74 0, PySem.Value.int 5 0, PySem.Value.int 0 0, PySem.Value.int 0 0, PySem.Value.int 3 0, kR 124, PySem.Value.bool Bool.true, PySem.Value.int 181 0, kR 125, PySem.Value.none, PySem.Value.none, PySem.Value.none, kR 126, PySem.Value.int 342 0, PySem.Value.int 74 0, kS "/claim/cut.py" 343]) #[]) ::
  (nat_lit 128, PySem.Obj.mk (PySem.Value.type "function") Option.none (PySem.Data.func (PySem.FuncData.mk (kN "led") (kN "led") (defArgs (top 22)) (PySem.FuncBody.stmts (defBody (top 22))) (defScope (top 22)) 3 [] PySem.Value.none PySem.Value.none PySem.Value.none (kS "waithouse.rings" 298) Option.none (kR 127) PySem.Value.none 0)) #[]) ::
  (nat_lit 129, PySem.Obj.mk (PySem.Value.type "tuple") Option.none (PySem.Data.seq #[]) #[]) ::
  (nat_lit 131, PySem.Obj.mk (PySem.Value.type "tuple") Option.none (PySem.Data.seq #[kS "ways" 348, kS "a" 349, kS "b" 350, kS "bound" 351, kS "place" 352]) #[]) ::
  (nat_lit 132, PySem.Obj.mk (PySem.Value.type "tuple") Option.none (PySem.Data.seq #[]) #[]) ::
  (nat_lit 134, PySem.Obj.mk (PySem.Value.type "code") Option.none (PySem.Data.fields #[kS "by_way" 345, kS "by_way" 346, kS "/claim/cut.py" 347, PySem.Value.int 76 0, PySem.Value.int 5 0, PySem.Value.int 0 0, PySem.Value.int 0 0, PySem.Value.int 3 0, kR 129, PySem.Value.bool Bool.true, PySem.Value.int 181 0, kR 130, PySem.Value.none, kR 131, kR 132, kR 133, PySem.Value.int 353 0, PySem.Value.int 76 0, kS "/claim/cut.py" 354]) #[]) ::
  (nat_lit 135, PySem.Obj.mk (PySem.Value.type "function") Option.none (PySem.Data.func (PySem.FuncData.mk (kN "by_way") (kN "by_way") (defArgs (top 23)) (PySem.FuncBody.stmts (defBody (top 23))) (defScope (top 23)) 3 [] PySem.Value.none PySem.Value.none PySem.Value.none (kS "waithouse.rings" 298) Option.none (kR 134) PySem.Value.none 0)) #[]) ::
  (nat_lit 143, PySem.Obj.mk (PySem.Value.type "tuple") Option.none (PySem.Data.seq #[]) #[]) ::
  (nat_lit 145, PySem.Obj.mk (PySem.Value.type "tuple") Option.none (PySem.Data.seq #[kS "self" 373, kS "count" 374]) #[]) ::
  (nat_lit 146, PySem.Obj.mk (PySem.Value.type "tuple") Option.none (PySem.Data.seq #[]) #[]) ::
  (nat_lit 148, PySem.Obj.mk (PySem.Value.type "code") Option.none (PySem.Data.fields #[kS "__init__" 370, kS "House.__init__" 371, kS "/claim/cut.py" 372, PySem.Value.int 81 0, PySem.Value.int 2 0, PySem.Value.int 0 0, PySem.Value.int 0 0, PySem.Value.int 3 0, kR 143, PySem.Value.bool Bool.true, PySem.Value.int 181 0, kR 144, PySem.Value.none, kR 145, kR 146, kR 147, PySem.Value.int 375 0, PySem.Value.int 81 0, kS "/claim/cut.py" 376]) #[]) ::
  (nat_lit 149, PySem.Obj.mk (PySem.Value.type "function") Option.none (PySem.Data.func (PySem.FuncData.mk (kN "__init__") (kN "House.__init__") (defArgs (inClass (top 25) 0)) (PySem.FuncBody.stmts (defBody (inClass (top 25) 0))) (defScope (inClass (top 25) 0)) 3 [] PySem.Value.none PySem.Value.none PySem.Value.none (kS "waithouse.houses" 356) Option.none (kR 148) PySem.Value.none 0)) #[]) ::
  (nat_lit 150, PySem.Obj.mk (PySem.Value.type "tuple") Option.none (PySem.Data.seq #[PySem.Value.none, PySem.Value.none]) #[]) ::
  (nat_lit 151, PySem.Obj.mk (PySem.Value.type "tuple") Option.none (PySem.Data.seq #[]) #[]) ::
  (nat_lit 153, PySem.Obj.mk (PySem.Value.type "tuple") Option.none (PySem.Data.seq #[kS "self" 381, kS "name" 382, kS "a" 383, kS "b" 384, kS "low" 385, kS "high" 386]) #[]) ::
  (nat_lit 154, PySem.Obj.mk (PySem.Value.type "tuple") Option.none (PySem.Data.seq #[]) #[]) ::
  (nat_lit 156, PySem.Obj.mk (PySem.Value.type "code") Option.none (PySem.Data.fields #[kS "add" 378, kS "House.add" 379, kS "/claim/cut.py" 380, PySem.Value.int 85 0, PySem.Value.int 6 0, PySem.Value.int 0 0, PySem.Value.int 0 0, PySem.Value.int 3 0, kR 151, PySem.Value.bool Bool.true, PySem.Value.int 181 0, kR 152, PySem.Value.none, kR 153, kR 154, kR 155, PySem.Value.int 387 0, PySem.Value.int 85 0, kS "/claim/cut.py" 388]) #[]) ::
  (nat_lit 157, PySem.Obj.mk (PySem.Value.type "function") Option.none (PySem.Data.func (PySem.FuncData.mk (kN "add") (kN "House.add") (defArgs (inClass (top 25) 1)) (PySem.FuncBody.stmts (defBody (inClass (top 25) 1))) (defScope (inClass (top 25) 1)) 3 [] (kR 150) PySem.Value.none PySem.Value.none (kS "waithouse.houses" 356) Option.none (kR 156) PySem.Value.none 0)) #[]) ::
  (nat_lit 158, PySem.Obj.mk (PySem.Value.type "tuple") Option.none (PySem.Data.seq #[]) #[]) ::
  (nat_lit 160, PySem.Obj.mk (PySem.Value.type "tuple") Option.none (PySem.Data.seq #[kS "self" 393, kS "name" 394]) #[]) ::
  (nat_lit 161, PySem.Obj.mk (PySem.Value.type "tuple") Option.none (PySem.Data.seq #[]) #[]) ::
  (nat_lit 163, PySem.Obj.mk (PySem.Value.type "code") Option.none (PySem.Data.fields #[kS "drop" 390, kS "House.drop" 391, kS "/claim/cut.py" 392, PySem.Value.int 90 0, PySem.Value.int 2 0, PySem.Value.int 0 0, PySem.Value.int 0 0, PySem.Value.int 3 0, kR 158, PySem.Value.bool Bool.true, PySem.Value.int 181 0, kR 159, PySem.Value.none, kR 160, kR 161, kR 162, PySem.Value.int 395 0, PySem.Value.int 90 0, kS "/claim/cut.py" 396]) #[]) ::
  (nat_lit 164, PySem.Obj.mk (PySem.Value.type "function") Option.none (PySem.Data.func (PySem.FuncData.mk (kN "drop") (kN "House.drop") (defArgs (inClass (top 25) 2)) (PySem.FuncBody.stmts (defBody (inClass (top 25) 2))) (defScope (inClass (top 25) 2)) 3 [] PySem.Value.none PySem.Value.none PySem.Value.none (kS "waithouse.houses" 356) Option.none (kR 163) PySem.Value.none 0)) #[]) ::
  (nat_lit 165, PySem.Obj.mk (PySem.Value.type "tuple") Option.none (PySem.Data.seq #[]) #[]) ::
  (nat_lit 167, PySem.Obj.mk (PySem.Value.type "tuple") Option.none (PySem.Data.seq #[kS "self" 401, kS "name" 402]) #[]) ::
  (nat_lit 168, PySem.Obj.mk (PySem.Value.type "tuple") Option.none (PySem.Data.seq #[]) #[]) ::
  (nat_lit 170, PySem.Obj.mk (PySem.Value.type "code") Option.none (PySem.Data.fields #[kS "need" 398, kS "House.need" 399, kS "/claim/cut.py" 400, PySem.Value.int 94 0, PySem.Value.int 2 0, PySem.Value.int 0 0, PySem.Value.int 0 0, PySem.Value.int 3 0, kR 165, PySem.Value.bool Bool.true, PySem.Value.int 181 0, kR 166, PySem.Value.none, kR 167, kR 168, kR 169, PySem.Value.int 403 0, PySem.Value.int 94 0, kS "/claim/cut.py" 404]) #[]) ::
  (nat_lit 171, PySem.Obj.mk (PySem.Value.type "function") Option.none (PySem.Data.func (PySem.FuncData.mk (kN "need") (kN "House.need") (defArgs (inClass (top 25) 3)) (PySem.FuncBody.stmts (defBody (inClass (top 25) 3))) (defScope (inClass (top 25) 3)) 3 [] PySem.Value.none PySem.Value.none PySem.Value.none (kS "waithouse.houses" 356) Option.none (kR 170) PySem.Value.none 0)) #[]) ::
  (nat_lit 172, PySem.Obj.mk (PySem.Value.type "tuple") Option.none (PySem.Data.seq #[]) #[]) ::
  (nat_lit 174, PySem.Obj.mk (PySem.Value.type "tuple") Option.none (PySem.Data.seq #[kS "self" 409]) #[]) ::
  (nat_lit 175, PySem.Obj.mk (PySem.Value.type "tuple") Option.none (PySem.Data.seq #[]) #[]) ::
  (nat_lit 177, PySem.Obj.mk (PySem.Value.type "code") Option.none (PySem.Data.fields #[kS "names" 406, kS "House.names" 407, kS "/claim/cut.py" 408, PySem.Value.int 98 0, PySem.Value.int 1 0, PySem.Value.int 0 0, PySem.Value.int 0 0, PySem.Value.int 3 0, kR 172, PySem.Value.bool Bool.true, PySem.Value.int 181 0, kR 173, PySem.Value.none, kR 174, kR 175, kR 176, PySem.Value.int 410 0, PySem.Value.int 98 0, kS "/claim/cut.py" 411]) #[]) ::
  (nat_lit 178, PySem.Obj.mk (PySem.Value.type "function") Option.none (PySem.Data.func (PySem.FuncData.mk (kN "names") (kN "House.names") (defArgs (inClass (top 25) 4)) (PySem.FuncBody.stmts (defBody (inClass (top 25) 4))) (defScope (inClass (top 25) 4)) 3 [] PySem.Value.none PySem.Value.none PySem.Value.none (kS "waithouse.houses" 356) Option.none (kR 177) PySem.Value.none 0)) #[]) ::
  (nat_lit 179, PySem.Obj.mk (PySem.Value.type "tuple") Option.none (PySem.Data.seq #[]) #[]) ::
  (nat_lit 181, PySem.Obj.mk (PySem.Value.type "tuple") Option.none (PySem.Data.seq #[kS "self" 416, kS "name" 417]) #[]) ::
  (nat_lit 182, PySem.Obj.mk (PySem.Value.type "tuple") Option.none (PySem.Data.seq #[]) #[]) ::
  (nat_lit 184, PySem.Obj.mk (PySem.Value.type "code") Option.none (PySem.Data.fields #[kS "gap" 413, kS "House.gap" 414, kS "/claim/cut.py" 415, PySem.Value.int 101 0, PySem.Value.int 2 0, PySem.Value.int 0 0, PySem.Value.int 0 0, PySem.Value.int 3 0, kR 179, PySem.Value.bool Bool.true, PySem.Value.int 181 0, kR 180, PySem.Value.none, kR 181, kR 182, kR 183, PySem.Value.int 418 0, PySem.Value.int 101 0, kS "/claim/cut.py" 419]) #[]) ::
  (nat_lit 185, PySem.Obj.mk (PySem.Value.type "function") Option.none (PySem.Data.func (PySem.FuncData.mk (kN "gap") (kN "House.gap") (defArgs (inClass (top 25) 5)) (PySem.FuncBody.stmts (defBody (inClass (top 25) 5))) (defScope (inClass (top 25) 5)) 3 [] PySem.Value.none PySem.Value.none PySem.Value.none (kS "waithouse.houses" 356) Option.none (kR 184) PySem.Value.none 0)) #[]) ::
  (nat_lit 186, PySem.Obj.mk (PySem.Value.type "tuple") Option.none (PySem.Data.seq #[]) #[]) ::
  (nat_lit 188, PySem.Obj.mk (PySem.Value.type "tuple") Option.none (PySem.Data.seq #[kS "self" 424]) #[]) ::
  (nat_lit 189, PySem.Obj.mk (PySem.Value.type "tuple") Option.none (PySem.Data.seq #[]) #[]) ::
  (nat_lit 191, PySem.Obj.mk (PySem.Value.type "code") Option.none (PySem.Data.fields #[kS "table" 421, kS "House.table" 422, kS "/claim/cut.py" 423, PySem.Value.int 105 0, PySem.Value.int 1 0, PySem.Value.int 0 0, PySem.Value.int 0 0, PySem.Value.int 3 0, kR 186, PySem.Value.bool Bool.true, PySem.Value.int 181 0, kR 187, PySem.Value.none, kR 188, kR 189, kR 190, PySem.Value.int 425 0, PySem.Value.int 105 0, kS "/claim/cut.py" 426]) #[]) ::
  (nat_lit 192, PySem.Obj.mk (PySem.Value.type "function") Option.none (PySem.Data.func (PySem.FuncData.mk (kN "table") (kN "House.table") (defArgs (inClass (top 25) 6)) (PySem.FuncBody.stmts (defBody (inClass (top 25) 6))) (defScope (inClass (top 25) 6)) 3 [] PySem.Value.none PySem.Value.none PySem.Value.none (kS "waithouse.houses" 356) Option.none (kR 191) PySem.Value.none 0)) #[]) ::
  (nat_lit 193, PySem.Obj.mk (PySem.Value.type "tuple") Option.none (PySem.Data.seq #[]) #[]) ::
  (nat_lit 195, PySem.Obj.mk (PySem.Value.type "tuple") Option.none (PySem.Data.seq #[kS "self" 431]) #[]) ::
  (nat_lit 196, PySem.Obj.mk (PySem.Value.type "tuple") Option.none (PySem.Data.seq #[]) #[]) ::
  (nat_lit 198, PySem.Obj.mk (PySem.Value.type "code") Option.none (PySem.Data.fields #[kS "ring" 428, kS "House.ring" 429, kS "/claim/cut.py" 430, PySem.Value.int 108 0, PySem.Value.int 1 0, PySem.Value.int 0 0, PySem.Value.int 0 0, PySem.Value.int 3 0, kR 193, PySem.Value.bool Bool.true, PySem.Value.int 181 0, kR 194, PySem.Value.none, kR 195, kR 196, kR 197, PySem.Value.int 432 0, PySem.Value.int 108 0, kS "/claim/cut.py" 433]) #[]) ::
  (nat_lit 199, PySem.Obj.mk (PySem.Value.type "function") Option.none (PySem.Data.func (PySem.FuncData.mk (kN "ring") (kN "House.ring") (defArgs (inClass (top 25) 7)) (PySem.FuncBody.stmts (defBody (inClass (top 25) 7))) (defScope (inClass (top 25) 7)) 3 [] PySem.Value.none PySem.Value.none PySem.Value.none (kS "waithouse.houses" 356) Option.none (kR 198) PySem.Value.none 0)) #[]) ::
  (nat_lit 200, PySem.Obj.mk (PySem.Value.type "tuple") Option.none (PySem.Data.seq #[]) #[]) ::
  (nat_lit 202, PySem.Obj.mk (PySem.Value.type "tuple") Option.none (PySem.Data.seq #[kS "self" 438, kS "a" 439, kS "b" 440]) #[]) ::
  (nat_lit 203, PySem.Obj.mk (PySem.Value.type "tuple") Option.none (PySem.Data.seq #[]) #[]) ::
  (nat_lit 205, PySem.Obj.mk (PySem.Value.type "code") Option.none (PySem.Data.fields #[kS "chain" 435, kS "House.chain" 436, kS "/claim/cut.py" 437, PySem.Value.int 111 0, PySem.Value.int 3 0, PySem.Value.int 0 0, PySem.Value.int 0 0, PySem.Value.int 3 0, kR 200, PySem.Value.bool Bool.true, PySem.Value.int 181 0, kR 201, PySem.Value.none, kR 202, kR 203, kR 204, PySem.Value.int 441 0, PySem.Value.int 111 0, kS "/claim/cut.py" 442]) #[]) ::
  (nat_lit 206, PySem.Obj.mk (PySem.Value.type "function") Option.none (PySem.Data.func (PySem.FuncData.mk (kN "chain") (kN "House.chain") (defArgs (inClass (top 25) 8)) (PySem.FuncBody.stmts (defBody (inClass (top 25) 8))) (defScope (inClass (top 25) 8)) 3 [] PySem.Value.none PySem.Value.none PySem.Value.none (kS "waithouse.houses" 356) Option.none (kR 205) PySem.Value.none 0)) #[]) ::
  (nat_lit 207, PySem.Obj.mk (PySem.Value.type "tuple") Option.none (PySem.Data.seq #[]) #[]) ::
  (nat_lit 209, PySem.Obj.mk (PySem.Value.type "tuple") Option.none (PySem.Data.seq #[kS "self" 447, kS "name" 448, kS "others" 449]) #[]) ::
  (nat_lit 210, PySem.Obj.mk (PySem.Value.type "tuple") Option.none (PySem.Data.seq #[]) #[]) ::
  (nat_lit 212, PySem.Obj.mk (PySem.Value.type "code") Option.none (PySem.Data.fields #[kS "idle" 444, kS "House.idle" 445, kS "/claim/cut.py" 446, PySem.Value.int 114 0, PySem.Value.int 2 0, PySem.Value.int 0 0, PySem.Value.int 0 0, PySem.Value.int 3 0, kR 207, PySem.Value.bool Bool.true, PySem.Value.int 181 0, kR 208, PySem.Value.none, kR 209, kR 210, kR 211, PySem.Value.int 450 0, PySem.Value.int 114 0, kS "/claim/cut.py" 451]) #[]) ::
  (nat_lit 213, PySem.Obj.mk (PySem.Value.type "function") Option.none (PySem.Data.func (PySem.FuncData.mk (kN "idle") (kN "House.idle") (defArgs (inClass (top 25) 9)) (PySem.FuncBody.stmts (defBody (inClass (top 25) 9))) (defScope (inClass (top 25) 9)) 3 [] PySem.Value.none PySem.Value.none PySem.Value.none (kS "waithouse.houses" 356) Option.none (kR 212) PySem.Value.none 0)) #[]) ::
  (nat_lit 214, PySem.Obj.mk (PySem.Value.type "tuple") Option.none (PySem.Data.seq #[kS "count" 453, kS "gaps" 454]) #[]) ::
  (nat_lit 215, PySem.Obj.mk (PySem.Value.type "dict") Option.none (PySem.Data.dict #[kE P "__module__" 365 (kS "waithouse.houses" 356), kE P "__firstlineno__" 369 (PySem.Value.int 79 368), kE P "__init__" 377 (kR 149), kE P "add" 389 (kR 157), kE P "drop" 397 (kR 164), kE P "need" 405 (kR 171), kE P "names" 412 (kR 178), kE P "gap" 420 (kR 185), kE P "table" 427 (kR 192), kE P "ring" 434 (kR 199), kE P "chain" 443 (kR 206), kE P "idle" 452 (kR 213), kE P "__static_attributes__" 455 (kR 214), kE P "__dict__" 457 (kR 217), kE P "__weakref__" 459 (kR 218), kE P "__doc__" 460 PySem.Value.none] 4) #[]) ::
  (nat_lit 216, PySem.Obj.mk (PySem.Value.type "type") Option.none (PySem.Data.cls (PySem.ClassData.mk (kN "House") [PySem.Value.type "object"] [kR 216, PySem.Value.type "object"] 215 (kN "House") Bool.true [] [] Bool.false Option.none Bool.false)) #[Option.none, Option.none, Option.some (kS "House" 358), Option.some (kS "House" 366), Option.some (PySem.Value.builtin "object.__new__"), Option.some (PySem.Value.bool Bool.true)]) ::
  (nat_lit 217, PySem.Obj.mk (PySem.Value.type "getset_descriptor") Option.none (PySem.Data.fields #[kS "__dict__" 456, kR 216, PySem.Value.builtin "function.__dict__", PySem.Value.builtin "function.__dict__#set"]) #[]) ::
  (nat_lit 218, PySem.Obj.mk (PySem.Value.type "getset_descriptor") Option.none (PySem.Data.fields #[kS "__weakref__" 458, kR 216, PySem.Value.builtin "ExceptionGroup.__weakref__", PySem.Value.none]) #[]) ::
  (nat_lit 221, PySem.Obj.mk (PySem.Value.type "tuple") Option.none (PySem.Data.seq #[]) #[]) ::
  (nat_lit 223, PySem.Obj.mk (PySem.Value.type "tuple") Option.none (PySem.Data.seq #[kS "gaps" 466, kS "found" 467, kS "gap" 468]) #[]) ::
  (nat_lit 224, PySem.Obj.mk (PySem.Value.type "tuple") Option.none (PySem.Data.seq #[]) #[]) ::
  (nat_lit 226, PySem.Obj.mk (PySem.Value.type "code") Option.none (PySem.Data.fields #[kS "all_bounds" 463, kS "all_bounds" 464, kS "/claim/cut.py" 465, PySem.Value.int 119 0, PySem.Value.int 1 0, PySem.Value.int 0 0, PySem.Value.int 0 0, PySem.Value.int 3 0, kR 221, PySem.Value.bool Bool.true, PySem.Value.int 181 0, kR 222, PySem.Value.none, kR 223, kR 224, kR 225, PySem.Value.int 469 0, PySem.Value.int 119 0, kS "/claim/cut.py" 470]) #[]) ::
  (nat_lit 227, PySem.Obj.mk (PySem.Value.type "function") Option.none (PySem.Data.func (PySem.FuncData.mk (kN "all_bounds") (kN "all_bounds") (defArgs (top 26)) (PySem.FuncBody.stmts (defBody (top 26))) (defScope (top 26)) 3 [] PySem.Value.none PySem.Value.none PySem.Value.none (kS "waithouse.houses" 356) Option.none (kR 226) PySem.Value.none 0)) #[]) ::
  (nat_lit 228, PySem.Obj.mk (PySem.Value.type "tuple") Option.none (PySem.Data.seq #[]) #[]) ::
  (nat_lit 231, PySem.Obj.mk (PySem.Value.type "code") Option.none (PySem.Data.fields #[kS "all_bound_names" 472, kS "all_bound_names" 473, kS "/claim/cut.py" 474, PySem.Value.int 124 0, PySem.Value.int 1 0, PySem.Value.int 0 0, PySem.Value.int 0 0, PySem.Value.int 3 0, kR 228, PySem.Value.bool Bool.true, PySem.Value.int 181 0, kR 229, PySem.Value.none, PySem.Value.none, PySem.Value.none, kR 230, PySem.Value.int 475 0, PySem.Value.int 124 0, kS "/claim/cut.py" 476]) #[]) ::
  (nat_lit 232, PySem.Obj.mk (PySem.Value.type "function") Option.none (PySem.Data.func (PySem.FuncData.mk (kN "all_bound_names") (kN "all_bound_names") (defArgs (top 27)) (PySem.FuncBody.stmts (defBody (top 27))) (defScope (top 27)) 3 [] PySem.Value.none PySem.Value.none PySem.Value.none (kS "waithouse.houses" 356) Option.none (kR 231) PySem.Value.none 0)) #[]) ::
  (nat_lit 233, PySem.Obj.mk (PySem.Value.type "tuple") Option.none (PySem.Data.seq #[]) #[]) ::
  (nat_lit 235, PySem.Obj.mk (PySem.Value.type "tuple") Option.none (PySem.Data.seq #[kS "gap" 481, kS "ends" 482]) #[]) ::
  (nat_lit 236, PySem.Obj.mk (PySem.Value.type "tuple") Option.none (PySem.Data.seq #[]) #[]) ::
  (nat_lit 238, PySem.Obj.mk (PySem.Value.type "code") Option.none (PySem.Data.fields #[kS "ends_of" 478, kS "ends_of" 479, kS "/claim/cut.py" 480, PySem.Value.int 129 0, PySem.Value.int 1 0, PySem.Value.int 0 0, PySem.Value.int 0 0, PySem.Value.int 3 0, kR 233, PySem.Value.bool Bool.true, PySem.Value.int 181 0, kR 234, PySem.Value.none, kR 235, kR 236, kR 237, PySem.Value.int 483 0, PySem.Value.int 129 0, kS "/claim/cut.py" 484]) #[]) ::
  (nat_lit 239, PySem.Obj.mk (PySem.Value.type "function") Option.none (PySem.Data.func (PySem.FuncData.mk (kN "ends_of") (kN "ends_of") (defArgs (top 28)) (PySem.FuncBody.stmts (defBody (top 28))) (defScope (top 28)) 3 [] PySem.Value.none PySem.Value.none PySem.Value.none (kS "waithouse.houses" 356) Option.none (kR 238) PySem.Value.none 0)) #[]) ::
  (nat_lit 240, PySem.Obj.mk (PySem.Value.type "tuple") Option.none (PySem.Data.seq #[]) #[]) ::
  (nat_lit 243, PySem.Obj.mk (PySem.Value.type "code") Option.none (PySem.Data.fields #[kS "names_at" 486, kS "names_at" 487, kS "/claim/cut.py" 488, PySem.Value.int 136 0, PySem.Value.int 2 0, PySem.Value.int 0 0, PySem.Value.int 0 0, PySem.Value.int 3 0, kR 240, PySem.Value.bool Bool.true, PySem.Value.int 181 0, kR 241, PySem.Value.none, PySem.Value.none, PySem.Value.none, kR 242, PySem.Value.int 489 0, PySem.Value.int 136 0, kS "/claim/cut.py" 490]) #[]) ::
  (nat_lit 244, PySem.Obj.mk (PySem.Value.type "function") Option.none (PySem.Data.func (PySem.FuncData.mk (kN "names_at") (kN "names_at") (defArgs (top 29)) (PySem.FuncBody.stmts (defBody (top 29))) (defScope (top 29)) 3 [] PySem.Value.none PySem.Value.none PySem.Value.none (kS "waithouse.houses" 356) Option.none (kR 243) PySem.Value.none 0)) #[]) ::
  (nat_lit 245, PySem.Obj.mk (PySem.Value.type "tuple") Option.none (PySem.Data.seq #[]) #[]) ::
  (nat_lit 247, PySem.Obj.mk (PySem.Value.type "tuple") Option.none (PySem.Data.seq #[kS "_law_script" 497, kS "_law_k" 498, kS "_law_seed" 499, kS "_law_some" 500]) #[]) ::
  (nat_lit 248, PySem.Obj.mk (PySem.Value.type "tuple") Option.none (PySem.Data.seq #[]) #[]) ::
  (nat_lit 250, PySem.Obj.mk (PySem.Value.type "code") Option.none (PySem.Data.fields #[kS "_law_cell" 494, kS "_law_cell" 495, kS "/claim/cut.py" 496, PySem.Value.int 142 0, PySem.Value.int 2 0, PySem.Value.int 0 0, PySem.Value.int 0 0, PySem.Value.int 3 0, kR 245, PySem.Value.bool Bool.true, PySem.Value.int 181 0, kR 246, PySem.Value.none, kR 247, kR 248, kR 249, PySem.Value.int 501 0, PySem.Value.int 142 0, kS "/claim/cut.py" 502]) #[]) ::
  (nat_lit 251, PySem.Obj.mk (PySem.Value.type "function") Option.none (PySem.Data.func (PySem.FuncData.mk (kN "_law_cell") (kN "_law_cell") (defArgs (top 31)) (PySem.FuncBody.stmts (defBody (top 31))) (defScope (top 31)) 3 [] PySem.Value.none PySem.Value.none PySem.Value.none (kS "law_waithouse_k31_whole_houses" 492) Option.none (kR 250) PySem.Value.none 0)) #[]) ::
  (nat_lit 259, PySem.Obj.mk (PySem.Value.type "tuple") Option.none (PySem.Data.seq #[]) #[]) ::
  (nat_lit 261, PySem.Obj.mk (PySem.Value.type "tuple") Option.none (PySem.Data.seq #[kS "_law_cell_here" 514]) #[]) ::
  (nat_lit 262, PySem.Obj.mk (PySem.Value.type "tuple") Option.none (PySem.Data.seq #[]) #[]) ::
  (nat_lit 264, PySem.Obj.mk (PySem.Value.type "code") Option.none (PySem.Data.fields #[kS "_law_big" 511, kS "_law_big" 512, kS "/claim/cut.py" 513, PySem.Value.int 152 0, PySem.Value.int 1 0, PySem.Value.int 0 0, PySem.Value.int 0 0, PySem.Value.int 3 0, kR 259, PySem.Value.bool Bool.true, PySem.Value.int 181 0, kR 260, PySem.Value.none, kR 261, kR 262, kR 263, PySem.Value.int 515 0, PySem.Value.int 152 0, kS "/claim/cut.py" 516]) #[]) ::
  (nat_lit 265, PySem.Obj.mk (PySem.Value.type "function") Option.none (PySem.Data.func (PySem.FuncData.mk (kN "_law_big") (kN "_law_big") (defArgs (top 33)) (PySem.FuncBody.stmts (defBody (top 33))) (defScope (top 33)) 3 [] PySem.Value.none PySem.Value.none PySem.Value.none (kS "law_waithouse_k31_whole_houses" 492) Option.none (kR 264) PySem.Value.none 0)) #[]) ::
  (nat_lit 266, PySem.Obj.mk (PySem.Value.type "tuple") Option.none (PySem.Data.seq #[]) #[]) ::
  (nat_lit 269, PySem.Obj.mk (PySem.Value.type "code") Option.none (PySem.Data.fields #[kS "_law_times" 518, kS "_law_times" 519, kS "/claim/cut.py" 520, PySem.Value.int 156 0, PySem.Value.int 3 0, PySem.Value.int 0 0, PySem.Value.int 0 0, PySem.Value.int 3 0, kR 266, PySem.Value.bool Bool.true, PySem.Value.int 181 0, kR 267, PySem.Value.none, PySem.Value.none, PySem.Value.none, kR 268, PySem.Value.int 521 0, PySem.Value.int 156 0, kS "/claim/cut.py" 522]) #[]) ::
  (nat_lit 270, PySem.Obj.mk (PySem.Value.type "function") Option.none (PySem.Data.func (PySem.FuncData.mk (kN "_law_times") (kN "_law_times") (defArgs (top 34)) (PySem.FuncBody.stmts (defBody (top 34))) (defScope (top 34)) 3 [] PySem.Value.none PySem.Value.none PySem.Value.none (kS "law_waithouse_k31_whole_houses" 492) Option.none (kR 269) PySem.Value.none 0)) #[]) ::
  (nat_lit 271, PySem.Obj.mk (PySem.Value.type "tuple") Option.none (PySem.Data.seq #[]) #[]) ::
  (nat_lit 273, PySem.Obj.mk (PySem.Value.type "tuple") Option.none (PySem.Data.seq #[kS "_law_script" 527, kS "_law_at" 528]) #[]) ::
  (nat_lit 274, PySem.Obj.mk (PySem.Value.type "tuple") Option.none (PySem.Data.seq #[]) #[]) ::
  (nat_lit 276, PySem.Obj.mk (PySem.Value.type "code") Option.none (PySem.Data.fields #[kS "_law_bag" 524, kS "_law_bag" 525, kS "/claim/cut.py" 526, PySem.Value.int 158 0, PySem.Value.int 2 0, PySem.Value.int 0 0, PySem.Value.int 0 0, PySem.Value.int 3 0, kR 271, PySem.Value.bool Bool.true, PySem.Value.int 181 0, kR 272, PySem.Value.none, kR 273, kR 274, kR 275, PySem.Value.int 529 0, PySem.Value.int 158 0, kS "/claim/cut.py" 530]) #[]) ::
  (nat_lit 277, PySem.Obj.mk (PySem.Value.type "function") Option.none (PySem.Data.func (PySem.FuncData.mk (kN "_law_bag") (kN "_law_bag") (defArgs (top 35)) (PySem.FuncBody.stmts (defBody (top 35))) (defScope (top 35)) 3 [] PySem.Value.none PySem.Value.none PySem.Value.none (kS "law_waithouse_k31_whole_houses" 492) Option.none (kR 276) PySem.Value.none 0)) #[]) ::
  (nat_lit 278, PySem.Obj.mk (PySem.Value.type "tuple") Option.none (PySem.Data.seq #[]) #[]) ::
  (nat_lit 280, PySem.Obj.mk (PySem.Value.type "tuple") Option.none (PySem.Data.seq #[kS "_law_bag_here" 535, kS "_law_many_here" 536, kS "_law_some" 537]) #[]) ::
  (nat_lit 281, PySem.Obj.mk (PySem.Value.type "tuple") Option.none (PySem.Data.seq #[]) #[]) ::
  (nat_lit 283, PySem.Obj.mk (PySem.Value.type "code") Option.none (PySem.Data.fields #[kS "_law_take" 532, kS "_law_take" 533, kS "/claim/cut.py" 534, PySem.Value.int 160 0, PySem.Value.int 2 0, PySem.Value.int 0 0, PySem.Value.int 0 0, PySem.Value.int 3 0, kR 278, PySem.Value.bool Bool.true, PySem.Value.int 181 0, kR 279, PySem.Value.none, kR 280, kR 281, kR 282, PySem.Value.int 538 0, PySem.Value.int 160 0, kS "/claim/cut.py" 539]) #[]) ::
  (nat_lit 284, PySem.Obj.mk (PySem.Value.type "function") Option.none (PySem.Data.func (PySem.FuncData.mk (kN "_law_take") (kN "_law_take") (defArgs (top 36)) (PySem.FuncBody.stmts (defBody (top 36))) (defScope (top 36)) 3 [] PySem.Value.none PySem.Value.none PySem.Value.none (kS "law_waithouse_k31_whole_houses" 492) Option.none (kR 283) PySem.Value.none 0)) #[]) ::
  (nat_lit 285, PySem.Obj.mk (PySem.Value.type "tuple") Option.none (PySem.Data.seq #[]) #[]) ::
  (nat_lit 287, PySem.Obj.mk (PySem.Value.type "tuple") Option.none (PySem.Data.seq #[kS "_law_script" 544, kS "_law_at" 545, kS "_law_most" 546, kS "_law_many_here" 547]) #[]) ::
  (nat_lit 288, PySem.Obj.mk (PySem.Value.type "tuple") Option.none (PySem.Data.seq #[]) #[]) ::
  (nat_lit 290, PySem.Obj.mk (PySem.Value.type "code") Option.none (PySem.Data.fields #[kS "_law_many" 541, kS "_law_many" 542, kS "/claim/cut.py" 543, PySem.Value.int 168 0, PySem.Value.int 3 0, PySem.Value.int 0 0, PySem.Value.int 0 0, PySem.Value.int 3 0, kR 285, PySem.Value.bool Bool.true, PySem.Value.int 181 0, kR 286, PySem.Value.none, kR 287, kR 288, kR 289, PySem.Value.int 548 0, PySem.Value.int 168 0, kS "/claim/cut.py" 549]) #[]) ::
  (nat_lit 291, PySem.Obj.mk (PySem.Value.type "function") Option.none (PySem.Data.func (PySem.FuncData.mk (kN "_law_many") (kN "_law_many") (defArgs (top 37)) (PySem.FuncBody.stmts (defBody (top 37))) (defScope (top 37)) 3 [] PySem.Value.none PySem.Value.none PySem.Value.none (kS "law_waithouse_k31_whole_houses" 492) Option.none (kR 290) PySem.Value.none 0)) #[]) ::
  (nat_lit 292, PySem.Obj.mk (PySem.Value.type "tuple") Option.none (PySem.Data.seq #[]) #[]) ::
  (nat_lit 294, PySem.Obj.mk (PySem.Value.type "tuple") Option.none (PySem.Data.seq #[kS "_law_table" 554, kS "_law_times_here" 555, kS "_law_a" 556, kS "_law_b" 557, kS "_law_entry" 558]) #[]) ::
  (nat_lit 295, PySem.Obj.mk (PySem.Value.type "tuple") Option.none (PySem.Data.seq #[]) #[]) ::
  (nat_lit 297, PySem.Obj.mk (PySem.Value.type "code") Option.none (PySem.Data.fields #[kS "_law_lies" 551, kS "_law_lies" 552, kS "/claim/cut.py" 553, PySem.Value.int 173 0, PySem.Value.int 2 0, PySem.Value.int 0 0, PySem.Value.int 0 0, PySem.Value.int 3 0, kR 292, PySem.Value.bool Bool.true, PySem.Value.int 181 0, kR 293, PySem.Value.none, kR 294, kR 295, kR 296, PySem.Value.int 559 0, PySem.Value.int 173 0, kS "/claim/cut.py" 560]) #[]) ::
  (nat_lit 298, PySem.Obj.mk (PySem.Value.type "function") Option.none (PySem.Data.func (PySem.FuncData.mk (kN "_law_lies") (kN "_law_lies") (defArgs (top 38)) (PySem.FuncBody.stmts (defBody (top 38))) (defScope (top 38)) 3 [] PySem.Value.none PySem.Value.none PySem.Value.none (kS "law_waithouse_k31_whole_houses" 492) Option.none (kR 297) PySem.Value.none 0)) #[]) ::
  (nat_lit 299, PySem.Obj.mk (PySem.Value.type "tuple") Option.none (PySem.Data.seq #[]) #[]) ::
  (nat_lit 301, PySem.Obj.mk (PySem.Value.type "tuple") Option.none (PySem.Data.seq #[kS "_law_times_here" 565, kS "_law_bounds" 566, kS "_law_bound" 567]) #[]) ::
  (nat_lit 302, PySem.Obj.mk (PySem.Value.type "tuple") Option.none (PySem.Data.seq #[]) #[]) ::
  (nat_lit 304, PySem.Obj.mk (PySem.Value.type "code") Option.none (PySem.Data.fields #[kS "_law_kept" 562, kS "_law_kept" 563, kS "/claim/cut.py" 564, PySem.Value.int 180 0, PySem.Value.int 2 0, PySem.Value.int 0 0, PySem.Value.int 0 0, PySem.Value.int 3 0, kR 299, PySem.Value.bool Bool.true, PySem.Value.int 181 0, kR 300, PySem.Value.none, kR 301, kR 302, kR 303, PySem.Value.int 568 0, PySem.Value.int 180 0, kS "/claim/cut.py" 569]) #[]) ::
  (nat_lit 305, PySem.Obj.mk (PySem.Value.type "function") Option.none (PySem.Data.func (PySem.FuncData.mk (kN "_law_kept") (kN "_law_kept") (defArgs (top 39)) (PySem.FuncBody.stmts (defBody (top 39))) (defScope (top 39)) 3 [] PySem.Value.none PySem.Value.none PySem.Value.none (kS "law_waithouse_k31_whole_houses" 492) Option.none (kR 304) PySem.Value.none 0)) #[]) ::
  (nat_lit 306, PySem.Obj.mk (PySem.Value.type "tuple") Option.none (PySem.Data.seq #[]) #[]) ::
  (nat_lit 308, PySem.Obj.mk (PySem.Value.type "tuple") Option.none (PySem.Data.seq #[kS "_law_found" 574, kS "_law_due_here" 575]) #[]) ::
  (nat_lit 309, PySem.Obj.mk (PySem.Value.type "tuple") Option.none (PySem.Data.seq #[]) #[]) ::
  (nat_lit 311, PySem.Obj.mk (PySem.Value.type "code") Option.none (PySem.Data.fields #[kS "_law_truth" 571, kS "_law_truth" 572, kS "/claim/cut.py" 573, PySem.Value.int 185 0, PySem.Value.int 2 0, PySem.Value.int 0 0, PySem.Value.int 0 0, PySem.Value.int 3 0, kR 306, PySem.Value.bool Bool.true, PySem.Value.int 181 0, kR 307, PySem.Value.none, kR 308, kR 309, kR 310, PySem.Value.int 576 0, PySem.Value.int 185 0, kS "/claim/cut.py" 577]) #[]) ::
  (nat_lit 312, PySem.Obj.mk (PySem.Value.type "function") Option.none (PySem.Data.func (PySem.FuncData.mk (kN "_law_truth") (kN "_law_truth") (defArgs (top 40)) (PySem.FuncBody.stmts (defBody (top 40))) (defScope (top 40)) 3 [] PySem.Value.none PySem.Value.none PySem.Value.none (kS "law_waithouse_k31_whole_houses" 492) Option.none (kR 311) PySem.Value.none 0)) #[]) ::
  (nat_lit 313, PySem.Obj.mk (PySem.Value.type "tuple") Option.none (PySem.Data.seq #[]) #[]) ::
  (nat_lit 315, PySem.Obj.mk (PySem.Value.type "tuple") Option.none (PySem.Data.seq #[kS "_law_bag_here" 582, kS "_law_times_here" 583, kS "_law_loose" 584, kS "_law_a" 585, kS "_law_b" 586, kS "_law_some" 587, kS "_law_low" 588, kS "_law_high" 589, kS "_law_way" 590]) #[]) ::
  (nat_lit 316, PySem.Obj.mk (PySem.Value.type "tuple") Option.none (PySem.Data.seq #[]) #[]) ::
  (nat_lit 318, PySem.Obj.mk (PySem.Value.type "code") Option.none (PySem.Data.fields #[kS "_law_gap_round" 579, kS "_law_gap_round" 580, kS "/claim/cut.py" 581, PySem.Value.int 189 0, PySem.Value.int 3 0, PySem.Value.int 0 0, PySem.Value.int 0 0, PySem.Value.int 3 0, kR 313, PySem.Value.bool Bool.true, PySem.Value.int 181 0, kR 314, PySem.Value.none, kR 315, kR 316, kR 317, PySem.Value.int 591 0, PySem.Value.int 189 0, kS "/claim/cut.py" 592]) #[]) ::
  (nat_lit 319, PySem.Obj.mk (PySem.Value.type "function") Option.none (PySem.Data.func (PySem.FuncData.mk (kN "_law_gap_round") (kN "_law_gap_round") (defArgs (top 41)) (PySem.FuncBody.stmts (defBody (top 41))) (defScope (top 41)) 3 [] PySem.Value.none PySem.Value.none PySem.Value.none (kS "law_waithouse_k31_whole_houses" 492) Option.none (kR 318) PySem.Value.none 0)) #[]) ::
  (nat_lit 320, PySem.Obj.mk (PySem.Value.type "tuple") Option.none (PySem.Data.seq #[]) #[]) ::
  (nat_lit 322, PySem.Obj.mk (PySem.Value.type "tuple") Option.none (PySem.Data.seq #[kS "_law_gaps" 597, kS "_law_ends_here" 598, kS "_law_name" 599, kS "_law_a" 600, kS "_law_b" 601, kS "_law_low" 602, kS "_law_high" 603]) #[]) ::
  (nat_lit 323, PySem.Obj.mk (PySem.Value.type "tuple") Option.none (PySem.Data.seq #[]) #[]) ::
  (nat_lit 325, PySem.Obj.mk (PySem.Value.type "code") Option.none (PySem.Data.fields #[kS "_law_ends" 594, kS "_law_ends" 595, kS "/claim/cut.py" 596, PySem.Value.int 203 0, PySem.Value.int 1 0, PySem.Value.int 0 0, PySem.Value.int 0 0, PySem.Value.int 3 0, kR 320, PySem.Value.bool Bool.true, PySem.Value.int 181 0, kR 321, PySem.Value.none, kR 322, kR 323, kR 324, PySem.Value.int 604 0, PySem.Value.int 203 0, kS "/claim/cut.py" 605]) #[]) ::
  (nat_lit 326, PySem.Obj.mk (PySem.Value.type "function") Option.none (PySem.Data.func (PySem.FuncData.mk (kN "_law_ends") (kN "_law_ends") (defArgs (top 42)) (PySem.FuncBody.stmts (defBody (top 42))) (defScope (top 42)) 3 [] PySem.Value.none PySem.Value.none PySem.Value.none (kS "law_waithouse_k31_whole_houses" 492) Option.none (kR 325) PySem.Value.none 0)) #[]) ::
  (nat_lit 327, PySem.Obj.mk (PySem.Value.type "tuple") Option.none (PySem.Data.seq #[]) #[]) ::
  (nat_lit 330, PySem.Obj.mk (PySem.Value.type "code") Option.none (PySem.Data.fields #[kS "_law_due" 607, kS "_law_due" 608, kS "/claim/cut.py" 609, PySem.Value.int 212 0, PySem.Value.int 2 0, PySem.Value.int 0 0, PySem.Value.int 0 0, PySem.Value.int 3 0, kR 327, PySem.Value.bool Bool.true, PySem.Value.int 181 0, kR 328, PySem.Value.none, PySem.Value.none, PySem.Value.none, kR 329, PySem.Value.int 610 0, PySem.Value.int 212 0, kS "/claim/cut.py" 611]) #[]) ::
  (nat_lit 331, PySem.Obj.mk (PySem.Value.type "function") Option.none (PySem.Data.func (PySem.FuncData.mk (kN "_law_due") (kN "_law_due") (defArgs (top 43)) (PySem.FuncBody.stmts (defBody (top 43))) (defScope (top 43)) 3 [] PySem.Value.none PySem.Value.none PySem.Value.none (kS "law_waithouse_k31_whole_houses" 492) Option.none (kR 330) PySem.Value.none 0)) #[]) ::
  (nat_lit 332, PySem.Obj.mk (PySem.Value.type "tuple") Option.none (PySem.Data.seq #[]) #[]) ::
  (nat_lit 334, PySem.Obj.mk (PySem.Value.type "tuple") Option.none (PySem.Data.seq #[kS "_law_house" 616, kS "_law_gaps" 617, kS "_law_bag_here" 618, kS "_law_k" 619, kS "_law_times_here" 620, kS "_law_name" 621, kS "_law_loose" 622, kS "_law_gap" 623]) #[]) ::
  (nat_lit 335, PySem.Obj.mk (PySem.Value.type "tuple") Option.none (PySem.Data.seq #[]) #[]) ::
  (nat_lit 337, PySem.Obj.mk (PySem.Value.type "code") Option.none (PySem.Data.fields #[kS "_law_deed" 613, kS "_law_deed" 614, kS "/claim/cut.py" 615, PySem.Value.int 231 0, PySem.Value.int 5 0, PySem.Value.int 0 0, PySem.Value.int 0 0, PySem.Value.int 3 0, kR 332, PySem.Value.bool Bool.true, PySem.Value.int 181 0, kR 333, PySem.Value.none, kR 334, kR 335, kR 336, PySem.Value.int 624 0, PySem.Value.int 231 0, kS "/claim/cut.py" 625]) #[]) ::
  (nat_lit 338, PySem.Obj.mk (PySem.Value.type "function") Option.none (PySem.Data.func (PySem.FuncData.mk (kN "_law_deed") (kN "_law_deed") (defArgs (top 44)) (PySem.FuncBody.stmts (defBody (top 44))) (defScope (top 44)) 3 [] PySem.Value.none PySem.Value.none PySem.Value.none (kS "law_waithouse_k31_whole_houses" 492) Option.none (kR 337) PySem.Value.none 0)) #[]) ::
  (nat_lit 339, PySem.Obj.mk (PySem.Value.type "tuple") Option.none (PySem.Data.seq #[]) #[]) ::
  (nat_lit 341, PySem.Obj.mk (PySem.Value.type "tuple") Option.none (PySem.Data.seq #[kS "_law_found" 630, kS "_law_gaps" 631, kS "_law_point" 632, kS "_law_ends_here" 633, kS "_law_some" 634, kS "_law_mark" 635]) #[]) ::
  (nat_lit 342, PySem.Obj.mk (PySem.Value.type "tuple") Option.none (PySem.Data.seq #[]) #[]) ::
  (nat_lit 344, PySem.Obj.mk (PySem.Value.type "code") Option.none (PySem.Data.fields #[kS "_law_walked" 627, kS "_law_walked" 628, kS "/claim/cut.py" 629, PySem.Value.int 246 0, PySem.Value.int 3 0, PySem.Value.int 0 0, PySem.Value.int 0 0, PySem.Value.int 3 0, kR 339, PySem.Value.bool Bool.true, PySem.Value.int 181 0, kR 340, PySem.Value.none, kR 341, kR 342, kR 343, PySem.Value.int 636 0, PySem.Value.int 246 0, kS "/claim/cut.py" 637]) #[]) ::
  (nat_lit 345, PySem.Obj.mk (PySem.Value.type "function") Option.none (PySem.Data.func (PySem.FuncData.mk (kN "_law_walked") (kN "_law_walked") (defArgs (top 45)) (PySem.FuncBody.stmts (defBody (top 45))) (defScope (top 45)) 3 [] PySem.Value.none PySem.Value.none PySem.Value.none (kS "law_waithouse_k31_whole_houses" 492) Option.none (kR 344) PySem.Value.none 0)) #[]) ::
  (nat_lit 346, PySem.Obj.mk (PySem.Value.type "tuple") Option.none (PySem.Data.seq #[]) #[]) ::
  (nat_lit 348, PySem.Obj.mk (PySem.Value.type "tuple") Option.none (PySem.Data.seq #[kS "_law_house" 642, kS "_law_gaps" 643, kS "_law_found" 644, kS "_law_first" 645, kS "_law_walked_here" 646]) #[]) ::
  (nat_lit 349, PySem.Obj.mk (PySem.Value.type "tuple") Option.none (PySem.Data.seq #[]) #[]) ::
  (nat_lit 351, PySem.Obj.mk (PySem.Value.type "code") Option.none (PySem.Data.fields #[kS "_law_ring_good" 639, kS "_law_ring_good" 640, kS "/claim/cut.py" 641, PySem.Value.int 255 0, PySem.Value.int 2 0, PySem.Value.int 0 0, PySem.Value.int 0 0, PySem.Value.int 3 0, kR 346, PySem.Value.bool Bool.true, PySem.Value.int 181 0, kR 347, PySem.Value.none, kR 348, kR 349, kR 350, PySem.Value.int 647 0, PySem.Value.int 255 0, kS "/claim/cut.py" 648]) #[]) ::
  (nat_lit 352, PySem.Obj.mk (PySem.Value.type "function") Option.none (PySem.Data.func (PySem.FuncData.mk (kN "_law_ring_good") (kN "_law_ring_good") (defArgs (top 46)) (PySem.FuncBody.stmts (defBody (top 46))) (defScope (top 46)) 3 [] PySem.Value.none PySem.Value.none PySem.Value.none (kS "law_waithouse_k31_whole_houses" 492) Option.none (kR 351) PySem.Value.none 0)) #[]) ::
  (nat_lit 353, PySem.Obj.mk (PySem.Value.type "tuple") Option.none (PySem.Data.seq #[]) #[]) ::
  (nat_lit 355, PySem.Obj.mk (PySem.Value.type "tuple") Option.none (PySem.Data.seq #[kS "_law_house" 653, kS "_law_gaps" 654, kS "_law_pair" 655, kS "_law_entry" 656, kS "_law_tries_here" 657, kS "_law_found" 658, kS "_law_bounds" 659, kS "_law_times_here" 660]) #[]) ::
  (nat_lit 356, PySem.Obj.mk (PySem.Value.type "tuple") Option.none (PySem.Data.seq #[]) #[]) ::
  (nat_lit 358, PySem.Obj.mk (PySem.Value.type "code") Option.none (PySem.Data.fields #[kS "_law_pair_good" 650, kS "_law_pair_good" 651, kS "/claim/cut.py" 652, PySem.Value.int 262 0, PySem.Value.int 5 0, PySem.Value.int 0 0, PySem.Value.int 0 0, PySem.Value.int 3 0, kR 353, PySem.Value.bool Bool.true, PySem.Value.int 181 0, kR 354, PySem.Value.none, kR 355, kR 356, kR 357, PySem.Value.int 661 0, PySem.Value.int 262 0, kS "/claim/cut.py" 662]) #[]) ::
  (nat_lit 359, PySem.Obj.mk (PySem.Value.type "function") Option.none (PySem.Data.func (PySem.FuncData.mk (kN "_law_pair_good") (kN "_law_pair_good") (defArgs (top 47)) (PySem.FuncBody.stmts (defBody (top 47))) (defScope (top 47)) 3 [] PySem.Value.none PySem.Value.none PySem.Value.none (kS "law_waithouse_k31_whole_houses" 492) Option.none (kR 358) PySem.Value.none 0)) #[]) ::
  (nat_lit 360, PySem.Obj.mk (PySem.Value.type "tuple") Option.none (PySem.Data.seq #[]) #[]) ::
  (nat_lit 362, PySem.Obj.mk (PySem.Value.type "tuple") Option.none (PySem.Data.seq #[kS "_law_house" 667, kS "_law_gaps" 668, kS "_law_bag_here" 669, kS "_law_count" 670, kS "_law_name" 671, kS "_law_others" 672, kS "_law_with_it" 673, kS "_law_without" 674]) #[]) ::
  (nat_lit 363, PySem.Obj.mk (PySem.Value.type "tuple") Option.none (PySem.Data.seq #[]) #[]) ::
  (nat_lit 365, PySem.Obj.mk (PySem.Value.type "code") Option.none (PySem.Data.fields #[kS "_law_idle_good" 664, kS "_law_idle_good" 665, kS "/claim/cut.py" 666, PySem.Value.int 273 0, PySem.Value.int 4 0, PySem.Value.int 0 0, PySem.Value.int 0 0, PySem.Value.int 3 0, kR 360, PySem.Value.bool Bool.true, PySem.Value.int 181 0, kR 361, PySem.Value.none, kR 362, kR 363, kR 364, PySem.Value.int 675 0, PySem.Value.int 273 0, kS "/claim/cut.py" 676]) #[]) ::
  (nat_lit 366, PySem.Obj.mk (PySem.Value.type "function") Option.none (PySem.Data.func (PySem.FuncData.mk (kN "_law_idle_good") (kN "_law_idle_good") (defArgs (top 48)) (PySem.FuncBody.stmts (defBody (top 48))) (defScope (top 48)) 3 [] PySem.Value.none PySem.Value.none PySem.Value.none (kS "law_waithouse_k31_whole_houses" 492) Option.none (kR 365) PySem.Value.none 0)) #[]) ::
  (nat_lit 367, PySem.Obj.mk (PySem.Value.type "tuple") Option.none (PySem.Data.seq #[]) #[]) ::
  (nat_lit 369, PySem.Obj.mk (PySem.Value.type "tuple") Option.none (PySem.Data.seq #[kS "_law_house" 681, kS "_law_gaps" 682, kS "_law_bag_here" 683, kS "_law_tries_here" 684, kS "_law_count" 685, kS "_law_table" 686, kS "_law_bounds" 687, kS "_law_times_here" 688, kS "_law_lies_there" 689, kS "_law_pair" 690]) #[]) ::
  (nat_lit 370, PySem.Obj.mk (PySem.Value.type "tuple") Option.none (PySem.Data.seq #[]) #[]) ::
  (nat_lit 372, PySem.Obj.mk (PySem.Value.type "code") Option.none (PySem.Data.fields #[kS "_law_told" 678, kS "_law_told" 679, kS "/claim/cut.py" 680, PySem.Value.int 280 0, PySem.Value.int 4 0, PySem.Value.int 0 0, PySem.Value.int 0 0, PySem.Value.int 3 0, kR 367, PySem.Value.bool Bool.true, PySem.Value.int 181 0, kR 368, PySem.Value.none, kR 369, kR 370, kR 371, PySem.Value.int 691 0, PySem.Value.int 280 0, kS "/claim/cut.py" 692]) #[]) ::
  (nat_lit 373, PySem.Obj.mk (PySem.Value.type "function") Option.none (PySem.Data.func (PySem.FuncData.mk (kN "_law_told") (kN "_law_told") (defArgs (top 49)) (PySem.FuncBody.stmts (defBody (top 49))) (defScope (top 49)) 3 [] PySem.Value.none PySem.Value.none PySem.Value.none (kS "law_waithouse_k31_whole_houses" 492) Option.none (kR 372) PySem.Value.none 0)) #[]) ::
  (nat_lit 374, PySem.Obj.mk (PySem.Value.type "tuple") Option.none (PySem.Data.seq #[]) #[]) ::
  (nat_lit 377, PySem.Obj.mk (PySem.Value.type "code") Option.none (PySem.Data.fields #[kS "_law_tries" 694, kS "_law_tries" 695, kS "/claim/cut.py" 696, PySem.Value.int 295 0, PySem.Value.int 2 0, PySem.Value.int 0 0, PySem.Value.int 0 0, PySem.Value.int 3 0, kR 374, PySem.Value.bool Bool.true, PySem.Value.int 181 0, kR 375, PySem.Value.none, PySem.Value.none, PySem.Value.none, kR 376, PySem.Value.int 697 0, PySem.Value.int 295 0, kS "/claim/cut.py" 698]) #[]) ::
  (nat_lit 378, PySem.Obj.mk (PySem.Value.type "function") Option.none (PySem.Data.func (PySem.FuncData.mk (kN "_law_tries") (kN "_law_tries") (defArgs (top 50)) (PySem.FuncBody.stmts (defBody (top 50))) (defScope (top 50)) 3 [] PySem.Value.none PySem.Value.none PySem.Value.none (kS "law_waithouse_k31_whole_houses" 492) Option.none (kR 377) PySem.Value.none 0)) #[]) ::
  (nat_lit 379, PySem.Obj.mk (PySem.Value.type "tuple") Option.none (PySem.Data.seq #[]) #[]) ::
  (nat_lit 382, PySem.Obj.mk (PySem.Value.type "code") Option.none (PySem.Data.fields #[kS "law" 700, kS "law" 701, kS "/claim/cut.py" 702, PySem.Value.int 299 0, PySem.Value.int 1 0, PySem.Value.int 0 0, PySem.Value.int 0 0, PySem.Value.int 3 0, kR 379, PySem.Value.bool Bool.true, PySem.Value.int 181 0, kR 380, PySem.Value.none, PySem.Value.none, PySem.Value.none, kR 381, PySem.Value.int 703 0, PySem.Value.int 299 0, kS "/claim/cut.py" 704]) #[]) ::
  (nat_lit 383, PySem.Obj.mk (PySem.Value.type "function") Option.none (PySem.Data.func (PySem.FuncData.mk (kN "law") (kN "law") (defArgs (top 51)) (PySem.FuncBody.stmts (defBody (top 51))) (defScope (top 51)) 3 [] PySem.Value.none PySem.Value.none PySem.Value.none (kS "law_waithouse_k31_whole_houses" 492) Option.none (kR 382) PySem.Value.none 0)) #[]) :: []
def KA : List Addr := [2, 3, 15, 22, 23, 24, 25, 28, 35, 36, 37, 40, 42, 43, 45, 46, 47, 50, 51, 52, 55, 56, 57, 59, 60, 62, 63, 64, 67, 68, 69, 71, 72, 74, 75, 76, 79, 80, 81, 83, 84, 86, 87, 88, 90, 91, 93, 94, 95, 97, 98, 100, 101, 102, 104, 105, 107, 108, 109, 112, 113, 114, 117, 118, 119, 122, 123, 124, 127, 128, 129, 131, 132, 134, 135, 143, 145, 146, 148, 149, 150, 151, 153, 154, 156, 157, 158, 160, 161, 163, 164, 165, 167, 168, 170, 171, 172, 174, 175, 177, 178, 179, 181, 182, 184, 185, 186, 188, 189, 191, 192, 193, 195, 196, 198, 199, 200, 202, 203, 205, 206, 207, 209, 210, 212, 213, 214, 215, 216, 217, 218, 221, 223, 224, 226, 227, 228, 231, 232, 233, 235, 236, 238, 239, 240, 243, 244, 245, 247, 248, 250, 251, 259, 261, 262, 264, 265, 266, 269, 270, 271, 273, 274, 276, 277, 278, 280, 281, 283, 284, 285, 287, 288, 290, 291, 292, 294, 295, 297, 298, 299, 301, 302, 304, 305, 306, 308, 309, 311, 312, 313, 315, 316, 318, 319, 320, 322, 323, 325, 326, 327, 330, 331, 332, 334, 335, 337, 338, 339, 341, 342, 344, 345, 346, 348, 349, 351, 352, 353, 355, 356, 358, 359, 360, 362, 363, 365, 366, 367, 369, 370, 372, 373, 374, 377, 378, 379, 382, 383]
theorem KA_eq : ∀ P, KA = (KF P).map (·.1) := fun _ => by kernel_rfl
def QV : Program := { PySem.Challenge.pw_waithouse_k31_whole_houses with main := { PySem.Challenge.pw_waithouse_k31_whole_houses.main with body := [top 1, top 2, top 4, top 6, top 7, top 8, top 9, top 10, top 11, top 12, top 13, top 15, top 16, top 17, top 18, top 19, top 20, top 21, top 22, top 23, top 25, top 26, top 27, top 28, top 29, top 31, top 32, top 33, top 34, top 35, top 36, top 37, top 38, top 39, top 40, top 41, top 42, top 43, top 44, top 45, top 46, top 47, top 48, top 49, top 50, top 51] } }
lay_quick PySem.W.openEnds PySem.Challenge.pw_waithouse_k31_whole_houses
set_option maxHeartbeats 0 in
theorem left : LeftO PySem.Challenge.pw_waithouse_k31_whole_houses QV ["ring_rings", "chain_rings"] (fun s => xlAt QV [] s && recOk (RowW.records (OpenRow.toRowW (OpenLaw.row PySem.Challenge.rw_waithouse_k31_whole_houses))) s) (Hook.obs (kHook KF KA KA_eq)) (Hook.val (kHook KF KA KA_eq)) 4582 := by
  intro w
  rw [PySem.W.Fast.te15552708684749139287, PySem.W.Fast.te14364793385576792824, PySem.W.Fast.te9808396991060771600]
  kernel_rfl
end Hd

set_option Elab.async false
set_option linter.all false
set_option maxRecDepth 100000
/-! THE HAND LAYER, for ints, bools, texts, own classes, LISTS and tuples (index, slices, in, append, pop ..), calls, loops. Paste it whole ahead of your own text; what your proof does not reach may be deleted. -/
namespace L2
open PySem PySem.Spec PyProof.Rows

/-- a key: an int or a str -/
abbrev Key := Sum Int Str
def keyIs : Key → Value → Bool
  | .inl k, v => Value.isInt k v
  | .inr x, v => Value.isStrOf x v
def keyH (w : World) : Key → Int
  | .inl k => hashInt k
  | .inr x => hashStr w x
theorem keyIs_shape : ∀ {k : Key} {v : Value}, keyIs k v = true → (∃ i t, k = Sum.inl i ∧ v = Value.int i t) ∨ (∃ x t, k = Sum.inr x ∧ v = Value.str x t)
  | .inl i, v, h => by
    obtain ⟨t, e⟩ := Value.isInt_shape (k := i) (v := v) h
    exact .inl ⟨i, t, rfl, e⟩
  | .inr x, v, h => by
    obtain ⟨t, e⟩ := Value.isStrOf_shape (x := x) (v := v) h
    exact .inr ⟨x, t, rfl, e⟩
theorem keyIs_int (i : Int) (t : Tok) : keyIs (.inl i) (.int i t) = true := by simp [keyIs, Value.isInt]
theorem keyIs_str (x : Str) (t : Tok) : keyIs (.inr x) (.str x t) = true := by simp [keyIs, Value.isStrOf]
theorem key_ll (a b : Int) : decide ((Sum.inl a : Key) = Sum.inl b) = (a == b) := by
  by_cases e : a = b
  · subst e; simp
  · have h : ¬ (Sum.inl a : Key) = Sum.inl b := fun q => e (Sum.inl.inj q)
    rw [decide_eq_false h]
    exact (beq_eq_false_iff_ne.mpr e).symm
theorem key_rr (a b : Str) : decide ((Sum.inr a : Key) = Sum.inr b) = decide (a = b) := by
  by_cases e : a = b
  · subst e; simp
  · have h : ¬ (Sum.inr a : Key) = Sum.inr b := fun q => e (Sum.inr.inj q)
    rw [decide_eq_false h, decide_eq_false e]
theorem key_lr (a : Int) (b : Str) : decide ((Sum.inl a : Key) = Sum.inr b) = false := decide_eq_false (fun q => nomatch q)
theorem key_rl (a : Str) (b : Int) : decide ((Sum.inr a : Key) = Sum.inl b) = false := decide_eq_false (fun q => nomatch q)

def mixKind (prog : Program) (w : World) : PySem.KeyKind prog w Key where
  is := keyIs
  hash := keyH w
  inj := fun v a b ha hb => by
    rcases keyIs_shape ha with ⟨i, t, rfl, rfl⟩ | ⟨x, t, rfl, rfl⟩
    · rcases keyIs_shape hb with ⟨j, u, rfl, e⟩ | ⟨y, u, rfl, e⟩
      · injection e with e1 _; rw [e1]
      · exact nomatch e
    · rcases keyIs_shape hb with ⟨j, u, rfl, e⟩ | ⟨y, u, rfl, e⟩
      · exact nomatch e
      · injection e with e1 _; rw [e1]
  byValue := fun k v h => by
    rcases keyIs_shape h with ⟨i, t, rfl, rfl⟩ | ⟨x, t, rfl, rfl⟩ <;> rfl
  pyHash := fun hv h => by
    rcases keyIs_shape hv with ⟨i, t, rfl, rfl⟩ | ⟨x, t, rfl, rfl⟩
    · exact wpAny_pyHash_int h
    · exact wpAny_pyHash_str h
  eqBool := fun hu hv h => by
    rcases keyIs_shape hu with ⟨i, t, rfl, rfl⟩ | ⟨x, t, rfl, rfl⟩
    · rcases keyIs_shape hv with ⟨j, u, rfl, rfl⟩ | ⟨y, u, rfl, rfl⟩
      · rw [key_ll] at h; exact wpAny_eqBool_int h
      · rw [key_lr] at h; exact SeqAt.EqAt.int_str i t y u _ _ _ _ h
    · rcases keyIs_shape hv with ⟨j, u, rfl, rfl⟩ | ⟨y, u, rfl, rfl⟩
      · rw [key_rl] at h; exact SeqAt.EqAt.str_int x t j u _ _ _ _ h
      · rw [key_rr] at h; exact wpAny_eqBool_str h
  «strs» := fun k x t v h => by
    rcases keyIs_shape h with ⟨i, u, rfl, e⟩ | ⟨y, u, rfl, e⟩
    · exact nomatch e
    · injection e with e1 _
      subst e1
      cases v <;> rfl

theorem mixKind_is (prog : Program) (w : World) (k : Key) (v : Value) : (mixKind prog w).is k v = keyIs k v := rfl
theorem mixKind_int (prog : Program) (w : World) (i : Int) (t : Tok) : (mixKind prog w).is (.inl i) (.int i t) = true := keyIs_int i t
theorem mixKind_str (prog : Program) (w : World) (x : Str) (t : Tok) : (mixKind prog w).is (.inr x) (.str x t) = true := keyIs_str x t
end L2

namespace L2
open PySem PySem.Spec PyProof.Rows

/-- a value, without the heap -/
inductive V where
  | non | bl (b : Bool) | int (i : Int) | str (x : Str) | byt (b : Array UInt8) | flt (b : UInt64) | ref (a : Addr) | ty (n : String)
  deriving DecidableEq

def RelV : V → Value → Prop
  | .non, u => u = Value.none
  | .bl b, u => u = Value.bool b
  | .int i, u => ∃ t, u = Value.int i t
  | .str x, u => ∃ t, u = Value.str x t
  | .byt b, u => ∃ t, u = Value.bytes b t
  | .flt b, u => ∃ t, u = Value.float b t
  | .ref a, u => u = Value.ref a
  | .ty n, u => u = Value.type n

abbrev Vals : List V → List Value → Prop := Paired RelV
theorem Vals.length {xs : List V} {us : List Value} (r : Vals xs us) : xs.length = us.length := Paired.length r
theorem Vals.get : ∀ {xs : List V} {us : List Value} {i : Nat} {x : V}, Vals xs us → xs[i]? = some x → ∃ u, us[i]? = some u ∧ RelV x u
  | _, _, _, _, .nil, e => by simp at e
  | _, _, 0, _, .cons r _, e => by simp at e; subst e; exact ⟨_, rfl, r⟩
  | _, _, i + 1, x, .cons _ t, e => by
    obtain ⟨u, h1, h2⟩ := Vals.get (i := i) (x := x) t (by simpa using e)
    exact ⟨u, by simpa using h1, h2⟩
theorem Vals.set {x : V} {u : Value} (r : RelV x u) : ∀ {xs : List V} {us : List Value} (i : Nat), Vals xs us → Vals (xs.set i x) (us.set i u)
  | _, _, _, .nil => .nil
  | _, _, 0, .cons _ t => .cons r t
  | _, _, i + 1, .cons q t => .cons q (Vals.set r i t)
theorem Vals.append : ∀ {xs ys : List V} {us ws : List Value}, Vals xs us → Vals ys ws → Vals (xs ++ ys) (us ++ ws)
  | _, _, _, _, .nil, s => s
  | _, _, _, _, .cons r t, s => .cons r (Vals.append t s)
theorem Vals.take : ∀ {xs : List V} {us : List Value} (n : Nat), Vals xs us → Vals (xs.take n) (us.take n)
  | _, _, 0, _ => .nil
  | _, _, _ + 1, .nil => .nil
  | _, _, n + 1, .cons r t => .cons r (Vals.take n t)
theorem Vals.drop : ∀ {xs : List V} {us : List Value} (n : Nat), Vals xs us → Vals (xs.drop n) (us.drop n)
  | _, _, 0, r => r
  | _, _, _ + 1, .nil => .nil
  | _, _, n + 1, .cons _ t => Vals.drop n t
def RelO : Option V → Option Value → Prop
  | some v, some u => RelV v u
  | none, none => True
  | _, _ => False
def KV {κ : Type} : List (κ × V) → List (κ × Value) → Prop := Paired fun (p : κ × V) (q : κ × Value) => p.1 = q.1 ∧ RelV p.2 q.2

/-- a key of a dict (00_mix): an int or a text -/
def kV : Key → V
  | .inl i => .int i
  | .inr x => .str x

/-- what stands at a tracked address -/
inductive HO where
  /-- a list -/
  | lst (xs : List V)
  /-- a tuple (never changes) -/
  | tup (xs : List V)
  /-- a dict whose keys are ints and texts; one whose keys are tuples of ints and texts (the empty one is both) -/
  | dK (kvs : List (Key × V)) | dT (kvs : List (List Key × V))
  /-- a set of ints: its members, its size -/
  | set (S : Int → Bool) (n : Nat)
  /-- an instance of the class at C, its dict at dx, its attributes -/
  | ins (C dx : Addr) (fs : List (Str × V))
  /-- the dict of the instance at x -/
  | own (x : Addr)
  /-- the dict of an exception -/
  | xd (fs : List (Str × V))
  /-- a bound method, f of x -/
  | met (f x : Addr)
  /-- a range object lo, lo + 1, .. below hi -/
  | rng (lo hi : Int)
  /-- a thing that is known to the object (the script; a dict while a loop walks it): read, never written while it is so -/
  | frz (o : Obj) (u : HO)
  /-- a code object's table -/
  | tbl (ps : Array Value)
  /-- any other thing, by what is true of its one object (a def of one's own: SetO a S n := HO.ext fun h => ..) -/
  | ext (φ : Heap → Prop)

abbrev Hp := Addr → Option HO
def upd (H : Hp) (a : Addr) (o : HO) : Hp := fun b => if b = a then some o else H b
theorem upd_same {H : Hp} {a : Addr} {o : HO} : upd H a o a = some o := by unfold upd; rw [if_pos rfl]
theorem upd_ne {H : Hp} {a b : Addr} {o : HO} (h : b ≠ a) : upd H a o b = H b := by unfold upd; rw [if_neg h]
/-- two objects of different content stand apart -/
theorem ne_of {H : Hp} {a b : Addr} {o u : HO} (h : H a = some o) (h' : H b = some u) (d : o ≠ u) : a ≠ b := by
  intro e; subst e; rw [h] at h'; exact d (Option.some.inj h')
theorem ne_of_none {H : Hp} {a b : Addr} {o : HO} (h : H a = some o) (h' : H b = none) : a ≠ b := by
  intro e; subst e; rw [h] at h'; cases h'

section
variable (P : Program) (w : World)
def ObjOk (H : Hp) (h : Heap) (a : Addr) : HO → Prop
  | .lst xs => xs.length ≤ sizeLine ∧ ∃ (its : List Value) (n : Nat), Vals xs its ∧ h.get? a = some { cls := .type "list", data := .seq its.toArray n }
  | .tup xs => xs.length ≤ sizeLine ∧ ∃ its : List Value, Vals xs its ∧ IsTup h a its.toArray
  | .dK kvs => kvs.length ≤ sizeLine ∧ (a == sysModules) = false ∧ ∃ vs, KV kvs vs ∧ h.DictOf (mixKind P w) a vs
  | .dT kvs => kvs.length ≤ sizeLine ∧ (a == sysModules) = false ∧ ∃ xs : List (List Key × Addr × Value),
      Paired (fun (p : List Key × V) (q : List Key × Addr × Value) => p.1 = q.1 ∧ H q.2.1 = some (.tup (p.1.map kV)) ∧ RelV p.2 q.2.2) kvs xs ∧
      ∃ o es ep, h.get? a = some o ∧ o.ExactDict ∧ o.data = .dict es ep ∧ es.toList = xs.map (entryOfKey (tupleKind (mixKind P w))) ∧ (xs.map (·.1)).Nodup
  | .set S n => h.SetOf (intKind P w) a S n
  | .ins C dx fs => H dx = some (.own a) ∧ fs.length ≤ 1000 ∧ dx ≠ a ∧ h.get? a = some (PySem.W.instObj C dx) ∧
      ∃ mA, h.Ns1 dx mA ∧ (∀ f, RelO (fs.lookup f) (mA f)) ∧ PySem.Within mA (fs.map (·.1))
  | .own _ => ∃ o, h.get? a = some o
  | .xd fs => ∃ mA, h.Ns1 a mA ∧ ∀ f, RelO (fs.lookup f) (mA f)
  | .rng lo hi => ∃ t u v, h.get? a = some { cls := .type "range", data := .fields #[.int lo t, .int hi u, .int 1 v] }
  | .frz o u => h.get? a = some o ∧ ObjOk H h a u
  | .tbl ps => h.get? a = some { cls := .none, data := .fields ps }
  | .met f x => h.get? a = some (PySem.W.methodObj (.ref f) (.ref x))
  | .ext φ => φ h ∧ (∃ o, h.get? a = some o) ∧ ∀ h1 h2 : Heap, φ h1 → (∀ o, h1.get? a = some o → h2.get? a = some o) → φ h2
/-- the abstract heap is held -/
def HOk (H : Hp) (h : Heap) : Prop := ∀ a o, H a = some o → ObjOk P w H h a o
end

section
variable {P : Program} {w : World} {H H' : Hp} {h h' : Heap} {a : Addr} {o : HO}
theorem ObjOk.lt (x : ObjOk P w H h a o) : a < h.objs.size := by
  cases o with
  | lst xs => obtain ⟨_, _, _, _, e⟩ := x; exact Heap.lt_size e
  | tup xs => obtain ⟨_, _, _, p⟩ := x; exact p.lt
  | dK kvs => obtain ⟨_, _, _, _, o, _, _, e, _⟩ := x; exact Heap.lt_size e
  | dT kvs => obtain ⟨_, _, _, _, o, _, _, e, _⟩ := x; exact Heap.lt_size e
  | set S n => obtain ⟨o, _, _, _, e, _⟩ := x; exact Heap.lt_size e
  | ins C dx fs => obtain ⟨_, _, _, e, _⟩ := x; exact Heap.lt_size e
  | own y => obtain ⟨_, e⟩ := x; exact Heap.lt_size e
  | xd fs => obtain ⟨_, ⟨_, _, _, e, _⟩, _⟩ := x; exact Heap.lt_size e
  | rng lo hi => obtain ⟨_, _, _, e⟩ := x; exact Heap.lt_size e
  | frz ob u => obtain ⟨e, _⟩ := x; exact Heap.lt_size e
  | tbl ps => exact Heap.lt_size (show h.get? a = some _ from x)
  | met f y => exact Heap.lt_size (show h.get? a = some _ from x)
  | ext φ => obtain ⟨_, ⟨_, e⟩, _⟩ := x; exact Heap.lt_size e
theorem Paired.mapP {α β : Type} {F G : α → β → Prop} : ∀ {l₁ : List α} {l₂ : List β}, Paired F l₁ l₂ → (∀ a b, F a b → G a b) → Paired G l₁ l₂
  | _, _, .nil, _ => .nil
  | _, _, .cons r t, f => .cons (f _ _ r) (Paired.mapP t f)
/-- what an object's description leans on: its own object, its own dict, the tuples -/
theorem ObjOk.stay (x : ObjOk P w H h a o) (k : ∀ b u, (b = a ∨ H b = some (.own a)) → h.get? b = some u → h'.get? b = some u)
    (ho : ∀ b, H b = some (.own a) → H' b = some (.own a)) (ht : ∀ b xs, H b = some (.tup xs) → H' b = some (.tup xs)) : ObjOk P w H' h' a o := by
  induction o with
  | lst xs => obtain ⟨z, its, n, r, e⟩ := x; exact ⟨z, its, n, r, k _ _ (.inl rfl) e⟩
  | tup xs => obtain ⟨z, its, r, ob, e, c⟩ := x; exact ⟨z, its, r, ob, k _ _ (.inl rfl) e, c⟩
  | dK kvs => obtain ⟨z, y, vs, r, ob, es, ep, e, c⟩ := x; exact ⟨z, y, vs, r, ob, es, ep, k _ _ (.inl rfl) e, c⟩
  | dT kvs =>
    obtain ⟨z, y, xs, r, ob, es, ep, e, c⟩ := x
    exact ⟨z, y, xs, Paired.mapP r fun p q z => ⟨z.1, ht _ _ z.2.1, z.2.2⟩, ob, es, ep, k _ _ (.inl rfl) e, c⟩
  | set S n => obtain ⟨ob, es, ep, t, e, c⟩ := x; exact ⟨ob, es, ep, t, k _ _ (.inl rfl) e, c⟩
  | ins C dx fs =>
    obtain ⟨d, z, ne, e, mA, ⟨od, es, ep, e2, c⟩, r⟩ := x
    exact ⟨ho _ d, z, ne, k _ _ (.inl rfl) e, mA, ⟨od, es, ep, k _ _ (.inr d) e2, c⟩, r⟩
  | own y => obtain ⟨ob, e⟩ := x; exact ⟨ob, k _ _ (.inl rfl) e⟩
  | xd fs => obtain ⟨mA, ⟨od, es, ep, e, c⟩, r⟩ := x; exact ⟨mA, ⟨od, es, ep, k _ _ (.inl rfl) e, c⟩, r⟩
  | rng lo hi => obtain ⟨t, u, v, e⟩ := x; exact ⟨t, u, v, k _ _ (.inl rfl) e⟩
  | frz ob u ih => obtain ⟨e, q⟩ := x; exact ⟨k _ _ (.inl rfl) e, ih q⟩
  | tbl ps =>
    have e : h.get? a = some { cls := .none, data := .fields ps } := x
    show h'.get? a = some { cls := .none, data := .fields ps }
    exact k a _ (.inl rfl) e
  | met f y =>
    have e : h.get? a = some (PySem.W.methodObj (.ref f) (.ref y)) := x
    show h'.get? a = some (PySem.W.methodObj (.ref f) (.ref y))
    exact k a _ (.inl rfl) e
  | ext φ => obtain ⟨p, ⟨o, e⟩, st⟩ := x; exact ⟨st _ _ p fun o q => k _ _ (.inl rfl) q, ⟨o, k _ _ (.inl rfl) e⟩, st⟩
theorem HOk.lt (x : HOk P w H h) (e : H a = some o) : a < h.objs.size := (x a o e).lt
theorem HOk.fresh (x : HOk P w H h) (e : h.objs.size ≤ a) : H a = none := by
  cases q : H a with
  | none => rfl
  | some u => exact absurd (Nat.lt_of_lt_of_le (x.lt q) e) (Nat.lt_irrefl _)
/-- every object of the heap is kept -/
theorem HOk.kept (x : HOk P w H h) (k : ∀ b u, h.get? b = some u → h'.get? b = some u) : HOk P w H h' := fun a o e =>
  (x a o e).stay (fun b u _ q => k b u q) (fun _ q => q) fun _ _ q => q
/-- a new object is laid and tracked -/
theorem HOk.laid (x : HOk P w H h) (k : ∀ b u, h.get? b = some u → h'.get? b = some u) (hp : h.objs.size ≤ a) (new : ObjOk P w (upd H a o) h' a o) : HOk P w (upd H a o) h' := fun b u e => by
  have hn := x.fresh hp
  by_cases hb : b = a
  · subst hb; rw [upd_same] at e; cases e; exact new
  · rw [upd_ne hb] at e
    exact (x b u e).stay (fun c v _ q => k c v q) (fun c q => by rw [upd_ne (ne_of_none q hn)]; exact q) fun c xs q => by rw [upd_ne (ne_of_none q hn)]; exact q
end

/-- what may be read as u: it is u, or a known u -/
def Rd (H : Hp) (a : Addr) (u : HO) : Prop := H a = some u ∨ ∃ o, H a = some (.frz o u)
theorem Rd.ok {P : Program} {w : World} {H : Hp} {h : Heap} {a : Addr} {u : HO} (r : Rd H a u) (x : HOk P w H h) : ObjOk P w H h a u := by
  rcases r with r | ⟨o, r⟩
  · exact x a u r
  · obtain ⟨_, q⟩ := x a _ r
    exact q
/-- what may be written -/
def Mut : Option HO → Prop
  | some (.lst _) => True
  | some (.dK _) => True
  | some (.dT _) => True
  | some (.set _ _) => True
  | some (.ins _ _ _) => True
  | some (.ext _) => True
  | _ => False
section
variable {P : Program} {w : World} {H : Hp} {h h' : Heap} {x e : Addr} {o' : HO}
/-- the object at e is changed: x itself, or the dict of the instance x -/
theorem HOk.write (ok : HOk P w H h) (mu : Mut (H x)) (he : e = x ∨ H e = some (.own x)) (k : ∀ b u, b ≠ e → h.get? b = some u → h'.get? b = some u) (heo : ∃ u, h'.get? e = some u)
    (new : ObjOk P w (upd H x o') h' x o') : HOk P w (upd H x o') h' := fun b u q => by
  have nown : ∀ c y, H c = some (.own y) → c ≠ x := fun c y r z => by subst z; rw [r] at mu; exact mu
  have ntup : ∀ c xs, H c = some (.tup xs) → c ≠ x := fun c xs r z => by subst z; rw [r] at mu; exact mu
  by_cases hb : b = x
  · subst hb; rw [upd_same] at q; cases q; exact new
  · rw [upd_ne hb] at q
    by_cases hbe : b = e
    · have q' : H b = some (.own x) := by
        rcases he with z | z
        · exact absurd (hbe.trans z) hb
        · rw [hbe]; exact z
      rw [q] at q'; cases q'
      obtain ⟨v, hv⟩ := heo
      exact ⟨v, by rw [hbe]; exact hv⟩
    · refine (ok b u q).stay (fun c v hc r => k c v ?_ r) (fun c r => by rw [upd_ne (nown c b r)]; exact r) fun c xs r => by rw [upd_ne (ntup c xs r)]; exact r
      rcases hc with rfl | hc
      · exact hbe
      · rintro rfl
        rcases he with z | z
        · exact nown c b hc z
        · rw [hc] at z; cases z; exact hb rfl
end

/-! ### kept unless tracked; of the frames at fs (the callers') the slots may change (an exception that passes writes there); of the records at ex (iterators) nothing is said -/
structure Un (fs ex : List Addr) (H H' : Hp) (h h' : Heap) : Prop where
  keep : ∀ b o, h.get? b = some o → H b = none → b ∉ fs → b ∉ ex → h'.get? b = some o
  slot : ∀ b o, h.get? b = some o → H b = none → b ∈ fs → b ∉ ex → ∃ sl, h'.get? b = some { o with slots := sl }
  free : ∀ b o, h.get? b = some o → H b = none → b ∉ ex → H' b = none
  there : ∀ b o, h.get? b = some o → b ∉ ex → ∃ o', h'.get? b = some o'
  tups : ∀ b xs, H b = some (.tup xs) → H' b = some (.tup xs)
  frzs : ∀ b o u, H b = some (.frz o u) → H' b = some (.frz o u)
  tbls : ∀ b ps, H b = some (.tbl ps) → ∃ more, H' b = some (.tbl (ps ++ more))
section
variable {fs fs' ex ex' : List Addr} {H H1 H2 : Hp} {h h1 h2 h' : Heap} {a x e : Addr} {o : HO}
theorem Un.any (u : Un fs ex H H1 h h1) {b : Addr} {ob : Obj} (q : h.get? b = some ob) (n : H b = none) (hx : b ∉ ex) : ∃ sl, h1.get? b = some { ob with slots := sl } := by
  by_cases hb : b ∈ fs
  · exact u.slot b ob q n hb hx
  · exact ⟨ob.slots, u.keep b ob q n hb hx⟩
theorem Un.kept (k : ∀ b u, h.get? b = some u → h'.get? b = some u) : Un fs ex H H h h' :=
  ⟨fun b ob q _ _ _ => k b ob q, fun b ob q _ _ _ => ⟨ob.slots, k b ob q⟩, fun _ _ _ n _ => n, fun b ob q _ => ⟨ob, k b ob q⟩, fun _ _ q => q, fun _ _ _ q => q, fun _ ps q => ⟨#[], by rw [q]; simp⟩⟩
theorem Un.refl : Un fs ex H H h h := Un.kept fun _ _ q => q
theorem Un.laid (k : ∀ b u, h.get? b = some u → h'.get? b = some u) (hp : h.objs.size ≤ a) (hn : H a = none) : Un fs ex H (upd H a o) h h' where
  keep := fun b u q _ _ _ => k b u q
  slot := fun b u q _ _ _ => ⟨u.slots, k b u q⟩
  free := fun b u q n _ => by rw [upd_ne (Nat.ne_of_lt (Nat.lt_of_lt_of_le (Heap.lt_size q) hp))]; exact n
  there := fun b u q _ => ⟨u, k b u q⟩
  tups := fun b xs q => by rw [upd_ne (ne_of_none q hn)]; exact q
  frzs := fun b u xs q => by rw [upd_ne (ne_of_none q hn)]; exact q
  tbls := fun b ps q => ⟨#[], by rw [upd_ne (ne_of_none q hn), q]; simp⟩
theorem Un.write (mu : Mut (H x)) (he : e = x ∨ H e = some (.own x)) (k : ∀ b u, b ≠ e → h.get? b = some u → h'.get? b = some u) (heo : ∃ u, h'.get? e = some u) : Un fs ex H (upd H x o) h h' := by
  have hx : ∀ b, H b = none → b ≠ x := fun b n z => by subst z; rw [n] at mu; exact mu
  have hb : ∀ b, H b = none → b ≠ e := fun b n z => by
    subst z
    rcases he with r | r
    · exact hx b n r
    · rw [n] at r; cases r
  have hm : ∀ b u, H b = some u → ¬ Mut (some u) → b ≠ x := fun b u q nm z => by subst z; rw [q] at mu; exact nm mu
  refine ⟨fun b u q n _ _ => k b u (hb b n) q, fun b u q n _ _ => ⟨u.slots, k b u (hb b n) q⟩, fun b u q n _ => by rw [upd_ne (hx b n)]; exact n, fun b u q _ => ?_,
    fun b xs q => by rw [upd_ne (hm b _ q fun z => z)]; exact q, fun b u xs q => by rw [upd_ne (hm b _ q fun z => z)]; exact q, fun b ps q => ⟨#[], by rw [upd_ne (hm b _ q fun z => z), q]; simp⟩⟩
  by_cases hbe : b = e
  · subst hbe; exact heo
  · exact ⟨u, k b u hbe q⟩
end

/-! ### the heap without what is tracked -/
def trk (h : Heap) (H : Hp) : List Addr := (List.range h.objs.size).filter fun a => (H a).isSome
def hidT (h : Heap) (H : Hp) : Heap := PySem.W.hideAll h (trk h H)
theorem hidT_size (h : Heap) (H : Hp) : (hidT h H).objs.size = h.objs.size := PySem.W.hideAll_size _ _
theorem hidT_get {h : Heap} {H : Hp} {b : Addr} {o : Obj} (e : h.get? b = some o) (n : H b = none) : (hidT h H).get? b = some o :=
  PySem.W.hideAll_get _ e fun hm => by
    have q : (H b).isSome = true := (List.mem_filter.mp hm).2
    rw [n] at q; simp at q
theorem of_hidT {h : Heap} {H : Hp} {b : Addr} {o : Obj} (e : (hidT h H).get? b = some o) : h.get? b = some o ∧ H b = none := by
  have e' : h.get? b = some o := PySem.W.of_hideAll (trk h H) e
  refine ⟨e', ?_⟩
  cases q : H b with
  | none => rfl
  | some x =>
    have hm : b ∈ trk h H := List.mem_filter.mpr ⟨List.mem_range.mpr (Heap.lt_size e'), by simp [q]⟩
    have z : (hidT h H).get? b = none := PySem.W.hideAll_none (trk h H) hm
    rw [z] at e; cases e

/-! ### OpenK's ledger, filled with every new object but one -/
end L2

namespace L2
open PySem PySem.Spec PyProof.Rows

/-- the module's facts, over the base: the heap at the law's entry without what is tracked there -/
structure Mod (K : PySem.W.Frag) (mg : Str → Option Value) (base : Heap) : Prop where
  kin : K.In base
  glob : base.Ns mainGlobals mg
  blt : ∃ mb, base.Ns builtinsNs mb ∧ ∀ x : Str, x ≠ "__name__" → mb x = bootBuiltins x
  nolimit : base.NoLimit

/-- the context: a def's body (or a comprehension's block) running. base: fixed through the whole law; s₀, H₀: the entry; outer: the frames whose slots others may change (a def's callers); stack: all frames that run;
   ex: iterators that were made ahead of the entry and are walked here (a comprehension's); fn: the names whose cells were made at the entry (a def: all; a comprehension's block: its own); calm: not within an except suite; pn: pins that every state bears; xe: what is wanted of an exception that leaves the code -/
structure Cx where
  prog : Program
  w : World
  K : PySem.W.Frag
  mg : Str → Option Value
  base : Heap
  A : Around
  N : List Str
  s₀ : Shared
  H₀ : Hp
  env : Env
  outer : List Env
  stack : List Env
  ex : List Addr
  fn : Str → Bool
  calm : Bool
  pn : List (Addr × Obj)
  xe : Value → Shared → Prop
/-- the callers' frames -/
def frs (l : List Env) : List Addr := l.filterMap (·.frame)
abbrev Cx.fs (X : Cx) : List Addr := frs X.outer

def Vis (sc : Scope) (x : Str) : Prop := sc.names.lookup x = some .local ∨ sc.names.lookup x = some .cell ∨ sc.names.lookup x = some .free
def Loc (sc : Scope) (x : Str) : Prop := sc.names.lookup x = some .local ∨ sc.names.lookup x = some .cell
def Look (env : Env) (h : Heap) (m : Str → Option Value) (x : Str) (u : Value) : Prop :=
  (env.kindOf x = some .local ∧ m x = some u) ∨ ((env.kindOf x = some .cell ∨ env.kindOf x = some .free) ∧ ∃ c, env.cells.lookup x = some c ∧ h.IsCell c (some u))

structure Cx.Ok (X : Cx) : Prop where
  mod : Mod X.K X.mg X.base
  kind : X.env.scope.kind = .function
  glob : X.env.globals = mainGlobals
  blt : X.env.builtins = builtinsNs
  above : X.s₀.heap.objs.size ≤ X.env.locals
  inj : ∀ x y c, X.env.cells.lookup x = some c → X.env.cells.lookup y = some c → x = y
  has : ∀ x, (X.env.kindOf x = some .cell ∨ X.env.kindOf x = some .free) → ∃ c, X.env.cells.lookup x = some c
  cab : ∀ x c, X.fn x = true → X.env.cells.lookup x = some c → X.s₀.heap.objs.size ≤ c
  hd : X.calm = true → X.A.handled = none
  frames : X.A.frames = some X.stack
  stk : X.stack = X.outer ∨ (X.stack = X.env :: X.outer ∧ X.env.frame = some X.env.locals)
  exf : ∀ b ∈ X.ex, b ≠ X.env.locals ∧ ∀ x c, X.env.cells.lookup x = some c → c ≠ b
  bs : ∀ b o, X.base.get? b = some o → X.s₀.heap.get? b = some o ∧ X.H₀ b = none
  bsz : X.base.objs.size ≤ X.s₀.heap.objs.size
  noex : ∀ b o, X.base.get? b = some o → b ∉ X.ex
  exfs : ∀ b ∈ X.ex, b ∉ X.fs
  funs : X.s₀.heap.FunFrames X.base X.outer
  frf : ∀ b ∈ X.fs, X.H₀ b = none

structure Inv (X : Cx) (pins : List (Addr × Obj)) (σ : List (Option V)) (H : Hp) (s : Shared) : Prop where
  ok : X.Ok
  os : s.os = X.s₀.os
  bare : AllBare s.gens
  base : Un X.fs X.ex X.H₀ H X.s₀.heap s.heap
  loc : ∃ m, s.heap.Ns X.env.locals m ∧ ∀ (i : Nat) (x : Str) (v : V), X.N[i]? = some x → σ[i]? = some (some v) → Vis X.env.scope x → ∃ u, RelV v u ∧ Look X.env s.heap m x u
  cell : ∀ x c, X.env.cells.lookup x = some c → ∃ v, s.heap.IsCell c v
  free : H X.env.locals = none
  freeC : ∀ x c, X.env.cells.lookup x = some c → H c = none
  pin : ∀ p ∈ X.pn ++ pins, s.heap.get? p.1 = some p.2 ∧ H p.1 = none ∧ p.1 ≠ X.env.locals ∧ p.1 ∉ X.fs ∧ ∀ v, p.2.data ≠ .cell v
  hok : HOk X.prog X.w H s.heap
  len : σ.length = X.N.length

section
variable {X : Cx} {pins : List (Addr × Obj)} {σ : List (Option V)} {H H' : Hp} {s : Shared} {h' : Heap}

theorem Cx.Ok.nofr (ok : X.Ok) {b : Addr} {o : Obj} (e : X.base.get? b = some o) : b ∉ X.fs := fun hb => by
  have := (ok.funs.mem hb).1
  rw [e] at this; cases this
theorem Inv.bs (I : Inv X pins σ H s) : ∀ b o, X.base.get? b = some o → s.heap.get? b = some o ∧ H b = none := fun b o e =>
  ⟨I.base.keep b o (I.ok.bs b o e).1 (I.ok.bs b o e).2 (I.ok.nofr e) (I.ok.noex b o e), I.base.free b o (I.ok.bs b o e).1 (I.ok.bs b o e).2 (I.ok.noex b o e)⟩
theorem Inv.bk (I : Inv X pins σ H s) : ∀ b o, X.base.get? b = some o → s.heap.get? b = some o := fun b o e => (I.bs b o e).1
theorem Inv.mod (I : Inv X pins σ H s) : Mod X.K X.mg X.base := I.ok.mod
theorem Inv.kIn (I : Inv X pins σ H s) : X.K.In s.heap := I.ok.mod.kin.keeps I.bk
theorem Inv.lt (I : Inv X pins σ H s) : X.env.locals < s.heap.objs.size := let ⟨_, hn, _⟩ := I.loc; hn.lt
theorem Inv.sz (I : Inv X pins σ H s) : X.s₀.heap.objs.size ≤ s.heap.objs.size := Nat.le_trans I.ok.above (Nat.le_of_lt I.lt)
theorem Inv.nofs (I : Inv X pins σ H s) {a : Addr} (h : s.heap.objs.size ≤ a) : a ∉ X.fs := fun hb => by
  obtain ⟨_, o, ho, _⟩ := I.ok.funs.mem hb
  exact absurd (Nat.lt_of_lt_of_le (Heap.lt_size ho) (Nat.le_trans I.sz h)) (Nat.lt_irrefl _)
theorem Inv.cne (I : Inv X pins σ H s) : ∀ x c, X.env.cells.lookup x = some c → c ≠ X.env.locals := fun x c e z => by
  obtain ⟨v, o, ho, hd⟩ := I.cell x c e
  obtain ⟨m, ⟨o', es, ep, ho', hd', _⟩, _⟩ := I.loc
  rw [z, ho'] at ho; cases ho; rw [hd'] at hd; cases hd
theorem Inv.funs (I : Inv X pins σ H s) : s.heap.FunFrames X.base X.outer := by
  have all : ∀ (l : List Env), (∀ b ∈ frs l, b ∈ X.fs) → X.s₀.heap.FunFrames X.base l → s.heap.FunFrames X.base l := by
    intro l
    induction l with
    | nil => intro _ _; trivial
    | cons env r ih =>
      intro hs hl
      obtain ⟨hk, ⟨L, o, hf, hn, ho, hd⟩, hr⟩ := hl
      have hL : L ∈ X.fs := hs L (by unfold frs; rw [List.filterMap_cons, hf]; exact List.mem_cons_self)
      obtain ⟨sl, e⟩ := I.base.slot L o ho (I.ok.frf L hL) hL fun z => I.ok.exfs L z hL
      exact ⟨hk, ⟨L, _, hf, hn, e, hd⟩, ih (fun b hb => hs b (by unfold frs; rw [List.filterMap_cons, hf]; exact List.mem_cons_of_mem _ hb)) hr⟩
  exact all X.outer (fun _ hb => hb) I.ok.funs

/-- the frames that run, for a call -/
theorem Inv.stack (I : Inv X pins σ H s) : s.heap.FunFrames X.base X.stack := by
  rcases I.ok.stk with e | ⟨e, hf⟩
  · rw [e]; exact I.funs
  · rw [e]
    obtain ⟨m, hn, _⟩ := I.loc
    refine .cons (by rw [I.ok.kind]; decide) hf hn ?_ I.funs
    exact Heap.get?_none_of_le (Nat.le_trans I.ok.bsz I.ok.above)
theorem Inv.stkSub (I : Inv X pins σ H s) : ∀ b ∈ frs X.stack, b ∈ X.env.locals :: X.fs := fun b hb => by
  rcases I.ok.stk with e | ⟨e, hf⟩
  · rw [e] at hb; exact List.mem_cons_of_mem _ hb
  · rw [e] at hb
    unfold frs at hb
    rw [List.filterMap_cons, hf] at hb
    exact hb
theorem Inv.stkFree (I : Inv X pins σ H s) : ∀ b ∈ frs X.stack, H b = none := fun b hb => by
  rcases List.mem_cons.mp (I.stkSub b hb) with e | hb
  · rw [e]; exact I.free
  · obtain ⟨_, o, ho, _⟩ := I.ok.funs.mem hb
    exact I.base.free b o ho (I.ok.frf b hb) fun z => I.ok.exfs b z hb

/-- THE STEP: the untracked objects but the frame and the records at ch are kept (the callers' frames up to slots), the frame's map is kept, the new abstract heap is held -/
theorem Inv.step {g' : Array GenState} {t' : Nat} {d' : Drawn} {ch : List Addr} (I : Inv X pins σ H s)
    (hch : ∀ b ∈ ch, (b ∈ X.ex ∨ X.s₀.heap.objs.size ≤ b) ∧ b ≠ X.env.locals ∧ (∀ x c, X.env.cells.lookup x = some c → c ≠ b) ∧ ∀ p ∈ X.pn ++ pins, p.1 ≠ b)
    (keep : ∀ b o, b ≠ X.env.locals → b ∉ X.fs → b ∉ ch → s.heap.get? b = some o → H b = none → h'.get? b = some o)
    (slot : ∀ b o, b ≠ X.env.locals → b ∈ X.fs → b ∉ ch → s.heap.get? b = some o → H b = none → ∃ sl, h'.get? b = some { o with slots := sl }) (free : ∀ b o, b ∉ ch → s.heap.get? b = some o → H b = none → H' b = none)
    (there : ∀ b o, b ∉ ch → s.heap.get? b = some o → ∃ o', h'.get? b = some o')
    (tups : ∀ b xs, H b = some (.tup xs) → H' b = some (.tup xs)) (frzs : ∀ b o u, H b = some (.frz o u) → H' b = some (.frz o u)) (tbls : ∀ b ps, H b = some (.tbl ps) → ∃ more, H' b = some (.tbl (ps ++ more)))
    (ns : ∀ m, s.heap.Ns X.env.locals m → h'.Ns X.env.locals m) (hok : HOk X.prog X.w H' h') (hg : AllBare g') :
    Inv X pins σ H' { s with heap := h', gens := g', drawn := d', toks := t' } := by
  have neL : ∀ b o, X.s₀.heap.get? b = some o → b ≠ X.env.locals := fun b o e => Nat.ne_of_lt (Nat.lt_of_lt_of_le (Heap.lt_size e) I.ok.above)
  have neC : ∀ b o, X.s₀.heap.get? b = some o → b ∉ X.ex → b ∉ ch := fun b o e hx hb => by
    rcases (hch b hb).1 with z | z
    · exact hx z
    · exact absurd (Nat.lt_of_lt_of_le (Heap.lt_size e) z) (Nat.lt_irrefl _)
  have cellK : ∀ x c, X.env.cells.lookup x = some c → ∀ v, s.heap.IsCell c v → h'.IsCell c v := fun x c e v ⟨o, ho, hd⟩ => by
    have nch : c ∉ ch := fun z => (hch c z).2.2.1 x c e rfl
    by_cases hc : c ∈ X.fs
    · obtain ⟨sl, q⟩ := slot c o (I.cne x c e) hc nch ho (I.freeC x c e)
      exact ⟨_, q, hd⟩
    · exact ⟨o, keep c o (I.cne x c e) hc nch ho (I.freeC x c e), hd⟩
  refine ⟨I.ok, I.os, hg, ⟨fun b o e n hb hx => ?_, fun b o e n hb hx => ?_, fun b o e n hx => ?_, fun b o e hx => ?_, fun b xs e => tups b xs (I.base.tups b xs e), fun b o xs e => frzs b o xs (I.base.frzs b o xs e), fun b ps e => ?_⟩, ?_, fun x c e => ?_, ?_, fun x c e => ?_, fun p hp => ?_, hok, I.len⟩
  · exact keep b o (neL b o e) hb (neC b o e hx) (I.base.keep b o e n hb hx) (I.base.free b o e n hx)
  · obtain ⟨sl, e1⟩ := I.base.slot b o e n hb hx
    obtain ⟨sl', e2⟩ := slot b _ (neL b o e) hb (neC b o e hx) e1 (I.base.free b o e n hx)
    exact ⟨sl', e2⟩
  · obtain ⟨o', e1⟩ := I.base.there b o e hx
    exact free b o' (neC b o e hx) e1 (I.base.free b o e n hx)
  · obtain ⟨o', e1⟩ := I.base.there b o e hx
    exact there b o' (neC b o e hx) e1
  · obtain ⟨m1, e1⟩ := I.base.tbls b ps e
    obtain ⟨m2, e2⟩ := tbls b _ e1
    exact ⟨m1 ++ m2, by rw [e2, Array.append_assoc]⟩
  · obtain ⟨m, hn, hl⟩ := I.loc
    refine ⟨m, ns m hn, fun i x v e1 e2 e3 => ?_⟩
    obtain ⟨u, r, l⟩ := hl i x v e1 e2 e3
    refine ⟨u, r, ?_⟩
    rcases l with l | ⟨k, c, e, z⟩
    · exact .inl l
    · exact .inr ⟨k, c, e, cellK x c e _ z⟩
  · obtain ⟨v, z⟩ := I.cell x c e
    exact ⟨v, cellK x c e v z⟩
  · obtain ⟨m, ⟨o, _, _, ho, _⟩, _⟩ := I.loc
    exact free _ o (fun z => (hch _ z).2.1 rfl) ho I.free
  · obtain ⟨v, o, ho, hd⟩ := I.cell x c e
    exact free c o (fun z => (hch c z).2.2.1 x c e rfl) ho (I.freeC x c e)
  · obtain ⟨e, n, ne, nf, d⟩ := I.pin p hp
    have nch : p.1 ∉ ch := fun z => (hch p.1 z).2.2.2 p hp rfl
    exact ⟨keep p.1 p.2 ne nf nch e n, free p.1 p.2 nch e n, ne, nf, d⟩
/-- .. where the frame's own object is kept too -/
theorem Inv.un {t' : Nat} (I : Inv X pins σ H s) (u : Un X.fs [] H H' s.heap h') (hok : HOk X.prog X.w H' h') : Inv X pins σ H' { s with heap := h', toks := t' } := by
  obtain ⟨m, ⟨o, es, ep, ho, r⟩, _⟩ := id I.loc
  obtain ⟨sl, hL⟩ := u.any ho I.free (by simp)
  exact I.step (g' := s.gens) (d' := s.drawn) (ch := []) (fun _ z => nomatch z) (fun b o _ hb _ e n => u.keep b o e n hb (by simp)) (fun b o _ hb _ e n => u.slot b o e n hb (by simp)) (fun b o _ e n => u.free b o e n (by simp)) (fun b o _ e => u.there b o e (by simp)) u.tups u.frzs u.tbls (fun m' hm => by
    obtain ⟨o', es', ep', ho', r'⟩ := hm
    rw [ho] at ho'; cases ho'
    exact ⟨_, es', ep', hL, r'⟩) hok I.bare
/-- behind a call (or a comprehension's block): the slots of this frame may have changed too, the records at ch may have turned -/
theorem Inv.call {g' : Array GenState} {t' : Nat} {d' : Drawn} {ch : List Addr} (I : Inv X pins σ H s) (u : Un (frs X.stack) ch H H' s.heap h') (hok : HOk X.prog X.w H' h') (hg : AllBare g')
    (hch : ∀ b ∈ ch, (b ∈ X.ex ∨ X.s₀.heap.objs.size ≤ b) ∧ b ≠ X.env.locals ∧ (∀ x c, X.env.cells.lookup x = some c → c ≠ b) ∧ ∀ p ∈ X.pn ++ pins, p.1 ≠ b) :
    Inv X pins σ H' { s with heap := h', gens := g', drawn := d', toks := t' } := by
  obtain ⟨m, ⟨o, es, ep, ho, r⟩, _⟩ := id I.loc
  obtain ⟨sl, hL⟩ := u.any ho I.free fun z => (hch _ z).2.1 rfl
  exact I.step (ch := ch) hch (fun b o hL hb hc e n => u.keep b o e n (fun z => (List.mem_cons.mp (I.stkSub b z)).elim hL hb) hc) (fun b o _ _ hc e n => u.any e n hc) (fun b o hc e n => u.free b o e n hc) (fun b o hc e => u.there b o e hc) u.tups u.frzs u.tbls (fun m' hm => by
    obtain ⟨o', es', ep', ho', r'⟩ := hm
    rw [ho] at ho'; cases ho'
    exact ⟨_, es', ep', hL, r'⟩) hok hg
/-- an untracked record of ours (an iterator) has turned -/
theorem Inv.turned {t' : Nat} {it : Addr} (I : Inv X pins σ H s) (k : ∀ b o, b ≠ it → s.heap.get? b = some o → h'.get? b = some o) (hn : H it = none) (hL : it ≠ X.env.locals)
    (h1 : it ∈ X.ex ∨ X.s₀.heap.objs.size ≤ it) (h2 : ∀ x c, X.env.cells.lookup x = some c → c ≠ it) (h3 : ∀ p ∈ X.pn ++ pins, p.1 ≠ it) : Inv X pins σ H { s with heap := h', toks := t' } := by
  have nit : ∀ b u, H b = some u → b ≠ it := fun b u e z => by rw [z, hn] at e; cases e
  refine I.step (g' := s.gens) (d' := s.drawn) (ch := [it]) (fun b hb => ?_) (fun b o _ _ hc e _ => k b o (fun z => hc (by simp [z])) e) (fun b o _ _ hc e _ => ⟨o.slots, k b o (fun z => hc (by simp [z])) e⟩) (fun _ _ _ _ n => n)
    (fun b o hc e => ⟨o, k b o (fun z => hc (by simp [z])) e⟩) (fun _ _ e => e) (fun _ _ _ e => e) (fun b ps e => ⟨#[], by rw [e]; simp⟩) (fun m hm => ?_) (fun b u e => ?_) I.bare
  · have e : b = it := by simpa using hb
    subst e
    exact ⟨h1, hL, h2, h3⟩
  · obtain ⟨o, es, ep, ho, r⟩ := hm
    exact ⟨o, es, ep, k _ o (Ne.symm hL) ho, r⟩
  · refine (I.hok b u e).stay (fun c v hc q => k c v ?_ q) (fun _ q => q) fun _ _ q => q
    rcases hc with z | z
    · rw [z]; exact nit b u e
    · exact nit c _ z
theorem Inv.tok (I : Inv X pins σ H s) (t : Nat) : Inv X pins σ H { s with toks := t } := I.un (h' := s.heap) (t' := t) Un.refl I.hok
/-- all objects kept -/
theorem Inv.kept {t' : Nat} (I : Inv X pins σ H s) (k : ∀ b u, s.heap.get? b = some u → h'.get? b = some u) : Inv X pins σ H { s with heap := h', toks := t' } := I.un (Un.kept k) (I.hok.kept k)
/-- a new object laid and tracked -/
theorem Inv.laid {a : Addr} {o : HO} {t' : Nat} (I : Inv X pins σ H s) (k : ∀ b u, s.heap.get? b = some u → h'.get? b = some u) (hp : s.heap.objs.size ≤ a) (new : ObjOk X.prog X.w (upd H a o) h' a o) :
    Inv X pins σ (upd H a o) { s with heap := h', toks := t' } := I.un (Un.laid k hp (I.hok.fresh hp)) (I.hok.laid k hp new)
/-- an object written -/
theorem Inv.write {x e : Addr} {o : HO} {t' : Nat} (I : Inv X pins σ H s) (mu : Mut (H x)) (he : e = x ∨ H e = some (.own x)) (k : ∀ b u, b ≠ e → s.heap.get? b = some u → h'.get? b = some u) (heo : ∃ u, h'.get? e = some u)
    (new : ObjOk X.prog X.w (upd H x o) h' x o) : Inv X pins σ (upd H x o) { s with heap := h', toks := t' } := I.un (Un.write mu he k heo) (I.hok.write mu he k heo new)
/-- forgetting slots, pins -/
theorem Inv.weak {σ' : List (Option V)} (I : Inv X pins σ H s) (hl : σ'.length = σ.length) (w : ∀ (i : Nat) v, σ'[i]? = some (some v) → σ[i]? = some (some v)) : Inv X pins σ' H s :=
  ⟨I.ok, I.os, I.bare, I.base, let ⟨m, hn, hl'⟩ := I.loc; ⟨m, hn, fun i x v e1 e2 e3 => hl' i x v e1 (w i v e2) e3⟩, I.cell, I.free, I.freeC, I.pin, I.hok, hl.trans I.len⟩
theorem Inv.pins_of {pins' : List (Addr × Obj)} (I : Inv X pins σ H s) (h : ∀ p ∈ pins', s.heap.get? p.1 = some p.2 ∧ H p.1 = none ∧ p.1 ≠ X.env.locals ∧ p.1 ∉ X.fs ∧ ∀ v, p.2.data ≠ .cell v) : Inv X pins' σ H s :=
  ⟨I.ok, I.os, I.bare, I.base, I.loc, I.cell, I.free, I.freeC, fun p hp => (List.mem_append.mp hp).elim (fun z => I.pin p (List.mem_append_left _ z)) (h p), I.hok, I.len⟩

theorem nodup_ix {N : List Str} (hN : N.Nodup) {i j : Nat} {x : Str} (a : N[i]? = some x) (b : N[j]? = some x) : i = j := by
  obtain ⟨h1, e1⟩ := List.getElem?_eq_some_iff.mp a
  obtain ⟨h2, e2⟩ := List.getElem?_eq_some_iff.mp b
  exact (List.getElem_inj hN).mp (e1.trans e2.symm)

/-- a name is stored; what changed -/
theorem store_ok2 {M : Model} {A : Around} {E : Value → Shared → Prop} {i : Nat} {x : Str} {v : V} {u : Value} {Q : Unit → Shared → Prop} (I : Inv X pins σ H s) (hN : X.N.Nodup) (hi : X.N[i]? = some x) (hx : Loc X.env.scope x) (r : RelV v u)
    (h : ∀ s', Inv X pins (σ.set i (some v)) H s' → (∃ a, Heap.SameBut a s.heap s'.heap ∧ (a = X.env.locals ∨ X.env.cells.lookup x = some a)) → Q () s') (hf : X.fn x = true ∨ X.env.scope.names.lookup x = some .local := by first | exact .inl rfl | exact .inr rfl | assumption) : wpAny M A (storeName X.env x u) Q E s := by
  obtain ⟨m, hn, hl⟩ := id I.loc
  have hcls : (X.env.scope.kind == .class || (X.env.scope.kind == .module && X.env.locals != X.env.globals)) = false := by rw [I.ok.kind]; rfl
  have hiσ : i < σ.length := by rw [I.len]; exact (List.getElem?_eq_some_iff.mp hi).1
  have cne := I.cne
  have tracked : ∀ {a : Addr} {h' : Heap}, (∃ o, s.heap.get? a = some o ∧ H a = none) → Heap.SameBut a s.heap h' → HOk X.prog X.w H h' := fun {a h'} ha hs b ob e => by
    obtain ⟨_, _, hfree⟩ := ha
    refine (I.hok b ob e).stay (fun c w' hc q => (hs.2 c ?_).trans q) (fun _ q => q) fun _ _ q => q
    rintro rfl
    rcases hc with rfl | hc
    · rw [hfree] at e; cases e
    · rw [hfree] at hc; cases hc
  rcases hx with hk | hk
  · refine wpAny_storeName_local hk hn (fun h' hn' hs => ?_) hcls
    obtain ⟨oL, _, _, hoL, _⟩ := id hn
    refine h _ ⟨I.ok, I.os, I.bare, ⟨fun b o e n hb hx => ?_, fun b o e n hb hx => ?_, I.base.free, fun b o e hx => ?_, I.base.tups, I.base.frzs, I.base.tbls⟩, ⟨_, hn', fun j y v' e1 e2 e3 => ?_⟩, fun y c e => ?_, I.free, I.freeC, fun p hp => ?_, tracked ⟨oL, hoL, I.free⟩ hs, by simpa using I.len⟩ ⟨_, hs, .inl rfl⟩
    · exact (hs.2 b (Nat.ne_of_lt (Nat.lt_of_lt_of_le (Heap.lt_size e) I.ok.above))).trans (I.base.keep b o e n hb hx)
    · obtain ⟨sl, e1⟩ := I.base.slot b o e n hb hx
      exact ⟨sl, (hs.2 b (Nat.ne_of_lt (Nat.lt_of_lt_of_le (Heap.lt_size e) I.ok.above))).trans e1⟩
    · obtain ⟨o', e1⟩ := I.base.there b o e hx
      exact ⟨o', (hs.2 b (Nat.ne_of_lt (Nat.lt_of_lt_of_le (Heap.lt_size e) I.ok.above))).trans e1⟩
    · by_cases hj : j = i
      · subst hj
        rw [hi] at e1; cases e1
        rw [List.getElem?_set_self hiσ] at e2
        cases e2
        exact ⟨u, r, .inl ⟨hk, by simp⟩⟩
      · rw [List.getElem?_set_ne (Ne.symm hj)] at e2
        obtain ⟨u', r', q⟩ := hl j y v' e1 e2 e3
        refine ⟨u', r', ?_⟩
        rcases q with ⟨k, e⟩ | ⟨k, c, e, z⟩
        · refine .inl ⟨k, ?_⟩
          have : y ≠ x := fun e => hj (nodup_ix hN e1 (e ▸ hi))
          simp [this, e]
        · exact .inr ⟨k, c, e, z.sameBut hs (cne y c e)⟩
    · obtain ⟨w', z⟩ := I.cell y c e
      exact ⟨w', z.sameBut hs (cne y c e)⟩
    · obtain ⟨e, n, ne, nf, d⟩ := I.pin p hp
      exact ⟨(hs.2 p.1 ne).trans e, n, ne, nf, d⟩
  · have hfn : X.fn x = true := by
      rcases hf with z | z
      · exact z
      · rw [z] at hk; cases hk
    obtain ⟨c, hc⟩ := I.ok.has x (.inl hk)
    obtain ⟨w', z⟩ := I.cell x c hc
    refine wpAny_storeName_cell I.ok.kind hk hc z (fun h' hc' hs => ?_)
    obtain ⟨oc, hoc, hocd⟩ := id z
    refine h { s with heap := h' } ⟨I.ok, I.os, I.bare, ⟨fun b o e n hb hx => ?_, fun b o e n hb hx => ?_, I.base.free, fun b o e hx => ?_, I.base.tups, I.base.frzs, I.base.tbls⟩, ⟨m, hn.sameBut hs (Ne.symm (cne x c hc)), fun j y v' e1 e2 e3 => ?_⟩, fun y c' e => ?_, I.free, I.freeC, fun p hp => ?_, tracked ⟨oc, hoc, I.freeC x c hc⟩ hs, by simpa using I.len⟩ ⟨c, hs, .inr hc⟩
    · exact (hs.2 b (Nat.ne_of_lt (Nat.lt_of_lt_of_le (Heap.lt_size e) (I.ok.cab x c hfn hc)))).trans (I.base.keep b o e n hb hx)
    · obtain ⟨sl, e1⟩ := I.base.slot b o e n hb hx
      exact ⟨sl, (hs.2 b (Nat.ne_of_lt (Nat.lt_of_lt_of_le (Heap.lt_size e) (I.ok.cab x c hfn hc)))).trans e1⟩
    · obtain ⟨o', e1⟩ := I.base.there b o e hx
      exact ⟨o', (hs.2 b (Nat.ne_of_lt (Nat.lt_of_lt_of_le (Heap.lt_size e) (I.ok.cab x c hfn hc)))).trans e1⟩
    · by_cases hj : j = i
      · subst hj
        rw [hi] at e1; cases e1
        rw [List.getElem?_set_self hiσ] at e2
        cases e2
        exact ⟨u, r, .inr ⟨.inl hk, c, hc, hc'⟩⟩
      · rw [List.getElem?_set_ne (Ne.symm hj)] at e2
        obtain ⟨u', r', q⟩ := hl j y v' e1 e2 e3
        refine ⟨u', r', ?_⟩
        rcases q with q | ⟨k, c', e, z'⟩
        · exact .inl q
        · refine .inr ⟨k, c', e, z'.sameBut hs ?_⟩
          rintro rfl
          exact hj (nodup_ix hN e1 (I.ok.inj _ _ _ e hc ▸ hi))
    · by_cases hcc : c' = c
      · subst hcc; exact ⟨_, hc'⟩
      · obtain ⟨w2, z2⟩ := I.cell y c' e
        exact ⟨w2, z2.sameBut hs hcc⟩
    · obtain ⟨e, n, ne, nf, d⟩ := I.pin p hp
      refine ⟨(hs.2 p.1 ?_).trans e, n, ne, nf, d⟩
      intro q
      rw [q, hoc] at e
      have q' : oc = p.2 := Option.some.inj e
      exact d w' (by rw [← q']; exact hocd)
theorem store_ok {M : Model} {A : Around} {E : Value → Shared → Prop} {i : Nat} {x : Str} {v : V} {u : Value} {Q : Unit → Shared → Prop} (I : Inv X pins σ H s) (hN : X.N.Nodup) (hi : X.N[i]? = some x) (hx : Loc X.env.scope x) (r : RelV v u)
    (h : ∀ s', Inv X pins (σ.set i (some v)) H s' → Q () s') (hf : X.fn x = true ∨ X.env.scope.names.lookup x = some .local := by first | exact .inl rfl | exact .inr rfl | assumption) : wpAny M A (storeName X.env x u) Q E s :=
  store_ok2 I hN hi hx r (fun s' I' _ => h s' I') hf
/-- behind a call or a block, the state as it is -/
theorem Inv.call' {s' : Shared} {ch : List Addr} (I : Inv X pins σ H s) (ho : s'.os = s.os) (u : Un (frs X.stack) ch H H' s.heap s'.heap) (hok : HOk X.prog X.w H' s'.heap) (hg : AllBare s'.gens)
    (hch : ∀ b ∈ ch, (b ∈ X.ex ∨ X.s₀.heap.objs.size ≤ b) ∧ b ≠ X.env.locals ∧ (∀ x c, X.env.cells.lookup x = some c → c ≠ b) ∧ ∀ p ∈ X.pn ++ pins, p.1 ≠ b) : Inv X pins σ H' s' := by
  obtain ⟨h', g', d', t', o'⟩ := s'
  have e : o' = s.os := ho
  subst e
  exact I.call (g' := g') (t' := t') (d' := d') u hok hg hch
end

/-! ### the judgements -/
/-- an exception: its class, its own dict's address (where it has one), the abstract heap behind it -/
abbrev XK := Value → Option Addr → Hp → Prop
abbrev St := List (Option V)
abbrev VK := V → Hp → Prop
/-- an expression's reading; a test's; an argument list's -/
abbrev TE := St → Hp → VK → Prop
abbrev TT := St → Hp → (Bool → Hp → Prop) → Prop
abbrev TA := St → Hp → (List V → Hp → Prop) → Prop
/-- what is wanted behind a statement -/
structure Ends where
  nx : St → Hp → Prop
  rt : VK
  bk : St → Hp → Prop := fun _ _ => False
  ct : St → Hp → Prop := fun _ _ => False
abbrev TS := Ends → St → Hp → Prop

def EP (X : Cx) (pins : List (Addr × Obj)) (σ : St) (Q : VK) (u : Value) (s' : Shared) : Prop := ∃ v H', Inv X pins σ H' s' ∧ RelV v u ∧ Q v H'
def TP (X : Cx) (pins : List (Addr × Obj)) (σ : St) (Q : Bool → Hp → Prop) (b : Bool) (s' : Shared) : Prop := ∃ H', Inv X pins σ H' s' ∧ Q b H'
def AP (X : Cx) (pins : List (Addr × Obj)) (σ : St) (Q : List V → Hp → Prop) (us : List Value) (s' : Shared) : Prop := ∃ vs H', Inv X pins σ H' s' ∧ Vals vs us ∧ Q vs H'
def SP (X : Cx) (pins : List (Addr × Obj)) (D : Ends) (f : Flow) (s' : Shared) : Prop :=
  match f with
  | .next => ∃ σ' H', Inv X pins σ' H' s' ∧ D.nx σ' H'
  | .brk => ∃ σ' H', Inv X pins σ' H' s' ∧ D.bk σ' H'
  | .cont => ∃ σ' H', Inv X pins σ' H' s' ∧ D.ct σ' H'
  | .ret u => ∃ v σ' H', Inv X pins σ' H' s' ∧ RelV v u ∧ D.rt v H'

def PE (X : Cx) (e : Expr) (t : TE) : Prop :=
  ∀ (pins : List (Addr × Obj)) (s : Shared) (σ : St) (H : Hp) (Q : VK), Inv X pins σ H s → t σ H Q → wpAny (model X.prog X.w) X.A (eval e X.env) (EP X pins σ Q) X.xe s
def PT (X : Cx) (e : Expr) (t : TT) : Prop :=
  ∀ (pins : List (Addr × Obj)) (s : Shared) (σ : St) (H : Hp) (Q : Bool → Hp → Prop), Inv X pins σ H s → t σ H Q → wpAny (model X.prog X.w) X.A (isTrue e X.env (eval e X.env)) (TP X pins σ Q) X.xe s
/-- a test whatever its 'whole' is (and, or) -/
def PW (X : Cx) (e : Expr) (t : TT) : Prop :=
  ∀ (whole : Sem Value) (pins : List (Addr × Obj)) (s : Shared) (σ : St) (H : Hp) (Q : Bool → Hp → Prop), Inv X pins σ H s → t σ H Q → wpAny (model X.prog X.w) X.A (isTrue e X.env whole) (TP X pins σ Q) X.xe s
theorem PW.pt {X : Cx} {e : Expr} {t : TT} (h : PW X e t) : PT X e t := h _
/-- an argument list (no star), from the left -/
def PA (X : Cx) (es : List Expr) (t : TA) : Prop :=
  ∀ (pos : Pos) (pins : List (Addr × Obj)) (s : Shared) (σ : St) (H : Hp) (Q : List V → Hp → Prop), Inv X pins σ H s → t σ H Q → wpAny (model X.prog X.w) X.A (spliced (backTo pos (starEach es X.env))) (AP X pins σ Q) X.xe s
def PS (X : Cx) (st : Stmt) (t : TS) : Prop :=
  ∀ (pins : List (Addr × Obj)) (s : Shared) (σ : St) (H : Hp) (D : Ends), Inv X pins σ H s → t D σ H → wpAny (model X.prog X.w) X.A (exec st X.env) (SP X pins D) X.xe s
def PSs (X : Cx) (st : List Stmt) (t : TS) : Prop :=
  ∀ (pins : List (Addr × Obj)) (s : Shared) (σ : St) (H : Hp) (D : Ends), Inv X pins σ H s → t D σ H → wpAny (model X.prog X.w) X.A (execs st X.env) (SP X pins D) X.xe s
/-- weaken the end -/
theorem thn {α : Type} {t : Sem α} {Q Q' : α → Shared → Prop} {M : Model} {A : Around} {E : Value → Shared → Prop} {s : Shared} (h : wpAny M A t Q E s) (hQ : ∀ a s, Q a s → Q' a s) : wpAny M A t Q' E s := wpAny_mono h hQ fun _ _ x => x
end L2

namespace L2
open PySem PySem.Spec PyProof.Rows
section
variable {X : Cx}

/-! ### names and constants -/
def tVar (i : Nat) : TE := fun σ H Q => ∃ v, σ[i]? = some (some v) ∧ Q v H
def tC (v : V) : TE := fun _ H Q => Q v H
theorem pe_var {i : Nat} {x : Str} {pos : Pos} (hN : X.N[i]? = some x) (hv : Vis X.env.scope x) (hd : (x == ("__debug__" : Str)) = false := by decide) (hcd : (x == ("__classdict__" : Str)) = false := by decide) : PE X (.Name x pos) (tVar i) := by
  intro pins s σ H Q I h
  obtain ⟨v, e, h⟩ := h
  obtain ⟨m, hn, hl⟩ := I.loc
  obtain ⟨u, r, l⟩ := hl i x v hN e hv
  have fin : EP X pins σ Q u s := ⟨v, H, I, r, h⟩
  rcases l with ⟨hk, hm⟩ | ⟨hk, c, hc, hcell⟩
  · exact wpAny_Name (wpAny_loadName_local I.ok.kind hk hn hm fin) hd
  · rcases hk with hk | hk
    · exact wpAny_Name (wpAny_loadName_cell I.ok.kind hk hc hcell fin) hd
    · exact wpAny_Name (wpAny_loadName_free I.ok.kind hk hc hcell fin hcd) hd
theorem pe_int {i j pos} : PE X (.Constant (.int i) j pos) (tC (.int i)) := fun _ _ _ H _ I h => wpAny_Constant_int ⟨.int i, H, I.tok _, ⟨_, rfl⟩, h⟩
theorem pe_bl {b j pos} : PE X (.Constant (.bool b) j pos) (tC (.bl b)) := fun _ _ _ H _ I h => Constant_bool ⟨.bl b, H, I, rfl, h⟩
theorem pe_non {j pos} : PE X (.Constant .none j pos) (tC .non) := fun _ _ _ H _ I h => Constant_none ⟨.non, H, I, rfl, h⟩
theorem pe_str {x j pos} : PE X (.Constant (.str x) j pos) (tC (.str x)) := fun _ _ _ H _ I h => Calls.Constant_str ⟨.str x, H, I.tok _, ⟨_, rfl⟩, h⟩

/-- a global name of the def -/
def Gl (X : Cx) (x : Str) : Prop := X.env.kindOf x = some .globalImplicit
theorem ld_glob {E : Value → Shared → Prop} {pins : List (Addr × Obj)} {s : Shared} {σ : St} {H : Hp} {x : Str} {u : Value} {pos : Pos} {Q : Value → Shared → Prop} (I : Inv X pins σ H s) (hg : Gl X x) (hm : X.mg x = some u) (h : Q u s)
    (hd : (x == ("__debug__" : Str)) = false := by decide) : wpAny (model X.prog X.w) X.A (eval (.Name x pos) X.env) Q E s :=
  Calls.Name_function_global I.ok.kind hg (Calls.loadGlobal_global (by rw [I.ok.glob]; exact I.mod.glob.keeps I.bk) hm h) hd
theorem ld_blt {E : Value → Shared → Prop} {pins : List (Addr × Obj)} {s : Shared} {σ : St} {H : Hp} {x : Str} {u : Value} {pos : Pos} {Q : Value → Shared → Prop} (I : Inv X pins σ H s) (hg : Gl X x) (hm : X.mg x = none) (hv : bootBuiltins x = some u) (h : Q u s)
    (hn : x ≠ "__name__" := by decide) (hd : (x == ("__debug__" : Str)) = false := by decide) : wpAny (model X.prog X.w) X.A (eval (.Name x pos) X.env) Q E s := by
  obtain ⟨mb, h1, h2⟩ := I.mod.blt
  exact Calls.Name_function_global I.ok.kind hg (Calls.loadGlobal_builtin (by rw [I.ok.glob]; exact I.mod.glob.keeps I.bk) hm (by rw [I.ok.blt]; exact h1.keeps I.bk) ((h2 x hn).trans hv) h) hd
theorem pe_bltn {x : Str} {v : V} {u : Value} {pos : Pos} (hg : Gl X x) (hm : X.mg x = none) (hv : bootBuiltins x = some u) (r : RelV v u) (hn : x ≠ "__name__" := by decide) (hd : (x == ("__debug__" : Str)) = false := by decide) : PE X (.Name x pos) (tC v) :=
  fun _ _ _ H _ I h => ld_blt I hg hm hv ⟨v, H, I, r, h⟩ hn hd

/-! ### arithmetic -/
variable {a b : Expr} {ta tb : TE} {pos : Pos}
/-! ### comparisons -/
def PC (X : Cx) (op : CmpOp) (a b : Expr) (t : TE) : Prop :=
  ∀ (pins : List (Addr × Obj)) (s : Shared) (σ : St) (H : Hp) (Q : VK), Inv X pins σ H s → t σ H Q →
    wpAny (model X.prog X.w) X.A (eval a X.env) (fun v s₁ => wpAny (model X.prog X.w) X.A (eval b X.env) (fun u s₂ => wpAny (model X.prog X.w) X.A (compareOp op v u) (EP X pins σ Q) X.xe s₂) X.xe s₁) X.xe s
/-- a comparison as a value, as a test -/
def tB (t : TE) : TT := fun σ H Q => t σ H fun x H1 => ∃ c, x = .bl c ∧ Q c H1
theorem pt_cmp {op : CmpOp} {t : TE} (h : PC X op a b t) (h1 : behindInMarks op b = false := by first | exact nobehind _ (by decide) (by decide) | rfl) : PT X (.Compare a [op] [b] pos) (tB t) := by
  intro pins s σ H Q I hw
  refine wpAny_isTrue_Compare1 (thn (h pins s σ H _ I hw) fun v s1 h1 => thn h1 fun u s2 h2 => thn h2 fun c s3 ⟨x, H1, I1, r1, q1⟩ => ?_) h1
  obtain ⟨d, rfl, q⟩ := q1
  cases r1
  exact wpAny_truthy_bool ⟨H1, I1, q⟩
/-- an expression whose value is a bool, as a test -/
theorem pt_val {e : Expr} {t : TE} (h : PE X e t) (he : ∀ whole, isTrue e X.env whole = (do let v ← whole; standAt e.pos; holding [v] (truthy v)) := by intro _; rfl) : PT X e (tB t) := by
  intro pins s σ H Q I hw
  refine isTrue_plain (thn (h pins s σ H _ I hw) fun v s1 ⟨x, H1, I1, r1, q1⟩ => ?_) (he _)
  obtain ⟨d, rfl, q⟩ := q1
  cases r1
  exact wpAny_truthy_bool ⟨H1, I1, q⟩

/-! ### and, or, not -/
variable {tA tB' : TT} {rest : List Expr}
def tAnd (t u : TT) : TT := fun σ H Q => t σ H fun c H1 => if c = true then u σ H1 Q else Q false H1
def tOr (t u : TT) : TT := fun σ H Q => t σ H fun c H1 => if c = true then Q true H1 else u σ H1 Q
def tNot (t : TT) : TT := fun σ H Q => t σ H fun c H1 => Q (!c) H1
theorem pw_and1 (ha : PT X a tA) : PW X (.BoolOp .And [a] pos) tA := by
  intro wh pins s σ H Q I h
  refine isTrue_and (thn (ha pins s σ H Q I h) fun c s1 e => ?_)
  cases c with
  | true => exact isTrue_and_nil e
  | false => exact e
theorem pw_or1 (ha : PT X a tA) : PW X (.BoolOp .Or [a] pos) tA := by
  intro wh pins s σ H Q I h
  refine isTrue_or (thn (ha pins s σ H Q I h) fun c s1 e => ?_)
  cases c with
  | false => exact isTrue_or_nil e
  | true => exact e
theorem pw_and (ha : PT X a tA) (hb : PW X (.BoolOp .And (b :: rest) pos) tB') : PW X (.BoolOp .And (a :: b :: rest) pos) (tAnd tA tB') := by
  intro wh pins s σ H Q I h
  refine isTrue_and (thn (ha pins s σ H _ I h) fun c s1 ⟨H1, I1, q1⟩ => ?_)
  cases c with
  | true => exact hb wh pins s1 σ H1 Q I1 q1
  | false => exact ⟨H1, I1, q1⟩
theorem pw_or (ha : PT X a tA) (hb : PW X (.BoolOp .Or (b :: rest) pos) tB') : PW X (.BoolOp .Or (a :: b :: rest) pos) (tOr tA tB') := by
  intro wh pins s σ H Q I h
  refine isTrue_or (thn (ha pins s σ H _ I h) fun c s1 ⟨H1, I1, q1⟩ => ?_)
  cases c with
  | true => exact ⟨H1, I1, q1⟩
  | false => exact hb wh pins s1 σ H1 Q I1 q1
theorem pt_not (ha : PT X a tA) : PT X (.UnaryOp .Not a pos) (tNot tA) := by
  intro pins s σ H Q I h
  exact isTrue_not (ha pins s σ H (fun c H1 => Q (!c) H1) I h)
/-- .. as values (bools) -/
def tAndV (ta tb : TE) : TE := fun σ H Q => ta σ H fun x H1 => ∃ c, x = .bl c ∧ if c = true then tb σ H1 Q else Q (.bl false) H1
def tOrV (ta tb : TE) : TE := fun σ H Q => ta σ H fun x H1 => ∃ c, x = .bl c ∧ if c = true then Q (.bl true) H1 else tb σ H1 Q
theorem pe_one {op} {t : TE} (h : PE X a t) : PE X (.BoolOp op [a] pos) t := fun pins s σ H Q I hw => BoolOp_one (h pins s σ H Q I hw)
theorem pe_and (ha : PE X a ta) (hb : PE X (.BoolOp .And (b :: rest) pos) tb) : PE X (.BoolOp .And (a :: b :: rest) pos) (tAndV ta tb) := by
  intro pins s σ H Q I h
  refine BoolOp_and (thn (ha pins s σ H _ I h) fun v s1 ⟨x, H1, I1, r1, q1⟩ => ?_)
  obtain ⟨c, rfl, q1⟩ := q1
  cases r1
  refine wpAny_truthy_bool ?_
  cases c with
  | true => exact hb pins s1 σ H1 Q I1 q1
  | false => exact ⟨.bl false, H1, I1, rfl, q1⟩
theorem pe_or (ha : PE X a ta) (hb : PE X (.BoolOp .Or (b :: rest) pos) tb) : PE X (.BoolOp .Or (a :: b :: rest) pos) (tOrV ta tb) := by
  intro pins s σ H Q I h
  refine BoolOp_or (thn (ha pins s σ H _ I h) fun v s1 ⟨x, H1, I1, r1, q1⟩ => ?_)
  obtain ⟨c, rfl, q1⟩ := q1
  cases r1
  refine wpAny_truthy_bool ?_
  cases c with
  | false => exact hb pins s1 σ H1 Q I1 q1
  | true => exact ⟨.bl true, H1, I1, rfl, q1⟩
/-- a if t else b -/
def tIf (t : TT) (ta tb : TE) : TE := fun σ H Q => t σ H fun c H1 => if c = true then ta σ H1 Q else tb σ H1 Q
theorem pe_ifExp {c : Expr} (hc : PT X c tA) (ha : PE X a ta) (hb : PE X b tb) : PE X (.IfExp c a b pos) (tIf tA ta tb) := by
  intro pins s σ H Q I h
  refine wpAny_IfExp (thn (hc pins s σ H _ I h) fun d s1 ⟨H1, I1, q1⟩ => ?_)
  cases d with
  | true => exact ha pins s1 σ H1 Q I1 q1
  | false => exact hb pins s1 σ H1 Q I1 q1
end
end L2

namespace L2
open PySem PySem.Spec PyProof.Rows

/-! ### a list, a tuple that is read: tracked, frozen, or an object of the module -/
def SqL (K : PySem.W.Frag) (H : Hp) (a : Addr) (xs : List V) : Prop :=
  Rd H a (.lst xs) ∨
    ∃ (o : Obj) (its : Array Value) (n : Nat), K.lookup a = some o ∧ o.cls = .type "list" ∧ o.dict = none ∧ o.data = .seq its n ∧ its.size ≤ sizeLine ∧ Vals xs its.toList
def SqT (K : PySem.W.Frag) (H : Hp) (a : Addr) (xs : List V) : Prop :=
  Rd H a (.tup xs) ∨
    ∃ (o : Obj) (its : Array Value) (n : Nat), K.lookup a = some o ∧ o.cls = .type "tuple" ∧ o.data = .seq its n ∧ its.size ≤ sizeLine ∧ Vals xs its.toList
def absV : Value → Option V
  | .none => some .non
  | .bool b => some (.bl b)
  | .int i _ => some (.int i)
  | .str x _ => some (.str x)
  | .bytes b _ => some (.byt b)
  | .float b _ => some (.flt b)
  | .ref a => some (.ref a)
  | .type n => some (.ty n)
  | _ => none
theorem RelV.abs {x : V} {u : Value} (r : RelV x u) : absV u = some x := by
  cases x with
  | non => cases r; rfl
  | bl _ => cases r; rfl
  | int _ => obtain ⟨t, rfl⟩ := r; rfl
  | str _ => obtain ⟨t, rfl⟩ := r; rfl
  | byt _ => obtain ⟨t, rfl⟩ := r; rfl
  | flt _ => obtain ⟨t, rfl⟩ := r; rfl
  | ref _ => cases r; rfl
  | ty _ => cases r; rfl
theorem RelV.inj {x y : V} {u : Value} (r : RelV x u) (q : RelV y u) : x = y := Option.some.inj (r.abs.symm.trans q.abs)
theorem Vals.inj : ∀ {xs ys : List V} {us : List Value}, Vals xs us → Vals ys us → xs = ys
  | _, _, _, .nil, .nil => rfl
  | _, _, _, .cons r t, .cons r' t' => by rw [r.inj r', Vals.inj t t']
section
variable {X : Cx} {pins : List (Addr × Obj)} {σ : St} {H : Hp} {s : Shared} {a : Addr} {xs ys : List V}
theorem SqL.of {K : PySem.W.Frag} (h : H a = some (.lst xs)) : SqL K H a xs := .inl (.inl h)
theorem SqT.of {K : PySem.W.Frag} (h : H a = some (.tup xs)) : SqT K H a xs := .inl (.inl h)
theorem Inv.list (I : Inv X pins σ H s) (h : SqL X.K H a xs) : ∃ its : List Value, Vals xs its ∧ PlainL s.heap a its.toArray ∧ xs.length ≤ sizeLine := by
  rcases h with h | ⟨o, its, n, hk, hc, hd, hs, hz, r⟩
  · obtain ⟨z, its, n, r, e⟩ := h.ok I.hok
    exact ⟨its, r, ⟨_, n, e, rfl, rfl, rfl⟩, z⟩
  · refine ⟨its.toList, r, ⟨o, n, I.kIn a o hk, hc, hd, by simpa using hs⟩, ?_⟩
    have e := r.length
    simp only [Array.length_toList] at e
    omega
theorem Inv.tuple (I : Inv X pins σ H s) (h : SqT X.K H a xs) : ∃ its : List Value, Vals xs its ∧ IsTup s.heap a its.toArray ∧ xs.length ≤ sizeLine := by
  rcases h with h | ⟨o, its, n, hk, hc, hs, hz, r⟩
  · obtain ⟨z, its, r, p⟩ := h.ok I.hok
    exact ⟨its, r, p, z⟩
  · refine ⟨its.toList, r, ⟨o, I.kIn a o hk, hc, n, by simpa using hs⟩, ?_⟩
    have e := r.length
    simp only [Array.length_toList] at e
    omega
theorem Inv.list_inj (I : Inv X pins σ H s) (h : SqL X.K H a xs) (h' : SqL X.K H a ys) : xs = ys := by
  obtain ⟨its, r, ⟨o, n, e, _, _, d⟩, _⟩ := I.list h
  obtain ⟨its', r', ⟨o', n', e', _, _, d'⟩, _⟩ := I.list h'
  rw [e] at e'; cases e'
  rw [d] at d'
  injection d' with d1 _
  have : its = its' := by simpa using congrArg Array.toList d1
  subst this
  exact r.inj r'
theorem Inv.tuple_inj (I : Inv X pins σ H s) (h : SqT X.K H a xs) (h' : SqT X.K H a ys) : xs = ys := by
  obtain ⟨its, r, ⟨o, e, _, n, d⟩, _⟩ := I.tuple h
  obtain ⟨its', r', ⟨o', e', _, n', d'⟩, _⟩ := I.tuple h'
  rw [e] at e'; cases e'
  rw [d] at d'
  injection d' with d1 _
  have : its = its' := by simpa using congrArg Array.toList d1
  subst this
  exact r.inj r'
end

/-! ### another wish about exceptions -/
abbrev Cx.wish (X : Cx) (E : Value → Shared → Prop) : Cx := { X with xe := E }
/-- no exception leaves -/
abbrev Cx.nox (X : Cx) : Cx := X.wish fun _ _ => False
theorem Cx.Ok.wish {X : Cx} (ok : X.Ok) (E : Value → Shared → Prop) : (X.wish E).Ok :=
  ⟨ok.mod, ok.kind, ok.glob, ok.blt, ok.above, ok.inj, ok.has, ok.cab, ok.hd, ok.frames, ok.stk, ok.exf, ok.bs, ok.bsz, ok.noex, ok.exfs, ok.funs, ok.frf⟩
theorem Cx.Ok.unwish {X : Cx} {E : Value → Shared → Prop} (ok : (X.wish E).Ok) : X.Ok :=
  ⟨ok.mod, ok.kind, ok.glob, ok.blt, ok.above, ok.inj, ok.has, ok.cab, ok.hd, ok.frames, ok.stk, ok.exf, ok.bs, ok.bsz, ok.noex, ok.exfs, ok.funs, ok.frf⟩
section
variable {X : Cx} {pins : List (Addr × Obj)} {σ : St} {H : Hp} {s : Shared} {E : Value → Shared → Prop}
theorem Inv.wish (I : Inv X pins σ H s) (E : Value → Shared → Prop) : Inv (X.wish E) pins σ H s := ⟨I.ok.wish E, I.os, I.bare, I.base, I.loc, I.cell, I.free, I.freeC, I.pin, I.hok, I.len⟩
theorem Inv.unwish (I : Inv (X.wish E) pins σ H s) : Inv X pins σ H s := ⟨I.ok.unwish, I.os, I.bare, I.base, I.loc, I.cell, I.free, I.freeC, I.pin, I.hok, I.len⟩
theorem SP.unwish {D : Ends} {f : Flow} {s' : Shared} (h : SP (X.wish E) pins D f s') : SP X pins D f s' := by
  cases f with
  | next => obtain ⟨σ', H', I, q⟩ := h; exact ⟨σ', H', I.unwish, q⟩
  | brk => obtain ⟨σ', H', I, q⟩ := h; exact ⟨σ', H', I.unwish, q⟩
  | cont => obtain ⟨σ', H', I, q⟩ := h; exact ⟨σ', H', I.unwish, q⟩
  | ret u => obtain ⟨v, σ', H', I, r, q⟩ := h; exact ⟨v, σ', H', I.unwish, r, q⟩
theorem PSs.nox {st : List Stmt} {t : TS} (h : PSs X.nox st t) : PSs X st t := fun pins s σ H D I hw =>
  wpAny_mono (h pins s σ H D (I.wish _) hw) (fun _ _ q => q.unwish) fun _ _ z => False.elim z
end

/-! ### blocks and small statements -/
section
variable {X : Cx} {st : Stmt} {rest : List Stmt} {t u : TS} {e : Expr} {te : TE} {pos : Pos}
def tNext : TS := fun D σ H => D.nx σ H
def tSeq (t u : TS) : TS := fun D σ H => t { D with nx := u D } σ H
theorem pss_nil : PSs X [] tNext := fun _ _ σ H _ I h => wpAny_execs_nil ⟨σ, H, I, h⟩
theorem pss_cons (h1 : PS X st t) (h2 : PSs X rest u) : PSs X (st :: rest) (tSeq t u) := by
  intro pins s σ H D I h
  refine wpAny_execs_cons (thn (h1 pins s σ H { D with nx := u D } I h) fun f s1 q => ?_)
  cases f with
  | next =>
    obtain ⟨σ', H', I', q⟩ := q
    exact h2 pins s1 σ' H' D I' q
  | ret v => exact q
  | brk => exact q
  | cont => exact q
theorem pss_one (h1 : PS X st t) : PSs X [st] t := by
  intro pins s σ H D I h
  refine wpAny_execs_cons (thn (h1 pins s σ H D I h) fun f s1 q => ?_)
  cases f with
  | next => exact wpAny_execs_nil q
  | ret v => exact q
  | brk => exact q
  | cont => exact q
/-- in a def's body nothing is shown -/
theorem Inv.quiet {pins : List (Addr × Obj)} {σ : St} {H : Hp} {s : Shared} (I : Inv X pins σ H s) : interactive X.env = false := by simp [interactive, I.ok.kind]
/-- an expression whose value is dropped -/
def tDrop (te : TE) : TS := fun D σ H => te σ H fun _ H1 => D.nx σ H1
theorem ps_expr (he : PE X e te) (hs : swapsWith e none pos.line X.env = pure false := by rfl) : PS X (.Expr e pos) (tDrop te) := by
  intro pins s σ H D I h
  exact wpAny_Expr_any (thn (he pins s σ H _ I h) fun v s1 ⟨x, H1, I1, r1, q1⟩ => ⟨σ, H1, I1, q1⟩) I.quiet hs
def tRet (te : TE) : TS := fun D σ H => te σ H D.rt
theorem ps_ret (he : PE X e te) : PS X (.Return (some e) pos) (tRet te) := by
  intro pins s σ H D I h
  exact wpAny_Return_some (thn (he pins s σ H _ I h) fun v s1 ⟨x, H1, I1, r1, q1⟩ => ⟨x, σ, H1, I1, r1, q1⟩)
def tRetN : TS := fun D _ H => D.rt .non H
theorem ps_retN : PS X (.Return none pos) tRetN := fun _ _ σ H _ I h => wpAny_Return_none ⟨.non, σ, H, I, rfl, h⟩
def tIfS (c : TT) (t u : TS) : TS := fun D σ H => c σ H fun b H1 => if b = true then t D σ H1 else u D σ H1
theorem ps_if {c : Expr} {a b : List Stmt} {tc : TT} (hc : PT X c tc) (ha : PSs X a t) (hb : PSs X b u) : PS X (.If c a b pos) (tIfS tc t u) := by
  intro pins s σ H D I h
  refine wpAny_If (thn (hc pins s σ H _ I h) fun d s1 ⟨H1, I1, q1⟩ => ?_)
  cases d with
  | true => exact ha pins s1 σ H1 D I1 q1
  | false => exact hb pins s1 σ H1 D I1 q1
/-- code that the proof never comes to -/
def tNever : TS := fun _ _ _ => False
theorem ps_never : PS X st tNever := fun _ _ _ _ _ _ h => h.elim
end

/-! ### targets -/
abbrev TG := V → St → Hp → (St → Hp → Prop) → Prop
abbrev TGs := List V → St → Hp → (St → Hp → Prop) → Prop
def PG (X : Cx) (target : Expr) (t : TG) : Prop :=
  ∀ (pins : List (Addr × Obj)) (s : Shared) (σ : St) (H : Hp) (v : V) (u : Value) (Q : St → Hp → Prop), Inv X pins σ H s → RelV v u → t v σ H Q →
    wpAny (model X.prog X.w) X.A (assign target X.env u) (fun _ s' => ∃ σ' H', Inv X pins σ' H' s' ∧ Q σ' H') X.xe s
/-- several targets, one after another -/
def PGs (X : Cx) (ts : List Expr) (t : TGs) : Prop :=
  ∀ (pins : List (Addr × Obj)) (s : Shared) (σ : St) (H : Hp) (vs : List V) (us : List Value) (Q : St → Hp → Prop), Inv X pins σ H s → Vals vs us → t vs σ H Q →
    wpAny (model X.prog X.w) X.A (assignInOrder ((assignEach ts X.env).map (·.2)) us) (fun _ s' => ∃ σ' H', Inv X pins σ' H' s' ∧ Q σ' H') X.xe s
/-- o[i] = v, by values -/
abbrev TSet := V → V → V → Hp → (Hp → Prop) → Prop
def PSet (X : Cx) (t : TSet) : Prop :=
  ∀ (pins : List (Addr × Obj)) (s : Shared) (σ : St) (H : Hp) (o i v : V) (ov iv u : Value) (Q : Hp → Prop), Inv X pins σ H s → RelV o ov → RelV i iv → RelV v u → t o i v H Q →
    wpAny (model X.prog X.w) X.A (setItem ov iv u) (fun _ s' => ∃ H', Inv X pins σ H' s' ∧ Q H') X.xe s
/-- a op= b, by values -/
abbrev TIp := V → V → Hp → VK → Prop
def PIp (X : Cx) (op : Operator) (t : TIp) : Prop :=
  ∀ (pins : List (Addr × Obj)) (s : Shared) (σ : St) (H : Hp) (x y : V) (v u : Value) (Q : VK), Inv X pins σ H s → RelV x v → RelV y u → t x y H Q →
    wpAny (model X.prog X.w) X.A (inplaceOp op v u) (EP X pins σ Q) X.xe s
section
variable {X : Cx} {pos : Pos}
def gName (i : Nat) : TG := fun v σ H Q => Q (σ.set i (some v)) H
theorem pg_name {i : Nat} {x : Str} (hN : X.N.Nodup) (hi : X.N[i]? = some x) (hx : Loc X.env.scope x) (hf : X.fn x = true ∨ X.env.scope.names.lookup x = some .local := by first | exact .inl rfl | exact .inr rfl | assumption) : PG X (.Name x pos) (gName i) := by
  intro pins s σ H v u Q I r h
  exact wpAny_assign_Name (store_ok I hN hi hx r (fun s' I' => ⟨_, H, I', h⟩) hf)
def gNil : TGs := fun vs σ H Q => vs = [] ∧ Q σ H
def gCons (t : TG) (u : TGs) : TGs := fun vs σ H Q => ∃ v r, vs = v :: r ∧ t v σ H fun σ' H' => u r σ' H' Q
theorem pgs_nil : PGs X [] gNil := by
  intro pins s σ H vs us Q I r h
  obtain ⟨e, h⟩ := h
  subst e
  cases r
  exact assignInOrder_nil ⟨σ, H, I, h⟩
theorem pgs_cons {e : Expr} {es : List Expr} {t : TG} {u : TGs} (h1 : PG X e t) (h2 : PGs X es u)
    (hs : (assignEach (e :: es) X.env).map (·.2) = assign e X.env :: (assignEach es X.env).map (·.2) := by rfl) : PGs X (e :: es) (gCons t u) := by
  intro pins s σ H vs us Q I r h
  obtain ⟨v, vr, e1, h⟩ := h
  subst e1
  cases r with
  | cons r rr =>
    rw [hs]
    refine assignInOrder_cons (thn (h1 pins s σ H _ _ _ I r h) fun _ s1 ⟨σ1, H1, I1, q1⟩ => ?_)
    exact h2 pins s1 σ1 H1 _ _ Q I1 rr q1
/-- (a, b, ..) = a tuple of that length -/
def gTup (K : PySem.W.Frag) (n : Nat) (t : TGs) : TG := fun v σ H Q => ∃ a xs, v = .ref a ∧ SqT K H a xs ∧ xs.length = n ∧ t xs σ H Q
theorem pg_tup {es : List Expr} {k : Nat} {t : TGs} {n : Nat} (hc : X.calm = true) (h : PGs X es t)
    (hn : (assignEach es X.env).length = n := by rfl) (hst : (assignEach es X.env).findIdx? (·.1) = none := by rfl) : PG X (.Tuple es k pos) (gTup X.K n t) := by
  intro pins s σ H v u Q I r hw
  obtain ⟨a, xs, e1, hq, hl, hw⟩ := hw
  subst e1
  cases r
  obtain ⟨its, rv, ht, hz⟩ := I.tuple hq
  refine assign_Tuple_tuple (I.ok.hd hc) ht (by simp [hn, ← hl, rv.length]) hst fun h' hx => ?_
  have I1 : Inv X pins σ H { s with heap := h' } := I.kept (t' := s.toks) fun b o e => hx b o (Nat.ne_of_lt (Heap.lt_size e)) e
  exact h pins _ σ H xs _ Q I1 (by simpa using rv) hw
/-- o[i] = .. -/
def gSub (to ti : TE) (t : TSet) : TG := fun v σ H Q => to σ H fun o H1 => ti σ H1 fun i H2 => t o i v H2 fun H3 => Q σ H3
theorem pg_sub {o i : Expr} {to ti : TE} {t : TSet} (ho : PE X o to) (hi : PE X i ti) (hs : PSet X t)
    (ha : ∀ v, assign (.Subscript o i pos) X.env v = (do
      let ov ← holding [v] (eval o X.env)
      let iv ← holding [v, ov] (eval i X.env)
      standAt pos
      holding [v, ov, iv] (setItem ov iv v)
      release [v, ov, iv] []) := by intro _; rfl) : PG X (.Subscript o i pos) (gSub to ti t) := by
  intro pins s σ H v u Q I r h
  rw [ha]
  refine wpAny_bind (wpAny_holding (thn (ho pins s σ H _ I h) fun ov s1 ⟨x, H1, I1, r1, q1⟩ => ?_))
  refine wpAny_bind (wpAny_holding (thn (hi pins s1 σ H1 _ I1 q1) fun iv s2 ⟨y, H2, I2, r2, q2⟩ => ?_))
  refine wpAny_bind (wpAny_standAt (wpAny_bind (wpAny_holding (thn (hs pins s2 σ H2 x y v ov iv u _ I2 r1 r2 r q2) fun _ s3 ⟨H3, I3, q3⟩ => ?_))))
  exact wpAny_release ⟨σ, H3, I3, q3⟩
/-- target = value -/
def tAsg (te : TE) (g : TG) : TS := fun D σ H => te σ H fun x H1 => g x σ H1 D.nx
theorem ps_asg {tg e : Expr} {te : TE} {g : TG} (he : PE X e te) (hg : PG X tg g) (hs : swapsWithSole [tg] e pos.line X.env = pure false := by rfl) (hw : swappedStores [tg] e X.env = pure none := by rfl)
    (h1 : (assignEach [tg] X.env).map (·.2) = [assign tg X.env] := by rfl) : PS X (.Assign [tg] e pos) (tAsg te g) := by
  intro pins s σ H D I h
  refine wpAny_Assign_stores (thn (he pins s σ H _ I h) fun v s1 ⟨x, H1, I1, r1, q1⟩ => ?_) hs hw
  rw [h1]
  exact thn (hg pins s1 σ H1 x v _ I1 r1 q1) fun _ s2 q => q
/-- name = value -/
theorem ps_set {i : Nat} {x : Str} {e : Expr} {te : TE} {pos' : Pos} (hN : X.N.Nodup) (hi : X.N[i]? = some x) (hx : Loc X.env.scope x) (he : PE X e te) (hs : swapsWith e (some (.Name x pos')) pos.line X.env = pure false := by rfl) (hf : X.fn x = true ∨ X.env.scope.names.lookup x = some .local := by first | exact .inl rfl | exact .inr rfl | assumption) :
    PS X (.Assign [.Name x pos'] e pos) (tAsg te (gName i)) := by
  intro pins s σ H D I h
  refine wpAny_Assign_Name (thn (he pins s σ H _ I h) fun v s1 ⟨y, H1, I1, r1, q1⟩ => ?_) hs
  exact store_ok I1 hN hi hx r1 (fun s2 I2 => ⟨_, H1, I2, q1⟩) hf
/-- o[i] op= e -/
def tAugS (to ti te : TE) (tget : V → V → Hp → VK → Prop) (tip : TIp) (tset : TSet) : TS := fun D σ H => to σ H fun o H1 => ti σ H1 fun i H2 => tget o i H2 fun x H3 => te σ H3 fun y H4 => tip x y H4 fun z H5 => tset o i z H5 fun H6 => D.nx σ H6
/-- o[i], by values -/
def PGet (X : Cx) (t : V → V → Hp → VK → Prop) : Prop :=
  ∀ (pins : List (Addr × Obj)) (s : Shared) (σ : St) (H : Hp) (o i : V) (ov iv : Value) (Q : VK), Inv X pins σ H s → RelV o ov → RelV i iv → t o i H Q →
    wpAny (model X.prog X.w) X.A (getItem ov iv) (EP X pins σ Q) X.xe s
theorem ps_augS {o i e : Expr} {to ti te : TE} {tget : V → V → Hp → VK → Prop} {tip : TIp} {tset : TSet} {op : Operator} {tpos : Pos} (ho : PE X o to) (hi : PE X i ti) (hg : PGet X tget) (he : PE X e te) (hp : PIp X op tip) (hs : PSet X tset)
    (ha : ∀ ov iv new, augStore i ov iv new = (do holding [new, ov, iv] (setItem ov iv new); release [new, ov, iv] []; pure .next) := by intros; rfl) : PS X (.AugAssign (.Subscript o i tpos) op e pos) (tAugS to ti te tget tip tset) := by
  intro pins s σ H D I h
  refine wpAny_AugAssign_SubscriptAny (thn (ho pins s σ H _ I h) fun ov s1 ⟨x1, H1, I1, r1, q1⟩ => ?_) ha
  refine thn (hi pins s1 σ H1 _ I1 q1) fun iv s2 ⟨x2, H2, I2, r2, q2⟩ => ?_
  refine thn (hg pins s2 σ H2 x1 x2 ov iv _ I2 r1 r2 q2) fun old s3 ⟨x3, H3, I3, r3, q3⟩ => ?_
  refine thn (he pins s3 σ H3 _ I3 q3) fun v s4 ⟨x4, H4, I4, r4, q4⟩ => ?_
  refine thn (hp pins s4 σ H4 x3 x4 old v _ I4 r3 r4 q4) fun new s5 ⟨x5, H5, I5, r5, q5⟩ => ?_
  exact thn (hs pins s5 σ H5 x1 x2 x5 ov iv new _ I5 r1 r2 r5 q5) fun _ s6 ⟨H6, I6, q6⟩ => ⟨σ, H6, I6, q6⟩
/-- ints -/
def ipI (f : Int → Int → Int) : TIp := fun x y H Q => ∃ i j, x = .int i ∧ y = .int j ∧ Q (.int (f i j)) H
theorem ip_add : PIp X .Add (ipI fun i j => i + j) := by
  intro pins s σ H x y v u Q I r1 r2 h
  obtain ⟨i, j, e1, e2, q⟩ := h
  subst e1; subst e2
  obtain ⟨t, rfl⟩ := r1
  obtain ⟨t', rfl⟩ := r2
  exact iadd_int ⟨.int _, H, I.tok _, ⟨_, rfl⟩, q⟩
end

/-! ### while -/
section
variable {X : Cx} {pos : Pos}
end

/-! ### what a loop or a comprehension walks -/
/-- at turn i: it yields x (the heap may grow), or it stops -/
structure It where
  go : Nat → Hp → Prop
  yld : Nat → Hp → V → Hp → Prop
  stop : Nat → Hp → Prop
/-- the iterator's own objects may turn: they are not the frame's, not pinned, younger than the entry (or a comprehension's own) -/
def FpOk (X : Cx) (pins : List (Addr × Obj)) (H : Hp) (b : Addr) : Prop :=
  H b = none ∧ b ≠ X.env.locals ∧ b ∉ X.fs ∧ (b ∈ X.ex ∨ X.s₀.heap.objs.size ≤ b) ∧ (∀ x c, X.env.cells.lookup x = some c → c ≠ b) ∧ ∀ p ∈ X.pn ++ pins, p.1 ≠ b
theorem Inv.fpOk {X : Cx} {pins : List (Addr × Obj)} {σ : St} {H H' : Hp} {s : Shared} {b : Addr} (I : Inv X pins σ H s) (hb : s.heap.objs.size ≤ b) (hn : H' b = none) : FpOk X pins H' b := by
  refine ⟨hn, Nat.ne_of_gt (Nat.lt_of_lt_of_le I.lt hb), I.nofs hb, .inr (Nat.le_trans I.sz hb), fun x c e z => ?_, fun p hp z => ?_⟩
  · obtain ⟨v, q⟩ := I.cell x c e
    exact absurd (Nat.lt_of_lt_of_le q.lt (by rw [z]; exact hb)) (Nat.lt_irrefl _)
  · exact absurd (Nat.lt_of_lt_of_le (Heap.lt_size (I.pin p hp).1) (by rw [z]; exact hb)) (Nat.lt_irrefl _)
structure Turn (P : Program) (w : World) (K : PySem.W.Frag) (tg : Expr) (J : It) (fp : List Addr) (it : Addr) (tn : Nat → Heap → Prop) : Prop where
  mem : it ∈ fp
  obj : ∀ i h, tn i h → ∀ b ∈ fp, ∃ o, h.get? b = some o ∧ ∀ v, o.data ≠ .cell v
  keep : ∀ i h h', tn i h → (∀ b ∈ fp, ∀ o, h.get? b = some o → h'.get? b = some o) → tn i h'
  item : ∀ (X : Cx), X.prog = P → X.w = w → X.K = K → X.calm = true → ∀ (i : Nat) (pins : List (Addr × Obj)) (s : Shared) (σ : St) (H : Hp) (E : Value → Shared → Prop), Inv X pins σ H s → (∀ b ∈ fp, FpOk X pins H b) → tn i s.heap → J.go i H →
    wpAny (model P w) X.A (pyNext (.ref it)) (fun r s1 => ∃ u, r = some u ∧
      wpAny (model P w) X.A (letOwnedTupleGo tg (.ref it) u) (fun _ s2 => ∃ x H', Inv X pins σ H' s2 ∧ RelV x u ∧ J.yld i H x H' ∧ tn (i + 1) s2.heap ∧ ∀ b ∈ fp, H' b = none) E s1) E s
  done : ∀ (X : Cx), X.prog = P → X.w = w → X.K = K → X.calm = true → ∀ (i : Nat) (pins : List (Addr × Obj)) (s : Shared) (σ : St) (H : Hp) (E : Value → Shared → Prop), Inv X pins σ H s → (∀ b ∈ fp, FpOk X pins H b) → tn i s.heap → J.stop i H →
    wpAny (model P w) X.A (pyNext (.ref it)) (fun r s1 => r = none ∧ Inv X pins σ H s1) E s
  self : ∀ (A : Around) (i : Nat) (s : Shared) (Q : Value → Shared → Prop) (E : Value → Shared → Prop), tn i s.heap → Q (.ref it) s → wpAny (model P w) A (pyIter (.ref it)) Q E s
abbrev TI := St → Hp → (It → Hp → Prop) → Prop
/-- an iterator has come -/
def PIE (X : Cx) (pins : List (Addr × Obj)) (σ : St) (tg : Expr) (R : It → Hp → Prop) (itv : Value) (s2 : Shared) : Prop :=
  ∃ (it : Addr) (fp : List Addr) (tn : Nat → Heap → Prop) (J : It) (H' : Hp), itv = .ref it ∧ Inv X pins σ H' s2 ∧ Turn X.prog X.w X.K tg J fp it tn ∧ tn 0 s2.heap ∧ (∀ b ∈ fp, FpOk X pins H' b) ∧ R J H'
def PI (X : Cx) (tg iter : Expr) (wi : TI) : Prop :=
  ∀ (pins : List (Addr × Obj)) (s : Shared) (σ : St) (H : Hp) (R : It → Hp → Prop), Inv X pins σ H s → wi σ H R →
    wpAny (model X.prog X.w) X.A (eval iter X.env) (fun v s1 => wpAny (model X.prog X.w) X.A (pyIter v) (PIE X pins σ tg R) X.xe s1) X.xe s

/-- the step ahead of the store is nothing for an iterator that keeps no tuple -/
theorem go_of {M : Model} {A : Around} {E : Value → Shared → Prop} {s : Shared} {tg : Expr} {it : Addr} {u : Value} {o : Obj} {n : String} {vs : Array Value} {Q : Unit → Shared → Prop} (ho : s.heap.get? it = some o) (hc : o.cls = .type n) (hd : o.data = .fields vs)
    (hn : ["enumerate", "zip", "dict_itemiterator", "dict_reverseitemiterator", "odict_iterator", "itertools.zip_longest", "itertools.pairwise"].contains n = false) (hQ : Q () s) : wpAny M A (letOwnedTupleGo tg (.ref it) u) Q E s := by
  unfold letOwnedTupleGo
  cases tg <;> first
    | exact wpAny_pure hQ
    | (cases u <;> first
        | exact wpAny_pure hQ
        | (refine wpAny_bind (wpAny_load ho ?_)
           rw [hc, hd]
           show wpAny M A (if (["enumerate", "zip", "dict_itemiterator", "dict_reverseitemiterator", "odict_iterator", "itertools.zip_longest", "itertools.pairwise"].contains n && vs[0]? == some (rawInt _)) = true then _ else _) Q E s
           rw [if_neg (by intro h; rw [hn, Bool.false_and] at h; cases h)]
           exact wpAny_pure hQ))

/-- the list at a, as it stands at each turn (a loop may append to it) -/
def Itl (K : PySem.W.Frag) (a : Addr) : It :=
  ⟨fun i H => ∃ xs x, SqL K H a xs ∧ xs[i]? = some x, fun i H x H' => H' = H ∧ ∀ xs, SqL K H a xs → xs[i]? = some x, fun i H => ∃ xs, SqL K H a xs ∧ xs.length ≤ i⟩
def Itt (K : PySem.W.Frag) (a : Addr) : It :=
  ⟨fun i H => ∃ xs x, SqT K H a xs ∧ xs[i]? = some x, fun i H x H' => H' = H ∧ ∀ xs, SqT K H a xs → xs[i]? = some x, fun i H => ∃ xs, SqT K H a xs ∧ xs.length ≤ i⟩
/-- lo, lo + 1, .. (n of them) -/
def Itr (lo : Int) (n : Nat) : It := ⟨fun i _ => i < n, fun i H x H' => H' = H ∧ x = .int (lo + i), fun i _ => n ≤ i⟩
theorem turn_list {P : Program} {w : World} {K : PySem.W.Frag} {tg : Expr} (a it : Addr) : Turn P w K tg (Itl K a) [it] it (fun i h => h.IsListIter it a i) where
  mem := by simp
  obj := fun i h st b hb => by
    have e : b = it := by simpa using hb
    subst e
    obtain ⟨o, e, c, d⟩ := st
    exact ⟨o, e, fun v z => by rw [d] at z; cases z⟩
  keep := fun i h h' st k => st.at fun o e => k it (by simp) o e
  item := by
    intro X hP hw hK hc i pins s σ H E I hf st hg
    subst hP hw hK
    obtain ⟨xs, x, hq, hx⟩ := hg
    obtain ⟨its, rv, p, hz⟩ := I.list hq
    obtain ⟨u, hu, ru⟩ := rv.get hx
    obtain ⟨f0, f1, f2, f3, f4, f5⟩ := hf it (by simp)
    refine wpAny_pyNext_list_item st p.isList (x := u) (by simpa using hu) fun h' st' sb => ?_
    have I1 : Inv X pins σ H { s with heap := h' } := I.turned (t' := s.toks) (fun b o hb e => (sb.2 b hb).trans e) f0 f1 f3 f4 f5
    obtain ⟨o, e, c, d⟩ := id st'
    exact ⟨u, rfl, go_of (s := { s with heap := h' }) e c d (by decide) ⟨x, H, I1, ru, ⟨rfl, fun ys hy => by rw [I.list_inj hy hq]; exact hx⟩, st', fun b hb => (hf b hb).1⟩⟩
  done := by
    intro X hP hw hK hc i pins s σ H E I hf st hg
    subst hP hw hK
    obtain ⟨xs, hq, hx⟩ := hg
    obtain ⟨its, rv, p, hz⟩ := I.list hq
    obtain ⟨f0, f1, f2, f3, f4, f5⟩ := hf it (by simp)
    have hl := rv.length
    exact wpAny_pyNext_list_end (I.ok.hd hc) st p.isList (by simp; omega) fun h' eb => ⟨rfl, I.turned (t' := s.toks) (fun b o hb e => eb b o hb e) f0 f1 f3 f4 f5⟩
  self := fun _ _ _ _ _ st h => wpAny_pyIter_listiter st h
theorem turn_tuple {P : Program} {w : World} {K : PySem.W.Frag} {tg : Expr} (a it : Addr) : Turn P w K tg (Itt K a) [it] it (fun i h => h.IsTupleIter it a i) where
  mem := by simp
  obj := fun i h st b hb => by
    have e : b = it := by simpa using hb
    subst e
    obtain ⟨o, e, c, d⟩ := st
    exact ⟨o, e, fun v z => by rw [d] at z; cases z⟩
  keep := fun i h h' st k => st.at fun o e => k it (by simp) o e
  item := by
    intro X hP hw hK hc i pins s σ H E I hf st hg
    subst hP hw hK
    obtain ⟨xs, x, hq, hx⟩ := hg
    obtain ⟨its, rv, p, hz⟩ := I.tuple hq
    obtain ⟨u, hu, ru⟩ := rv.get hx
    obtain ⟨f0, f1, f2, f3, f4, f5⟩ := hf it (by simp)
    refine wpAny_pyNext_tuple_item st (show s.heap.IsTuple a its.toArray from p) (x := u) (by simpa using hu) fun h' st' sb => ?_
    have I1 : Inv X pins σ H { s with heap := h' } := I.turned (t' := s.toks) (fun b o hb e => (sb.2 b hb).trans e) f0 f1 f3 f4 f5
    obtain ⟨o, e, c, d⟩ := id st'
    exact ⟨u, rfl, go_of (s := { s with heap := h' }) e c d (by decide) ⟨x, H, I1, ru, ⟨rfl, fun ys hy => by rw [I.tuple_inj hy hq]; exact hx⟩, st', fun b hb => (hf b hb).1⟩⟩
  done := by
    intro X hP hw hK hc i pins s σ H E I hf st hg
    subst hP hw hK
    obtain ⟨xs, hq, hx⟩ := hg
    obtain ⟨its, rv, p, hz⟩ := I.tuple hq
    obtain ⟨f0, f1, f2, f3, f4, f5⟩ := hf it (by simp)
    have hl := rv.length
    exact wpAny_pyNext_tuple_end (I.ok.hd hc) st (show s.heap.IsTuple a its.toArray from p) (by simp; omega) fun h' eb => ⟨rfl, I.turned (t' := s.toks) (fun b o hb e => eb b o hb e) f0 f1 f3 f4 f5⟩
  self := fun _ _ _ _ _ st h => wpAny_pyIter_tupleiter st h
theorem turn_range {P : Program} {w : World} {K : PySem.W.Frag} {tg : Expr} (it : Addr) (lo : Int) (n : Nat) : Turn P w K tg (Itr lo n) [it] it (fun i h => IsRangeIter h it (lo + (i : Nat) * 1) ((n : Int) - (i : Nat)) 1) where
  mem := by simp
  obj := fun i h st b hb => by
    have e : b = it := by simpa using hb
    subst e
    exact ⟨_, st, fun v z => by
      have z' : Data.fields _ = Data.cell v := z
      cases z'⟩
  keep := fun i h h' st k => k it (by simp) _ st
  item := by
    intro X hP hw hK hc i pins s σ H E I hf st hg
    subst hP hw hK
    obtain ⟨f0, f1, f2, f3, f4, f5⟩ := hf it (by simp)
    have W := Walks.range (prog := X.prog) (w := X.w) (I.ok.hd hc) it lo 1 n
    refine W.item i s _ _ hg st fun v h' tk hv st' kk => ?_
    obtain ⟨t, rfl⟩ := hv
    have I1 : Inv X pins σ H { s with heap := h', toks := tk } := I.turned (fun b o hb e => kk b o (by simpa using hb) e) f0 f1 f3 f4 f5
    refine ⟨_, rfl, go_of (s := { s with heap := h', toks := tk }) (n := "range_iterator") st' rfl rfl (by decide) ⟨.int (lo + i), H, I1, ⟨t, ?_⟩, ⟨rfl, rfl⟩, st', fun b hb => (hf b hb).1⟩⟩
    rw [Int.mul_one]
  done := by
    intro X hP hw hK hc i pins s σ H E I hf st hg
    subst hP hw hK
    obtain ⟨f0, f1, f2, f3, f4, f5⟩ := hf it (by simp)
    exact wpAny_pyNext_range_end (I.ok.hd hc) st (by have : n ≤ i := hg; omega) fun h' eb => ⟨rfl, I.turned (t' := s.toks) (fun b o hb e => eb b o hb e) f0 f1 f3 f4 f5⟩
  self := fun _ _ _ _ _ st h => wpAny_pyIter_rangeiter st h
end L2

namespace L2
open PySem PySem.Spec PyProof.Rows
section
variable {X : Cx} {tg : Expr}
def iList (K : PySem.W.Frag) (tl : TE) : TI := fun σ H R => tl σ H fun x H1 => ∃ a, x = .ref a ∧ (∃ xs, SqL K H1 a xs) ∧ R (Itl K a) H1
def iTup (K : PySem.W.Frag) (tl : TE) : TI := fun σ H R => tl σ H fun x H1 => ∃ a, x = .ref a ∧ (∃ xs, SqT K H1 a xs) ∧ R (Itt K a) H1
theorem pi_list {l : Expr} {tl : TE} (hl : PE X l tl) : PI X tg l (iList X.K tl) := by
  intro pins s σ H R I h
  refine thn (hl pins s σ H _ I h) fun v s1 ⟨x, H1, I1, r1, q1⟩ => ?_
  obtain ⟨a, e, ⟨xs, hq⟩, q⟩ := q1
  subst e
  cases r1
  obtain ⟨its, rv, p, hz⟩ := I1.list hq
  refine wpAny_pyIter_list p.isList ?_
  refine ⟨s1.heap.objs.size, [s1.heap.objs.size], _, _, H1, rfl, I1.kept (t' := s1.toks) fun b o e => Heap.get?_push_of_some _ e, turn_list a _, ⟨_, Heap.get?_push_size _ rfl, rfl, rfl⟩, fun b hb => ?_, q⟩
  have e : b = s1.heap.objs.size := by simpa using hb
  subst e
  exact I1.fpOk (Nat.le_refl _) (I1.hok.fresh (Nat.le_refl _))
theorem pi_tup {l : Expr} {tl : TE} (hl : PE X l tl) : PI X tg l (iTup X.K tl) := by
  intro pins s σ H R I h
  refine thn (hl pins s σ H _ I h) fun v s1 ⟨x, H1, I1, r1, q1⟩ => ?_
  obtain ⟨a, e, ⟨xs, hq⟩, q⟩ := q1
  subst e
  cases r1
  obtain ⟨its, rv, p, hz⟩ := I1.tuple hq
  refine wpAny_pyIter_tuple (show s1.heap.IsTuple a its.toArray from p) ?_
  refine ⟨s1.heap.objs.size, [s1.heap.objs.size], _, _, H1, rfl, I1.kept (t' := s1.toks) fun b o e => Heap.get?_push_of_some _ e, turn_tuple a _, ⟨_, Heap.get?_push_size _ rfl, rfl, rfl⟩, fun b hb => ?_, q⟩
  have e : b = s1.heap.objs.size := by simpa using hb
  subst e
  exact I1.fpOk (Nat.le_refl _) (I1.hok.fresh (Nat.le_refl _))
/-- a range object just made, walked -/
theorem range_it {pins : List (Addr × Obj)} {σ : St} {H : Hp} {s : Shared} {R : It → Hp → Prop} {E : Value → Shared → Prop} {lo hi : Int} {t u v : Tok} {tk : Nat} (I : Inv X pins σ H s) (h1 : -(2 ^ 62) ≤ lo) (h2 : lo < 2 ^ 62) (h3 : -(2 ^ 62) ≤ hi) (h4 : hi < 2 ^ 62)
    (q : R (Itr lo (hi - lo).toNat) H) : wpAny (model X.prog X.w) X.A (pyIter (.ref s.heap.objs.size)) (PIE X pins σ tg R) E { s with heap := s.heap.push { cls := .type "range", data := .fields #[.int lo t, .int hi u, .int 1 v] }, toks := tk } := by
  refine wpAny_pyIter_range (IsRange.new ..) (small_one h1 h2 h3 h4) ?_
  have I1 : Inv X pins σ H { s with heap := s.heap.push { cls := .type "range", data := .fields #[.int lo t, .int hi u, .int 1 v] }, toks := tk } := I.kept fun b o e => Heap.get?_push_of_some _ e
  refine ⟨(s.heap.push { cls := .type "range", data := .fields #[.int lo t, .int hi u, .int 1 v] }).objs.size, [(s.heap.push { cls := .type "range", data := .fields #[.int lo t, .int hi u, .int 1 v] }).objs.size], _, _, H, rfl,
    I1.kept (t' := tk) fun b o e => Heap.get?_push_of_some _ e, turn_range _ lo (hi - lo).toNat, ?_, fun b hb => ?_, q⟩
  · have e1 : lo + ((0 : Nat) : Int) * 1 = lo := by simp
    have e2 : (((hi - lo).toNat : Nat) : Int) - ((0 : Nat) : Int) = Builtin.Range.rangeSize lo hi 1 := by rw [rangeSize_one]; split <;> omega
    show IsRangeIter _ _ (lo + ((0 : Nat) : Int) * 1) ((((hi - lo).toNat : Nat) : Int) - ((0 : Nat) : Int)) 1
    rw [e1, e2]
    exact Heap.get?_push_size _ rfl
  · have e : b = (s.heap.push { cls := .type "range", data := .fields #[.int lo t, .int hi u, .int 1 v] }).objs.size := by simpa using hb
    subst e
    exact I1.fpOk (Nat.le_refl _) (I1.hok.fresh (Nat.le_refl _))
def iRng1 (ta : TA) : TI := fun σ H R => ta σ H fun vs H1 => ∃ j : Int, vs = [.int j] ∧ -(2 ^ 62) ≤ j ∧ j < 2 ^ 62 ∧ R (Itr 0 j.toNat) H1
theorem pi_range1 {a : Expr} {ta : TA} {p pos : Pos} (hg : Gl X "range") (hm : X.mg "range" = none) (ha : PA X [a] ta) (hs : starEach [a] X.env = [(false, eval a X.env)] := by rfl) : PI X tg (.Call (.Name "range" p) [a] [] pos) (iRng1 ta) := by
  intro pins s σ H R I h
  refine Call_ (ld_blt I hg hm boot_range (PyProof.Rows.callWith_type1 (thn (ha pos pins s σ H _ I h) fun us s1 ⟨vs, H1, I1, r1, q1⟩ => ?_) hs rfl))
  obtain ⟨j, e, q1, q2, q⟩ := q1
  subst e
  cases r1 with
  | cons r rr =>
    cases rr
    obtain ⟨t, rfl⟩ := r
    exact call_range_1 (range_it I1 (by omega) (by omega) q1 q2 (by simpa using q))
/-! ### for -/
/-- W: the invariant by the turn and a measure; N: what the body is to reach -/
def tFor (wi : TI) (g : TG) (tb : TS) : TS := fun D σ H => wi σ H fun J H1 => ∃ W : Nat → Nat → St → Hp → Prop, (∃ m, W 0 m σ H1) ∧ ∀ i m σ H, W i m σ H →
  (J.stop i H ∧ D.nx σ H) ∨ (J.go i H ∧ ∃ N : St → Hp → Prop, (∀ σ' H', N σ' H' → ∃ m', m' < m ∧ W (i + 1) m' σ' H') ∧ ∀ x H', J.yld i H x H' → g x σ H' fun σ2 H2 => tb { D with nx := N, ct := N, bk := D.nx } σ2 H2)
/-- the records at fp as they stand -/
def pinsAt (fp : List Addr) (h : Heap) : List (Addr × Obj) := fp.filterMap fun b => (h.get? b).map fun o => (b, o)
theorem mem_pinsAt {fp : List Addr} {h : Heap} {b : Addr} {o : Obj} (hb : b ∈ fp) (e : h.get? b = some o) : (b, o) ∈ pinsAt fp h := List.mem_filterMap.mpr ⟨b, hb, by rw [e]; rfl⟩
theorem of_pinsAt {fp : List Addr} {h : Heap} {p : Addr × Obj} (hp : p ∈ pinsAt fp h) : p.1 ∈ fp ∧ h.get? p.1 = some p.2 := by
  obtain ⟨b, hb, e⟩ := List.mem_filterMap.mp hp
  cases q : h.get? b with
  | none => rw [q] at e; cases e
  | some o =>
    rw [q] at e
    have e' : (b, o) = p := Option.some.inj e
    subst e'
    exact ⟨hb, q⟩
theorem Inv.pinned {pins : List (Addr × Obj)} {σ : St} {H : Hp} {s : Shared} {fp : List Addr} (I : Inv X pins σ H s) (hf : ∀ b ∈ fp, FpOk X pins H b) (ho : ∀ b ∈ fp, ∃ o, s.heap.get? b = some o ∧ ∀ v, o.data ≠ .cell v) : Inv X (pins ++ pinsAt fp s.heap) σ H s :=
  I.pins_of fun p hp => (List.mem_append.mp hp).elim (fun z => I.pin p (List.mem_append_right _ z)) fun z => by
    obtain ⟨hb, e⟩ := of_pinsAt z
    obtain ⟨f0, f1, f2, _⟩ := hf p.1 hb
    obtain ⟨o, e', d⟩ := ho p.1 hb
    rw [e] at e'; cases e'
    exact ⟨e, f0, f1, f2, d⟩
theorem Inv.unpinned {pins pl : List (Addr × Obj)} {σ : St} {H : Hp} {s : Shared} (I : Inv X (pins ++ pl) σ H s) : Inv X pins σ H s := I.pins_of fun p hp => I.pin p (List.mem_append_right _ (List.mem_append_left _ hp))
theorem ps_for {iter : Expr} {body : List Stmt} {wi : TI} {g : TG} {tb : TS} {pos : Pos} (hp : PassesOwn (model X.prog X.w) X.A X.env X.xe) (hc : X.calm = true) (hi : PI X tg iter wi) (hg : PG X tg g) (hb : PSs X body tb)
    (hs : ∀ x, foldedSetIterable iter X.env x = pure x := by intro _; rfl) : PS X (.For tg iter body [] pos) (tFor wi g tb) := by
  intro pins s σ H D I h
  refine wpAny_For (thn (hi pins s σ H _ I h) fun v s1 h1 => thn h1 fun itv s2 h2 => ?_) hs
  obtain ⟨it, fp, tn, J, H2, e, I2, T, st2, f2, W, ⟨m0, w0⟩, turn⟩ := h2
  subst e
  -- what stays true of the iterator's objects through the loop
  have stat : ∀ {H' : Hp}, (∀ b ∈ fp, H' b = none) → ∀ b ∈ fp, FpOk X pins H' b := fun hn b hb => ⟨hn b hb, (f2 b hb).2⟩
  refine codeAny_forLoop_any (fun n s' => ∃ i σ' H', Inv X pins σ' H' s' ∧ tn i s'.heap ∧ (∀ b ∈ fp, H' b = none) ∧ W i n σ' H') ?_ m0 ⟨0, σ, H2, I2, st2, fun b hb => (f2 b hb).1, w0⟩
  rintro n s3 ⟨i, σ3, H3, I3, st3, fr3, w3⟩
  rcases turn i n σ3 H3 w3 with ⟨stop, qn⟩ | ⟨go, N, hN, step⟩
  · refine wpAny_passesOwn hp (thn (T.done X rfl rfl rfl hc i pins s3 σ3 H3 X.xe I3 (stat fr3) st3 stop) fun r s4 ⟨hr, I4⟩ => ?_)
    subst hr
    exact wpAny_execs_nil ⟨σ3, H3, I4, qn⟩
  · refine wpAny_passesOwn hp (thn (T.item X rfl rfl rfl hc i pins s3 σ3 H3 X.xe I3 (stat fr3) st3 go) fun r s4 ⟨u, hr, h4⟩ => ?_)
    subst hr
    refine wpAny_passesOwn hp (thn h4 fun _ s5 ⟨x, H5, I5, r5, y5, st5, fr5⟩ => ?_)
    have I5' := I5.pinned (stat fr5) (T.obj _ _ st5)
    refine wpAny_passesOwn hp (thn (hg _ s5 σ3 H5 x u _ I5' r5 (step x H5 y5)) fun _ s6 ⟨σ6, H6, I6, q6⟩ => ?_)
    refine wpAny_passesOwn hp (thn (hb _ s6 σ6 H6 _ I6 q6) fun f s7 q7 => ?_)
    have again : ∀ {σ7 : St} {H7 : Hp}, Inv X (pins ++ pinsAt fp s5.heap) σ7 H7 s7 → N σ7 H7 → ∃ m, m < n ∧ ∃ i σ' H', Inv X pins σ' H' s7 ∧ tn i s7.heap ∧ (∀ b ∈ fp, H' b = none) ∧ W i m σ' H' := fun {σ7 H7} I7 n7 => by
      obtain ⟨m', hm, w7⟩ := hN σ7 H7 n7
      refine ⟨m', hm, i + 1, σ7, H7, I7.unpinned, T.keep _ _ _ st5 fun b hb o e => (I7.pin (b, o) (List.mem_append_right _ (List.mem_append_right _ (mem_pinsAt hb e)))).1, fun b hb => ?_, w7⟩
      obtain ⟨o, e, d⟩ := T.obj _ _ st5 b hb
      exact (I7.pin (b, o) (List.mem_append_right _ (List.mem_append_right _ (mem_pinsAt hb e)))).2.1
    cases f with
    | next => obtain ⟨σ7, H7, I7, n7⟩ := q7; exact again I7 n7
    | cont => obtain ⟨σ7, H7, I7, n7⟩ := q7; exact again I7 n7
    | brk => obtain ⟨σ7, H7, I7, q7⟩ := q7; exact ⟨σ7, H7, I7.unpinned, q7⟩
    | ret v => obtain ⟨x7, σ7, H7, I7, r7, q7⟩ := q7; exact ⟨x7, σ7, H7, I7.unpinned, r7, q7⟩
end

/-! ### the forms one uses -/
/-- over a list that the body leaves as it is -/
theorem for_list {K : PySem.W.Frag} {a : Addr} {xs : List V} {g : TG} {tb : TS} {D : Ends} {σ : St} {H : Hp} (Pv : Nat → St → Hp → Prop) (h0 : Pv 0 σ H) (hl : ∀ i σ H, i ≤ xs.length → Pv i σ H → SqL K H a xs)
    (hs : ∀ i x σ H, xs[i]? = some x → Pv i σ H → g x σ H fun σ2 H2 => tb { D with nx := Pv (i + 1), ct := Pv (i + 1), bk := D.nx } σ2 H2) (hd : ∀ σ H, Pv xs.length σ H → D.nx σ H) :
    ∃ W : Nat → Nat → St → Hp → Prop, (∃ m, W 0 m σ H) ∧ ∀ i m σ H, W i m σ H →
      ((Itl K a).stop i H ∧ D.nx σ H) ∨ ((Itl K a).go i H ∧ ∃ N : St → Hp → Prop, (∀ σ' H', N σ' H' → ∃ m', m' < m ∧ W (i + 1) m' σ' H') ∧ ∀ x H', (Itl K a).yld i H x H' → g x σ H' fun σ2 H2 => tb { D with nx := N, ct := N, bk := D.nx } σ2 H2) := by
  refine ⟨fun i m σ H => m = xs.length - i ∧ i ≤ xs.length ∧ Pv i σ H, ⟨xs.length, by simp, Nat.zero_le _, h0⟩, ?_⟩
  rintro i m σ H ⟨rfl, hi, p⟩
  have q := hl i σ H hi p
  by_cases hlt : i < xs.length
  · refine .inr ⟨⟨xs, xs[i], q, by simp [hlt]⟩, Pv (i + 1), fun σ' H' p' => ⟨xs.length - (i + 1), by omega, rfl, hlt, p'⟩, fun x H' y => ?_⟩
    obtain ⟨e, y⟩ := y
    subst e
    exact hs i x σ _ (y xs q) p
  · have e : i = xs.length := by omega
    subst e
    exact .inl ⟨⟨xs, q, Nat.le_refl _⟩, hd σ H p⟩
theorem for_range {lo : Int} {n : Nat} {g : TG} {tb : TS} {D : Ends} {σ : St} {H : Hp} (Pv : Nat → St → Hp → Prop) (h0 : Pv 0 σ H)
    (hs : ∀ i σ H, i < n → Pv i σ H → g (.int (lo + i)) σ H fun σ2 H2 => tb { D with nx := Pv (i + 1), ct := Pv (i + 1), bk := D.nx } σ2 H2) (hd : ∀ σ H, Pv n σ H → D.nx σ H) :
    ∃ W : Nat → Nat → St → Hp → Prop, (∃ m, W 0 m σ H) ∧ ∀ i m σ H, W i m σ H →
      ((Itr lo n).stop i H ∧ D.nx σ H) ∨ ((Itr lo n).go i H ∧ ∃ N : St → Hp → Prop, (∀ σ' H', N σ' H' → ∃ m', m' < m ∧ W (i + 1) m' σ' H') ∧ ∀ x H', (Itr lo n).yld i H x H' → g x σ H' fun σ2 H2 => tb { D with nx := N, ct := N, bk := D.nx } σ2 H2) := by
  refine ⟨fun i m σ H => m = n - i ∧ i ≤ n ∧ Pv i σ H, ⟨n, by simp, Nat.zero_le _, h0⟩, ?_⟩
  rintro i m σ H ⟨rfl, hi, p⟩
  by_cases hlt : i < n
  · refine .inr ⟨hlt, Pv (i + 1), fun σ' H' p' => ⟨n - (i + 1), by omega, rfl, hlt, p'⟩, fun x H' y => ?_⟩
    obtain ⟨e, y⟩ := y
    subst e y
    exact hs i σ _ hlt p
  · have e : i = n := by omega
    subst e
    exact .inl ⟨Nat.le_refl _, hd σ H p⟩
end L2

namespace L2
open PySem PySem.Spec PyProof.Rows

abbrev R2 := V → V → Hp → VK → Prop
/-- a two-place operation on values: f is binaryOp op, inplaceOp op or compareOp op -/
def OpR (X : Cx) (f : Value → Value → Sem Value) (r : R2) : Prop :=
  ∀ (pins : List (Addr × Obj)) (s : Shared) (σ : St) (H : Hp) (x y : V) (v u : Value) (Q : VK), Inv X pins σ H s → RelV x v → RelV y u → r x y H Q →
    wpAny (model X.prog X.w) X.A (f v u) (EP X pins σ Q) X.xe s
/-- a one-place operation -/
def UnR (X : Cx) (f : Value → Sem Value) (r : V → Hp → VK → Prop) : Prop :=
  ∀ (pins : List (Addr × Obj)) (s : Shared) (σ : St) (H : Hp) (x : V) (v : Value) (Q : VK), Inv X pins σ H s → RelV x v → r x H Q →
    wpAny (model X.prog X.w) X.A (f v) (EP X pins σ Q) X.xe s
/-- a call of a value that is known (a builtin, a type) with values -/
def CallR (X : Cx) (f : Value) (r : List V → Hp → VK → Prop) : Prop :=
  ∀ (pins : List (Addr × Obj)) (s : Shared) (σ : St) (H : Hp) (xs : List V) (us : List Value) (Q : VK), Inv X pins σ H s → Vals xs us → r xs H Q →
    wpAny (model X.prog X.w) X.A (call f us) (EP X pins σ Q) X.xe s
def tOp (r : R2) (ta tb : TE) : TE := fun σ H Q => ta σ H fun x H1 => tb σ H1 fun y H2 => r x y H2 Q
def tUn (r : V → Hp → VK → Prop) (ta : TE) : TE := fun σ H Q => ta σ H fun x H1 => r x H1 Q
/-- ints in, under C, and a value out -/
def rI (C : Int → Int → Prop) (g : Int → Int → V) : R2 := fun x y H Q => ∃ i j, x = .int i ∧ y = .int j ∧ C i j ∧ Q (g i j) H
def rI0 (g : Int → Int → V) : R2 := fun x y H Q => ∃ i j, x = .int i ∧ y = .int j ∧ Q (g i j) H
def rU (g : Int → V) : V → Hp → VK → Prop := fun x H Q => ∃ i, x = .int i ∧ Q (g i) H

section
variable {X : Cx} {a b c : Expr} {ta tb tc : TE} {pos : Pos}

theorem binT (ha : PE X a ta) (hb : PE X b tb) {pins : List (Addr × Obj)} {s : Shared} {σ : St} {H : Hp} {R : V → V → Hp → Prop} (I : Inv X pins σ H s)
    (h : ta σ H fun x H1 => tb σ H1 fun y H2 => R x y H2) {Q : Value → Shared → Prop} {f : Value → Value → Sem Value}
    (hf : ∀ v u s2 x y H2, Inv X pins σ H2 s2 → RelV x v → RelV y u → R x y H2 → wpAny (model X.prog X.w) X.A (f v u) Q X.xe s2) :
    wpAny (model X.prog X.w) X.A (eval a X.env) (fun v s₁ => wpAny (model X.prog X.w) X.A (eval b X.env) (fun u s₂ => wpAny (model X.prog X.w) X.A (f v u) Q X.xe s₂) X.xe s₁) X.xe s := by
  refine thn (ha pins s σ H _ I h) fun v s1 ⟨x, H1, I1, r1, q1⟩ => ?_
  refine thn (hb pins s1 σ H1 _ I1 q1) fun u s2 ⟨y, H2, I2, r2, q2⟩ => ?_
  exact hf v u s2 x y H2 I2 r1 r2 q2

theorem pe_op {op : Operator} {r : R2} (ho : OpR X (binaryOp op) r) (ha : PE X a ta) (hb : PE X b tb) : PE X (.BinOp a op b pos) (tOp r ta tb) := by
  intro pins s σ H Q I h
  exact wpAny_BinOp (binT ha hb I h fun v u s2 x y H2 I2 rx ry q => ho pins s2 σ H2 x y v u Q I2 rx ry q)
theorem pe_un {op : UnaryOp} {r : V → Hp → VK → Prop} (ho : UnR X (unaryOp op) r) (ha : PE X a ta) : PE X (.UnaryOp op a pos) (tUn r ta) := by
  intro pins s σ H Q I h
  exact UnaryOp_ (thn (ha pins s σ H _ I h) fun v s1 ⟨x, H1, I1, r1, q1⟩ => ho pins s1 σ H1 x v Q I1 r1 q1)
/-! ### ints -/
theorem opI {f : Value → Value → Sem Value} {C : Int → Int → Prop} {g : Int → Int → Int}
    (rule : ∀ (i j : Int) (t u : Tok) (s : Shared) (Q : Value → Shared → Prop) (E : Value → Shared → Prop), C i j → Q (.int (g i j) s.toks) { s with toks := s.toks + 1 } → wpAny (model X.prog X.w) X.A (f (.int i t) (.int j u)) Q E s) :
    OpR X f (rI C fun i j => .int (g i j)) := by
  intro pins s σ H x y v u Q I rx ry h
  obtain ⟨i, j, rfl, rfl, hc, q⟩ := h
  obtain ⟨t, rfl⟩ := rx
  obtain ⟨t', rfl⟩ := ry
  exact rule i j t t' s _ _ hc ⟨.int (g i j), H, I.tok _, ⟨_, rfl⟩, q⟩
theorem opI0 {f : Value → Value → Sem Value} {g : Int → Int → Int}
    (rule : ∀ (i j : Int) (t u : Tok) (s : Shared) (Q : Value → Shared → Prop) (E : Value → Shared → Prop), Q (.int (g i j) s.toks) { s with toks := s.toks + 1 } → wpAny (model X.prog X.w) X.A (f (.int i t) (.int j u)) Q E s) :
    OpR X f (rI0 fun i j => .int (g i j)) := by
  intro pins s σ H x y v u Q I rx ry h
  obtain ⟨i, j, rfl, rfl, q⟩ := h
  obtain ⟨t, rfl⟩ := rx
  obtain ⟨t', rfl⟩ := ry
  exact rule i j t t' s _ _ ⟨.int (g i j), H, I.tok _, ⟨_, rfl⟩, q⟩
theorem opB0 {f : Value → Value → Sem Value} {g : Int → Int → Bool}
    (rule : ∀ (i j : Int) (t u : Tok) (s : Shared) (Q : Value → Shared → Prop) (E : Value → Shared → Prop), Q (.bool (g i j)) s → wpAny (model X.prog X.w) X.A (f (.int i t) (.int j u)) Q E s) :
    OpR X f (rI0 fun i j => .bl (g i j)) := by
  intro pins s σ H x y v u Q I rx ry h
  obtain ⟨i, j, rfl, rfl, q⟩ := h
  obtain ⟨t, rfl⟩ := rx
  obtain ⟨t', rfl⟩ := ry
  exact rule i j t t' s _ _ ⟨.bl (g i j), H, I, rfl, q⟩

def CDiv (i j : Int) : Prop := 0 < j ∧ j < 1073741824
def CPow (i j : Int) : Prop := 0 ≤ j ∧ j ≤ 1000000 ∧ i.natAbs < 2 ^ 64
def CMul (i j : Int) : Prop := (-(2 ^ 64) < i ∧ i < 2 ^ 64) ∨ (-(2 ^ 64) < j ∧ j < 2 ^ 64)
theorem CMul.ok {i j : Int} (h : CMul i j) : IntMulOk i j := by
  rcases h with ⟨h1, h2⟩ | ⟨h1, h2⟩
  · exact .of_left (intBits_le_64 h1 h2)
  · exact .of_right (intBits_le_64 h1 h2)
theorem op_add : OpR X (binaryOp .Add) (rI0 fun i j => .int (i + j)) := opI0 fun _ _ _ _ _ _ _ q => add_int q
theorem op_sub : OpR X (binaryOp .Sub) (rI0 fun i j => .int (i - j)) := opI0 fun _ _ _ _ _ _ _ q => sub_int q
theorem op_mul : OpR X (binaryOp .Mult) (rI CMul fun i j => .int (i * j)) := opI fun _ _ _ _ _ _ _ hc q => mul_int q hc.ok
/-- // by a positive divisor -/
theorem op_fdiv : OpR X (binaryOp .FloorDiv) (rI CDiv fun i j => .int (i / j)) := opI fun i j _ _ _ _ _ hc q => by
  have h1 : (0 : Int) < j := hc.1
  have h2 : j < 1073741824 := hc.2
  exact floordiv_int (by omega) (by rw [Int.fdiv_eq_ediv_of_nonneg i (by omega)]; exact q) (.inl (PyProof.noPylong_small (by omega)))
/-- % by a positive divisor of any size -/
theorem op_mod : OpR X (binaryOp .Mod) (rI (fun _ j => 0 < j) fun i j => .int (i % j)) := opI fun i j _ _ _ _ _ hc q => by
  have h1 : (0 : Int) < j := hc
  exact mod_int' (by omega) (by rw [Int.fmod_eq_emod_of_nonneg i (by omega)]; exact q)
theorem op_pow : OpR X (binaryOp .Pow) (rI CPow fun i j => .int (i ^ j.toNat)) := opI fun _ _ _ _ _ _ _ hc q => pow_int_small hc.1 hc.2.1 hc.2.2 q
theorem unI {f : Value → Sem Value} {g : Int → Int}
    (rule : ∀ (i : Int) (t : Tok) (s : Shared) (Q : Value → Shared → Prop) (E : Value → Shared → Prop), Q (.int (g i) s.toks) { s with toks := s.toks + 1 } → wpAny (model X.prog X.w) X.A (f (.int i t)) Q E s) :
    UnR X f (rU fun i => .int (g i)) := by
  intro pins s σ H x v Q I rx h
  obtain ⟨i, rfl, q⟩ := h
  obtain ⟨t, rfl⟩ := rx
  exact rule i t s _ _ ⟨.int (g i), H, I.tok _, ⟨_, rfl⟩, q⟩
theorem un_neg : UnR X (unaryOp .USub) (rU fun i => .int (-i)) := unI fun _ _ _ _ _ q => neg_int q
/-! ### bools among ints: n += (a < b) -/
end

/-! ### comparisons -/
/-- the scalars that == tells apart as data does -/
def scal : V → V → Bool
  | .non, .non => true | .non, .int _ => true | .int _, .non => true | .non, .bl _ => true | .bl _, .non => true | .non, .str _ => true | .str _, .non => true
  | .int _, .int _ => true | .bl _, .bl _ => true | .str _, .str _ => true | .byt _, .byt _ => true
  | .int _, .str _ => true | .str _, .int _ => true | .bl _, .str _ => true | .str _, .bl _ => true
  | _, _ => false
def rEq : R2 := fun x y H Q => scal x y = true ∧ Q (.bl (decide (x = y))) H
def rNe : R2 := fun x y H Q => scal x y = true ∧ Q (.bl (!decide (x = y))) H

theorem dec_int {i j : Int} : decide (V.int i = V.int j) = (i == j) := by
  rw [Bool.eq_iff_iff]
  simp
theorem dec_bl {i j : Bool} : decide (V.bl i = V.bl j) = (i == j) := by
  rw [Bool.eq_iff_iff]
  simp
theorem dec_str {i j : Str} : decide (V.str i = V.str j) = (i == j) := by
  rw [Bool.eq_iff_iff]
  simp
theorem dec_byt {i j : Array UInt8} : decide (V.byt i = V.byt j) = (i.toList == j.toList) := by
  rw [Bool.eq_iff_iff]
  cases i
  cases j
  simp

section
variable {X : Cx} {a b c : Expr} {ta tb tc : TE} {pos : Pos}
theorem fin_bl {pins : List (Addr × Obj)} {σ : St} {H : Hp} {s : Shared} {Q : VK} {k k' : Bool} (I : Inv X pins σ H s) (q : Q (.bl k) H) (e : k = k') : EP X pins σ Q (.bool k') s := by
  subst e
  exact ⟨.bl k, H, I, rfl, q⟩
theorem op_eq : OpR X (compareOp .Eq) rEq := by
  intro pins s σ H x y v u Q I rx ry h
  obtain ⟨hs, q⟩ := h
  cases x with
  | non =>
    cases rx
    cases y with
    | non => cases ry; exact PySem.EqNone.eq_none_none (fin_bl I q (by simp))
    | bl j => cases ry; exact PySem.EqNone.eq_none_bool (fin_bl I q (by simp))
    | int j => obtain ⟨t', rfl⟩ := ry; exact PySem.EqNone.eq_none_int (fin_bl I q (by simp))
    | str j => obtain ⟨t', rfl⟩ := ry; exact PySem.EqNone.eq_none_str (fin_bl I q (by simp))
    | _ => exact absurd (show false = true from hs) Bool.false_ne_true
  | bl i =>
    cases rx
    cases y with
    | non => cases ry; exact PySem.EqNone.eq_bool_none (fin_bl I q (by simp))
    | bl j => cases ry; exact eq_bool (fin_bl I q dec_bl)
    | str j => obtain ⟨t', rfl⟩ := ry; exact PySem.EqMixed.eq_bool_str (fin_bl I q (by simp))
    | _ => exact absurd (show false = true from hs) Bool.false_ne_true
  | int i =>
    obtain ⟨t, rfl⟩ := rx
    cases y with
    | non => cases ry; exact PySem.EqNone.eq_int_none (fin_bl I q (by simp))
    | int j => obtain ⟨t', rfl⟩ := ry; exact eq_int (fin_bl I q dec_int)
    | str j => obtain ⟨t', rfl⟩ := ry; exact PySem.EqMixed.eq_int_str (fin_bl I q (by simp))
    | _ => exact absurd (show false = true from hs) Bool.false_ne_true
  | str i =>
    obtain ⟨t, rfl⟩ := rx
    cases y with
    | non => cases ry; exact PySem.EqNone.eq_str_none (fin_bl I q (by simp))
    | bl j => cases ry; exact PySem.EqMixed.eq_str_bool (fin_bl I q (by simp))
    | int j => obtain ⟨t', rfl⟩ := ry; exact PySem.EqMixed.eq_str_int (fin_bl I q (by simp))
    | str j => obtain ⟨t', rfl⟩ := ry; exact eq_str (fin_bl I q dec_str)
    | _ => exact absurd (show false = true from hs) Bool.false_ne_true
  | byt i =>
    obtain ⟨t, rfl⟩ := rx
    cases y with
    | byt j => obtain ⟨t', rfl⟩ := ry; exact PySem.W.eq_bytes (fin_bl I q dec_byt)
    | _ => exact absurd (show false = true from hs) Bool.false_ne_true
  | _ => cases y <;> exact absurd (show false = true from hs) Bool.false_ne_true
theorem op_ne : OpR X (compareOp .NotEq) rNe := by
  intro pins s σ H x y v u Q I rx ry h
  obtain ⟨hs, q⟩ := h
  cases x with
  | non =>
    cases rx
    cases y with
    | non => cases ry; exact PySem.EqNone.ne_none_none (fin_bl I q (by simp))
    | bl j => cases ry; exact PySem.EqNone.ne_none_bool (fin_bl I q (by simp))
    | int j => obtain ⟨t', rfl⟩ := ry; exact PySem.EqNone.ne_none_int (fin_bl I q (by simp))
    | str j => obtain ⟨t', rfl⟩ := ry; exact PySem.EqNone.ne_none_str (fin_bl I q (by simp))
    | _ => exact absurd (show false = true from hs) Bool.false_ne_true
  | bl i =>
    cases rx
    cases y with
    | non => cases ry; exact PySem.EqNone.ne_bool_none (fin_bl I q (by simp))
    | bl j => cases ry; exact ne_bool (fin_bl I q (congrArg not dec_bl))
    | str j => obtain ⟨t', rfl⟩ := ry; exact PySem.EqMixed.ne_bool_str (fin_bl I q (by simp))
    | _ => exact absurd (show false = true from hs) Bool.false_ne_true
  | int i =>
    obtain ⟨t, rfl⟩ := rx
    cases y with
    | non => cases ry; exact PySem.EqNone.ne_int_none (fin_bl I q (by simp))
    | int j => obtain ⟨t', rfl⟩ := ry; exact ne_int (fin_bl I q (congrArg not dec_int))
    | str j => obtain ⟨t', rfl⟩ := ry; exact PySem.EqMixed.ne_int_str (fin_bl I q (by simp))
    | _ => exact absurd (show false = true from hs) Bool.false_ne_true
  | str i =>
    obtain ⟨t, rfl⟩ := rx
    cases y with
    | non => cases ry; exact PySem.EqNone.ne_str_none (fin_bl I q (by simp))
    | bl j => cases ry; exact PySem.EqMixed.ne_str_bool (fin_bl I q (by simp))
    | int j => obtain ⟨t', rfl⟩ := ry; exact PySem.EqMixed.ne_str_int (fin_bl I q (by simp))
    | str j => obtain ⟨t', rfl⟩ := ry; exact ne_str (fin_bl I q (congrArg not dec_str))
    | _ => exact absurd (show false = true from hs) Bool.false_ne_true
  | byt i =>
    obtain ⟨t, rfl⟩ := rx
    cases y with
    | byt j => obtain ⟨t', rfl⟩ := ry; exact PySem.W.ne_bytes (fin_bl I q (congrArg not dec_byt))
    | _ => exact absurd (show false = true from hs) Bool.false_ne_true
  | _ => cases y <;> exact absurd (show false = true from hs) Bool.false_ne_true

theorem op_lt : OpR X (compareOp .Lt) (rI0 fun i j => .bl (decide (i < j))) := opB0 fun _ _ _ _ _ _ _ q => lt_int q
theorem op_gt : OpR X (compareOp .Gt) (rI0 fun i j => .bl (decide (j < i))) := opB0 fun _ _ _ _ _ _ _ q => gt_int q
/-- is None, is not None: the right side a value none -/
theorem op_isN : OpR X (compareOp .Is) (fun x y H Q => y = .non ∧ Q (.bl (decide (x = .non))) H) := by
  intro pins s σ H x y v u Q I rx ry h
  obtain ⟨rfl, q⟩ := h
  cases ry
  refine is_none_gen (fin_bl I q ?_)
  cases x <;> first
    | (cases rx; rfl)
    | (obtain ⟨t, rfl⟩ := rx; rfl)
theorem op_notN : OpR X (compareOp .IsNot) (fun x y H Q => y = .non ∧ Q (.bl (!decide (x = .non))) H) := by
  intro pins s σ H x y v u Q I rx ry h
  obtain ⟨rfl, q⟩ := h
  cases ry
  refine isnot_none_gen (fin_bl I q ?_)
  cases x <;> first
    | (cases rx; rfl)
    | (obtain ⟨t, rfl⟩ := rx; rfl)

/-- two rules for one operation: by cases -/
theorem OpR.or {f : Value → Value → Sem Value} {r r' : R2} (h : OpR X f r) (h' : OpR X f r') : OpR X f (fun x y H Q => r x y H Q ∨ r' x y H Q) := by
  intro pins s σ H x y v u Q I rx ry q
  rcases q with q | q
  · exact h pins s σ H x y v u Q I rx ry q
  · exact h' pins s σ H x y v u Q I rx ry q

theorem nomark (b : Expr) {op : CmpOp} (h : op ≠ .In := by decide) (h2 : op ≠ .NotIn := by decide) : behindInMarks op b = false := by
  have e1 : (op == CmpOp.In) = false := by cases op <;> first | rfl | exact absurd rfl h
  have e2 : (op == CmpOp.NotIn) = false := by cases op <;> first | rfl | exact absurd rfl h2
  cases b <;> simp [behindInMarks, e1, e2]
/-- a comparison as a value; hm: nomark b, or (for in, not in) by with_unfolding_all rfl -/
theorem pe_cmpR {op : CmpOp} {r : R2} (ho : OpR X (compareOp op) r) (ha : PE X a ta) (hb : PE X b tb) (hm : behindInMarks op b = false) : PE X (.Compare a [op] [b] pos) (tOp r ta tb) := by
  intro pins s σ H Q I h
  exact wpAny_Compare1 (binT ha hb I h fun v u s2 x y H2 I2 rx ry q => ho pins s2 σ H2 x y v u Q I2 rx ry q) hm
/-- a reading of a value as a test -/
def tTest (t : TE) : TT := fun σ H Q => t σ H fun x H' => ∃ k, x = .bl k ∧ Q k H'
theorem pt_cmpR {op : CmpOp} {r : R2} (ho : OpR X (compareOp op) r) (ha : PE X a ta) (hb : PE X b tb) (hm : behindInMarks op b = false) : PT X (.Compare a [op] [b] pos) (tTest (tOp r ta tb)) := by
  intro pins s σ H Q I h
  refine wpAny_isTrue_Compare1 (thn (ha pins s σ H _ I h) fun v s1 ⟨x, H1, I1, r1, q1⟩ => thn (hb pins s1 σ H1 _ I1 q1) fun u s2 ⟨y, H2, I2, r2, q2⟩ =>
    thn (ho pins s2 σ H2 x y v u _ I2 r1 r2 q2) fun c s3 ⟨z, H3, I3, r3, k, e, q3⟩ => ?_) hm
  subst e
  cases r3
  exact wpAny_truthy_bool ⟨H3, I3, q3⟩
/-! ### truth -/
theorem line63 : (sizeLine : Nat) < 2 ^ 63 := by rw [sizeLine_eq]; decide
/-! ### strs and bytes -/
theorem op_add_str : OpR X (binaryOp .Add) (fun x y H Q => ∃ i j, x = .str i ∧ y = .str j ∧ i.length + j.length ≤ sizeLine ∧ Q (.str (i ++ j)) H) := by
  intro pins s σ H x y v u Q I rx ry h
  obtain ⟨i, j, rfl, rfl, hz, q⟩ := h
  obtain ⟨t, rfl⟩ := rx
  obtain ⟨t', rfl⟩ := ry
  exact add_str (fun t' tk => ⟨.str (i ++ j), H, I.tok _, ⟨_, rfl⟩, q⟩) hz
/-! ### scalar builtins, by CallR -/
theorem vals1 {x : V} {us : List Value} (r : Vals [x] us) : ∃ u, us = [u] ∧ RelV x u := by
  cases r with
  | cons r1 r2 => cases r2; exact ⟨_, rfl, r1⟩
theorem vals2 {x y : V} {us : List Value} (r : Vals [x, y] us) : ∃ u w', us = [u, w'] ∧ RelV x u ∧ RelV y w' := by
  cases r with
  | cons r1 r2 =>
    cases r2 with
    | cons r3 r4 => cases r4; exact ⟨_, _, rfl, r1, r3⟩
theorem call_min2 (hc : X.calm = true) : CallR X (.builtin "min") (fun xs H Q => ∃ i j, xs = [.int i, .int j] ∧ Q (.int (if j < i then j else i)) H) := by
  intro pins s σ H xs us Q I r h
  obtain ⟨i, j, rfl, q⟩ := h
  obtain ⟨u, w', rfl, ⟨t, rfl⟩, ⟨t', rfl⟩⟩ := vals2 r
  refine min_two_ints (I.ok.hd hc) fun h' tk k => ⟨_, H, I.kept k, ?_, q⟩
  by_cases hj : j < i
  · rw [if_pos hj, if_pos hj]; exact ⟨_, rfl⟩
  · rw [if_neg hj, if_neg hj]; exact ⟨_, rfl⟩
theorem call_str_int : CallR X (.type "str") (fun xs H Q => ∃ i, xs = [.int i] ∧ i.natAbs.log2 < 1920 ∧ Q (.str (toString i)) H) := by
  intro pins s σ H xs us Q I r h
  obtain ⟨i, rfl, hz, q⟩ := h
  obtain ⟨u, rfl, t, rfl⟩ := vals1 r
  exact PySem.P.str_of_int hz ⟨.str _, H, I.tok _, ⟨_, rfl⟩, q⟩
end
end L2

namespace L2
open PySem PySem.Spec PyProof.Rows

/-! ### an instance, its attributes a map -/
structure ObjM (h : Heap) (x dx C : Addr) (mA : Str → Option Value) : Prop where
  obj : h.get? x = some (PySem.W.instObj C dx)
  ns : h.Ns1 dx mA
  ne : dx ≠ x

theorem lookIn_ns {h : Heap} {dx : Addr} {mA : Str → Option Value} (n : h.Ns1 dx mA) : ∃ od, h.get? dx = some od ∧ ∀ name, PySem.W.lookIn name od = some (mA name) := by
  obtain ⟨o, es, ep, ho, hd, hk, _, hm⟩ := n
  refine ⟨o, ho, fun name => ?_⟩
  have e := hm name
  unfold nsFind findBy at e
  rw [← Array.find?_toList] at e
  unfold PySem.W.lookIn
  rw [hd]
  dsimp only
  split
  · rename_i y q
    rw [q] at e
    exact congrArg some e
  · rename_i q
    rw [q] at e
    have a : es.toList.any (·.refKey) = false := by
      rw [List.any_eq_false]
      intro y hy
      obtain ⟨z, t, hkey⟩ := hk y (Array.mem_toList_iff.mp hy)
      simp [DictEntry.refKey, hkey]
    have a' : ¬ es.toList.any (·.refKey) = true := by rw [a]; exact Bool.false_ne_true
    rw [if_neg a']
    exact congrArg some e

theorem ObjM.look {h : Heap} {x dx C : Addr} {mA : Str → Option Value} (I : ObjM h x dx C mA) : ∃ od, PySem.W.InstAt h x (PySem.W.instObj C dx) C (some od) ∧ ∀ name, PySem.W.lookIn name od = some (mA name) :=
  let ⟨od, ho, hl⟩ := lookIn_ns I.ns
  ⟨od, ⟨I.obj, rfl, rfl, ho⟩, hl⟩

section
variable {prog : Program} {w : World} {A : Around} {E : Value → Shared → Prop} {s : Shared} {K : PySem.W.Frag} {x dx C f : Addr} {mA : Str → Option Value} {name : Str} {v : Value}

theorem get_map {expr : Bool} {Q : Value → Shared → Prop} (X : K.In s.heap) (I : ObjM s.heap x dx C mA) (hg : PySem.W.plainGet K C name = true) (hh : PySem.W.hasDictIn K C = true)
    (ha : PySem.W.findIn K (.ref C) name = some none) (hv : mA name = some v) (hv' : PySem.W.handedIn v = true) (h : Q v { s with toks := s.toks + 1 }) :
    wpAny (model prog w) A (getAttr (.ref x) name expr) Q E s := by
  obtain ⟨od, J, hl⟩ := I.look
  exact PySem.W.get_value X J (PySem.W.plainGet_of hg).1 (PySem.W.findObj_own hh ha rfl (by rw [hl, hv])) hv' h

theorem get_meth {pl : Sem Bool} {Q : Value × List Value → Shared → Prop} (X : K.In s.heap) (I : ObjM s.heap x dx C mA) (hg : PySem.W.plainGet K C name = true)
    (hf : PySem.W.findIn K (.ref C) name = some (some (.ref f))) (ht : PySem.W.isFn K (.ref f) = true) (hv : mA name = none) (h : Q (.ref f, [.ref x]) s) :
    wpAny (model prog w) A (getMethod (.ref x) name pl) Q E s := by
  obtain ⟨od, J, hl⟩ := I.look
  exact PySem.W.method_fn X J (PySem.W.plainGet_of hg).1 (PySem.W.plainGet_of hg).2 hf (beq_iff_eq.mp ht) (by show (PySem.W.lookIn name od).map (·.isSome) = some false; rw [hl, hv]; rfl) h

theorem set_map {ns : List Str} {Q : Unit → Shared → Prop} (X : K.In s.heap) (I : ObjM s.heap x dx C mA)
    (hs : PySem.W.findIn K (.ref C) "__setattr__" = some (some (.builtin "object.__setattr__"))) (hp : PySem.W.plainOver K C = true) (ht : PySem.W.takerIn K C name = some none) (hh : PySem.W.hasDictIn K C = true)
    (hw : PySem.Within mA ns) (hsz : ns.length ≤ sizeLine)
    (h : ∀ h', ObjM h' x dx C (fun y => if y = name then some v else mA y) → Heap.SameBut dx s.heap h' → Q () { s with heap := h', toks := s.toks + 2 }) :
    wpAny (model prog w) A (setAttr (.ref x) name v) Q E s := by
  obtain ⟨od, J, hl⟩ := I.look
  refine PySem.W.set_plain X J hs (PySem.W.osa_open (s := { s with toks := s.toks + 1 }) (r := none) X J hp ht fun b => ?_)
  obtain ⟨cd, hc, hd'⟩ := PySem.W.any_some hh
  have hx : s.heap.get? x = some ⟨.ref C, some dx, .plain, #[]⟩ := I.obj
  refine wpAny_bind (wpAny_pure (wpAny_bind (wpAny_bind (wpAny_loadPart hx (wpAny_bind (PySem.W.Looks.here (s := { s with toks := s.toks + 1 }) (PySem.W.looks_clsIn X hc) ?_))))))
  rw [hd']
  refine wpAny_pure (a := some dx) (wpAny_bind (wpAny_pure (wpAny_bind ?_)))
  refine wpAny_nsSet1 (s := { s with toks := s.toks + 1 }) I.ns fun h' hn2 hs2 => ?_
  obtain ⟨oD, esD, epD, hoD, hdD, hcD⟩ := hn2.count (PySem.Within.cons name v hw)
  refine wpAny_bind (wpAny_lookBehind hoD (by rw [hdD]; exact pastItsLine_dict (Nat.le_trans hcD (by rw [List.length_cons]; omega))) ?_)
  exact wpAny_pure (h _ ⟨(hs2.2 _ (Ne.symm I.ne)).trans I.obj, hn2, I.ne⟩ hs2)

/-- C(..): the dict at the heap's end, the instance behind it; then its __init__ -/
theorem make_map {R : Result → Shared → Prop} {vs : List Value} {kw : List (Str × Value)} (X : K.In s.heap) (hm : PySem.W.makesIn K C = true)
    (hi : PySem.W.findIn K (.ref C) "__init__" = some (some (.ref f))) (hf : PySem.W.typeIn K (.ref f) = some (.type "function"))
    (h : codeAny (model prog w) (A.under (.builtin "type.__call__" ⟨.ref C :: vs, kw⟩)) (.call (.ref f) ⟨.ref (s.heap.objs.size + 1) :: vs, kw⟩) (PySem.W.InitBack (s.heap.objs.size + 1) R)
      { s with heap := (s.heap.push PySem.W.emptyDict).push (PySem.W.instObj C s.heap.objs.size) }) :
    codeAny (model prog w) A (.call (.ref C) ⟨vs, kw⟩) R s := by
  obtain ⟨hh, g, d, t, os⟩ := s
  exact PySem.W.make_core (PySem.W.makes_of X hm) (PySem.W.looks_findIn X hi) (fun self => PySem.W.bind_fn X self hf) (.inl rfl) h
end

/-! ### the attributes as a list of pairs -/
def putF (f : Str) (v : V) : List (Str × V) → List (Str × V)
  | [] => [(f, v)]
  | (g, x) :: r => if g = f then (g, v) :: r else (g, x) :: putF f v r
theorem lookup_putF (f g : Str) (v : V) : ∀ fs : List (Str × V), (putF f v fs).lookup g = if g = f then some v else fs.lookup g
  | [] => by
    show List.lookup g [(f, v)] = _
    by_cases h : g = f
    · have hb : (g == f) = true := beq_iff_eq.mpr h
      simp only [List.lookup, hb, if_pos h]
    · have hb : (g == f) = false := beq_eq_false_iff_ne.mpr h
      simp only [List.lookup, hb, if_neg h]
  | (k, x) :: r => by
    have ih := lookup_putF f g v r
    rw [show putF f v ((k, x) :: r) = (if k = f then (k, v) :: r else (k, x) :: putF f v r) from rfl]
    by_cases hk : k = f
    · rw [if_pos hk]
      by_cases h : g = k
      · have hb : (g == k) = true := beq_iff_eq.mpr h
        simp only [List.lookup, hb, if_pos (h.trans hk)]
      · have hb : (g == k) = false := beq_eq_false_iff_ne.mpr h
        simp only [List.lookup, hb, if_neg (fun e : g = f => h (e.trans hk.symm))]
    · rw [if_neg hk]
      by_cases h : g = k
      · have hb : (g == k) = true := beq_iff_eq.mpr h
        simp only [List.lookup, hb, if_neg (fun e : g = f => hk (h.symm.trans e))]
      · have hb : (g == k) = false := beq_eq_false_iff_ne.mpr h
        simp only [List.lookup, hb]
        exact ih
theorem keys_putF (f : Str) (v : V) : ∀ fs : List (Str × V), f ∈ (putF f v fs).map (·.1) ∧ ∀ g, g ∈ fs.map (·.1) → g ∈ (putF f v fs).map (·.1)
  | [] => ⟨by simp [putF], fun g h => by simp at h⟩
  | (k, x) :: r => by
    obtain ⟨i1, i2⟩ := keys_putF f v r
    rw [show putF f v ((k, x) :: r) = (if k = f then (k, v) :: r else (k, x) :: putF f v r) from rfl]
    by_cases hk : k = f
    · rw [if_pos hk]
      subst hk
      exact ⟨by simp, fun g h => by simpa using h⟩
    · rw [if_neg hk]
      refine ⟨?_, fun g h => ?_⟩
      · rw [List.map_cons]
        exact List.mem_cons_of_mem _ i1
      · rw [List.map_cons] at h ⊢
        rcases List.mem_cons.mp h with e | e
        · exact List.mem_cons.mpr (.inl e)
        · exact List.mem_cons_of_mem _ (i2 g e)
theorem length_putF (f : Str) (v : V) : ∀ fs : List (Str × V), (putF f v fs).length ≤ fs.length + 1
  | [] => by simp [putF]
  | (k, x) :: r => by
    have ih := length_putF f v r
    rw [show putF f v ((k, x) :: r) = (if k = f then (k, v) :: r else (k, x) :: putF f v r) from rfl]
    by_cases hk : k = f
    · rw [if_pos hk, List.length_cons, List.length_cons]; omega
    · rw [if_neg hk, List.length_cons, List.length_cons]; omega

theorem RelO.some_of {v : V} {o : Option Value} (r : RelO (some v) o) : ∃ u, o = some u ∧ RelV v u := by
  cases o with
  | none => exact (show False from r).elim
  | some u => exact ⟨u, rfl, r⟩
theorem RelO.none_of {o : Option Value} (r : RelO none o) : o = none := by
  cases o with
  | none => rfl
  | some u => exact (show False from r).elim
theorem handed_of {v : V} {u : Value} (r : RelV v u) : PySem.W.handedIn u = true := by
  cases v with
  | non => cases (show u = Value.none from r); rfl
  | bl b => cases (show u = Value.bool b from r); rfl
  | int i => obtain ⟨t, e⟩ := (show ∃ t, u = Value.int i t from r); cases e; rfl
  | str x => obtain ⟨t, e⟩ := (show ∃ t, u = Value.str x t from r); cases e; rfl
  | byt b => obtain ⟨t, e⟩ := (show ∃ t, u = Value.bytes b t from r); cases e; rfl
  | flt b => obtain ⟨t, e⟩ := (show ∃ t, u = Value.float b t from r); cases e; rfl
  | ref a => cases (show u = Value.ref a from r); rfl
  | ty n => cases (show u = Value.type n from r); rfl

section
variable {P : Program} {w : World} {H H' : Hp} {h h' : Heap} {a C dx : Addr} {fs fs' : List (Str × V)}
theorem ins_get (hok : HOk P w H h) (e : H a = some (.ins C dx fs)) : ∃ mA, ObjM h a dx C mA ∧ (∀ f, RelO (fs.lookup f) (mA f)) ∧ PySem.Within mA (fs.map (·.1)) ∧ fs.length ≤ 1000 ∧ H dx = some (.own a) := by
  obtain ⟨d, z, ne, ob, mA, n, r, q⟩ := (show ObjOk P w H h a (.ins C dx fs) from hok a _ e)
  exact ⟨mA, ⟨ob, n, ne⟩, r, q, z, d⟩
end

/-! ### what of the text a class must have -/
structure Cls (K : PySem.W.Frag) (C : Addr) : Prop where
  pg : PySem.W.plainGet K C Str.empty = true
  hd : PySem.W.hasDictIn K C = true
  po : PySem.W.plainOver K C = true
  sa : PySem.W.findIn K (.ref C) "__setattr__" = some (some (.builtin "object.__setattr__"))
theorem Cls.get {K : PySem.W.Frag} {C : Addr} (c : Cls K C) (f : Str) : PySem.W.plainGet K C f = true := c.pg
/-- no class of it has the name -/
def NoAttr (K : PySem.W.Frag) (C : Addr) (f : Str) : Prop := PySem.W.findIn K (.ref C) f = some none
theorem NoAttr.taker {K : PySem.W.Frag} {C : Addr} {f : Str} (n : NoAttr K C f) : PySem.W.takerIn K C f = some none := by
  unfold PySem.W.takerIn
  rw [show PySem.W.findIn K (.ref C) f = some none from n]
  rfl
/-- a method: a plain def of the class or of one above it -/
structure Meth (K : PySem.W.Frag) (C : Addr) (m : Str) (f : Addr) : Prop where
  at_ : PySem.W.findIn K (.ref C) m = some (some (.ref f))
  fn : PySem.W.isFn K (.ref f) = true
  kp : PySem.W.keepIn K (.ref f) = true

section
variable {X : Cx} {pins : List (Addr × Obj)} {σ : St} {H : Hp} {s : Shared} {a C dx : Addr} {fs : List (Str × V)} {f : Str} {v : V} {A : Around} {E : Value → Shared → Prop}

theorem getattr_ok {b : Bool} {Q : Value → Shared → Prop} (I : Inv X pins σ H s) (e : H a = some (.ins C dx fs)) (c : Cls X.K C) (n : NoAttr X.K C f) (l : fs.lookup f = some v)
    (h : ∀ u s', Inv X pins σ H s' → RelV v u → Q u s') : wpAny (model X.prog X.w) A (getAttr (.ref a) f b) Q E s := by
  obtain ⟨mA, O, r, _, _, _⟩ := ins_get I.hok e
  obtain ⟨u, hu, ru⟩ := RelO.some_of (v := v) (o := mA f) (by rw [← l]; exact r f)
  exact get_map I.kIn O (c.get f) c.hd n hu (handed_of ru) (h u _ (I.tok _) ru)

theorem getmeth_ok {m : Str} {g : Addr} {pl : Sem Bool} {Q : Value × List Value → Shared → Prop} (I : Inv X pins σ H s) (e : H a = some (.ins C dx fs)) (c : Cls X.K C) (k : Meth X.K C m g) (l : fs.lookup m = none)
    (h : Q (.ref g, [.ref a]) s) : wpAny (model X.prog X.w) A (getMethod (.ref a) m pl) Q E s := by
  obtain ⟨mA, O, r, _, _, _⟩ := ins_get I.hok e
  have hn : mA m = none := RelO.none_of (by rw [← l]; exact r m)
  exact get_meth I.kIn O (c.get m) k.at_ k.fn hn h

theorem setattr_ok {y : V} {u : Value} {Q : Unit → Shared → Prop} (I : Inv X pins σ H s) (e : H a = some (.ins C dx fs)) (c : Cls X.K C) (n : NoAttr X.K C f) (hl : fs.length < 1000) (ry : RelV y u)
    (h : ∀ s', Inv X pins σ (upd H a (.ins C dx (putF f y fs))) s' → Q () s') : wpAny (model X.prog X.w) A (setAttr (.ref a) f u) Q E s := by
  obtain ⟨mA, O, r, wi, _, ho⟩ := ins_get I.hok e
  have hz : (fs.map (·.1)).length ≤ sizeLine := by rw [List.length_map, sizeLine_eq]; omega
  refine set_map I.kIn O c.sa c.po n.taker c.hd wi hz fun h' O' sb => h _ ?_
  have hd : ∃ o, h'.get? dx = some o := let ⟨o, _, _, e', _⟩ := O'.ns; ⟨o, e'⟩
  refine I.write (x := a) (e := dx) (by rw [e]; exact True.intro) (.inr ho) (fun b q hb z => (sb.2 b hb).trans z) hd ?_
  refine ⟨by rw [upd_ne O.ne]; exact ho, ?_, O.ne, O'.obj, _, O'.ns, fun g => ?_, fun g hg => ?_⟩
  · have := length_putF f y fs; omega
  · show RelO ((putF f y fs).lookup g) (if g = f then some u else mA g)
    rw [lookup_putF]
    by_cases q : g = f
    · rw [if_pos q, if_pos q]; exact ry
    · rw [if_neg q, if_neg q]; exact r g
  · by_cases q : g = f
    · rw [q]; exact (keys_putF f y fs).1
    · refine (keys_putF f y fs).2 g (wi g fun z => hg ?_)
      show (if g = f then some u else mA g) = none
      rw [if_neg q]; exact z

/-- a new instance, tracked, without attributes -/
theorem Inv.made (I : Inv X pins σ H s) : Inv X pins σ (upd (upd H s.heap.objs.size (.own (s.heap.objs.size + 1))) (s.heap.objs.size + 1) (.ins C s.heap.objs.size []))
    { s with heap := (s.heap.push PySem.W.emptyDict).push (PySem.W.instObj C s.heap.objs.size) } := by
  have e1 : (s.heap.push PySem.W.emptyDict).get? s.heap.objs.size = some PySem.W.emptyDict := Heap.get?_push_size s.heap rfl
  have e2 : ((s.heap.push PySem.W.emptyDict).push (PySem.W.instObj C s.heap.objs.size)).get? (s.heap.objs.size + 1) = some (PySem.W.instObj C s.heap.objs.size) := by
    have := Heap.get?_push_size (s.heap.push PySem.W.emptyDict) (o := PySem.W.instObj C s.heap.objs.size) rfl
    rwa [Heap.size_push] at this
  have e3 : (s.heap.push PySem.W.emptyDict).Ns s.heap.objs.size (fun _ => none) := ⟨PySem.W.emptyDict, #[], _, e1, rfl, (fun e he => absurd he (by simp)), fun _ => rfl⟩
  have I1 := I.laid (a := s.heap.objs.size) (o := .own (s.heap.objs.size + 1)) (h' := s.heap.push PySem.W.emptyDict) (t' := s.toks) (fun b u q => Heap.get?_push_of_some _ q) (Nat.le_refl _) ⟨_, e1⟩
  refine I1.laid (a := s.heap.objs.size + 1) (o := .ins C s.heap.objs.size []) (t' := s.toks) (fun b u q => Heap.get?_push_of_some _ q) (Nat.le_of_eq (Heap.size_push _ _)) ?_
  have ne : s.heap.objs.size ≠ s.heap.objs.size + 1 := Nat.ne_of_lt (Nat.lt_succ_self _)
  refine ⟨by rw [upd_ne ne, upd_same], Nat.zero_le _, ne, e2, fun _ => none, (Heap.Ns1.of_empty e3).at fun o q => Heap.get?_push_of_some _ q, fun _ => True.intro, fun y hy => absurd rfl hy⟩

/-- e.f where nothing but the object is asked: through attributeBase (super) and the last hold -/
theorem attr_of {prog : Program} {w : World} {env : Env} {e : Expr} {f : Str} {pos : Pos} {s : Shared} {Q : Value → Shared → Prop} (hb : attributeBase e f env (eval e env) = eval e env)
    (h : wpAny (model prog w) A (eval e env) (fun o s₁ => wpAny (model prog w) A (getAttr o f true) Q E s₁) E s) : wpAny (model prog w) A (eval (.Attribute e f pos) env) Q E s :=
  Attribute_any_ h (by rw [arm_eval_Attribute, hb])
end

/-! ### readings and rules -/
/-- e.f, an attribute of the instance -/
def tFld (K : PySem.W.Frag) (ta : TE) (f : Str) : TE := fun σ H Q => ta σ H fun x H1 => ∃ a C dx fs v, x = .ref a ∧ H1 a = some (.ins C dx fs) ∧ Cls K C ∧ NoAttr K C f ∧ fs.lookup f = some v ∧ Q v H1
/-- e.f = value -/
def sFld (K : PySem.W.Frag) (ta tv : TE) (f : Str) : TS := fun D σ H => tv σ H fun y H1 => ta σ H1 fun x H2 => ∃ a C dx fs, x = .ref a ∧ H2 a = some (.ins C dx fs) ∧ Cls K C ∧ NoAttr K C f ∧ fs.length < 1000 ∧
  D.nx σ (upd H2 a (.ins C dx (putF f y fs)))
section
variable {X : Cx} {o e value : Expr} {f : Str} {pos pos' tpos : Pos} {ta tv : TE}
theorem pe_fld (he : PE X e ta) (hb : attributeBase e f X.env (eval e X.env) = eval e X.env) : PE X (.Attribute e f pos) (tFld X.K ta f) := by
  intro pins s σ H Q I h
  refine attr_of hb (thn (he pins s σ H _ I h) fun u s1 ⟨x, H1, I1, rx, a, C, dx, fs, v, ex, ea, c, n, l, q⟩ => ?_)
  subst ex
  obtain rfl : u = Value.ref a := rx
  exact getattr_ok I1 ea c n l fun u' s2 I2 ru => ⟨v, H1, I2, ru, q⟩
theorem ps_fld (ha : PE X o ta) (hv : PE X value tv) (hs : swapsWith value (some (.Attribute o f pos')) pos.line X.env = pure false) : PS X (.Assign [.Attribute o f pos'] value pos) (sFld X.K ta tv f) := by
  intro pins s σ H D I h
  refine plainObj_wpAny_Assign_Attribute (thn (hv pins s σ H _ I h) fun u s1 ⟨y, H1, I1, ry, q⟩ => thn (ha pins s1 σ H1 _ I1 q) fun ov s2 ⟨x, H2, I2, rx, a, C, dx, fs, ex, ea, c, n, l, q2⟩ => ?_) hs
  subst ex
  obtain rfl : ov = Value.ref a := rx
  exact setattr_ok I2 ea c n l ry fun s3 I3 => ⟨σ, _, I3, q2⟩
end

/-! ### isinstance -/
section
variable {X : Cx} {pins : List (Addr × Obj)} {σ : St} {H : Hp} {s : Shared} {A : Around} {E : Value → Shared → Prop} {Q : Value → Shared → Prop} {c : Value} {b : Bool}
/-- the type of a value, as the fragment's deciders take it; for an instance its class -/
inductive TyOf (K : PySem.W.Frag) (H : Hp) : V → Value → Prop where
  | non : TyOf K H .non (.type "NoneType")
  | bl (x : Bool) : TyOf K H (.bl x) (.type "bool")
  | int (i : Int) : TyOf K H (.int i) (.type "int")
  | str (x : Str) : TyOf K H (.str x) (.type "str")
  | flt (x : UInt64) : TyOf K H (.flt x) (.type "float")
  | lst {a : Addr} {xs : List V} (e : H a = some (.lst xs)) : TyOf K H (.ref a) (.type "list")
  | frz {a : Addr} {o : Obj} {xs : List V} (e : H a = some (.frz o (.lst xs))) : TyOf K H (.ref a) (.type "list")
  | tup {a : Addr} {xs : List V} (e : H a = some (.tup xs)) : TyOf K H (.ref a) (.type "tuple")
  | dK {a : Addr} {kvs : List (Key × V)} (e : H a = some (.dK kvs)) : TyOf K H (.ref a) (.type "dict")
  | dT {a : Addr} {kvs : List (List Key × V)} (e : H a = some (.dT kvs)) : TyOf K H (.ref a) (.type "dict")
  | ins {a C dx : Addr} {fs : List (Str × V)} (e : H a = some (.ins C dx fs)) (cl : Cls K C) (ha : PySem.W.findIn K (.ref C) "__class__" = some (some (.builtin "object.__class__")))
      (hn : PySem.W.specialIn K (.builtin "object.__class__") "__get__" = some (some (.builtin "getset_descriptor.__get__"))) (htk : PySem.W.takesIn K (.builtin "object.__class__") = some true)
      (hm : PySem.W.mroIn K C (.type "object") = some true) : TyOf K H (.ref a) (.ref C)
/-- isinstance(x, c) for one class c, a built-in or an own one: kitOne's answer -/
theorem isinst_ok {x : V} {u t : Value} (I : Inv X pins σ H s) (rx : RelV x u) (ty : TyOf X.K H x t) (e : PySem.W.kitOne X.K t c = some b) (h : ∀ tk, Q (.bool b) { s with toks := tk }) :
    wpAny (model X.prog X.w) A (call (.builtin "isinstance") [u, c]) Q E s := by
  cases ty with
  | non => cases (show u = Value.none from rx); exact PySem.W.kia_one PySem.W.kitx_none I.kIn True.intro e (fun z => nomatch z) h
  | bl y => cases (show u = Value.bool y from rx); exact PySem.W.kia_one PySem.W.kitx_bool I.kIn True.intro e (fun z => nomatch z) h
  | int i => obtain ⟨t, q⟩ := (show ∃ t, u = Value.int i t from rx); cases q; exact PySem.W.kia_one PySem.W.kitx_int I.kIn True.intro e (fun z => nomatch z) h
  | str y => obtain ⟨t, q⟩ := (show ∃ t, u = Value.str y t from rx); cases q; exact PySem.W.kia_one PySem.W.kitx_str I.kIn True.intro e (fun z => nomatch z) h
  | flt y => obtain ⟨t, q⟩ := (show ∃ t, u = Value.float y t from rx); cases q; exact PySem.W.kia_one PySem.W.kitx_float I.kIn True.intro e (fun z => nomatch z) h
  | @lst a xs ea =>
    cases (show u = Value.ref a from rx)
    obtain ⟨_, _, n, _, h1⟩ := (show ObjOk X.prog X.w H s.heap a (.lst xs) from I.hok a _ ea)
    exact PySem.W.kia_one PySem.W.kitx_list I.kIn ⟨_, h1, rfl⟩ e (fun z => nomatch z) h
  | @frz a ob xs ea =>
    cases (show u = Value.ref a from rx)
    obtain ⟨_, _, _, n, _, h1⟩ := (show ObjOk X.prog X.w H s.heap a (.frz ob (.lst xs)) from I.hok a _ ea)
    exact PySem.W.kia_one PySem.W.kitx_list I.kIn ⟨_, h1, rfl⟩ e (fun z => nomatch z) h
  | @tup a xs ea =>
    cases (show u = Value.ref a from rx)
    obtain ⟨_, _, _, p⟩ := (show ObjOk X.prog X.w H s.heap a (.tup xs) from I.hok a _ ea)
    obtain ⟨o, h1, h2, _⟩ := p
    exact PySem.W.kia_one PySem.W.kitx_tuple I.kIn ⟨o, h1, h2⟩ e (fun z => nomatch z) h
  | @dK a kvs ea =>
    cases (show u = Value.ref a from rx)
    obtain ⟨_, _, vs, _, p⟩ := (show ObjOk X.prog X.w H s.heap a (.dK kvs) from I.hok a _ ea)
    obtain ⟨o, es, ep, h1, h2, _⟩ := p
    exact PySem.W.kia_one PySem.W.kitx_dict I.kIn ⟨o, h1, h2.1⟩ e (fun z => nomatch z) h
  | @dT a kvs ea =>
    cases (show u = Value.ref a from rx)
    obtain ⟨_, _, xs, _, o, es, ep, h1, h2, _⟩ := (show ObjOk X.prog X.w H s.heap a (.dT kvs) from I.hok a _ ea)
    exact PySem.W.kia_one PySem.W.kitx_dict I.kIn ⟨o, h1, h2.1⟩ e (fun z => nomatch z) h
  | @ins a C dx fs ea cl ha hn htk hm =>
    cases (show u = Value.ref a from rx)
    obtain ⟨mA, O, _⟩ := ins_get I.hok ea
    obtain ⟨od, J, _⟩ := O.look
    exact PySem.W.kia_one (PySem.W.kitx_own (cl.get _) cl.hd ha hn htk hm) I.kIn J e (fun z => nomatch z) h
end
end L2

namespace L2
open PySem PySem.Spec PyProof.Rows

/-! ### room -/
structure Room (k : Nat) (A : Around) : Prop where
  hd : A.handled = none
  dp : A.depth + 3 * k + 5 < recursionLimit
  un : A.units + 16 * k + 200 < cLine
theorem Room.mono {j k : Nat} {A : Around} (r : Room k A) (h : j ≤ k) : Room j A := ⟨r.hd, by have := r.dp; omega, by have := r.un; omega⟩
theorem Room.deeper {k : Nat} {A : Around} (r : Room (k + 1) A) (env : Env) : Room k (A.deeper env) :=
  ⟨r.hd, by have := r.dp; show A.depth + 1 + 3 * k + 5 < _; omega, by have := r.un; show A.units + 3 + 16 * k + 200 < _; omega⟩
theorem make_depth {A : Around} {C : Addr} {us : List Value} {kw : List (Str × Value)} : (A.under (.builtin "type.__call__" ⟨.ref C :: us, kw⟩)).depth = A.depth + 1 := by
  first | rfl | simp [Around.under, Code.weight, Code.isCreation, Code.isGuard, Code.isCaller, Code.frames, Code.isFrame, guardIds]
theorem make_units {A : Around} {C : Addr} {us : List Value} {kw : List (Str × Value)} : (A.under (.builtin "type.__call__" ⟨.ref C :: us, kw⟩)).units = A.units + 1 := by
  first | rfl | simp [Around.under, Code.cUnits, Code.frames, Code.isFrame]
theorem Room.make {k : Nat} {A : Around} (r : Room (k + 1) A) (C : Addr) (us : List Value) (kw : List (Str × Value)) : Room k (A.under (.builtin "type.__call__" ⟨.ref C :: us, kw⟩)) :=
  ⟨r.hd, by have := r.dp; rw [make_depth]; omega, by have := r.un; rw [make_units]; omega⟩
theorem Room.depth {k : Nat} {A : Around} (r : Room k A) : A.depth < recursionLimit := by have := r.dp; omega
theorem Room.units {k : Nat} {A : Around} (r : Room k A) : A.units + 64 < cLine := by have := r.un; omega
/-! ### argument lists and displays -/
def tNil : TA := fun _ H Q => Q [] H
def tCons (ta : TE) (tr : TA) : TA := fun σ H Q => ta σ H fun x H1 => tr σ H1 fun xs H2 => Q (x :: xs) H2
section
variable {X : Cx} {e : Expr} {es : List Expr} {te : TE} {t : TA} {pos : Pos}
theorem pa_nil : PA X [] tNil := fun _ _ _ _ H Q I h => Calls.spliced_nil ⟨[], H, I, .nil, h⟩
theorem pa_cons (ha : PE X e te) (hr : PA X es t) (hs : starEach (e :: es) X.env = (false, eval e X.env) :: starEach es X.env := by rfl) : PA X (e :: es) (tCons te t) := by
  intro pos pins s σ H Q I h
  rw [hs]
  show wpAny _ _ (spliced ((false, eval e X.env) :: backTo pos (starEach es X.env))) _ _ s
  refine Calls.spliced_cons (thn (ha pins s σ H _ I h) fun u s1 ⟨x, H1, I1, r1, q1⟩ => ?_)
  exact thn (hr pos pins s1 σ H1 _ I1 q1) fun us s2 ⟨xs, H2, I2, r2, q2⟩ => ⟨x :: xs, H2, I2, .cons r1 r2, q2⟩

/-- a tuple, a list of written items -/
def tTup (t : TA) : TE := fun σ H Q => t σ H fun xs H1 => xs.length ≤ sizeLine ∧ ∀ p, H1 p = none → Q (.ref p) (upd H1 p (.tup xs))
def tLst (t : TA) : TE := fun σ H Q => t σ H fun xs H1 => xs.length ≤ sizeLine ∧ ∀ p, H1 p = none → Q (.ref p) (upd H1 p (.lst xs))
theorem pe_tup {x1} (h : PA X es t) : PE X (.Tuple es x1 pos) (tTup t) := by
  intro pins s σ H Q I hq
  refine wpAny_Tuple_spliced (thn (h pos pins s σ H _ I hq) fun us s1 ⟨xs, H1, I1, r, z, q⟩ => ⟨by rw [← r.length]; exact z, ?_⟩)
  have hf : H1 s1.heap.objs.size = none := I1.hok.fresh (Nat.le_refl _)
  refine ⟨.ref s1.heap.objs.size, upd H1 s1.heap.objs.size (.tup xs), I1.laid (t' := s1.toks) (fun b u e => Heap.get?_push_of_some _ e) (Nat.le_refl _) ?_, rfl, q _ hf⟩
  exact ⟨z, us, r, ⟨_, Heap.get?_push_size _ rfl, rfl, _, rfl⟩⟩
theorem pe_lst (h : PA X es t) : PE X (.List es pos) (tLst t) := by
  intro pins s σ H Q I hq
  refine wpAny_List_spliced (thn (h pos pins s σ H _ I hq) fun us s1 ⟨xs, H1, I1, r, z, q⟩ => ⟨by rw [← r.length]; exact z, ?_⟩)
  have hf : H1 s1.heap.objs.size = none := I1.hok.fresh (Nat.le_refl _)
  refine ⟨.ref s1.heap.objs.size, upd H1 s1.heap.objs.size (.lst xs), I1.laid (t' := s1.toks) (fun b u e => Heap.get?_push_of_some _ e) (Nat.le_refl _) ?_, rfl, q _ hf⟩
  exact ⟨z, us, 0, r, Heap.get?_push_size _ rfl⟩
end

/-! ### what a def promises -/
/-- a def's promise: the bound arguments in the parameters' order, the heap, the wanted end, the wanted exception -/
abbrev Sp := List V → Hp → VK → XK → Prop
/-- how an exception lies behind a call (file 08 gives it): the callers' frames, abstract heap and state ahead of the call, the wish, the exception, the state -/
abbrev CXT := List Env → Hp → Shared → XK → Value → Shared → Prop

/-- the state at a call -/
structure Env0 (P : Program) (w : World) (K : PySem.W.Frag) (mg : Str → Option Value) (base : Heap) (A : Around) (outer : List Env) (s : Shared) (H : Hp) : Prop where
  frames : A.frames = some outer
  mod : Mod K mg base
  bs : ∀ b o, base.get? b = some o → s.heap.get? b = some o ∧ H b = none
  bsz : base.objs.size ≤ s.heap.objs.size
  funs : s.heap.FunFrames base outer
  frf : ∀ b ∈ frs outer, H b = none
  hok : HOk P w H s.heap
  bare : AllBare s.gens
/-- a call's end -/
def CE (outer : List Env) (P : Program) (w : World) (H : Hp) (s : Shared) (Q : VK) (u : Value) (s' : Shared) : Prop :=
  ∃ v H', s'.os = s.os ∧ AllBare s'.gens ∧ Un (frs outer) [] H H' s.heap s'.heap ∧ HOk P w H' s'.heap ∧ RelV v u ∧ Q v H'
def CR (CX : CXT) (outer : List Env) (P : Program) (w : World) (H : Hp) (s : Shared) (Q : VK) (E : XK) (r : Result) (s' : Shared) : Prop :=
  match r with
  | .ok (.ret u) => CE outer P w H s Q u s'
  | .ok _ => False
  | .error e => CX outer H s E e s'
structure FnOk (P : Program) (w : World) (K : PySem.W.Frag) (mg : Str → Option Value) (base : Heap) (CX : CXT) (k : Nat) (f : Addr) (fd : FuncData) (ps : List Str) (sp : Sp) : Prop where
  len : ∀ vs H Q E, sp vs H Q E → vs.length = ps.length
  run : ∀ (A : Around) (outer : List Env) (s : Shared) (H : Hp) (args : Args) (us : List Value) (vs : List V) (Q : VK) (E : XK), Room k A → Env0 P w K mg base A outer s H → BindsTo s fd args (ps.zip us) → Vals vs us → sp vs H Q E →
    codeAny (model P w) A (.call (.ref f) args) (CR CX outer P w H s Q E) s
theorem Env0.make {P : Program} {w : World} {K : PySem.W.Frag} {mg : Str → Option Value} {base : Heap} {A : Around} {outer : List Env} {s : Shared} {H : Hp} (e : Env0 P w K mg base A outer s H) (C : Addr) (us : List Value) (kw : List (Str × Value)) :
    Env0 P w K mg base (A.under (.builtin "type.__call__" ⟨.ref C :: us, kw⟩)) outer s H := ⟨by first | exact e.frames | (simpa [Around.under, Code.envs, Code.isFrame, pushEnvs] using e.frames), e.mod, e.bs, e.bsz, e.funs, e.frf, e.hok, e.bare⟩
section
variable {X : Cx} {pins : List (Addr × Obj)} {σ : St} {H : Hp} {s s' : Shared}
/-- from a body: what a callee wants -/
theorem Inv.env0 (I : Inv X pins σ H s) : Env0 X.prog X.w X.K X.mg X.base X.A X.stack s H :=
  ⟨I.ok.frames, I.ok.mod, I.bs, Nat.le_trans I.ok.bsz I.sz, I.stack, I.stkFree, I.hok, I.bare⟩
/-- behind a call -/
theorem Inv.after {Q : VK} {u : Value} (I : Inv X pins σ H s) (h : CE X.stack X.prog X.w H s Q u s') : EP X pins σ Q u s' := by
  obtain ⟨v, H', os, bare, un, hok, r, q⟩ := h
  obtain ⟨hh, g, d, t, os'⟩ := s'
  obtain rfl : os' = s.os := os
  exact ⟨v, H', I.call (h' := hh) (g' := g) (d' := d) (t' := t) (ch := []) un hok bare (fun b z => absurd z (by simp)), r, q⟩
end

/-! ### calls -/
/-- f(..): the written arguments, then the defaults dvs; E: what is wanted of an exception -/
def tCall (sp : Sp) (dvs : List V) (E : XK) (t : TA) : TE := fun σ H Q => t σ H fun vs H1 => sp (vs ++ dvs) H1 Q E
/-- o.m(..) of an instance of the class at C -/
def tMeth (C : Addr) (m : Str) (sp : Sp) (dvs : List V) (E : XK) (ta : TE) (t : TA) : TE := fun σ H Q => ta σ H fun x H1 => ∃ a dx fs, x = .ref a ∧ H1 a = some (.ins C dx fs) ∧ fs.lookup m = none ∧
  t σ H1 fun vs H2 => sp (x :: (vs ++ dvs)) H2 Q E
/-- C(..): a new instance and its dict, then __init__ -/
def tMake (C : Addr) (sp : Sp) (dvs : List V) (E : XK) (t : TA) : TE := fun σ H Q => t σ H fun vs H1 => ∀ x dx, H1 x = none → H1 dx = none → dx ≠ x →
  sp (.ref x :: (vs ++ dvs)) (upd (upd H1 dx (.own x)) x (.ins C dx [])) (fun v H2 => v = .non ∧ Q (.ref x) H2) E

/-- how the parameters are bound: us the positional arguments, kw the keywords' values by name, ds the defaults that fill up -/
def Binds (K : PySem.W.Frag) (fd : FuncData) (ps : List Str) (ds : List Value) : Prop :=
  ∀ (s : Shared) (us : List Value), K.In s.heap → (us ++ ds).length = ps.length → BindsTo s fd ⟨us, []⟩ (ps.zip (us ++ ds))
/-- every parameter is given -/
theorem Binds.all {K : PySem.W.Frag} {fd : FuncData} {ps : List Str} (h : ∀ us : List Value, us.length = ps.length → bindArgs fd ⟨us, []⟩ = pure (ps.zip us)) : Binds K fd ps [] := fun s us _ hl => by
  rw [List.append_nil] at hl ⊢
  exact .of_eq (h us hl)

/-- an exception of a callee reaches what this body wants of exceptions -/
def Passes (CX : CXT) (X : Cx) (E : XK) : Prop := ∀ (pins : List (Addr × Obj)) (σ : St) (H : Hp) (s : Shared) (e : Value) (s' : Shared), Inv X pins σ H s → CX X.stack H s E e s' → X.xe e s'

section
variable {X : Cx} {CX : CXT} {k : Nat} {f C : Addr} {fd : FuncData} {ps : List Str} {sp : Sp} {dvs : List V} {ds : List Value} {E : XK} {x m : Str} {p pos apos : Pos} {e o : Expr} {es : List Expr} {ta : TE} {t : TA}

/-- the callee runs -/
theorem run_fn {pins : List (Addr × Obj)} {σ : St} {H : Hp} {s : Shared} {Q : VK} {us : List Value} {vs : List V} (F : FnOk X.prog X.w X.K X.mg X.base CX k f fd ps sp) (hr : Room k X.A) (hb : Binds X.K fd ps ds) (hd : Vals dvs ds) (hx : Passes CX X E)
    (I : Inv X pins σ H s) (r : Vals vs us) (h : sp (vs ++ dvs) H Q E) : wpAny (model X.prog X.w) X.A (call (.ref f) us) (EP X pins σ Q) X.xe s := by
  have r2 : Vals (vs ++ dvs) (us ++ ds) := r.append hd
  have hl : (us ++ ds).length = ps.length := by rw [← r2.length]; exact F.len _ _ _ _ h
  refine wpAny_call (codeAny_mono (F.run X.A X.stack s H ⟨us, []⟩ (us ++ ds) (vs ++ dvs) Q E hr I.env0 (hb s us I.kIn hl) r2 h) fun r s' hq => ?_)
  cases r with
  | error e => exact hx pins σ H s e s' I hq
  | ok fl =>
    cases fl with
    | ret u => exact I.after hq
    | next => exact False.elim hq
    | brk => exact False.elim hq
    | cont => exact False.elim hq

theorem pe_call (F : FnOk X.prog X.w X.K X.mg X.base CX k f fd ps sp) (hr : Room k X.A) (hg : Gl X x) (hm : X.mg x = some (.ref f)) (hk : PySem.W.keepIn X.K (.ref f) = true) (hb : Binds X.K fd ps ds) (hd : Vals dvs ds) (hx : Passes CX X E)
    (ha : PA X (e :: es) t) (hdb : (x == ("__debug__" : Str)) = false := by decide) (he : starEach (e :: es) X.env = (false, eval e X.env) :: starEach es X.env := by rfl) (hpl : (backTo pos (starEach es X.env)).any (·.1) = false := by rfl) :
    PE X (.Call (.Name x p) (e :: es) [] pos) (tCall sp dvs E t) := by
  intro pins s σ H Q I h
  refine wpAny_Call_Name_kw (ld_glob I hg hm ?_ hdb)
  refine PySem.W.callWith_K (h₀ := X.base) I.ok.mod.kin hk (thn (ha pos pins s σ H _ I h) fun us s1 ⟨vs, H1, I1, r, q⟩ => ⟨I1.kIn, ?_⟩) he hpl
  exact run_fn F hr hb hd hx I1 r q
/-- o.m(e, ..) -/
theorem pe_meth {pl : Sem Bool} (he : PE X o ta) (c : Cls X.K C) (hm : Meth X.K C m f) (F : FnOk X.prog X.w X.K X.mg X.base CX k f fd ps sp) (hr : Room k X.A) (hb : Binds X.K fd ps ds) (hd : Vals dvs ds) (hx : Passes CX X E) (ha : PA X (e :: es) t)
    (hst : starEach (e :: es) X.env = (false, eval e X.env) :: starEach es X.env := by rfl) (hpl : (backTo pos (starEach es X.env)).any (·.1) = false := by rfl)
    (ht : eval (.Call (.Attribute o m apos) (e :: es) [] pos) X.env = (do
      let ov ← eval o X.env
      standAt apos.atName
      let (f, first) ← holding [ov] (getMethod ov m pl)
      callWith pos f first (backTo pos (starEach (e :: es) X.env)) (backToKw pos (keywordEach [] X.env))) := by rfl) :
    PE X (.Call (.Attribute o m apos) (e :: es) [] pos) (tMeth C m sp dvs E ta t) := by
  intro pins s σ H Q I h
  refine PySem.W.methodCall_KW (pl := pl) (thn (he pins s σ H _ I h) fun u s1 ⟨x, H1, I1, rx, a, dx, fs, ex, ea, l, q⟩ => ?_) ht
  subst ex
  obtain rfl : u = Value.ref a := rx
  refine getmeth_ok I1 ea c hm l ?_
  refine PySem.W.callWith_K (first := [.ref a]) (h₀ := X.base) I.ok.mod.kin hm.kp (thn (ha pos pins s1 σ H1 _ I1 q) fun us s2 ⟨vs, H2, I2, r, q2⟩ => ⟨I2.kIn, ?_⟩) hst hpl
  exact run_fn (us := .ref a :: us) (vs := .ref a :: vs) F hr hb hd hx I2 (.cons rfl r) q2
/-- o.m() -/
theorem pe_meth0 {pl : Sem Bool} (he : PE X o ta) (c : Cls X.K C) (hm : Meth X.K C m f) (F : FnOk X.prog X.w X.K X.mg X.base CX k f fd ps sp) (hr : Room k X.A) (hb : Binds X.K fd ps ds) (hd : Vals dvs ds) (hx : Passes CX X E)
    (ht : eval (.Call (.Attribute o m apos) [] [] pos) X.env = (do
      let ov ← eval o X.env
      standAt apos.atName
      let (f, first) ← holding [ov] (getMethod ov m pl)
      callWith pos f first (backTo pos (starEach [] X.env)) (backToKw pos (keywordEach [] X.env))) := by rfl) :
    PE X (.Call (.Attribute o m apos) [] [] pos) (tMeth C m sp dvs E ta tNil) := by
  intro pins s σ H Q I h
  refine PySem.W.methodCall_KW (pl := pl) (thn (he pins s σ H _ I h) fun u s1 ⟨x, H1, I1, rx, a, dx, fs, ex, ea, l, q⟩ => ?_) ht
  subst ex
  obtain rfl : u = Value.ref a := rx
  refine getmeth_ok I1 ea c hm l ?_
  exact PySem.W.callWith_K0 (first := [.ref a]) I1.kIn hm.kp (run_fn (us := [.ref a]) (vs := [.ref a]) F hr hb hd hx I1 (.cons rfl .nil) q)

/-- what a class must have to be made -/
structure Mk (K : PySem.W.Frag) (C f : Addr) : Prop where
  makes : PySem.W.makesIn K C = true
  init : PySem.W.findIn K (.ref C) "__init__" = some (some (.ref f))
  fn : PySem.W.isFn K (.ref f) = true
  kp : PySem.W.keepIn K (.ref C) = true

theorem run_make {pins : List (Addr × Obj)} {σ : St} {H : Hp} {s : Shared} {Q : VK} {us : List Value} {vs : List V} (M : Mk X.K C f) (F : FnOk X.prog X.w X.K X.mg X.base CX k f fd ps sp) (hr : Room (k + 1) X.A) (hb : Binds X.K fd ps ds) (hd : Vals dvs ds)
    (hx : Passes CX X E) (I : Inv X pins σ H s) (r : Vals vs us)
    (h : ∀ x dx, H x = none → H dx = none → dx ≠ x → sp (.ref x :: (vs ++ dvs)) (upd (upd H dx (.own x)) x (.ins C dx [])) (fun v H2 => v = .non ∧ Q (.ref x) H2) E) :
    wpAny (model X.prog X.w) X.A (call (.ref C) us) (EP X pins σ Q) X.xe s := by
  have hq := h (s.heap.objs.size + 1) s.heap.objs.size (I.hok.fresh (Nat.le_succ _)) (I.hok.fresh (Nat.le_refl _)) (Nat.ne_of_lt (Nat.lt_succ_self _))
  have I2 := Inv.made (C := C) I
  have r2 : Vals (V.ref (s.heap.objs.size + 1) :: (vs ++ dvs)) (Value.ref (s.heap.objs.size + 1) :: (us ++ ds)) := .cons rfl (r.append hd)
  have hl : (Value.ref (s.heap.objs.size + 1) :: us ++ ds).length = ps.length := by
    have e := r2.length
    rw [F.len _ _ _ _ hq] at e
    exact e.symm
  refine wpAny_call (make_map (f := f) I.kIn M.makes M.init (beq_iff_eq.mp M.fn) (codeAny_mono (F.run _ X.stack _ _ ⟨Value.ref (s.heap.objs.size + 1) :: us, []⟩ (Value.ref (s.heap.objs.size + 1) :: (us ++ ds)) _ _ E (hr.make C us [])
    (I2.env0.make C us []) (hb _ (Value.ref (s.heap.objs.size + 1) :: us) I2.kIn hl) r2 hq) fun r s' hq' => ?_))
  cases r with
  | error e => exact hx pins σ _ _ e s' I2 hq'
  | ok fl =>
    cases fl with
    | ret u =>
      obtain ⟨v, H', I3, rv, ev, q3⟩ := I2.after hq'
      subst ev
      exact ⟨rv, ⟨V.ref (s.heap.objs.size + 1), H', I3, rfl, q3⟩⟩
    | next => exact False.elim hq'
    | brk => exact False.elim hq'
    | cont => exact False.elim hq'
theorem pe_make (M : Mk X.K C f) (F : FnOk X.prog X.w X.K X.mg X.base CX k f fd ps sp) (hr : Room (k + 1) X.A) (hg : Gl X x) (hm : X.mg x = some (.ref C)) (hb : Binds X.K fd ps ds) (hd : Vals dvs ds) (hx : Passes CX X E)
    (ha : PA X (e :: es) t) (hdb : (x == ("__debug__" : Str)) = false := by decide) (he : starEach (e :: es) X.env = (false, eval e X.env) :: starEach es X.env := by rfl) (hpl : (backTo pos (starEach es X.env)).any (·.1) = false := by rfl) :
    PE X (.Call (.Name x p) (e :: es) [] pos) (tMake C sp dvs E t) := by
  intro pins s σ H Q I h
  refine wpAny_Call_Name_kw (ld_glob I hg hm ?_ hdb)
  refine PySem.W.callWith_K (h₀ := X.base) I.ok.mod.kin M.kp (thn (ha pos pins s σ H _ I h) fun us s1 ⟨vs, H1, I1, r, q⟩ => ⟨I1.kIn, ?_⟩) he hpl
  exact run_make M F hr hb hd hx I1 r q
end

/-! ### keywords -/
section
variable {X : Cx} {CX : CXT} {k : Nat} {f C : Addr} {fd : FuncData} {ps ks : List Str} {sp : Sp} {E : XK} {x m : Str} {p pos apos kpos : Pos} {e o : Expr} {es : List Expr} {kws : List Keyword} {te ta : TE} {t tk : TA} {nm : Option Str}
variable {g : List Value → List Value → List Value} {gV : List V → List V → List V}
end

/-! ### a def's body keeps its promise -/
/-- names: the parameters first -/
structure FnScope (N P : List Str) (sc : Scope) : Prop where
  kind : sc.kind = .function
  co : sc.isCoroutine = false
  gen : sc.isGenerator = false
  nd : N.Nodup
  pre : N.take P.length = P
  par : ∀ x ∈ P, sc.names.lookup x = some .local ∨ sc.names.lookup x = some .cell
  nofree : ∀ y ∈ sc.names, y.2 ≠ .free

theorem bindL_out {kindOf : Str → Option NameKind} {x : Str} : ∀ {binds : List (Str × Value)} {m : Str → Option Value}, (∀ v, (x, v) ∉ binds) → bindL kindOf binds m x = m x
  | [], _, _ => rfl
  | (n, v) :: r, m, h => by
    unfold bindL
    rw [bindL_out fun w hw => h w (List.mem_cons_of_mem _ hw)]
    split
    · have : x ≠ n := by rintro rfl; exact h v List.mem_cons_self
      simp [this]
    · rfl
theorem bindC_out {kindOf : Str → Option NameKind} {x : Str} : ∀ {binds : List (Str × Value)} {m : Str → Option Value}, (∀ v, (x, v) ∉ binds) → bindC kindOf binds m x = m x
  | [], _, _ => rfl
  | (n, v) :: r, m, h => by
    unfold bindC
    rw [bindC_out fun w hw => h w (List.mem_cons_of_mem _ hw)]
    split
    · rfl
    · have : x ≠ n := by rintro rfl; exact h v List.mem_cons_self
      simp [this]
theorem bindL_get {kindOf : Str → Option NameKind} {x : Str} {v : Value} : ∀ {P : List Str} {vs : List Value} {i : Nat} {m : Str → Option Value}, P.Nodup → P[i]? = some x → vs[i]? = some v → kindOf x = some .local →
    bindL kindOf (P.zip vs) m x = some v
  | [], _, _, _, _, h, _, _ => by simp at h
  | _ :: _, [], _, _, _, _, h, _ => by simp at h
  | p :: P, w :: vs, 0, m, nd, h1, h2, hk => by
    simp at h1 h2; subst h1; subst h2
    show bindL kindOf ((p, w) :: P.zip vs) m p = _
    unfold bindL
    rw [bindL_out fun v hv => (List.nodup_cons.mp nd).1 (List.of_mem_zip hv).1, if_pos hk]
    simp
  | p :: P, w :: vs, i + 1, m, nd, h1, h2, hk => by
    show bindL kindOf ((p, w) :: P.zip vs) m x = _
    unfold bindL
    exact bindL_get (i := i) (List.nodup_cons.mp nd).2 (by simpa using h1) (by simpa using h2) hk
theorem bindC_get {kindOf : Str → Option NameKind} {x : Str} {v : Value} : ∀ {P : List Str} {vs : List Value} {i : Nat} {m : Str → Option Value}, P.Nodup → P[i]? = some x → vs[i]? = some v → kindOf x ≠ some .local →
    bindC kindOf (P.zip vs) m x = some v
  | [], _, _, _, _, h, _, _ => by simp at h
  | _ :: _, [], _, _, _, _, h, _ => by simp at h
  | p :: P, w :: vs, 0, m, nd, h1, h2, hk => by
    simp at h1 h2; subst h1; subst h2
    show bindC kindOf ((p, w) :: P.zip vs) m p = _
    unfold bindC
    rw [bindC_out fun v hv => (List.nodup_cons.mp nd).1 (List.of_mem_zip hv).1, if_neg hk]
    simp
  | p :: P, w :: vs, i + 1, m, nd, h1, h2, hk => by
    show bindC kindOf ((p, w) :: P.zip vs) m x = _
    unfold bindC
    exact bindC_get (i := i) (List.nodup_cons.mp nd).2 (by simpa using h1) (by simpa using h2) hk

/-- the names' values at the entry -/
def start (N : List Str) (vs : List V) : St := vs.map some ++ List.replicate (N.length - vs.length) none

/-- the context of a def's body, at its entry; an exception leaves the frame, then lies as CX says -/
def cxOf (CX : CXT) (P : Program) (w : World) (K : PySem.W.Frag) (mg : Str → Option Value) (base : Heap) (N : List Str) (qual : Str) (scope : Scope) (f : Addr) (cd : Value) (A : Around) (outer : List Env) (s : Shared) (H : Hp) (E : XK) : Cx where
  prog := P
  w := w
  K := K
  mg := mg
  base := base
  A := A.deeper (envOfC qual scope s.heap.objs.size f cd)
  N := N
  s₀ := s
  H₀ := H
  env := envOfC qual scope s.heap.objs.size f cd
  outer := outer
  stack := envOfC qual scope s.heap.objs.size f cd :: outer
  ex := []
  calm := true
  fn := fun _ => true
  pn := []
  xe := fun e s' => wpAny (model P w) (A.deeper (envOfC qual scope s.heap.objs.size f cd)) (leaving (envOfC qual scope s.heap.objs.size f cd) e) (fun _ s'' => CX outer H s E e s'') (fun e' s'' => CX outer H s E e' s'') s'

theorem cell_has {sc : Scope} {n : Nat} {x : Str} (h : sc.names.lookup x = some .cell) : ∃ c, (cellsFrom n sc.names []).lookup x = some c := by
  have q := PySem.W.cellsFrom_some sc.names n [] (.inl h)
  exact Option.isSome_iff_exists.mp q

theorem inv_start {CX : CXT} {P : Program} {w : World} {K : PySem.W.Frag} {mg : Str → Option Value} {base : Heap} {N ps : List Str} {qual : Str} {scope : Scope} {f : Addr} {cd : Value} {A : Around} {outer : List Env} {s s1 : Shared} {H : Hp} {E : XK} {us : List Value} {vs : List V}
    (S : FnScope N ps scope) (hd : A.handled = none) (e0 : Env0 P w K mg base A outer s H) (hl : vs.length = ps.length) (r : Vals vs us)
    (x : InCallC s s.heap.objs.size (bindL (envOfC qual scope s.heap.objs.size f cd).kindOf (ps.zip us) fun _ => none) (cellsFrom (s.heap.objs.size + 1) scope.names []) (bindC (envOfC qual scope s.heap.objs.size f cd).kindOf (ps.zip us) fun _ => none) s1) :
    Inv (cxOf CX P w K mg base N qual scope f cd A outer s H E) [] (start N vs) H s1 := by
  have hpl : ps.length ≤ N.length := by have := congrArg List.length S.pre; rw [List.length_take] at this; omega
  obtain ⟨h1, tk, rfl, hk⟩ := x.done
  have noA : ∀ b : Addr, b ∉ (cxOf CX P w K mg base N qual scope f cd A outer s H E).ex := fun b z => absurd (show b ∈ ([] : List Addr) from z) (by simp)
  refine ⟨⟨e0.mod, S.kind, rfl, rfl, Nat.le_refl _, fun y z c h1 h2 => ?_, fun y hy => ?_, fun y c _ h => ?_, fun _ => hd, Around.frames_deeper e0.frames, .inr ⟨rfl, rfl⟩, fun b z => absurd z (noA b), e0.bs, e0.bsz, fun b _ _ => noA b, fun b z => absurd z (noA b), e0.funs, e0.frf⟩,
    rfl, e0.bare, Un.kept hk, ⟨_, x.toInCall.ns, fun i y v h1 h2 h3 => ?_⟩, fun y c h => ⟨_, x.cell y c h⟩, e0.hok.fresh (Nat.le_refl _), fun y c h => ?_, fun p hp => absurd (show p ∈ ([] : List (Addr × Obj)) from hp) (by simp), e0.hok.kept hk, ?_⟩
  · exact name_of_addr x.apart (PySem.mem_of_lookup h1) (PySem.mem_of_lookup h2)
  · have hy : scope.names.lookup y = some .cell ∨ scope.names.lookup y = some .free := hy
    rcases hy with hy | hy
    · exact cell_has hy
    · exact absurd rfl (S.nofree _ (PySem.mem_of_lookup hy))
  · exact Nat.le_of_lt (x.above y c (PySem.mem_of_lookup h))
  · have hi : i < vs.length := by
      unfold start at h2
      by_cases hi : i < vs.length
      · exact hi
      · rw [List.getElem?_append_right (by simpa using hi)] at h2
        rw [List.getElem?_replicate] at h2
        split at h2 <;> cases h2
    have ha : vs[i]? = some v := by
      unfold start at h2
      rw [List.getElem?_append_left (by simpa using hi), List.getElem?_map] at h2
      cases e : vs[i]? with
      | none => rw [e] at h2; cases h2
      | some a => rw [e] at h2; cases h2; rfl
    obtain ⟨u, hu, rv⟩ := r.get ha
    have hp : ps[i]? = some y := by
      rw [← S.pre, List.getElem?_take_of_lt (by omega)]; exact h1
    have ndP : ps.Nodup := by rw [← S.pre]; exact S.nd.sublist (List.take_sublist _ _)
    refine ⟨u, rv, ?_⟩
    rcases S.par y (List.mem_of_getElem? hp) with k | k
    · exact .inl ⟨k, bindL_get ndP hp hu k⟩
    · obtain ⟨c, e⟩ := cell_has (n := s.heap.objs.size + 1) k
      refine .inr ⟨.inl k, c, e, ?_⟩
      have q := x.cell y c e
      rw [bindC_get ndP hp hu (by show scope.names.lookup y ≠ _; rw [k]; decide)] at q
      exact q
  · exact e0.hok.fresh (Nat.le_of_lt (x.above y c (PySem.mem_of_lookup h)))
  · unfold start
    show _ = N.length
    rw [List.length_append, List.length_map, List.length_replicate]
    omega

/-- THE RULE: a def (or a method) of the text, by its body. The body's reading t is chosen for each entry; it is run at the parameters' values -/
theorem fn_of {CX : CXT} {P : Program} {w : World} {K : PySem.W.Frag} {mg : Str → Option Value} {base : Heap} {k : Nat} {f : Addr} {name qual : Str} {params : Arguments} {body : List Stmt} {scope : Scope} {dV kV doc pm cdv ct oc : Value} {an od : Option Addr}
    {osl : Array (Option Value)} {N ps : List Str} {sp : Sp} (lk : K.lookup f = some ⟨oc, od, .func (PySem.W.fnOf name qual params body scope dV kV doc pm an cdv ct), osl⟩) (hcd : PySem.W.codeIn K cdv qual = true) (S : FnScope N ps scope)
    (len : ∀ vs H Q E, sp vs H Q E → vs.length = ps.length)
    (hbody : ∀ (A : Around) (outer : List Env) (s : Shared) (H : Hp) (vs : List V) (Q : VK) (E : XK), Room k (A.deeper (envOfC qual scope s.heap.objs.size f cdv)) → sp vs H Q E →
      ∃ t, PSs (cxOf CX P w K mg base N qual scope f cdv A outer s H E) body t ∧ t { nx := fun _ H' => Q .non H', rt := Q } (start N vs) H) :
    FnOk P w K mg base CX (k + 1) f (PySem.W.fnOf name qual params body scope dV kV doc pm an cdv ct) ps sp := by
  refine ⟨len, fun A outer s H args us vs Q E hr e0 hb r hsp => ?_⟩
  have hl := len _ _ _ _ hsp
  have KX : K.In s.heap := e0.mod.kin.keeps fun b o e => (e0.bs b o e).1
  have lim : s.heap.NoLimit := e0.mod.nolimit.keeps fun b o e => (e0.bs b o e).1
  have hkind : ∀ y ∈ ps.zip us, scope.names.lookup y.1 = some .local ∨ (scope.names.lookup y.1 = some .cell ∧ ((cellsFrom (s.heap.objs.size + 1) scope.names []).lookup y.1).isSome = true) := fun ⟨n, v⟩ hy => by
    rcases S.par n (List.of_mem_zip hy).1 with q | q
    · exact .inl q
    · exact .inr ⟨q, PySem.W.cellsFrom_some _ _ _ (.inl q)⟩
  refine codeAny_call_function hr.depth (KX _ _ lk) rfl S.co S.gen rfl (PySem.W.codeRec_of KX hcd) (hb _ _ _ _ ?_)
  refine wpAny_newFunctionEnv_cells S.kind hkind fun env he s1 x => ?_
  subst he
  refine ⟨lim.keeps x.toInCall.keep, codeAny_func ?_⟩
  obtain ⟨t, ht, hq⟩ := hbody A outer s H vs Q E (hr.deeper _) hsp
  have I : Inv (cxOf CX P w K mg base N qual scope f cdv A outer s H E) [] (start N vs) H s1 := inv_start S hr.hd e0 hl r x
  refine wpAny_mono (ht [] s1 (start N vs) H _ I hq) (fun fl s' hs => ?_) fun e s' hs => hs
  have fin : ∀ {σ' : St} {H' : Hp} {v : V} {u : Value}, Inv (cxOf CX P w K mg base N qual scope f cdv A outer s H E) [] σ' H' s' → RelV v u → Q v H' → CE outer P w H s Q u s' :=
    fun {σ' H' v u} J rv q => ⟨v, H', J.os, J.bare, J.base, J.hok, rv, q⟩
  cases fl with
  | ret u =>
    obtain ⟨v, σ', H', J, rv, q⟩ := hs
    exact fin J rv q
  | next =>
    obtain ⟨σ', H', J, q⟩ := hs
    exact fin (v := V.non) (u := Value.none) J rfl q
  | brk =>
    obtain ⟨_, _, _, q⟩ := hs
    exact False.elim q
  | cont =>
    obtain ⟨_, _, _, q⟩ := hs
    exact False.elim q
end L2

namespace L2
open PySem PySem.Spec PyProof.Rows
section
variable {X : Cx} {x : Str} {p pos : Pos} {e : Expr} {es : List Expr} {t : TA} {id T : String} {r : List V → Hp → VK → Prop}

def tCB (r : List V → Hp → VK → Prop) (t : TA) : TE := fun σ H Q => t σ H fun vs H1 => r vs H1 Q
/-- f(e, ..), f a built-in function -/
theorem pe_callB (hc : CallR X (.builtin id) r) (hg : Gl X x) (hm : X.mg x = none) (hv : bootBuiltins x = some (.builtin id)) (ha : PA X (e :: es) t) (hn : x ≠ "__name__" := by decide) (hdb : (x == ("__debug__" : Str)) = false := by decide)
    (he : starEach (e :: es) X.env = (false, eval e X.env) :: starEach es X.env := by rfl) (hpl : (backTo pos (starEach es X.env)).any (·.1) = false := by rfl) : PE X (.Call (.Name x p) (e :: es) [] pos) (tCB r t) := by
  intro pins s σ H Q I h
  refine wpAny_Call_Name_kw (ld_blt I hg hm hv ?_ hn hdb)
  exact PyProof.Rows.callWith_builtin1 (thn (ha pos pins s σ H _ I h) fun us s1 ⟨vs, H1, I1, r1, q1⟩ => hc pins s1 σ H1 vs us Q I1 r1 q1) he hpl
/-- T(e, ..), T a built-in type -/
theorem pe_callTy (hc : CallR X (.type T) r) (hg : Gl X x) (hm : X.mg x = none) (hv : bootBuiltins x = some (.type T)) (ha : PA X (e :: es) t) (hn : x ≠ "__name__" := by decide) (hdb : (x == ("__debug__" : Str)) = false := by decide)
    (he : starEach (e :: es) X.env = (false, eval e X.env) :: starEach es X.env := by rfl) (hpl : (backTo pos (starEach es X.env)).any (·.1) = false := by rfl) : PE X (.Call (.Name x p) (e :: es) [] pos) (tCB r t) := by
  intro pins s σ H Q I h
  refine wpAny_Call_Name_kw (ld_blt I hg hm hv ?_ hn hdb)
  exact PyProof.Rows.callWith_type1 (thn (ha pos pins s σ H _ I h) fun us s1 ⟨vs, H1, I1, r1, q1⟩ => hc pins s1 σ H1 vs us Q I1 r1 q1) he hpl
end
end L2

namespace HT
open PySem PyProof.Rows

section
open PySem.SeqAt
open PySem.AutoSeq1 (wpAny_loadPart')
open PySem.MeetsSeq PySem.MeetsSeq2 PySem.MeetsSeq3

end

section
variable {prog : Program} {w : World} {A : Around} {E : Value → Shared → Prop} {s : Shared}

/-- t + u, t not empty -/
theorem cat_tup {t b : Addr} {vs ws : List Value} {Q : Value → Shared → Prop} (ht : IsTup s.heap t vs.toArray) (hb : IsTup s.heap b ws.toArray) (hv : vs ≠ [])
    (h1 : ws = [] → Q (.ref t) s) (h2 : ws ≠ [] → Q (.ref s.heap.objs.size) { s with heap := s.heap.push { cls := .type "tuple", data := .seq (vs ++ ws).toArray } })
    (hsz : vs.length + ws.length ≤ sizeLine) : wpAny (model prog w) A (binaryOp .Add (.ref t) (.ref b)) Q E s := by
  obtain ⟨⟨cls, dd, data, sl⟩, ho, hc, n, hd⟩ := id ht
  obtain ⟨⟨cls2, dd2, data2, sl2⟩, ho2, hc2, n2, hd2⟩ := id hb
  simp only at hc hd hc2 hd2
  subst hc hd hc2 hd2
  have e : vs.toArray ++ ws.toArray = (vs ++ ws).toArray := by simp
  by_cases hw : ws = []
  · exact concat_meets ⟨_, ho, rfl⟩ ⟨_, ho2, rfl⟩ noFill_tuple_add seq_tuple_add PySem.F.slot_tuple_add PySem.F.entry_tuple_add (PySem.F.args_tuple_add_2 _ _)
      (tuple_addW1 t b vs.toArray ws.toArray n n2 dd dd2 sl sl2 (by simpa using hv) (by simp [hw])) ⟨ho, ho2, h1 hw⟩
  · refine concat_meets ⟨_, ho, rfl⟩ ⟨_, ho2, rfl⟩ noFill_tuple_add seq_tuple_add PySem.F.slot_tuple_add PySem.F.entry_tuple_add (PySem.F.args_tuple_add_2 _ _)
      (tuple_addW2 t b vs.toArray ws.toArray n n2 dd dd2 sl sl2 (by simpa using hv) (by simpa using hw) (by rw [List.size_toArray, List.size_toArray]; exact hsz)) ⟨ho, ho2, ?_⟩
    rw [e]
    exact h2 hw

/-! ### t[a:b], not the whole -/
/-- a slice's bound as a place among n (d where it is left out) -/
def sIx (n d : Nat) : Option Int → Nat
  | none => d
  | some v => if v < 0 then (v + (n : Int)).toNat else min v.toNat n
theorem sIx_nat (n d k : Nat) : sIx n d (some (k : Int)) = min k n := by
  show (if (k : Int) < 0 then ((k : Int) + (n : Int)).toNat else min (k : Int).toNat n) = min k n
  rw [if_neg (by omega), Int.toNat_natCast]
theorem sIx_le (n d : Nat) (hd : d ≤ n) (o : Option Int) : sIx n d o ≤ n := by
  cases o with
  | none => exact hd
  | some v =>
    show (if v < 0 then (v + (n : Int)).toNat else min v.toNat n) ≤ n
    by_cases hv : v < 0
    · rw [if_pos hv]; omega
    · rw [if_neg hv]; exact Nat.min_le_right _ _
theorem clip_eq (v : Int) (n d : Nat) : (if v < 0 then max (v + (n : Int)) 0 else min v (n : Int)) = ((sIx n d (some v) : Nat) : Int) := by
  show (if v < 0 then max (v + (n : Int)) 0 else min v (n : Int)) = (((if v < 0 then (v + (n : Int)).toNat else min v.toNat n) : Nat) : Int)
  by_cases hv : v < 0
  · simp only [if_pos hv]; omega
  · simp only [if_neg hv]; omega
theorem adjust_gen (lo hi : Option Int) (n : Nat) : Builtin.Slice.sliceAdjust lo hi 1 (n : Int) = (((sIx n 0 lo : Nat) : Int), ((sIx n n hi : Nat) : Int)) := by
  have h1 : ¬ ((1 : Int) < 0) := by omega
  unfold Builtin.Slice.sliceAdjust
  simp only [h1, if_false]
  refine Prod.ext ?_ ?_
  · cases lo with
    | none => rfl
    | some v => exact clip_eq v n 0
  · cases hi with
    | none => rfl
    | some v => exact clip_eq v n n
theorem places_gen (i j : Nat) : Builtin.Slice.slicePlaces (i : Int) (j : Int) 1 = j - i := by
  unfold Builtin.Slice.slicePlaces
  have h1 : (1 : Int) > 0 := by omega
  simp only [h1, if_true, Int.ediv_one]
  split <;> omega
theorem slicePart_ {v : Value} {o : Option Int} {Q : Option Int → Shared → Prop} (p : IsPart v o) (h : Q o s) : wpAny (model prog w) A (Builtin.Slice.slicePartIndex v) Q E s := by
  cases p with
  | none => exact slicePart_none h
  | int i t => exact slicePart_int h
theorem sliceApplied_gen {sl : Addr} {vl vu : Value} {lo hi : Option Int} {n : Nat} {Q : Int × Int × Nat → Shared → Prop} (hs : s.heap.IsSliceOf sl vl vu .none) (pl : IsPart vl lo) (pu : IsPart vu hi)
    (h : Q (((sIx n 0 lo : Nat) : Int), 1, sIx n n hi - sIx n 0 lo) s) : wpAny (model prog w) A (Builtin.Slice.sliceApplied (.ref sl) (pure (n : Int))) Q E s := by
  obtain ⟨os, hos, hcs, hds⟩ := id hs
  unfold Builtin.Slice.sliceApplied Builtin.Slice.sliceFields
  refine wpAny_bind (wpAny_bind (wpAny_field hos hds (x := vl) rfl (wpAny_bind (wpAny_field hos hds (x := vu) rfl (wpAny_bind (wpAny_field hos hds (x := .none) rfl (wpAny_pure ?_)))))))
  refine wpAny_bind (slicePart_none ?_)
  show wpAny _ _ (if ((1 : Int) == 0) = true then _ else _) _ _ s
  rw [if_neg (by decide)]
  refine wpAny_bind (slicePart_ pl (wpAny_bind (slicePart_ pu (wpAny_bind (wpAny_pure ?_)))))
  show wpAny _ _ (match Builtin.Slice.sliceAdjust lo hi 1 (n : Int) with | (lo, hi) => pure (lo, (1 : Int), Builtin.Slice.slicePlaces lo hi 1)) _ _ s
  rw [adjust_gen lo hi n]
  show wpAny _ _ (pure (((sIx n 0 lo : Nat) : Int), (1 : Int), Builtin.Slice.slicePlaces ((sIx n 0 lo : Nat) : Int) ((sIx n n hi : Nat) : Int) 1)) _ _ s
  rw [places_gen]
  exact wpAny_pure h
theorem pick_gen (xs : Array Value) (i k : Nat) : ((List.range k).filterMap fun (m : Nat) => xs[((i : Int) + (m : Int) * 1).toNat]?).toArray = ((xs.toList.drop i).take k).toArray := by
  have e : (fun (m : Nat) => xs[((i : Int) + (m : Int) * 1).toNat]?) = fun m => xs[i + m]? := by
    funext m
    have : ((i : Int) + (m : Int) * 1).toNat = i + m := by omega
    rw [this]
  rw [e]
  have := pick_run xs i k
  rw [List.filterMap_map] at this
  have e2 : ((fun x => xs[x]?) ∘ fun x => i + x) = fun m => xs[i + m]? := rfl
  rw [e2] at this
  rw [this]

theorem getItem_tuple_cut {t sl : Addr} {items : Array Value} {vl vu : Value} {lo hi : Option Int} {Q : Value → Shared → Prop} (ht : IsTup s.heap t items) (hs : s.heap.IsSliceOf sl vl vu .none) (pl : IsPart vl lo) (pu : IsPart vu hi)
    (hw : ¬ (sIx items.size 0 lo = 0 ∧ sIx items.size items.size hi = items.size))
    (h : Q (.ref s.heap.objs.size) { s with heap := s.heap.push { cls := .type "tuple", data := .seq ((items.toList.drop (sIx items.size 0 lo)).take (sIx items.size items.size hi - sIx items.size 0 lo)).toArray } })
    (hsz : items.size ≤ sizeLine) : wpAny (model prog w) A (getItem (.ref t) (.ref sl)) Q E s := by
  have htake : sizeOk (.seq ((items.toList.drop (sIx items.size 0 lo)).take (sIx items.size items.size hi - sIx items.size 0 lo)).toArray) := by
    show ((items.toList.drop (sIx items.size 0 lo)).take (sIx items.size items.size hi - sIx items.size 0 lo)).toArray.size ≤ sizeLine
    rw [List.size_toArray, List.length_take, List.length_drop, Array.length_toList]
    omega
  have hj : sIx items.size items.size hi ≤ items.size := sIx_le _ _ (Nat.le_refl _) hi
  obtain ⟨os, hos, hcs, hds⟩ := id hs
  have hTs : s.TypeIs (.ref sl) "slice" := ⟨os, hos, hcs⟩
  unfold getItem
  try with_reducible refine wpAny_holding ?_
  first | refine wpAny_bind (wpAny_pure ?_) | skip
  refine wpAny_bind (wpAny_sequenceKey ht.typeIs (by decide) ?_)
  refine wpAny_bind (wpAny_callSpecial?_slot (name := Str.ofString "__getitem__") ht.typeIs PyProof.Rows.slot_tuple_getitem
    (wpAny_call_entry PyProof.Rows.slot_tuple_getitem ht.typeIs entry_tuple_getitem ?_ (args_tuple_getitem _ _)))
  show wpAny _ _ (Builtin.Tuple.tupleItemsOf (.ref t) >>= _) _ _ s
  refine wpAny_bind (tupleItemsOf_ ht ?_)
  refine wpAny_bind (wpAny_typeOf hTs ?_)
  rw [if_pos (by decide)]
  refine wpAny_bind (sliceApplied_gen hs pl pu ?_)
  have hno : ¬ ((((sIx items.size 0 lo : Nat) : Int) == 0 && (1 : Int) == 1 && (sIx items.size items.size hi - sIx items.size 0 lo) == items.size) = true) := by
    intro q
    rw [Bool.and_eq_true, Bool.and_eq_true] at q
    have q1 : ((sIx items.size 0 lo : Nat) : Int) = 0 := eq_of_beq q.1.1
    have q2 : sIx items.size items.size hi - sIx items.size 0 lo = items.size := eq_of_beq q.2
    exact hw ⟨by omega, by omega⟩
  show wpAny _ _ (if (((sIx items.size 0 lo : Nat) : Int) == 0 && (1 : Int) == 1 && (sIx items.size items.size hi - sIx items.size 0 lo) == items.size) = true then _ else _) _ _ s
  rw [if_neg hno, pick_gen]
  first
    | exact wpAny_bind (m := Builtin.Tuple.tupleExact _) (wpAny_newObj_type (wpAny_pure ⟨_, rfl, wpAny_pure h⟩) htake)
    | exact wpAny_bind (m := Builtin.Tuple.tupleExact _) (wpAny_newObj_type (wpAny_bind (wpAny_pure (wpAny_pure ⟨_, rfl, wpAny_pure h⟩))) htake)
    | exact wpAny_bind (wpAny_bind (m := Builtin.Tuple.tupleExact _) (wpAny_newObj_type (wpAny_pure (wpAny_pure ⟨_, rfl, wpAny_pure h⟩)) htake))
    | exact wpAny_bind (wpAny_bind (m := Builtin.Tuple.tupleExact _) (wpAny_newObj_type (wpAny_pure ⟨_, rfl, wpAny_pure h⟩) htake))
end
end HT

namespace L2
open PySem PySem.Spec PyProof.Rows

/-! ### the parts of a slice -/
abbrev TO := St → Hp → (Option Int → Hp → Prop) → Prop
/-- a slice's part (left out, or an int) -/
def PO (X : Cx) (e : Option Expr) (t : TO) : Prop :=
  ∀ (pins : List (Addr × Obj)) (s : Shared) (σ : St) (H : Hp) (Q : Option Int → Hp → Prop), Inv X pins σ H s → t σ H Q →
    wpAny (model X.prog X.w) X.A (evalPart e X.env) (fun u s' => ∃ o H', Inv X pins σ H' s' ∧ IsPart u o ∧ Q o H') X.xe s
def tNoPart : TO := fun _ H Q => Q none H
def tPart (t : TE) : TO := fun σ H Q => t σ H fun x H1 => ∃ i, x = .int i ∧ Q (some i) H1

section
variable {X : Cx} {e : Expr} {te : TE} {lo hi : Option Expr} {tl th : TO} {pos p2 : Pos}

theorem po_none : PO X none tNoPart := by
  intro pins s σ H Q I h
  rw [evalPart_none]
  exact wpAny_pure ⟨none, H, I, .none, h⟩
theorem po_some (h : PE X e te) : PO X (some e) (tPart te) := by
  intro pins s σ H Q I hw
  rw [evalPart_some]
  refine thn (h pins s σ H _ I hw) fun u s1 ⟨x, H1, I1, r1, q1⟩ => ?_
  obtain ⟨i, rfl, q⟩ := q1
  obtain ⟨t, rfl⟩ := r1
  exact ⟨some i, H1, I1, .int i t, q⟩

/-- what a slice of a value is, by values: the slice object stands at sl -/
def SlR (X : Cx) (r : V → Option Int → Option Int → Hp → VK → Prop) : Prop :=
  ∀ (pins : List (Addr × Obj)) (s : Shared) (σ : St) (H : Hp) (x : V) (v vl vu : Value) (lo hi : Option Int) (sl : Addr) (Q : VK), Inv X pins σ H s → RelV x v → s.heap.IsSliceOf sl vl vu .none → IsPart vl lo → IsPart vu hi → r x lo hi H Q →
    ∃ T id, typeLookup (.type T) "__getitem__" = pure (some (.builtin id)) ∧ s.TypeIs v T ∧ wpAny (model X.prog X.w) X.A (getItem v (.ref sl)) (EP X pins σ Q) X.xe s
def tSl (r : V → Option Int → Option Int → Hp → VK → Prop) (te : TE) (tl th : TO) : TE := fun σ H Q => te σ H fun x H1 => tl σ H1 fun l H2 => th σ H2 fun u H3 => r x l u H3 Q
/-- a[lo:hi], any a -/
theorem pe_slice {r : V → Option Int → Option Int → Hp → VK → Prop} (hr : SlR X r) (he : PE X e te) (hl : PO X lo tl) (hu : PO X hi th) : PE X (.Subscript e (.Slice lo hi none p2) pos) (tSl r te tl th) := by
  intro pins s σ H Q I h
  refine Subscript_ (thn (he pins s σ H _ I h) fun v s1 ⟨x, H1, I1, r1, q1⟩ => ?_)
  refine wpAny_Slice (thn (hl pins s1 σ H1 _ I1 q1) fun vl s2 ⟨l, H2, I2, pl, q2⟩ => thn (hu pins s2 σ H2 _ I2 q2) fun vu s3 ⟨u, H3, I3, pu, q3⟩ => ?_)
  rw [evalPart_none]
  refine wpAny_pure ?_
  have I4 : Inv X pins σ H3 { s3 with heap := s3.heap.push { cls := .type "slice", data := .fields #[vl, vu, .none] } } := I3.kept (t' := s3.toks) fun b ob q => Heap.get?_push_of_some _ q
  obtain ⟨T, id, hT, ht, hg⟩ := hr pins { s3 with heap := s3.heap.push { cls := .type "slice", data := .fields #[vl, vu, .none] } } σ H3 x v vl vu l u s3.heap.objs.size Q I4 r1 (Heap.IsSliceOf.new ..) pl pu q3
  show wpAny (model X.prog X.w) X.A (subscriptTail e (.Slice lo hi none p2) v (.ref s3.heap.objs.size)) (EP X pins σ Q) X.xe { s3 with heap := s3.heap.push { cls := .type "slice", data := .fields #[vl, vu, .none] } }
  exact tail_any (ops := [.ref s3.heap.objs.size, v]) ht hT hg (by with_unfolding_all rfl)

/-- the items of xs[lo:hi] -/
def cutV (xs : List V) (lo hi : Option Int) : List V := (xs.drop (HT.sIx xs.length 0 lo)).take (HT.sIx xs.length xs.length hi - HT.sIx xs.length 0 lo)
theorem cutV_length (xs : List V) (lo hi : Option Int) : (cutV xs lo hi).length ≤ xs.length := by
  unfold cutV
  rw [List.length_take, List.length_drop]
  omega
/-- t[lo:hi], not the whole of it (the whole would be t itself) -/
def rSlT (K : PySem.W.Frag) : V → Option Int → Option Int → Hp → VK → Prop := fun x lo hi H Q => ∃ a xs, x = .ref a ∧ SqT K H a xs ∧
  ¬ (HT.sIx xs.length 0 lo = 0 ∧ HT.sIx xs.length xs.length hi = xs.length) ∧ ∀ p, H p = none → Q (.ref p) (upd H p (.tup (cutV xs lo hi)))
theorem sl_tup : SlR X (rSlT X.K) := by
  intro pins s σ H x v vl vu lo hi sl Q I rx hs pl pu h
  obtain ⟨a, xs, rfl, hx, hw, q⟩ := h
  cases rx
  obtain ⟨its, r, ht, hz⟩ := I.tuple hx
  have hlen : its.toArray.size = xs.length := by rw [List.size_toArray]; exact r.length.symm
  refine ⟨"tuple", _, PyProof.Rows.slot_tuple_getitem.lookup, ht.typeIs, ?_⟩
  refine HT.getItem_tuple_cut ht hs pl pu (by rw [hlen]; exact hw) ?_ (by rw [hlen]; exact hz)
  rw [hlen]
  refine ⟨.ref s.heap.objs.size, _, I.laid (t' := s.toks) (o := .tup (cutV xs lo hi)) (fun b ob q => Heap.get?_push_of_some _ q) (Nat.le_refl _) ?_, rfl, q _ (I.hok.fresh (Nat.le_refl _))⟩
  exact ⟨Nat.le_trans (cutV_length xs lo hi) hz, _, (r.drop (HT.sIx xs.length 0 lo)).take (HT.sIx xs.length xs.length hi - HT.sIx xs.length 0 lo), IsTup.new _ _⟩

/-! ### t < u, t + u -/
/-- t + u, t not empty: u empty gives t itself -/
def rCatT (K : PySem.W.Frag) : R2 := fun x y H Q => ∃ a b xs ys, x = .ref a ∧ y = .ref b ∧ SqT K H a xs ∧ SqT K H b ys ∧ xs ≠ [] ∧ xs.length + ys.length ≤ sizeLine ∧
  (ys = [] → Q (.ref a) H) ∧ (ys ≠ [] → ∀ p, H p = none → Q (.ref p) (upd H p (.tup (xs ++ ys))))
theorem Vals.nil_iff {xs : List V} {us : List Value} (r : Vals xs us) : us = [] ↔ xs = [] := by
  cases r with
  | nil => simp
  | cons _ _ => simp
theorem op_catT : OpR X (binaryOp .Add) (rCatT X.K) := by
  intro pins s σ H x y v u Q I rx ry h
  obtain ⟨a, b, xs, ys, rfl, rfl, ha, hb, hx, hz, q1, q2⟩ := h
  cases rx
  cases ry
  obtain ⟨its, r1, p1, _⟩ := I.tuple ha
  obtain ⟨its2, r2, p2, _⟩ := I.tuple hb
  refine HT.cat_tup p1 p2 (fun z => hx (r1.nil_iff.mp z)) (fun z => ⟨.ref a, H, I, rfl, q1 (r2.nil_iff.mp z)⟩) (fun z => ?_) (by rw [← r1.length, ← r2.length]; exact hz)
  refine ⟨.ref s.heap.objs.size, _, I.laid (t' := s.toks) (o := .tup (xs ++ ys)) (fun b ob q => Heap.get?_push_of_some _ q) (Nat.le_refl _) ?_, rfl, q2 (fun w => z (r2.nil_iff.mpr w)) _ (I.hok.fresh (Nat.le_refl _))⟩
  exact ⟨by rw [List.length_append]; exact hz, _, r1.append r2, IsTup.new _ _⟩
end
end L2

namespace L2
open PySem PySem.Spec PyProof.Rows

/-! ### places -/
/-- the place that an index of any sign means -/
def ixN (n : Nat) (i : Int) : Option Nat := if 0 ≤ i then (if i < n then some i.toNat else none) else if -(n : Int) ≤ i then some (i + n).toNat else none
def atI {α : Type} (xs : List α) (i : Int) : Option α := (ixN xs.length i).bind fun j => xs[j]?
theorem ixN_seq {n : Nat} {i : Int} {j : Nat} (h : ixN n i = some j) : seqIndex? i n = some j ∧ j < n ∧ -(n : Int) ≤ i ∧ i < n := by
  unfold ixN at h
  by_cases h0 : 0 ≤ i
  · rw [if_pos h0] at h
    by_cases h1 : i < n
    · rw [if_pos h1] at h
      have e : i.toNat = j := Option.some.inj h
      exact ⟨by rw [seqIndex_of h0 h1, e], by omega, by omega, h1⟩
    · rw [if_neg h1] at h; cases h
  · rw [if_neg h0] at h
    by_cases h1 : -(n : Int) ≤ i
    · rw [if_pos h1] at h
      have e : (i + n).toNat = j := Option.some.inj h
      exact ⟨by rw [seqIndex_neg (by omega) h1, e], by omega, h1, by omega⟩
    · rw [if_neg h1] at h; cases h
theorem atI_get {α : Type} {xs : List α} {i : Int} {v : α} (h : atI xs i = some v) : ∃ j, seqIndex? i xs.length = some j ∧ xs[j]? = some v ∧ j < xs.length ∧ -(xs.length : Int) ≤ i ∧ i < xs.length := by
  unfold atI at h
  cases e : ixN xs.length i with
  | none => rw [e] at h; cases h
  | some j =>
    rw [e] at h
    obtain ⟨h1, h2, h3, h4⟩ := ixN_seq e
    exact ⟨j, h1, h, h2, h3, h4⟩
theorem atI_nat {α : Type} {xs : List α} {j : Nat} {v : α} (h : xs[j]? = some v) : atI xs (j : Int) = some v := by
  have hj : j < xs.length := (List.getElem?_eq_some_iff.mp h).1
  have e : ixN xs.length (j : Int) = some j := by
    unfold ixN
    rw [if_pos (by omega), if_pos (by omega)]; simp
  unfold atI; rw [e]; exact h
/-! ### what may be subscripted -/
/-- what stands as an index of a plain subscript -/
def PlainIx (b : Expr) : Prop := ∀ o i, subscripted b false o i = operate [o, i] (getItem o i)
/-- a subscript by values -/
def IxR (X : Cx) (r : R2) : Prop :=
  ∀ (value slice : Expr) (pins : List (Addr × Obj)) (s : Shared) (σ : St) (H : Hp) (x y : V) (v u : Value) (Q : VK), Inv X pins σ H s → RelV x v → RelV y u → r x y H Q →
    subscripted slice false v u = operate [v, u] (getItem v u) → wpAny (model X.prog X.w) X.A (subscriptTail value slice v u) (EP X pins σ Q) X.xe s
/-- a call of a builtin's method by values: the receiver, the arguments -/
def MtR (X : Cx) (id : String) (r : V → List V → Hp → VK → Prop) : Prop :=
  ∀ (pins : List (Addr × Obj)) (s : Shared) (σ : St) (H : Hp) (x : V) (xs : List V) (v : Value) (us : List Value) (Q : VK), Inv X pins σ H s → RelV x v → Vals xs us → r x xs H Q →
    wpAny (model X.prog X.w) X.A (call (.builtin id) (v :: us)) (EP X pins σ Q) X.xe s
section
variable {X : Cx} {a b : Expr} {ta tb : TE} {pos : Pos}
theorem IxR.or {r r' : R2} (h : IxR X r) (h' : IxR X r') : IxR X (fun x y H Q => r x y H Q ∨ r' x y H Q) := by
  intro value slice pins s σ H x y v u Q I rx ry q hs
  rcases q with q | q
  · exact h value slice pins s σ H x y v u Q I rx ry q hs
  · exact h' value slice pins s σ H x y v u Q I rx ry q hs
/-- a[b] -/
theorem pe_ix {r : R2} (hr : IxR X r) (ha : PE X a ta) (hb : PE X b tb) (hs : PlainIx b) : PE X (.Subscript a b pos) (tOp r ta tb) := by
  intro pins s σ H Q I h
  exact Subscript_ (binT ha hb I h fun v u s2 x y H2 I2 rx ry q => hr a b pins s2 σ H2 x y v u Q I2 rx ry q (hs _ _))

def rIxL (K : PySem.W.Frag) : R2 := fun x y H Q => ∃ p xs i v, x = .ref p ∧ y = .int i ∧ SqL K H p xs ∧ atI xs i = some v ∧ Q v H
def rIxT (K : PySem.W.Frag) : R2 := fun x y H Q => ∃ p xs i v, x = .ref p ∧ y = .int i ∧ SqT K H p xs ∧ atI xs i = some v ∧ Q v H
def rIxS : R2 := fun x y H Q => ∃ z i c, x = .str z ∧ y = .int i ∧ z.length ≤ sizeLine ∧ atI z.cps.toList i = some c ∧ Q (.str ⟨#[c]⟩) H
theorem ix_list : IxR X (rIxL X.K) := by
  intro value slice pins s σ H x y v u Q I rx ry h hs
  obtain ⟨p, xs, i, z, rfl, rfl, hq, he, q⟩ := h
  cases rx
  obtain ⟨t, rfl⟩ := ry
  obtain ⟨its, r, pl, hz⟩ := I.list hq
  obtain ⟨j, h1, h2, h3, h4, h5⟩ := atI_get he
  obtain ⟨w, ew, rw'⟩ := r.get h2
  have hl := r.length
  have hn := line63
  have fin : EP X pins σ Q w s := ⟨z, H, I, rw', q⟩
  by_cases h0 : 0 ≤ i
  · have hj : i.toNat = j := by
      rw [seqIndex_of h0 h5] at h1
      exact Option.some.inj h1
    exact item_listR pl.isList h0 (by omega) (by rw [hj]; simpa using ew) fin hs
  · have hj : (i + (its.toArray.size : Int)).toNat = j := by
      rw [seqIndex_neg (by omega) h4] at h1
      rw [List.size_toArray, ← hl]
      exact Option.some.inj h1
    exact subscriptTail_builtinR (x := w) pl.isList.typeIs slot_list_getitem.lookup
      (wpAny_getItem_list_neg (Q := fun r s' => r = w ∧ EP X pins σ Q r s') pl.isList (by omega) (by rw [List.size_toArray] <;> omega) (by omega) (by rw [hj]; simpa using ew) ⟨rfl, fin⟩) hs
theorem ix_tup : IxR X (rIxT X.K) := by
  intro value slice pins s σ H x y v u Q I rx ry h hs
  obtain ⟨p, xs, i, z, rfl, rfl, hq, he, q⟩ := h
  cases rx
  obtain ⟨t, rfl⟩ := ry
  obtain ⟨its, r, pl, hz⟩ := I.tuple hq
  obtain ⟨j, h1, h2, h3, h4, h5⟩ := atI_get he
  obtain ⟨w, ew, rw'⟩ := r.get h2
  have hl := r.length
  have hn := line63
  have fin : EP X pins σ Q w s := ⟨z, H, I, rw', q⟩
  exact subscriptTail_builtinR (x := w) pl.typeIs slot_tuple_getitem.lookup
    (getItem_tuple (j := j) (Q := fun r s' => r = w ∧ EP X pins σ Q r s') pl (by omega) (by omega) (by rw [List.size_toArray, ← hl]; exact h1) (by simpa using ew) ⟨rfl, fin⟩) hs
theorem ix_str : IxR X rIxS := by
  intro value slice pins s σ H x y v u Q I rx ry h hs
  obtain ⟨z, i, c, rfl, rfl, hz, he, q⟩ := h
  obtain ⟨t, rfl⟩ := rx
  obtain ⟨t', rfl⟩ := ry
  obtain ⟨j, h1, h2, h3, h4, h5⟩ := atI_get he
  have hl : z.cps.toList.length = z.length := by simp [Str.length]
  rw [hl] at h1 h4 h5
  have hn := line63
  exact tail_any (typeIs_str s z t) slot_str_getitem.lookup (getItem_str (c := c) (by
    have e1 : decide (i < -(2 ^ 63 : Int)) = false := decide_eq_false (by omega)
    have e2 : decide (i ≥ 2 ^ 63) = false := decide_eq_false (by omega)
    rw [e1, e2, Bool.or_false]) (by rw [h1]; simpa using h2) ⟨.str ⟨#[c]⟩, H, I.tok _, ⟨_, rfl⟩, q⟩) hs
/-- list, tuple or str -/
def rIx (K : PySem.W.Frag) : R2 := fun x y H Q => rIxL K x y H Q ∨ rIxT K x y H Q ∨ rIxS x y H Q
theorem ix_seq : IxR X (rIx X.K) := ix_list.or (ix_tup.or ix_str)

/-! ### xs[i] = v, any sign -/
/-- the list's object behind a store -/
theorem mapSeq_set (its : List Value) (n j : Nat) (u : Value) : Obj.mapSeq (·.setIfInBounds j u) { cls := .type "list", data := .seq its.toArray n } = { cls := .type "list", data := .seq (its.set j u).toArray n } := by
  simp [Obj.mapSeq]
theorem Inv.lst {pins : List (Addr × Obj)} {σ : St} {H : Hp} {s : Shared} {p : Addr} {xs : List V} (I : Inv X pins σ H s) (h : H p = some (.lst xs)) :
    ∃ (its : List Value) (n : Nat), Vals xs its ∧ s.heap.get? p = some { cls := .type "list", data := .seq its.toArray n } ∧ xs.length ≤ sizeLine := by
  obtain ⟨z, its, n, r, e⟩ := I.hok p _ h
  exact ⟨its, n, r, e, z⟩
/-- the list at p is written by an update of its object -/
theorem Inv.lstUpd {pins : List (Addr × Obj)} {σ : St} {H : Hp} {s : Shared} {p : Addr} {xs ys : List V} {its its' : List Value} {n n' : Nat} {f : Obj → Obj} (I : Inv X pins σ H s) (h : H p = some (.lst xs))
    (ho : s.heap.get? p = some { cls := .type "list", data := .seq its.toArray n }) (hf : f { cls := .type "list", data := .seq its.toArray n } = { cls := .type "list", data := .seq its'.toArray n' }) (r : Vals ys its') (hz : ys.length ≤ sizeLine) (t : Nat) :
    Inv X pins σ (upd H p (.lst ys)) { s with heap := s.heap.update p f, toks := t } := by
  have e : (s.heap.update p f).get? p = some { cls := .type "list", data := .seq its'.toArray n' } := by
    rw [Heap.get?_update_self f ho (by rw [hf] <;> rfl), hf]
  refine I.write (x := p) (e := p) (by rw [h]; trivial) (.inl rfl) (fun b u hb q => (Heap.get?_update_other _ _ (Ne.symm hb)).trans q) ⟨_, e⟩ ?_
  exact ⟨hz, its', n', r, e⟩
def rSetL : V → V → V → Hp → (Hp → Prop) → Prop := fun o i v H Q => ∃ p xs k j, o = .ref p ∧ i = .int k ∧ H p = some (.lst xs) ∧ ixN xs.length k = some j ∧ Q (upd H p (.lst (xs.set j v)))
theorem set_list : PSet X rSetL := by
  intro pins s σ H o i v ov iv u Q I ro ri rv h
  obtain ⟨p, xs, k, j, rfl, rfl, hp, hj, q⟩ := h
  cases ro
  obtain ⟨t, rfl⟩ := ri
  obtain ⟨its, n, r, ho, hz⟩ := I.lst hp
  obtain ⟨h1, h2, h3, h4⟩ := ixN_seq hj
  have hl := r.length
  have hn := line63
  have I' : Inv X pins σ (upd H p (.lst (xs.set j v))) { s with heap := s.heap.update p (Obj.mapSeq (·.setIfInBounds j u)) } :=
    I.lstUpd hp ho (mapSeq_set its n j u) (r.set rv j) (by rw [List.length_set]; exact hz) s.toks
  by_cases h0 : 0 ≤ k
  · have hk : k.toNat = j := by
      rw [seqIndex_of h0 h4] at h1
      exact Option.some.inj h1
    exact PySem.W.ki_setAt ho h0 (by omega) (by rw [List.size_toArray, ← hl]; exact h4) (by rw [hk]; exact ⟨_, I', q⟩)
  · have hk : (k + (its.toArray.size : Int)).toNat = j := by
      rw [seqIndex_neg (by omega) h3] at h1
      rw [List.size_toArray, ← hl]
      exact Option.some.inj h1
    exact PySem.W.ki_setBack ho (by omega) (by rw [List.size_toArray, ← hl]; exact h3) (by omega) (by rw [hk]; exact ⟨_, I', q⟩)

/-! ### slices -/
theorem slice_bounds (lo hi : Option Int) (n : Nat) : (sliceBounds lo hi none n).1 = ((HT.sIx n 0 lo : Nat) : Int) ∧ (sliceBounds lo hi none n).2.1 = ((HT.sIx n n hi : Nat) : Int) ∧ (sliceBounds lo hi none n).2.2 = 1 := by
  refine ⟨?_, ?_, rfl⟩
  · cases lo with
    | none => simp [sliceBounds, HT.sIx]
    | some i =>
      simp only [sliceBounds, HT.sIx, Option.getD_none, show (1 : Int) > 0 by decide, if_true]
      by_cases h : i < 0
      · simp only [h, if_true] <;> omega
      · simp only [h, if_false] <;> omega
  · cases hi with
    | none => simp [sliceBounds, HT.sIx]
    | some i =>
      simp only [sliceBounds, HT.sIx, Option.getD_none, show (1 : Int) > 0 by decide, if_true]
      by_cases h : i < 0
      · simp only [h, if_true] <;> omega
      · simp only [h, if_false] <;> omega
theorem slicePick_cut (its : List Value) (lo hi : Option Int) : slicePick its.toArray lo hi none = ((its.drop (HT.sIx its.length 0 lo)).take (HT.sIx its.length its.length hi - HT.sIx its.length 0 lo)).toArray := by
  obtain ⟨h1, h2, h3⟩ := slice_bounds lo hi its.toArray.size
  unfold slicePick
  rw [h1, h2, h3]
  simp only [sliceRange_one, pick_run, List.size_toArray] <;> rfl
/-- xs[lo:hi] of a list: a new list -/
def rSlL (K : PySem.W.Frag) : V → Option Int → Option Int → Hp → VK → Prop := fun x lo hi H Q => ∃ a xs, x = .ref a ∧ SqL K H a xs ∧ ∀ p, H p = none → Q (.ref p) (upd H p (.lst (cutV xs lo hi)))
theorem sl_list : SlR X (rSlL X.K) := by
  intro pins s σ H x v vl vu lo hi sl Q I rx hs pl pu h
  obtain ⟨a, xs, rfl, hx, q⟩ := h
  cases rx
  obtain ⟨its, r, ht, hz⟩ := I.list hx
  have hlen := r.length
  refine ⟨"list", _, slot_list_getitem.lookup, ht.isList.typeIs, ?_⟩
  refine wpAny_getItem_list_slice ht.isList hs pl pu .none (by simp) ?_ (by rw [List.size_toArray] <;> omega)
  rw [slicePick_cut, ← hlen]
  refine ⟨.ref s.heap.objs.size, _, I.laid (t' := s.toks) (o := .lst (cutV xs lo hi)) (fun b ob q => Heap.get?_push_of_some _ q) (Nat.le_refl _) ?_, rfl, q _ (I.hok.fresh (Nat.le_refl _))⟩
  exact ⟨Nat.le_trans (cutV_length xs lo hi) hz, _, 0, (r.drop (HT.sIx xs.length 0 lo)).take (HT.sIx xs.length xs.length hi - HT.sIx xs.length 0 lo), Heap.get?_push_size _ rfl⟩

/-! ### in, not in: flat items -/
/-! ### len, list(x), tuple(x) of any list or tuple that is read -/
theorem call_len_seq : CallR X (.builtin "len") (fun xs H Q => ∃ p ys, xs = [.ref p] ∧ (SqL X.K H p ys ∨ SqT X.K H p ys) ∧ Q (.int ys.length) H) := by
  intro pins s σ H xs us Q I r h
  obtain ⟨p, ys, rfl, hq, q⟩ := h
  obtain ⟨u, rfl, rx⟩ := vals1 r
  cases rx
  have hn := line63
  rcases hq with hq | hq
  · obtain ⟨its, r', pl, hz⟩ := I.list hq
    have hlen := r'.length
    exact Calls.call_len_list pl.isList (by simp only [List.size_toArray] <;> omega) ⟨.int ys.length, H, I.tok _, ⟨s.toks + 1, by rw [List.size_toArray, hlen]⟩, q⟩
  · obtain ⟨its, r', pl, hz⟩ := I.tuple hq
    have hlen := r'.length
    exact len_tuple pl (by simp only [List.size_toArray] <;> omega) ⟨.int ys.length, H, I.tok _, ⟨s.toks + 1, by rw [List.size_toArray, hlen]⟩, q⟩
theorem call_list_of : CallR X (.type "list") (fun xs H Q => ∃ p ys, xs = [.ref p] ∧ (SqL X.K H p ys ∨ SqT X.K H p ys) ∧ ∀ l, H l = none → Q (.ref l) (upd H l (.lst ys))) := by
  intro pins s σ H xs us Q I r h
  obtain ⟨p, ys, rfl, hq, q⟩ := h
  obtain ⟨u, rfl, rx⟩ := vals1 r
  cases rx
  have fin : ∀ (its : List Value), Vals ys its → ys.length ≤ sizeLine → ∀ (h' : Heap) (c' : Nat), (∀ b o', s.heap.get? b = some o' → h'.get? b = some o') →
      h'.get? s.heap.objs.size = some { cls := .type "list", dict := none, data := .seq its.toArray c', slots := #[] } → EP X pins σ Q (.ref s.heap.objs.size) { s with heap := h' } := fun its r' hz h' c' kp e =>
    ⟨.ref s.heap.objs.size, _, I.laid (t' := s.toks) kp (Nat.le_refl _) (show ObjOk X.prog X.w _ h' _ (.lst ys) from ⟨hz, its, c', r', e⟩), rfl, q _ (I.hok.fresh (Nat.le_refl _))⟩
  rcases hq with hq | hq
  · obtain ⟨its, r', pl, hz⟩ := I.list hq
    have hlen := r'.length
    obtain ⟨o, ho, hc, n, hd⟩ := pl.isList
    exact call_list_seq p (.inl rfl) ho hc hd (fun h' c' kp e => fin its r' hz h' c' kp e) (by simp only [List.size_toArray] <;> omega)
  · obtain ⟨its, r', pl, hz⟩ := I.tuple hq
    have hlen := r'.length
    obtain ⟨o, ho, hc, n, hd⟩ := pl
    exact call_list_seq p (.inr rfl) ho hc hd (fun h' c' kp e => fin its r' hz h' c' kp e) (by simp only [List.size_toArray] <;> omega)
theorem call_tuple_of : CallR X (.type "tuple") (fun xs H Q => ∃ p ys, xs = [.ref p] ∧ ((SqL X.K H p ys ∧ ∀ l, H l = none → Q (.ref l) (upd H l (.tup ys))) ∨ (SqT X.K H p ys ∧ Q (.ref p) H))) := by
  intro pins s σ H xs us Q I r h
  obtain ⟨p, ys, rfl, h⟩ := h
  obtain ⟨u, rfl, rx⟩ := vals1 r
  cases rx
  rcases h with ⟨hq, q⟩ | ⟨hq, q⟩
  · obtain ⟨its, r', pl, hz⟩ := I.list hq
    have hlen := r'.length
    refine call_tuple_list pl.isList (fun h' kp => ?_) (by simp only [List.size_toArray] <;> omega)
    have I1 : Inv X pins σ H { s with heap := h' } := I.kept (t' := s.toks) kp
    have I2 : Inv X pins σ (upd H h'.objs.size (.tup ys)) { s with heap := h'.push { cls := .type "tuple", data := .seq its.toArray } } :=
      I1.laid (t' := s.toks) (fun b o e => Heap.get?_push_of_some _ e) (Nat.le_refl _) (show ObjOk X.prog X.w _ _ _ (.tup ys) from ⟨hz, its, r', IsTup.new _ _⟩)
    exact ⟨.ref h'.objs.size, _, I2, rfl, q _ (I1.hok.fresh (Nat.le_refl _))⟩
  · obtain ⟨its, r', pl, hz⟩ := I.tuple hq
    exact call_tuple_same pl ⟨.ref p, H, I, rfl, q⟩

/-! ### the call of a builtin's method: o.m(..) -/
/-- the value is of that builtin type -/
def tyV (K : PySem.W.Frag) (T : String) (x : V) (H : Hp) : Prop := match x with
  | .str _ => T = "str"
  | .int _ => T = "int"
  | .ref p => (T = "list" ∧ ∃ xs, SqL K H p xs) ∨ (T = "tuple" ∧ ∃ o, K.lookup p = some o ∧ o.cls = .type "tuple" ∧ o.dict = none) ∨
      (T = "dict" ∧ ((∃ kvs, H p = some (.dK kvs)) ∨ ∃ kvs, H p = some (.dT kvs))) ∨ (T = "set" ∧ ∃ S n, H p = some (.set S n))
  | _ => False
theorem tyV_is {pins : List (Addr × Obj)} {σ : St} {H : Hp} {s : Shared} {T : String} {x : V} {v : Value} (I : Inv X pins σ H s) (r : RelV x v) (ty : tyV X.K T x H) :
    s.TypeIs v T ∧ ∀ a, v = .ref a → ∃ ob, s.heap.get? a = some ob ∧ ob.dict = none := by
  cases x with
  | str z =>
    obtain ⟨t, rfl⟩ := r
    cases (show T = "str" from ty)
    exact ⟨typeIs_str s z t, fun _ e => nomatch e⟩
  | int i =>
    obtain ⟨t, rfl⟩ := r
    cases (show T = "int" from ty)
    exact ⟨typeIs_int s i t, fun _ e => nomatch e⟩
  | ref p =>
    cases r
    rcases ty with ⟨rfl, xs, hq⟩ | ⟨rfl, o, hk, hc, hd⟩ | ⟨rfl, hk⟩ | ⟨rfl, S, n, hk⟩
    · obtain ⟨its, _, pl, _⟩ := I.list hq
      refine ⟨pl.isList.typeIs, fun a e => ?_⟩
      cases e
      obtain ⟨o, n, e, c, hd, _⟩ := pl
      exact ⟨o, e, hd⟩
    · refine ⟨⟨o, I.kIn p o hk, hc⟩, fun a e => ?_⟩
      cases e
      exact ⟨o, I.kIn _ o hk, hd⟩
    · have z : ∃ o, s.heap.get? p = some o ∧ o.ExactDict := by
        rcases hk with ⟨kvs, hk⟩ | ⟨kvs, hk⟩
        · obtain ⟨_, _, _, _, o, _, _, e, ex, _⟩ := I.hok p _ hk
          exact ⟨o, e, ex⟩
        · obtain ⟨_, _, _, _, o, _, _, e, ex, _⟩ := I.hok p _ hk
          exact ⟨o, e, ex⟩
      obtain ⟨o, e, ex⟩ := z
      refine ⟨⟨o, e, ex.1⟩, fun a e2 => ?_⟩
      cases e2
      exact ⟨o, e, ex.2.1⟩
    · obtain ⟨o, _, _, _, e, ex, _⟩ := I.hok p _ hk
      refine ⟨⟨o, e, ex.1⟩, fun a e2 => ?_⟩
      cases e2
      exact ⟨o, e, ex.2.1⟩
  | _ => exact False.elim ty
def tBM (K : PySem.W.Frag) (T : String) (r : V → List V → Hp → VK → Prop) (to : TE) (t : TA) : TE := fun σ H Q => to σ H fun x H1 => tyV K T x H1 ∧ t σ H1 fun xs H2 => r x xs H2 Q
variable {o e : Expr} {es : List Expr} {to : TE} {t : TA} {name : Str} {apos cpos : Pos} {T id : String} {r : V → List V → Hp → VK → Prop}
theorem pe_bm (pa : PlainAttrs T) (slot : Slot T name id) (hty : typeOf (.builtin id) = pure (.type "method_descriptor")) (hm : MtR X id r) (ho : PE X o to) (ha : PA X (e :: es) t)
    (hbase : attributeBase o name X.env (eval o X.env) = eval o X.env := by rfl)
    (hfew : ((backTo cpos (starEach (e :: es) X.env)).all (fun x => !x.1) && (backToKw cpos (keywordEach [] X.env)).all (fun x => x.1.isSome)
      && decide ((e :: es).length + ([] : List Keyword).length + (if ([] : List Keyword).isEmpty then 0 else 1) < 30)) = true := by rfl)
    (hline : (apos.endLine == cpos.line) = true := by rfl) (hs : starEach (e :: es) X.env = (false, eval e X.env) :: starEach es X.env := by rfl) (hplain : (backTo cpos (starEach es X.env)).any (·.1) = false := by rfl) :
    PE X (.Call (.Attribute o name apos) (e :: es) [] cpos) (tBM X.K T r to t) := by
  intro pins s σ H Q I h
  refine wpAny_Call_method_late hbase hfew hline rfl (thn (ho pins s σ H _ I h) fun v s1 ⟨x, H1, I1, r1, ty, q1⟩ => ?_)
  obtain ⟨h1, h2⟩ := tyV_is I1 r1 ty
  refine ⟨T, id, pa, slot, hty, h1, h2, ?_⟩
  have hA := ha cpos pins s1 σ H1 _ I1 q1
  rw [hs] at hA ⊢
  refine Calls.callWith_builtin (by show (false || (backTo cpos (starEach es X.env)).any (·.1)) = false; rw [hplain] <;> rfl) (Calls.evalArgs_plain ?_)
  exact thn hA fun us s2 ⟨vs, H2, I2, r2, q2⟩ => hm pins s2 σ H2 x vs v us Q I2 r1 r2 q2
/- xs.append(e), list.index on a module's tuple .. are MtR facts of 06m -/
end
end L2

namespace L2
open PySem PySem.Spec PyProof.Rows

def MtM (X : Cx) (id : String) (r : V → List V → Hp → VK → Prop) : Prop :=
  ∀ (pins : List (Addr × Obj)) (s : Shared) (σ : St) (H : Hp) (x : V) (xs : List V) (v : Value) (us : List Value) (Q : VK), Inv X pins σ H s → RelV x v → Vals xs us → r x xs H Q →
    wpAny (model X.prog X.w) X.A (call (.builtin id) (v :: us)) (EP X pins σ Q) X.xe s

/-! ### lists of values -/
theorem Vals.one : ∀ {x : V} {us : List Value}, Vals [x] us → ∃ u, us = [u] ∧ RelV x u
  | _, _, .cons r .nil => ⟨_, rfl, r⟩
theorem Vals.two : ∀ {x y : V} {us : List Value}, Vals [x, y] us → ∃ u v, us = [u, v] ∧ RelV x u ∧ RelV y v
  | _, _, _, .cons r (.cons q .nil) => ⟨_, _, rfl, r, q⟩
section
variable {X : Cx} {pins : List (Addr × Obj)} {σ : St} {H : Hp} {s : Shared} {l b : Addr} {xs ys zs : List V}

/-! ### the two steps: a tracked list is rewritten, a new list is laid -/
theorem Inv.lset {its its' : List Value} {n : Nat} {f : Array Value → Array Value} {t' : Nat} (I : Inv X pins σ H s) (hH : H l = some (.lst xs))
    (e : s.heap.get? l = some { cls := .type "list", data := .seq its.toArray n }) (hf : f its.toArray = its'.toArray) (hv : Vals ys its') (hz : ys.length ≤ sizeLine) :
    Inv X pins σ (upd H l (.lst ys)) { s with heap := s.heap.update l (Obj.mapSeq f), toks := t' } := by
  have q := PySem.IsL.update e f
  rw [hf] at q
  refine I.write (x := l) (e := l) (by rw [hH]; exact trivial) (.inl rfl) (fun b' u hb hu => (Heap.get?_update_other s.heap (Obj.mapSeq f) (Ne.symm hb)).trans hu) ⟨_, q⟩ ?_
  exact ⟨hz, its', _, hv, q⟩
theorem Inv.lnew {its : List Value} {t' : Nat} (I : Inv X pins σ H s) (hv : Vals ys its) (hz : ys.length ≤ sizeLine) :
    Inv X pins σ (upd H s.heap.objs.size (.lst ys)) { s with heap := s.heap.push { cls := .type "list", data := .seq its.toArray }, toks := t' } :=
  I.laid (fun _ _ q => Heap.get?_push_of_some _ q) (Nat.le_refl _) ⟨hz, its, 0, hv, Heap.get?_push_size _ rfl⟩
theorem Inv.fresh (I : Inv X pins σ H s) : H s.heap.objs.size = none := I.hok.fresh (Nat.le_refl _)
theorem Inv.lstM (I : Inv X pins σ H s) (hH : H l = some (.lst xs)) : xs.length ≤ sizeLine ∧ ∃ (its : List Value) (n : Nat), Vals xs its ∧ xs.length = its.length ∧ s.heap.get? l = some { cls := .type "list", data := .seq its.toArray n } := by
  obtain ⟨z, its, n, r, e⟩ := I.hok l _ hH
  exact ⟨z, its, n, r, r.length, e⟩

theorem notLongL {n : Nat} (h : n ≤ sizeLine) : Builtin.List.listTooLong n = false := by
  unfold Builtin.List.listTooLong
  exact decide_eq_false (by omega)
end

section
variable {X : Cx}

/-! ### methods -/
def rAppend : V → List V → Hp → VK → Prop := fun x vs H Q => ∃ l xs y, x = .ref l ∧ vs = [y] ∧ H l = some (.lst xs) ∧ xs.length < sizeLine ∧ Q .non (upd H l (.lst (xs ++ [y])))
theorem mt_append : MtM X "list.append" rAppend := by
  intro pins s σ H x vs v us Q I rx rv h
  obtain ⟨l, xs, y, rfl, rfl, hH, hz, q⟩ := h
  cases rx
  obtain ⟨u, rfl, ru⟩ := rv.one
  obtain ⟨z, its, n, r, hl, e⟩ := I.lstM hH
  refine call_meets F.slot_list_append ⟨_, e, rfl⟩ F.entry_list_append (F.args_list_append_2 _ _) (PySem.list_append l its.toArray n u (by rw [List.size_toArray]; omega)) ⟨e, ?_⟩
  refine ⟨.non, _, I.lset (its' := its ++ [u]) hH e (by simp) (r.append (.cons ru .nil)) ?_, rfl, q⟩
  rw [List.length_append, List.length_singleton]
  omega

def rExtend : V → List V → Hp → VK → Prop := fun x vs H Q => ∃ l b xs zs, x = .ref l ∧ vs = [.ref b] ∧ H l = some (.lst xs) ∧ H b = some (.lst zs) ∧ xs.length + zs.length ≤ sizeLine ∧ Q .non (upd H l (.lst (xs ++ zs)))
theorem mt_extend : MtM X "list.extend" rExtend := by
  intro pins s σ H x vs v us Q I rx rv h
  obtain ⟨l, b, xs, zs, rfl, rfl, hH, hB, hz, q⟩ := h
  cases rx
  obtain ⟨u, rfl, ru⟩ := rv.one
  cases ru
  obtain ⟨z, its, n, r, hl, e⟩ := I.lstM hH
  obtain ⟨z2, its2, n2, r2, hl2, e2⟩ := I.lstM hB
  have hsz : its.toArray.size + its2.toArray.size ≤ sizeLine := by rw [List.size_toArray, List.size_toArray]; omega
  have hlong : ¬ (!its.toArray.isEmpty && Builtin.List.listTooLong (its.toArray.size + its2.toArray.size)) = true := by
    rw [notLongL hsz, Bool.and_false]
    exact Bool.false_ne_true
  refine call_meets F.slot_list_extend ⟨_, e, rfl⟩ F.entry_list_extend (F.args_list_extend_2 _ _)
    (AutoSeq1.list_extend_list_list_0 l its.toArray n b its2.toArray n2 hlong (by rw [List.size_toArray]; omega) (by omega)) ⟨e, e2, ?_⟩
  refine ⟨.non, _, I.lset (its' := its ++ its2) hH e (by simp) (r.append r2) ?_, rfl, q⟩
  rw [List.length_append]
  omega

/-! ### list + list, list += list, list * int -/
def rCat : R2 := fun x y H Q => ∃ l b xs zs, x = .ref l ∧ y = .ref b ∧ H l = some (.lst xs) ∧ H b = some (.lst zs) ∧ xs.length + zs.length ≤ sizeLine ∧ ∀ p, H p = none → Q (.ref p) (upd H p (.lst (xs ++ zs)))
theorem op_cat : OpR X (binaryOp .Add) rCat := by
  intro pins s σ H x y v u Q I rx ry h
  obtain ⟨l, b, xs, zs, rfl, rfl, hH, hB, hz, q⟩ := h
  cases rx
  cases ry
  obtain ⟨z, its, n, r, hl, e⟩ := I.lstM hH
  obtain ⟨z2, its2, n2, r2, hl2, e2⟩ := I.lstM hB
  refine PySem.P.add_list e e2 ?_ (by rw [List.size_toArray, List.size_toArray]; omega)
  have ea : its.toArray ++ its2.toArray = (its ++ its2).toArray := by simp
  rw [ea]
  exact ⟨.ref _, _, I.lnew (t' := s.toks) (r.append r2) (by rw [List.length_append]; omega), rfl, q _ I.fresh⟩
/-! ### del xs[i] -/
end

/-! ### xs[a:b] = ys -/
section
variable {prog : Program} {w : World} {A : Around} {E : Value → Shared → Prop} {s : Shared}
end

section
variable {X : Cx}
end
end L2

namespace Att
open PySem PySem.W PySem.Calls PyProof.Rows

/-! ### the script -/
theorem ints_of_wellAll {P : Params} {h : Heap} : ∀ (ns : List Int) (vs : List Value), WellAll P h vs (ns.map WData.int) → IntsAre vs ns := by
  intro ns
  induction ns with
  | nil =>
    intro vs w
    rw [List.map_nil] at w
    cases w
    exact .nil
  | cons n ns ih =>
    intro vs w
    rw [List.map_cons] at w
    cases w with
    | cons a b =>
      cases a
      exact .cons _ _ (ih _ b)

theorem script_of {l : OpenLaw} {n : Nat} (hn : l.most = some n) {P : Params} {h : Heap} {args : List WData} {vals : List Value}
    (hpre : l.row.toRowW.claim.pre args = true) (hwl : WellAll P h vals args) :
    ∃ a vs ns, vals = [Value.ref a] ∧ args = [WData.list (ns.map WData.int)] ∧ h.get? a = some { cls := .type "list", data := .seq vs.toArray } ∧ IntsAre vs ns ∧ ns.length ≤ n := by
  have hsh : WShape.hasAll [] args [.list .int] = true := (pre_splitW hpre).1
  have hc : l.pre.holds [] { args := args } = true := (pre_splitW hpre).2
  obtain ⟨d, r, rfl, h1, h2⟩ := hasAllW_cons hsh
  obtain rfl := hasAllW_nil h2
  obtain ⟨xs, rfl, h3⟩ := hasW_list h1
  obtain ⟨ns, rfl⟩ := items_int h3
  have hlen : ns.length ≤ n := by
    unfold OpenLaw.pre at hc
    have h4 : (WTm.not (.lt (.lit (.int (n : Int))) (.len (.arg 0)))).holds [] { args := [.list (ns.map .int)] } = true := by
      have h4 := (holds_andW hc).1
      rw [hn] at h4
      exact h4
    have h5 := condW_of h4 (w_not (w_lt w_lit (w_len_list (w_arg rfl))))
    rw [List.length_map] at h5
    refine Nat.le_of_not_lt fun q => ?_
    have q' : (n : Int) < ((ns.length : Nat) : Int) := by omega
    first
      | (rw [decide_eq_true q'] at h5; exact absurd h5 (by decide))
      | (simp at h5; omega)
  cases hwl with
  | cons w1 w2 =>
    cases w2
    cases w1 with
    | list ho hall => exact ⟨_, _, ns, rfl, rfl, ho, ints_of_wellAll ns _ hall, hlen⟩

theorem post_true (l : OpenLaw) (args : List WData) : l.row.toRowW.claim.post args (.bool true) args = true :=
  postW_of (r := l.row.toRowW) (X := (true == true))
    (show WShape.has [] (.bool true) .bool = true by first | rfl | decide | simp [WShape.has, WShape.arms, WShape.armsAll])
    (show (WTm.eq .res (.lit (.bool true))).value [] { args := args, res := some (.bool true), after := args } = some (.bool (true == true)) from w_eq_bool (w_res rfl) w_lit) rfl

/-! ### the attachment: holds_open's last premise (the goal 'hc' behind k_head) from a wpAny of the law's body -/
/-- the same from a codeAny of the CALL (for a layer whose function contracts speak of calls) -/
theorem attach_call {l : OpenLaw} {n : Nat} {q : Program} {loose : List Str} {XP : (Str → Option Value) → Heap → Prop} {YP : World → Heap → Prop} {d : DefRec}
    (hn : l.most = some n) (hdf : d.params.defaults = [])
    (call : ∀ (w : World) (s₀ s₁ : Shared) (mg mb : Str → Option Value) (fa : Addr) (o : Obj) (pm cd doc : Value) (a : Addr) (vs : List Value) (ns : List Int),
      Ground q loose [] XP w s₀ mg mb s₁.heap → YP w s₁.heap →
      s₁.heap.get? fa = some o → o.data = .func (docDef d.name d.params d.body d.scope pm cd doc) → s₁.heap.CodeRec cd d.name → mg d.name = some (.ref fa) →
      s₁.heap.get? a = some { cls := .type "list", data := .seq vs.toArray } → IntsAre vs ns → ns.length ≤ n → s₁.gens = #[] →
      codeAny (model l.prog w) callerA (.call (.ref fa) ⟨[.ref a], []⟩) (fun r s' => r = .ok (.ret (.bool true)) ∧ OldK s₁.heap s'.heap ∧ s'.os = s₁.os ∧ AllBare s'.gens) s₁) :
    WalkO q loose XP YP l.row.toRowW d [] (fun f vs => PySem.call f vs) := by
  intro w s₀ s₁ mg mb G Y fa o pm cd doc dV kV ho hd hcd hD hmg hg args vals as hpre hlay hrd hwl hlo
  obtain rfl : dV = .none := Dflts.none hD hdf
  obtain rfl : kV = .none := Dflts.noKw hD
  obtain ⟨a, vs, ns, rfl, rfl, hobj, hints, hlen⟩ := script_of hn hpre hwl
  refine enter_call (codeAny_mono (call w s₀ s₁ mg mb fa o pm cd doc a vs ns G Y ho (fd_plain hd) hcd hmg hobj hints hlen hg) fun r s' hq => ?_)
  obtain ⟨rfl, h2, h3, h4⟩ := hq
  exact ⟨.inl ⟨.bool true, .bool true, [], rfl, fun _ => rfl, .bool true, post_true l _, fun _ => ⟨List.Pairwise.nil, fun _ hm => (nomatch hm)⟩⟩, h2, h3, h4⟩

/-! ### rules over ANY heap (no ledger) from facts about the written part K: the library's own take a ledger (News) for what they write -/
section
variable {prog : Program} {w : World} {A : Around} {E : Value → Shared → Prop} {s : Shared} {K : Frag}

/-! the whole heap as the ledger: makes every rule that writes through a ledger a rule over any heap -/
end
end Att

namespace L2
open PySem PySem.Spec PyProof.Rows

theorem vals_ints : ∀ {vs : List Value} {ns : List Int}, IntsAre vs ns → Vals (ns.map V.int) vs
  | _, _, .nil => .nil
  | _, _, .cons n t h => .cons ⟨t, rfl⟩ (vals_ints h)

/-- nothing is tracked but the script, known to the object (or it is an object of the module) -/
def Only (H : Hp) : Prop := ∀ b, H b = none ∨ ∃ o xs, H b = some (.frz o (.lst xs))

/-- THE HEAD: the law's promise, at the heap behind the top. F, the promise of the law's def, may use that base is part of the heap (so K.In base, base.Ns mainGlobals mg stand in Mod) -/
theorem law_call {P : Program} {w : World} {K : PySem.W.Frag} {mg mb : Str → Option Value} {CX : CXT} {k : Nat} {fa a : Addr} {fd : FuncData} {x : Str} {sp : Sp} {s₁ : Shared} {vs : List Value} {ns : List Int}
    (KX : K.In s₁.heap) (hns : s₁.heap.Ns mainGlobals mg) (hb : s₁.heap.Ns builtinsNs mb) (hbb : ∀ x : Str, x ≠ "__name__" → mb x = bootBuiltins x) (hlim : s₁.heap.NoLimit) (hg : s₁.gens = #[])
    (ha : s₁.heap.get? a = some { cls := .type "list", data := .seq vs.toArray }) (hi : IntsAre vs ns) (hl : ns.length ≤ sizeLine) (hr : Room k callerA)
    (F : ∀ base : Heap, K.In base → base.Ns mainGlobals mg → FnOk P w K mg base CX k fa fd [x] sp) (hbind : ∀ (s : Shared) (u : Value), BindsTo s fd ⟨[u], []⟩ [(x, u)])
    (hsp : ∀ H : Hp, Only H → SqL K H a (ns.map V.int) → sp [.ref a] H (fun v _ => v = .bl true) fun _ _ _ => False)
    (hCX : ∀ H e s', CX [] H s₁ (fun _ _ _ => False) e s' → False) :
    codeAny (model P w) callerA (.call (.ref fa) ⟨[.ref a], []⟩) (fun r s' => r = .ok (.ret (.bool true)) ∧ OldK s₁.heap s'.heap ∧ s'.os = s₁.os ∧ AllBare s'.gens) s₁ := by
  have rv := vals_ints hi
  have lenV := hi.length
  -- from an abstract heap in which nothing but the script may be tracked
  have core : ∀ H : Hp, Only H → SqL K H a (ns.map V.int) → HOk P w H s₁.heap → (∀ b, H b ≠ none → b = a) → (H a ≠ none → K.lookup a = none) →
      codeAny (model P w) callerA (.call (.ref fa) ⟨[.ref a], []⟩) (fun r s' => r = .ok (.ret (.bool true)) ∧ OldK s₁.heap s'.heap ∧ s'.os = s₁.os ∧ AllBare s'.gens) s₁ := by
    intro H hO hS hok hA hK
    have base_of : ∀ {b : Addr} {o : Obj}, s₁.heap.get? b = some o → H b = none → (hidT s₁.heap H).get? b = some o := fun e n => hidT_get e n
    have noA : ∀ {b : Addr} {o : Obj} {es : Array DictEntry} {ep : Nat}, s₁.heap.get? b = some o → o.data = .dict es ep → H b = none := fun {b o es ep} e d => by
      cases q : H b with
      | none => rfl
      | some u =>
        have e' : b = a := hA b (by rw [q]; simp)
        subst e'
        rw [ha] at e; cases e
        have d' : Data.seq vs.toArray _ = Data.dict es ep := d
        cases d'
    have nsK : ∀ {b : Addr} {m : Str → Option Value}, s₁.heap.Ns b m → (hidT s₁.heap H).Ns b m := fun {b m} ⟨o, es, ep, e, d, r⟩ => ⟨o, es, ep, base_of e (noA e d), d, r⟩
    have hKb : K.In (hidT s₁.heap H) := fun b o e => base_of (KX b o e) (by
      cases q : H b with
      | none => rfl
      | some u =>
        have e' : b = a := hA b (by rw [q]; simp)
        subst e'
        rw [hK (by rw [q]; simp)] at e; cases e)
    have hM : Mod K mg (hidT s₁.heap H) := ⟨hKb, nsK hns, ⟨mb, nsK hb, hbb⟩, let ⟨mc, h1, h2⟩ := hlim; ⟨mc, nsK h1, h2⟩⟩
    have e0 : Env0 P w K mg (hidT s₁.heap H) callerA [] s₁ H := ⟨rfl, hM, fun b o e => of_hidT e, Nat.le_of_eq (hidT_size _ _), trivial, fun b hb => absurd (show b ∈ ([] : List Addr) from hb) (by simp), hok, .of_eq hg⟩
    refine codeAny_mono ((F _ hKb (nsK hns)).run callerA [] s₁ H ⟨[.ref a], []⟩ [.ref a] [.ref a] _ _ hr e0 (hbind s₁ (.ref a)) (.cons rfl .nil) (hsp H hO hS)) fun r s' h => ?_
    cases r with
    | error e => exact (hCX H e s' h).elim
    | ok fl =>
      cases fl with
      | next => exact False.elim h
      | brk => exact False.elim h
      | cont => exact False.elim h
      | ret u =>
        obtain ⟨v, H', os, bare, un, hok', r', q⟩ := h
        have q' : v = .bl true := q
        subst q'
        obtain rfl : u = Value.bool true := r'
        refine ⟨rfl, OldK.of_keep fun b o e => ?_, os, bare⟩
        cases q : H b with
        | none => exact un.keep b o e q (by intro z; exact absurd (show b ∈ ([] : List Addr) from z) (by simp)) (by simp)
        | some u =>
          rcases hO b with z | ⟨ob, xs, z⟩
          · rw [q] at z; cases z
          · have z2 := un.frzs b ob _ z
            obtain ⟨e1, _⟩ := hok b _ z
            obtain ⟨e2, _⟩ := hok' b _ z2
            rw [e] at e1; cases e1
            exact e2
  cases hk : K.lookup a with
  | some o =>
    -- the script is one of the module's own objects
    have e := KX a o hk
    rw [ha] at e
    cases e
    refine core (fun _ => none) (fun _ => .inl rfl) (.inr ⟨_, vs.toArray, _, hk, rfl, rfl, rfl, by rw [List.size_toArray, lenV]; exact hl, by simpa using rv⟩) (fun b u z => by have z' : (none : Option HO) = some u := z; cases z') (fun b z => absurd rfl z) fun z => absurd rfl z
  | none =>
    refine core (fun b => if b = a then some (.frz { cls := .type "list", data := .seq vs.toArray } (.lst (ns.map V.int))) else none) (fun b => ?_) (.inl (.inr ⟨{ cls := .type "list", data := .seq vs.toArray }, if_pos rfl⟩)) (fun b u z => ?_) (fun b z => ?_) fun _ => hk
    · by_cases hb : b = a
      · exact .inr ⟨_, _, if_pos hb⟩
      · exact .inl (if_neg hb)
    · by_cases hb : b = a
      · have z' := (if_pos hb).symm.trans z
        cases z'
        subst hb
        exact ⟨ha, by rw [List.length_map]; exact hl, vs, _, rv, ha⟩
      · have z' := (if_neg hb).symm.trans z
        cases z'
    · by_cases hb : b = a
      · exact hb
      · exact absurd (if_neg hb) z
end L2

namespace L2
open PySem PySem.Spec PyProof.Rows

/-- the goal that k_head leaves (case hc), from the law's promise. F gives the function object fd (K's own) once, then the promise over every base -/
theorem walk_of {l : PySem.W.OpenLaw} {n k : Nat} {q : Program} {loose : List Str} {XP : (Str → Option Value) → Heap → Prop} {YP : World → Heap → Prop} {d : DefRec} {K : Params → PySem.W.Frag} {CX : World → CXT} {sp : World → Sp} {x : Str}
    (hn : l.most = some n) (hn2 : n ≤ sizeLine) (hdf : d.params.defaults = []) (hr : Room k callerA)
    (hY : ∀ (w : World) (h : Heap), YP w h → (K w.params).In h)
    (F : ∀ (w : World) (mg : Str → Option Value) (fa : Addr) (h : Heap), (K w.params).In h → h.Ns mainGlobals mg → mg d.name = some (.ref fa) →
      ∃ fd : FuncData, (∀ (s : Shared) (u : Value), BindsTo s fd ⟨[u], []⟩ [(x, u)]) ∧
        ∀ base : Heap, (K w.params).In base → base.Ns mainGlobals mg → FnOk l.prog w (K w.params) mg base (CX w) k fa fd [x] (sp w))
    (hsp : ∀ (w : World) (H : Hp) (a : Addr) (ns : List Int), ns.length ≤ n → Only H → SqL (K w.params) H a (ns.map V.int) → sp w [.ref a] H (fun v _ => v = .bl true) fun _ _ _ => False)
    (hCX : ∀ (w : World) (H : Hp) (s : Shared) (e : Value) (s' : Shared), CX w [] H s (fun _ _ _ => False) e s' → False) :
    PySem.W.WalkO q loose XP YP l.row.toRowW d [] (fun f vs => PySem.call f vs) := by
  refine Att.attach_call hn hdf fun w s₀ s₁ mg mb fa o pm cd doc a vs ns G Y ho hd hcd hmg hobj hints hlen hg => ?_
  have KX := hY w _ Y
  obtain ⟨fd, hb, hF⟩ := F w mg fa _ KX G.T.g hmg
  exact law_call KX G.T.g G.T.b G.T.builtins G.T.nolimit hg hobj hints (Nat.le_trans hlen hn2) hr hF hb (fun H hO hS => hsp w H a ns hlen hO hS) fun H e s' => hCX w H s₁ e s'
end L2

/-! SHORT WORDS over the layer: a def of the text, its body, what a loop and a test want. -/
namespace L2
open PySem PySem.Spec PyProof.Rows

/-! ### the text by places -/
/-- the j-th statement of a class's body -/
def inClass (s : Stmt) (j : Nat) : Stmt := match s with
  | .ClassDef _ _ _ body _ _ _ _ _ _ _ => body.getD j (.Pass ⟨0, 0, 0, 0⟩)
  | _ => .Pass ⟨0, 0, 0, 0⟩
def defArgs (s : Stmt) : Arguments := match s with
  | .FunctionDef _ a _ _ _ _ _ _ _ _ => a
  | _ => { posonlyargs := [], args := [], vararg := none, kwonlyargs := [], kw_defaults := [], kwarg := none, defaults := [] }
def defBody (s : Stmt) : List Stmt := match s with
  | .FunctionDef _ _ b _ _ _ _ _ _ _ => b
  | _ => []
def defScope (s : Stmt) : Scope := match s with
  | .FunctionDef _ _ _ _ _ _ sc _ _ _ => sc
  | _ => { kind := .function, names := [], isGenerator := false, isCoroutine := false }

/-! ### no exception leaves a def -/
abbrev CX0 : CXT := fun _ _ _ _ _ _ => False
abbrev E0 : XK := fun _ _ _ => False
theorem pass0 {X : Cx} : Passes CX0 X E0 := fun _ _ _ _ _ _ _ h => h.elim

/-! ### a def (or method) of the text as it stands behind the top -/
structure Fun (K : PySem.W.Frag) (x qual : Str) (st : Stmt) (f : Addr) (fd : FuncData) : Prop where
  ex : ∃ (oc : Value) (od : Option Addr) (kV doc pm : Value) (an : Option Addr) (cdv ct : Value) (osl : Array (Option Value)),
    fd = PySem.W.fnOf x qual (defArgs st) (defBody st) (defScope st) .none kV doc pm an cdv ct ∧ K.lookup f = some ⟨oc, od, .func fd, osl⟩ ∧ PySem.W.codeIn K cdv qual = true
  kp : PySem.W.keepIn K (.ref f) = true
section
variable {P : Program} {w : World} {K : PySem.W.Frag} {mg : Str → Option Value} {base : Heap}
/-- THE RULE for a def: its body as a term of rules, and the reading of that term -/
theorem Fun.ok {x qual : Str} {st : Stmt} {f : Addr} {fd : FuncData} {N ps : List Str} {k : Nat} {sp : Sp} (F : Fun K x qual st f fd) (S : FnScope N ps (defScope st)) (len : ∀ vs H Q E, sp vs H Q E → vs.length = ps.length)
    (hbody : ∀ (cdv : Value) (A : Around) (outer : List Env) (s : Shared) (H : Hp) (vs : List V) (Q : VK) (E : XK), Room k (A.deeper (envOfC qual (defScope st) s.heap.objs.size f cdv)) → sp vs H Q E →
      ∃ t, PSs (cxOf CX0 P w K mg base N qual (defScope st) f cdv A outer s H E).nox (defBody st) t ∧ t { nx := fun _ H' => Q .non H', rt := Q } (start N vs) H) : FnOk P w K mg base CX0 (k + 1) f fd ps sp := by
  obtain ⟨oc, od, kV, doc, pm, an, cdv, ct, osl, rfl, lk, hcd⟩ := F.ex
  refine fn_of lk hcd S len fun A outer s H vs Q E hr hsp => ?_
  obtain ⟨t, h, q⟩ := hbody cdv A outer s H vs Q E hr hsp
  exact ⟨t, h.nox, q⟩
/-- how its arguments bind (no defaults): h is «fun _ _ _ _ _ _ us hl => match us, hl with | [_, _], _ => rfl», one _ a parameter -/
theorem Fun.binds {x qual : Str} {st : Stmt} {f : Addr} {fd : FuncData} {ps : List Str} (F : Fun K x qual st f fd)
    (h : ∀ (kV doc pm : Value) (an : Option Addr) (cdv ct : Value) (us : List Value), us.length = ps.length → bindArgs (PySem.W.fnOf x qual (defArgs st) (defBody st) (defScope st) .none kV doc pm an cdv ct) ⟨us, []⟩ = pure (ps.zip us)) : Binds K fd ps [] := by
  obtain ⟨oc, od, kV, doc, pm, an, cdv, ct, osl, rfl, lk, hcd⟩ := F.ex
  exact .all (h kV doc pm an cdv ct)
theorem fun_mk {x qual : Str} {st : Stmt} {f : Addr} {oc : Value} {od an : Option Addr} {osl : Array (Option Value)} {kV doc pm cdv ct : Value} (l : K.lookup f = some ⟨oc, od, .func (PySem.W.fnOf x qual (defArgs st) (defBody st) (defScope st) .none kV doc pm an cdv ct), osl⟩)
    (c : PySem.W.codeIn K cdv qual = true) (k : PySem.W.keepIn K (.ref f) = true) : Fun K x qual st f (PySem.W.fnOf x qual (defArgs st) (defBody st) (defScope st) .none kV doc pm an cdv ct) := ⟨⟨oc, od, kV, doc, pm, an, cdv, ct, osl, rfl, l, c⟩, k⟩
end
theorem small1000 {n : Nat} (h : n ≤ 1000) : n < sizeLine := Nat.lt_of_le_of_lt h (by decide)

/-! ### expressions in short: the name that stands in the i-th slot -/
section
variable {X : Cx}
theorem pv (i : Nat) {x : Str} {pos : Pos} (hN : X.N[i]? = some x := by rfl) (hv : Vis X.env.scope x := by first | exact Or.inl rfl | exact Or.inr (Or.inl rfl) | exact Or.inr (Or.inr rfl)) (hd : (x == ("__debug__" : Str)) = false := by decide)
    (hcd : (x == ("__classdict__" : Str)) = false := by decide) : PE X (.Name x pos) (tVar i) := pe_var hN hv hd hcd
end

/-! ### tests -/
theorem iteF {A B : Prop} (h : B) : if false = true then A else B := by
  rw [if_neg Bool.false_ne_true]
  exact h
theorem iteT {A B : Prop} (h : A) : if true = true then A else B := by
  rw [if_pos rfl]
  exact h
theorem ite2 {c A B : Prop} [Decidable c] (h1 : c → A) (h2 : ¬ c → B) : if c then A else B := by
  by_cases h : c
  · rw [if_pos h]
    exact h1 h
  · rw [if_neg h]
    exact h2 h
theorem iteNS {c A B : Prop} [Decidable c] (hc : c) (h : B) : if (!decide c) = true then A else B := by
  rw [decide_eq_true hc]
  exact iteF h

/-! ### heaps -/
/-- all that was tracked is as it was -/
def Same (H H' : Hp) : Prop := ∀ b o, H b = some o → H' b = some o
theorem Same.trans {H H1 H2 : Hp} (a : Same H H1) (b : Same H1 H2) : Same H H2 := fun c o h => b c o (a c o h)
theorem Same.seq {K : PySem.W.Frag} {H H' : Hp} {a : Addr} {xs : List V} (e : Same H H') (h : SqL K H a xs) : SqL K H' a xs := by
  rcases h with (h | ⟨o, h⟩) | h
  · exact .inl (.inl (e _ _ h))
  · exact .inl (.inr ⟨o, e _ _ h⟩)
  · exact .inr h

end L2
set_option Elab.async false
set_option linter.all false
set_option maxRecDepth 100000
set_option maxHeartbeats 4000000
namespace L2
open PySem PySem.Spec PyProof.Rows

/-! ### a list comprehension with one `for x in ..` -/
section
variable {X : Cx} {pins : List (Addr × Obj)} {σ : St} {H : Hp} {s : Shared} {D : Addr} {o : HO}
/-- an untracked object of ours comes to be tracked -/
theorem Inv.track (I : Inv X pins σ H s) (hf : FpOk X pins H D) (h0 : X.s₀.heap.objs.size ≤ D) (new : ObjOk X.prog X.w (upd H D o) s.heap D o) : Inv X pins σ (upd H D o) s := by
  obtain ⟨f0, f1, f2, f3, f4, f5⟩ := hf
  have ne : ∀ b u, H b = some u → b ≠ D := fun b u e => ne_of_none e f0
  refine ⟨I.ok, I.os, I.bare, ⟨I.base.keep, I.base.slot, fun b u e n hx => ?_, I.base.there, fun b xs e => ?_, fun b u xs e => ?_, fun b ps e => ?_⟩, I.loc, I.cell, ?_, fun y c e => ?_, fun p hp => ?_, fun b u e => ?_, I.len⟩
  · rw [upd_ne (Nat.ne_of_lt (Nat.lt_of_lt_of_le (Heap.lt_size e) h0))]
    exact I.base.free b u e n hx
  · have q := I.base.tups b xs e
    rw [upd_ne (ne b _ q)]; exact q
  · have q := I.base.frzs b u xs e
    rw [upd_ne (ne b _ q)]; exact q
  · obtain ⟨m, q⟩ := I.base.tbls b ps e
    exact ⟨m, by rw [upd_ne (ne b _ q)]; exact q⟩
  · rw [upd_ne (Ne.symm f1)]; exact I.free
  · rw [upd_ne (f4 y c e)]; exact I.freeC y c e
  · obtain ⟨a, b, c, d, e⟩ := I.pin p hp
    exact ⟨a, by rw [upd_ne (f5 p hp)]; exact b, c, d, e⟩
  · by_cases hb : b = D
    · subst hb
      rw [upd_same] at e
      cases e
      exact new
    · rw [upd_ne hb] at e
      exact (I.hok b u e).stay (fun _ _ _ q => q) (fun c q => by rw [upd_ne (ne c _ q)]; exact q) fun c xs q => by rw [upd_ne (ne c _ q)]; exact q
end

/-- the closure's cells, gathered -/
def gather (cells : List (Str × Addr)) : List (Str × NameKind) → List (Str × Addr) → List (Str × Addr)
  | [], cs => cs
  | (n, k) :: r, cs => gather cells r (if (k == NameKind.free) = true then (n, (cells.lookup n).getD 0) :: cs else cs)
theorem closure_eq {scope : Scope} {env : Env} (h : ∀ y ∈ scope.names, y.2 = NameKind.free → ∃ c, env.cells.lookup y.1 = some c) : closureFor scope env = pure (gather env.cells scope.names []) := by
  have all : ∀ (l : List (Str × NameKind)) (cs : List (Str × Addr)), (∀ y ∈ l, y.2 = NameKind.free → ∃ c, env.cells.lookup y.1 = some c) →
      (forIn l cs (fun (x : Str × NameKind) (r : List (Str × Addr)) => if (x.2 == NameKind.free) = true then (do let a ← cellOf env x.1; pure (ForInStep.yield ((x.1, a) :: r)) : Sem (ForInStep (List (Str × Addr)))) else pure (ForInStep.yield r))) = (pure (gather env.cells l cs) : Sem (List (Str × Addr))) := by
    intro l
    induction l with
    | nil => intro cs _; rfl
    | cons y r ih =>
      intro cs hy
      obtain ⟨n, k⟩ := y
      rw [List.forIn_cons]
      by_cases hk : k = NameKind.free
      · subst hk
        obtain ⟨c, hc⟩ := hy (n, .free) List.mem_cons_self rfl
        have e1 : cellOf env n = pure c := by unfold cellOf; rw [hc]
        simp only [beq_self_eq_true, if_true, e1, pure_bind]
        rw [ih _ fun z hz => hy z (List.mem_cons_of_mem _ hz)]
        simp only [gather, beq_self_eq_true, if_true]
        rw [show List.lookup n env.cells = some c from hc]
        rfl
      · have e1 : (k == NameKind.free) = false := by simpa using hk
        simp only [e1, Bool.false_eq_true, if_false, pure_bind]
        rw [ih _ fun z hz => hy z (List.mem_cons_of_mem _ hz)]
        simp only [gather, e1, Bool.false_eq_true, if_false]
  have e := all scope.names [] h
  unfold closureFor
  simp only []
  exact (bind_pure _).trans e
theorem gather_sub {cells : List (Str × Addr)} : ∀ (l : List (Str × NameKind)) (cs : List (Str × Addr)), (∀ y ∈ l, y.2 = NameKind.free → ∃ c, cells.lookup y.1 = some c) →
    (∀ y c, (y, c) ∈ cs → cells.lookup y = some c) → ∀ y c, (y, c) ∈ gather cells l cs → cells.lookup y = some c
  | [], _, _, h, y, c, hm => h y c hm
  | (n, k) :: r, cs, hl, h, y, c, hm => by
    refine gather_sub r _ (fun z hz => hl z (List.mem_cons_of_mem _ hz)) (fun y' c' hm' => ?_) y c hm
    by_cases hk : (k == NameKind.free) = true
    · rw [if_pos hk] at hm'
      rcases List.mem_cons.mp hm' with e | e
      · have e1 : y' = n := congrArg Prod.fst e
        have e2 : c' = (cells.lookup n).getD 0 := congrArg Prod.snd e
        obtain ⟨d, hd⟩ := hl (n, k) List.mem_cons_self (by simpa using hk)
        have hd' : cells.lookup n = some d := hd
        rw [e1, e2, hd']; rfl
      · exact h y' c' e
    · rw [if_neg hk] at hm'
      exact h y' c' hm'
theorem gather_mono {cells : List (Str × Addr)} : ∀ (l : List (Str × NameKind)) (cs : List (Str × Addr)) (p : Str × Addr), p ∈ cs → p ∈ gather cells l cs
  | [], _, _, h => h
  | (n, k) :: r, cs, p, h => gather_mono r _ p (by split; exact List.mem_cons_of_mem _ h; exact h)
theorem gather_has {cells : List (Str × Addr)} : ∀ (l : List (Str × NameKind)) (cs : List (Str × Addr)) (y : Str × NameKind), y ∈ l → y.2 = NameKind.free → ∃ c, (y.1, c) ∈ gather cells l cs
  | [], _, _, h, _ => nomatch h
  | (n, k) :: r, cs, y, h, hf => by
    rcases List.mem_cons.mp h with e | e
    · subst e
      have hk : (k == NameKind.free) = true := by simpa using hf
      exact ⟨(cells.lookup n).getD 0, gather_mono r _ _ (by rw [if_pos hk]; exact List.mem_cons_self)⟩
    · exact gather_has r _ y e hf
theorem lookup_mem {α : Type} : ∀ {l : List (Str × α)} {y : Str} {c : α}, (y, c) ∈ l → ∃ d, l.lookup y = some d ∧ (y, d) ∈ l
  | [], _, _, h => nomatch h
  | (n, a) :: r, y, c, h => by
    by_cases e : y = n
    · subst e
      exact ⟨a, by simp [List.lookup_cons], List.mem_cons_self⟩
    · have e1 : (y == n) = false := by simpa using e
      rcases List.mem_cons.mp h with q | q
      · exact absurd (congrArg Prod.fst q) e
      · obtain ⟨d, h1, h2⟩ := lookup_mem q
        exact ⟨d, by rw [List.lookup_cons, e1]; exact h1, List.mem_cons_of_mem _ h2⟩
theorem lookup_of_mem_lookup {α : Type} {l : List (Str × α)} {y : Str} {c : α} (h : l.lookup y = some c) : (y, c) ∈ l := PySem.mem_of_lookup h

/-- what a comprehension's scope must be; osc, ON: of the def around it; x: its target; F: the names that it takes from around, fr: their slots there -/
def compChk (osc : Scope) (ON : List Str) (scope : Scope) (x : Str) (F : List Str) (fr : List Nat) : Bool :=
  decide (scope.kind = .function) && (scope.names.all fun y => decide (y.2 ≠ .cell)) && (scope.names.all fun y => decide (y.2 = .local → scope.names.lookup y.1 = some .local)) &&
  decide (scope.names.lookup x = some .local) && (scope.names.all fun y => decide (y.2 = .free → osc.names.lookup y.1 = some .cell ∨ osc.names.lookup y.1 = some .free)) &&
  decide ((x :: F).Nodup) && (F.all fun y => decide (scope.names.lookup y = some .free)) && decide (F.map some = fr.map fun i => ON[i]?)
structure CompOk (osc : Scope) (ON : List Str) (scope : Scope) (x : Str) (F : List Str) (fr : List Nat) : Prop where
  kind : scope.kind = .function
  nocell : ∀ y ∈ scope.names, y.2 ≠ .cell
  loc : ∀ y ∈ scope.names, y.2 = .local → scope.names.lookup y.1 = some .local
  tx : scope.names.lookup x = some .local
  free : ∀ y ∈ scope.names, y.2 = .free → osc.names.lookup y.1 = some .cell ∨ osc.names.lookup y.1 = some .free
  nd : (x :: F).Nodup
  fre : ∀ y ∈ F, scope.names.lookup y = some .free
  slots : F.map some = fr.map fun i => ON[i]?
theorem CompOk.of {osc : Scope} {ON : List Str} {scope : Scope} {x : Str} {F : List Str} {fr : List Nat} (h : compChk osc ON scope x F fr = true) : CompOk osc ON scope x F fr := by
  unfold compChk at h
  simp only [Bool.and_eq_true, decide_eq_true_eq, List.all_eq_true] at h
  obtain ⟨⟨⟨⟨⟨⟨⟨h1, h2⟩, h3⟩, h4⟩, h5⟩, h6⟩, h7⟩, h8⟩ := h
  exact ⟨h1, h2, h3, h4, h5, h6, h7, h8⟩

/-- the context of the comprehension's block -/
def compCx (X : Cx) (N : List Str) (scope : Scope) (s3 : Shared) (H3 : Hp) (ex : List Addr) : Cx :=
  { X with N := N, s₀ := s3, H₀ := H3, env := compEnvC scope (gather X.env.cells scope.names []) s3.heap.objs.size X.env, outer := X.stack, ex := ex, fn := fun _ => false, pn := [], xe := fun _ _ => False }

/-- the tests of a comprehension -/
def PTs (X : Cx) (ifs : List Expr) (t : TT) : Prop :=
  ∀ (pins : List (Addr × Obj)) (s : Shared) (σ : St) (H : Hp) (Q : Bool → Hp → Prop), Inv X pins σ H s → t σ H Q →
    wpAny (model X.prog X.w) X.A (forIn ifs true fun c r => if r = true then do let ok ← isTrue c X.env (eval c X.env); pure (ForInStep.yield ok) else pure (ForInStep.yield r)) (TP X pins σ Q) X.xe s
def tYes : TT := fun _ H Q => Q true H
theorem pts_nil {X : Cx} : PTs X [] tYes := fun _ _ _ H _ I h => wpAny_tests_nil ⟨H, I, h⟩
/-- the names' values in the block, ahead of the target's store -/
def compSt (σ : St) (fr : List Nat) : St := none :: fr.map fun i => (σ[i]?).join

/-- the turns: what the iterator yields, the tests, the element; acc: the elements so far -/
def CompGo (fr : List Nat) (tt : TT) (te : TE) (σ : St) (Q : VK) (J : It) (H1 : Hp) : Prop := ∃ W : Nat → Nat → List V → Hp → Prop, (∃ m, W 0 m [] H1) ∧ ∀ i m acc H, W i m acc H →
  (J.stop i H ∧ acc.length ≤ sizeLine ∧ ∀ p, H p = none → Q (.ref p) (upd H p (.lst acc))) ∨
  (J.go i H ∧ acc.length < sizeLine ∧ ∀ x H', J.yld i H x H' → tt ((compSt σ fr).set 0 (some x)) H' fun b H2 =>
    if b = true then te ((compSt σ fr).set 0 (some x)) H2 fun y H3 => ∃ m', m' < m ∧ W (i + 1) m' (acc ++ [y]) H3 else ∃ m', m' < m ∧ W (i + 1) m' acc H2)
def tComp (wi : TI) (fr : List Nat) (tt : TT) (te : TE) : TE := fun σ H Q => wi σ H (CompGo fr tt te σ Q)

section
variable {X : Cx}
theorem relabel_names (scope : Scope) (env : Env) (x : Str) (k : NameKind) (h : (relabel scope env).names.lookup x = some k) : ∃ k', scope.names.lookup x = some k' ∧ (k = k' ∨ (k' = .free ∧ k = .cell)) := by
  have all : ∀ (l : List (Str × NameKind)), (l.map fun (n, k) => if (k == NameKind.free && env.scope.kind == .function && env.kindOf n == some .cell) then (n, NameKind.cell) else (n, k)).lookup x = some k →
      ∃ k', l.lookup x = some k' ∧ (k = k' ∨ (k' = .free ∧ k = .cell)) := by
    intro l
    induction l with
    | nil => intro h; simp at h
    | cons y r ih =>
      obtain ⟨n, j⟩ := y
      intro h
      by_cases e : x = n
      · subst e
        refine ⟨j, by simp [List.lookup_cons], ?_⟩
        simp only [List.map_cons] at h
        by_cases hc : (j == NameKind.free && env.scope.kind == .function && env.kindOf x == some .cell) = true
        · rw [if_pos hc] at h
          simp [List.lookup_cons] at h
          simp only [Bool.and_eq_true] at hc
          exact .inr ⟨by simpa using hc.1.1, h.symm⟩
        · rw [if_neg hc] at h
          simp [List.lookup_cons] at h
          exact .inl h.symm
      · have e1 : (x == n) = false := by simpa using e
        simp only [List.map_cons] at h
        have h' : (r.map fun (n, k) => if (k == NameKind.free && env.scope.kind == .function && env.kindOf n == some .cell) then (n, NameKind.cell) else (n, k)).lookup x = some k := by
          by_cases hc : (j == NameKind.free && env.scope.kind == .function && env.kindOf n == some .cell) = true
          · rw [if_pos hc, List.lookup_cons, e1] at h; exact h
          · rw [if_neg hc, List.lookup_cons, e1] at h; exact h
        obtain ⟨k', q1, q2⟩ := ih h'
        exact ⟨k', by rw [List.lookup_cons, e1]; exact q1, q2⟩
  exact all scope.names h

theorem Inv.closes {pins : List (Addr × Obj)} {σ : St} {H : Hp} {s : Shared} {scope : Scope} {x : Str} {F : List Str} {fr : List Nat} (I : Inv X pins σ H s) (C : CompOk X.env.scope X.N scope x F fr) :
    ∀ y ∈ scope.names, y.2 = NameKind.free → ∃ c, X.env.cells.lookup y.1 = some c := fun y hy hf => I.ok.has y.1 (C.free y hy hf)
theorem Inv.gsub {pins : List (Addr × Obj)} {σ : St} {H : Hp} {s : Shared} {scope : Scope} {x : Str} {F : List Str} {fr : List Nat} (I : Inv X pins σ H s) (C : CompOk X.env.scope X.N scope x F fr) {y : Str} {c : Addr}
    (h : (gather X.env.cells scope.names []).lookup y = some c) : X.env.cells.lookup y = some c :=
  gather_sub scope.names [] (I.closes C) (fun _ _ z => nomatch z) y c (lookup_of_mem_lookup h)
end
end L2
set_option Elab.async false
set_option linter.all false
set_option maxRecDepth 100000
set_option maxHeartbeats 4000000
namespace L2
open PySem PySem.Spec PyProof.Rows
section
variable {X : Cx}
/-- the block's entry -/
theorem inv_comp {pins : List (Addr × Obj)} {σ : St} {H : Hp} {s : Shared} {scope : Scope} {x : Str} {F : List Str} {fr : List Nat} {ex : List Addr} {h' : Heap} {tk : Nat} (I : Inv X pins σ H s) (C : CompOk X.env.scope X.N scope x F fr)
    (hx : ∀ b ∈ ex, FpOk X pins H b ∧ b < s.heap.objs.size) (hn : h'.Ns s.heap.objs.size fun _ => none) (k : ∀ b o, s.heap.get? b = some o → h'.get? b = some o) :
    Inv (compCx X (x :: F) scope s H ex) [] (compSt σ fr) H { s with heap := h', toks := tk } := by
  have hCn : H s.heap.objs.size = none := I.hok.fresh (Nat.le_refl _)
  have hcl : ∀ {y : Str} {c : Addr}, (gather X.env.cells scope.names []).lookup y = some c → X.env.cells.lookup y = some c := fun h => I.gsub C h
  have clt : ∀ {y : Str} {c : Addr}, X.env.cells.lookup y = some c → c < s.heap.objs.size := fun {y c} h => by
    obtain ⟨v, q⟩ := I.cell y c h
    exact q.lt
  have stk : ∀ b, b ∈ frs X.stack → b = X.env.locals ∨ b ∈ X.fs := fun b hb => List.mem_cons.mp (I.stkSub b hb)
  refine ⟨⟨I.ok.mod, C.kind, I.ok.glob, I.ok.blt, Nat.le_refl _, fun y z c h1 h2 => I.ok.inj y z c (hcl h1) (hcl h2), fun y hy => ?_, fun y c hf => (nomatch hf), I.ok.hd, I.ok.frames, .inl rfl, fun b hb => ⟨Nat.ne_of_lt (hx b hb).2, fun y c h => (hx b hb).1.2.2.2.2.1 y c (hcl h)⟩,
    I.bs, Nat.le_trans I.ok.bsz I.sz, fun b o e hb => ?_, fun b hb => ?_, I.stack, I.stkFree⟩, rfl, I.bare, Un.kept k, ⟨_, hn, fun i y v h1 h2 h3 => ?_⟩, fun y c h => ?_, hCn, fun y c h => I.freeC y c (hcl h), fun p hp => absurd (show p ∈ ([] : List (Addr × Obj)) from hp) (by simp), I.hok.kept k, ?_⟩
  · have hy' : ∃ c, (y, c) ∈ gather X.env.cells scope.names [] := by
      have go : ∀ kk, (relabel scope X.env).names.lookup y = some kk → kk ≠ .local → kk ≠ .globalExplicit → kk ≠ .globalImplicit → ∃ c, (y, c) ∈ gather X.env.cells scope.names [] := fun kk h n1 n2 n3 => by
        obtain ⟨k', q1, q2⟩ := relabel_names scope X.env y kk h
        have hm := lookup_of_mem_lookup q1
        have hfree : k' = .free := by
          rcases q2 with e | ⟨e, _⟩
          · subst e
            cases kk with
            | «local» => exact absurd rfl n1
            | cell => exact absurd rfl (C.nocell _ hm)
            | free => rfl
            | globalExplicit => exact absurd rfl n2
            | globalImplicit => exact absurd rfl n3
          · exact e
        exact gather_has scope.names [] (y, k') hm hfree
      rcases hy with hy | hy
      · exact go _ hy (by decide) (by decide) (by decide)
      · exact go _ hy (by decide) (by decide) (by decide)
    obtain ⟨c, hc⟩ := hy'
    obtain ⟨d, hd, _⟩ := lookup_mem hc
    exact ⟨d, hd⟩
  · exact absurd e (by
      have h1 := (hx b hb).1
      have h2 := I.bs b o e
      rcases h1.2.2.2.1 with z | z
      · exact fun _ => I.ok.noex b o e z
      · exact fun _ => absurd (Nat.lt_of_lt_of_le (Heap.lt_size (I.ok.bs b o e).1) z) (Nat.lt_irrefl _))
  · intro hb2
    obtain ⟨h0, h1, h2, _⟩ := (hx b hb).1
    rcases stk b hb2 with z | z
    · exact h1 z
    · exact h2 z
  · -- a name's value at the entry
    cases i with
    | zero => simp [compSt] at h2
    | succ j =>
      have h1' : F[j]? = some y := (List.getElem?_cons_succ (a := x) (l := F) (i := j)).symm.trans h1
      have h2' : (fr.map fun i => (σ[i]?).join)[j]? = some (some v) := by simpa [compSt] using h2
      have hs := congrArg (fun l => l[j]?) C.slots
      simp only [List.getElem?_map, h1', Option.map_some] at hs
      rw [List.getElem?_map] at h2'
      cases hj : fr[j]? with
      | none => rw [hj] at hs; simp at hs
      | some t =>
        rw [hj] at hs h2'
        simp only [Option.map_some, Option.some.injEq] at hs h2'
        have h3' : σ[t]? = some (some v) := by
          cases e : σ[t]? with
          | none => rw [e] at h2'; simp at h2'
          | some w' => rw [e] at h2'; simp at h2'; rw [h2']
        -- what kind the name has
        have hfr := C.fre y (List.mem_of_getElem? h1')
        have hm := lookup_of_mem_lookup hfr
        have hvis : Vis X.env.scope y ∧ (∃ c, (gather X.env.cells scope.names []).lookup y = some c) ∧ (X.env.kindOf y = some .cell ∨ X.env.kindOf y = some .free) := by
          obtain ⟨c, hc⟩ := gather_has (cells := X.env.cells) scope.names [] (y, .free) hm rfl
          obtain ⟨d, hd, _⟩ := lookup_mem hc
          rcases C.free (y, .free) hm rfl with z | z
          · exact ⟨.inr (.inl z), ⟨d, hd⟩, .inl z⟩
          · exact ⟨.inr (.inr z), ⟨d, hd⟩, .inr z⟩
        obtain ⟨hv, ⟨c, hc⟩, hkd⟩ := hvis
        obtain ⟨m, hm, hl⟩ := I.loc
        obtain ⟨u, r, l⟩ := hl t y v hs.symm h3' hv
        refine ⟨u, r, .inr ⟨?_, c, hc, ?_⟩⟩
        · rcases h3 with z | z | z
          · exfalso
            obtain ⟨k', q1, q2⟩ := relabel_names scope X.env y .local z
            rw [hfr] at q1
            cases q1
            rcases q2 with q | ⟨_, q⟩ <;> cases q
          · exact .inl z
          · exact .inr z
        · rcases l with ⟨hk, _⟩ | ⟨_, c', hc', hcell⟩
          · rcases hkd with z | z <;> rw [z] at hk <;> cases hk
          · have e := hcl hc
            rw [e] at hc'; cases hc'
            obtain ⟨oc, ho, hd⟩ := hcell
            exact ⟨oc, k _ _ ho, hd⟩
  · obtain ⟨v, oc, ho, hd⟩ := I.cell y c (hcl h)
    exact ⟨v, oc, k _ _ ho, hd⟩
  · have := congrArg List.length C.slots
    simp at this
    show (compSt σ fr).length = (x :: F).length
    simp [compSt, this]
end
end L2
set_option Elab.async false
set_option linter.all false
set_option maxRecDepth 100000
set_option maxHeartbeats 4000000
namespace L2
open PySem PySem.Spec PyProof.Rows
theorem after_pure {α : Type} {M : Model} {A : Around} {P : Unit → Shared → Prop} {E' : Value → Shared → Prop} {t : Sem α} {Q : α → Shared → Prop} {E : Value → Shared → Prop} {s : Shared}
    (h : wpAny M A (pure () : Sem Unit) P E' s) (k : P () s → wpAny M A t Q E s) : wpAny M A t Q E s := fun Γ p hΓ => k (h Γ p hΓ) Γ p hΓ
section
variable {X : Cx}
end
end L2
set_option Elab.async false
set_option linter.all false
set_option maxRecDepth 100000
set_option maxHeartbeats 4000000
namespace L2
open PySem PySem.Spec PyProof.Rows
section
variable {X : Cx}
/-! ### isinstance(x, c), c one built-in type -/
def rIsi (K : PySem.W.Frag) : List V → Hp → VK → Prop := fun xs H Q => ∃ x t c b, xs = [x, .ty c] ∧ TyOf K H x t ∧ PySem.W.kitOne K t (.type c) = some b ∧ Q (.bl b) H
theorem call_isi : CallR X (.builtin "isinstance") (rIsi X.K) := by
  intro pins s σ H xs us Q I r h
  obtain ⟨x, t, c, b, rfl, ty, e, q⟩ := h
  obtain ⟨u, v, rfl, r1, r2⟩ := r.two
  cases r2
  exact isinst_ok I r1 ty e fun tk => ⟨.bl b, H, I.tok tk, rfl, q⟩
theorem kit_same {K : PySem.W.Frag} {c : String} : PySem.W.kitOne K (.type c) (.type c) = some true := if_pos (beq_self_eq_true _)
/-! ### x is True, x is False -/
theorem is_bool_gen {M : Model} {A : Around} {E : Value → Shared → Prop} {s : Shared} {Q : Value → Shared → Prop} {x : V} {v : Value} {c : Bool} (r : RelV x v) (h : Q (.bool (decide (x = .bl c))) s) : wpAny M A (compareOp .Is v (.bool c)) Q E s := by
  cases x with
  | non => cases r; exact wpAny_pure h
  | bl i =>
    cases r
    refine wpAny_pure ?_
    have e : decide (V.bl i = V.bl c) = (Value.bool i == Value.bool c) := by
      rw [Bool.eq_iff_iff]; simp
    rw [e] at h
    exact h
  | int i => obtain ⟨t, rfl⟩ := r; exact wpAny_pure h
  | str i => obtain ⟨t, rfl⟩ := r; exact wpAny_pure h
  | byt i => obtain ⟨t, rfl⟩ := r; exact wpAny_pure h
  | flt i => obtain ⟨t, rfl⟩ := r; exact wpAny_pure h
  | ref i => cases r; exact wpAny_pure h
  | ty i => cases r; exact wpAny_pure h
theorem op_isB : OpR X (compareOp .Is) (fun x y H Q => ∃ c, y = .bl c ∧ Q (.bl (decide (x = .bl c))) H) := by
  intro pins s σ H x y v u Q I rx ry h
  obtain ⟨c, rfl, q⟩ := h
  cases ry
  exact is_bool_gen rx ⟨.bl _, H, I, rfl, q⟩
end

/-! ### two things told alike are equal -/
inductive Dt where
  | non | bl (b : Bool) | int (i : Int) | str (x : Str)
  | tup (xs : List Dt) | lst (xs : List Dt)
def Told (K : PySem.W.Frag) (H : Hp) : Nat → V → Dt → Prop
  | 0, v, d => match v, d with
    | .non, .non => True
    | .bl a, .bl b => a = b
    | .int a, .int b => a = b
    | .str a, .str b => a = b
    | _, _ => False
  | n + 1, v, d => match v, d with
    | .non, .non => True
    | .bl a, .bl b => a = b
    | .int a, .int b => a = b
    | .str a, .str b => a = b
    | .ref a, .tup ds => ∃ xs, SqT K H a xs ∧ Paired (Told K H n) xs ds
    | .ref a, .lst ds => ∃ xs, SqL K H a xs ∧ Paired (Told K H n) xs ds
    | _, _ => False
section
variable {X : Cx} {pins : List (Addr × Obj)} {σ : St} {H : Hp} {s : Shared}
theorem told_get {K : PySem.W.Frag} {n : Nat} : ∀ {xs ys : List V} {ds : List Dt}, Paired (Told K H n) xs ds → Paired (Told K H n) ys ds → xs.length = ys.length ∧ ∀ (j : Nat) (x y : V), xs[j]? = some x → ys[j]? = some y → ∃ d, Told K H n x d ∧ Told K H n y d
  | _, _, _, .nil, .nil => ⟨rfl, fun j x y h _ => by simp at h⟩
  | _, _, _, .cons r t, .cons q u => by
    obtain ⟨h1, h2⟩ := told_get t u
    refine ⟨by simp [h1], fun j x y e1 e2 => ?_⟩
    cases j with
    | zero => simp at e1 e2; subst e1; subst e2; exact ⟨_, r, q⟩
    | succ j => exact h2 j x y (by simpa using e1) (by simpa using e2)
theorem units_in1 {A : Around} : A.in1.units = A.units + 1 := rfl
open PySem.SeqAt in
theorem told_eq (I : Inv X pins σ H s) : ∀ (n : Nat) (A : Around) (x y : V) (u v : Value) (d : Dt), A.units + n < cLine → RelV x u → RelV y v → Told X.K H n x d → Told X.K H n y d → EqAt A s u v true := by
  intro n
  induction n with
  | zero =>
    intro A x y u v d hu rx ry hx hy
    cases d with
    | non => cases x <;> first | exact hx.elim | (cases y <;> first | exact hy.elim | (cases rx; cases ry; exact EqAt.same _))
    | bl b => cases x <;> first | exact hx.elim | (cases y <;> first | exact hy.elim | (cases rx; cases ry; cases hx; cases hy; exact EqAt.same _))
    | int b =>
      cases x with
      | int i =>
        cases y with
        | int j =>
          obtain ⟨t, rfl⟩ := rx
          obtain ⟨t', rfl⟩ := ry
          have e1 : i = b := hx
          have e2 : j = b := hy
          have q := EqAt.int_int (A := A) (s := s) i t j t'
          rw [e1, e2, beq_self_eq_true] at q
          rw [e1, e2]
          exact q
        | _ => exact hy.elim
      | _ => exact hx.elim
    | str b =>
      cases x with
      | str i =>
        cases y with
        | str j =>
          obtain ⟨t, rfl⟩ := rx
          obtain ⟨t', rfl⟩ := ry
          have e1 : i = b := hx
          have e2 : j = b := hy
          have q := EqAt.str_str (A := A) (s := s) i t j t'
          rw [e1, e2, beq_self_eq_true] at q
          rw [e1, e2]
          exact q
        | _ => exact hy.elim
      | _ => exact hx.elim
    | tup ds => cases x <;> exact hx.elim
    | lst ds => cases x <;> exact hx.elim
  | succ n ih =>
    intro A x y u v d hu rx ry hx hy
    cases d with
    | non => cases x <;> first | exact hx.elim | (cases y <;> first | exact hy.elim | (cases rx; cases ry; exact EqAt.same _))
    | bl b => cases x <;> first | exact hx.elim | (cases y <;> first | exact hy.elim | (cases rx; cases ry; cases hx; cases hy; exact EqAt.same _))
    | int b =>
      cases x with
      | int i =>
        cases y with
        | int j =>
          obtain ⟨t, rfl⟩ := rx
          obtain ⟨t', rfl⟩ := ry
          have e1 : i = b := hx
          have e2 : j = b := hy
          have q := EqAt.int_int (A := A) (s := s) i t j t'
          rw [e1, e2, beq_self_eq_true] at q
          rw [e1, e2]
          exact q
        | _ => exact hy.elim
      | _ => exact hx.elim
    | str b =>
      cases x with
      | str i =>
        cases y with
        | str j =>
          obtain ⟨t, rfl⟩ := rx
          obtain ⟨t', rfl⟩ := ry
          have e1 : i = b := hx
          have e2 : j = b := hy
          have q := EqAt.str_str (A := A) (s := s) i t j t'
          rw [e1, e2, beq_self_eq_true] at q
          rw [e1, e2]
          exact q
        | _ => exact hy.elim
      | _ => exact hx.elim
    | tup ds =>
      cases x with
      | ref a =>
        cases y with
        | ref b =>
          cases rx
          cases ry
          by_cases hab : a = b
          · subst hab; exact EqAt.same _
          obtain ⟨xs, h1, h2⟩ := hx
          obtain ⟨ys, g1, g2⟩ := hy
          obtain ⟨its, rv, p, _⟩ := I.tuple h1
          obtain ⟨its', rv', p', _⟩ := I.tuple g1
          obtain ⟨l1, l2⟩ := told_get h2 g2
          have L1 := rv.length
          have L2 := rv'.length
          have q := RcAt.tuples (A := A) (s := s) (e := fun _ => true) (show s.heap.IsTuple a its.toArray from p) (show s.heap.IsTuple b its'.toArray from p') (by omega) fun j h1 h2 => by
            have j1 : j < xs.length := by simpa [L1] using h1
            have j2 : j < ys.length := by simpa [L2] using h2
            obtain ⟨d, t1, t2⟩ := l2 j _ _ (List.getElem?_eq_getElem j1) (List.getElem?_eq_getElem j2)
            obtain ⟨u1, e1, r1⟩ := rv.get (List.getElem?_eq_getElem j1)
            obtain ⟨u2, e2, r2⟩ := rv'.get (List.getElem?_eq_getElem j2)
            have f1 : its.toArray[j] = u1 := by
              have := (List.getElem?_eq_some_iff.mp e1).2
              simpa using this
            have f2 : its'.toArray[j] = u2 := by
              have := (List.getElem?_eq_some_iff.mp e2).2
              simpa using this
            rw [f1, f2]
            exact ih A.in1 _ _ u1 u2 d (by rw [units_in1]; omega) r1 r2 t1 t2
          have e : ((List.range (min its.toArray.size its'.toArray.size)).all (fun _ => true) && its.toArray.size == its'.toArray.size) = true := by
            simp
            omega
          rw [e] at q
          exact EqAt.of_refs hab q
        | _ => exact hy.elim
      | _ => exact hx.elim
    | lst ds =>
      cases x with
      | ref a =>
        cases y with
        | ref b =>
          cases rx
          cases ry
          by_cases hab : a = b
          · subst hab; exact EqAt.same _
          obtain ⟨xs, h1, h2⟩ := hx
          obtain ⟨ys, g1, g2⟩ := hy
          obtain ⟨its, rv, p, _⟩ := I.list h1
          obtain ⟨its', rv', p', _⟩ := I.list g1
          obtain ⟨l1, l2⟩ := told_get h2 g2
          have L1 := rv.length
          have L2 := rv'.length
          have q := RcAt.lists (A := A) (s := s) (e := fun _ => true) p.isList p'.isList (by simp; omega) (by omega) fun j h1 h2 => by
            have j1 : j < xs.length := by simpa [L1] using h1
            have j2 : j < ys.length := by simpa [L2] using h2
            obtain ⟨d, t1, t2⟩ := l2 j _ _ (List.getElem?_eq_getElem j1) (List.getElem?_eq_getElem j2)
            obtain ⟨u1, e1, r1⟩ := rv.get (List.getElem?_eq_getElem j1)
            obtain ⟨u2, e2, r2⟩ := rv'.get (List.getElem?_eq_getElem j2)
            have f1 : its.toArray[j] = u1 := by
              have := (List.getElem?_eq_some_iff.mp e1).2
              simpa using this
            have f2 : its'.toArray[j] = u2 := by
              have := (List.getElem?_eq_some_iff.mp e2).2
              simpa using this
            rw [f1, f2]
            exact ih A.in1 _ _ u1 u2 d (by rw [units_in1]; omega) r1 r2 t1 t2
          have e : (List.range its.toArray.size).all (fun _ => true) = true := by simp
          rw [e] at q
          exact EqAt.of_refs hab q
        | _ => exact hy.elim
      | _ => exact hx.elim
end
end L2
set_option Elab.async false
set_option linter.all false
set_option maxRecDepth 100000
set_option maxHeartbeats 4000000
namespace L2
open PySem PySem.Spec PyProof.Rows
section
variable {X : Cx} {pins : List (Addr × Obj)} {σ : St} {H : Hp} {s : Shared}
/-- the items of two things told alike -/
theorem told_items (I : Inv X pins σ H s) {n : Nat} {A : Around} {xs ys : List V} {its its' : List Value} {ds : List Dt} (hu : A.units + 1 + n < cLine) (h2 : Paired (Told X.K H n) xs ds) (g2 : Paired (Told X.K H n) ys ds) (rv : Vals xs its) (rv' : Vals ys its') :
    its.toArray.size = its'.toArray.size ∧ ∀ j (h1 : j < its.toArray.size) (h2 : j < its'.toArray.size), PySem.SeqAt.EqAt A.in1 s its.toArray[j] its'.toArray[j] true := by
  obtain ⟨l1, l2⟩ := told_get h2 g2
  have L1 := rv.length
  have L2 := rv'.length
  refine ⟨by simp; omega, fun j h1 h2 => ?_⟩
  have j1 : j < xs.length := by simpa [L1] using h1
  have j2 : j < ys.length := by simpa [L2] using h2
  obtain ⟨d, t1, t2⟩ := l2 j _ _ (List.getElem?_eq_getElem j1) (List.getElem?_eq_getElem j2)
  obtain ⟨u1, e1, r1⟩ := rv.get (List.getElem?_eq_getElem j1)
  obtain ⟨u2, e2, r2⟩ := rv'.get (List.getElem?_eq_getElem j2)
  have f1 : its.toArray[j] = u1 := by
    have := (List.getElem?_eq_some_iff.mp e1).2
    simpa using this
  have f2 : its'.toArray[j] = u2 := by
    have := (List.getElem?_eq_some_iff.mp e2).2
    simpa using this
  rw [f1, f2]
  exact told_eq I n A.in1 _ _ u1 u2 d (by rw [units_in1]; omega) r1 r2 t1 t2
def tupsTold (K : PySem.W.Frag) (x y : V) (H : Hp) : Prop := ∃ n a b xs ys ds, n ≤ 8 ∧ x = .ref a ∧ y = .ref b ∧ SqT K H a xs ∧ SqT K H b ys ∧ Paired (Told K H n) xs ds ∧ Paired (Told K H n) ys ds
def lstsTold (K : PySem.W.Frag) (x y : V) (H : Hp) : Prop := ∃ n a b xs ys ds, n ≤ 8 ∧ x = .ref a ∧ y = .ref b ∧ SqL K H a xs ∧ SqL K H b ys ∧ Paired (Told K H n) xs ds ∧ Paired (Told K H n) ys ds
open PySem.SeqAt in
theorem op_eqL (hu : X.A.units + 64 < cLine) : OpR X (compareOp .Eq) (fun x y H Q => lstsTold X.K x y H ∧ Q (.bl true) H) := by
  intro pins s σ H x y v u Q I rx ry h
  obtain ⟨⟨n, a, b, xs, ys, ds, hn, rfl, rfl, h1, h2, h3, h4⟩, q⟩ := h
  cases rx
  cases ry
  obtain ⟨its, rv, p, _⟩ := I.list h1
  obtain ⟨its', rv', p', _⟩ := I.list h2
  obtain ⟨k1, k2⟩ := told_items I (A := X.A) (n := n) (by omega) h3 h4 rv rv'
  refine eq_listAt (e := fun _ => true) p.isList p'.isList k1 (by omega) k2 ?_
  have e : (List.range its.toArray.size).all (fun _ => true) = true := by simp
  rw [e]
  exact ⟨.bl true, H, I, rfl, q⟩
end
/-! ### comprehensions, the forms one uses -/
/-- over a range, each element told from the turn's number alone; what is held of the heap stays -/
theorem comp_range {lo : Int} {n : Nat} {fr : List Nat} {te : TE} {σ : St} {H : Hp} {Q : VK} (Pv : Nat → List V → Hp → Prop) (hn : n ≤ sizeLine) (h0 : Pv 0 [] H) (hlen : ∀ i acc H, Pv i acc H → acc.length = i)
    (hs : ∀ i acc H, i < n → Pv i acc H → ∀ R : VK, (∀ y H1, Pv (i + 1) (acc ++ [y]) H1 → R y H1) → te ((compSt σ fr).set 0 (some (.int (lo + i)))) H R)
    (hd : ∀ acc H, Pv n acc H → ∀ p, H p = none → Q (.ref p) (upd H p (.lst acc))) :
    CompGo fr tYes te σ Q (Itr lo n) H := by
  refine ⟨fun i m acc H => m = n - i ∧ i ≤ n ∧ Pv i acc H, ⟨n, by simp, Nat.zero_le _, h0⟩, ?_⟩
  rintro i m acc H ⟨rfl, hi, p⟩
  have hl := hlen i acc H p
  by_cases hlt : i < n
  · refine .inr ⟨hlt, by omega, fun x H' y => ?_⟩
    obtain ⟨e, y⟩ := y
    subst e y
    unfold tYes
    refine iteT ?_
    exact hs i acc _ hlt p _ fun y H1 q => ⟨n - (i + 1), by omega, rfl, hlt, q⟩
  · have e : i = n := by omega
    subst e
    exact .inl ⟨Nat.le_refl _, by omega, hd acc H p⟩
end L2
set_option Elab.async false
set_option linter.all false
set_option maxRecDepth 100000
set_option maxHeartbeats 4000000
namespace L2
open PySem PySem.Spec PyProof.Rows
/-- a def of the text that may be called, with its promise -/
structure Cal (P : Program) (w : World) (K : PySem.W.Frag) (mg : Str → Option Value) (base : Heap) (k : Nat) (x : Str) (ps : List Str) (sp : Sp) where
  f : Addr
  fd : FuncData
  ok : FnOk P w K mg base CX0 k f fd ps sp
  b : Binds K fd ps []
  kp : PySem.W.keepIn K (.ref f) = true
  mg : mg x = some (.ref f)
theorem pec {X : Cx} {k : Nat} {x : Str} {ps : List Str} {sp : Sp} {p pos : Pos} {e : Expr} {es : List Expr} {t : TA} (C : Cal X.prog X.w X.K X.mg X.base k x ps sp) (hr : Room k X.A) (hg : Gl X x) (ha : PA X (e :: es) t)
    (hdb : (x == ("__debug__" : Str)) = false := by decide) (he : starEach (e :: es) X.env = (false, eval e X.env) :: starEach es X.env := by rfl) (hpl : (backTo pos (starEach es X.env)).any (·.1) = false := by rfl) :
    PE X (.Call (.Name x p) (e :: es) [] pos) (tCall sp [] E0 t) := pe_call C.ok hr hg C.mg C.kp C.b .nil pass0 ha hdb he hpl
theorem Same.seqT {K : PySem.W.Frag} {H H' : Hp} {a : Addr} {xs : List V} (e : Same H H') (h : SqT K H a xs) : SqT K H' a xs := by
  rcases h with (h | ⟨o, h⟩) | h
  · exact .inl (.inl (e _ _ h))
  · exact .inl (.inr ⟨o, e _ _ h⟩)
  · exact .inr h
theorem same_new {H : Hp} {p : Addr} (h : H p = none) (o : HO) : Same H (upd H p o) := fun b u q => by rw [upd_ne (ne_of_none q h)]; exact q
theorem at_int {ns : List Int} {i : Int} (h0 : 0 ≤ i) (h1 : i < ns.length) : atI (ns.map V.int) i = some (.int (ns.getD i.toNat 0)) := by
  have hk : i.toNat < ns.length := by omega
  have ek : i = ((i.toNat : Nat) : Int) := by omega
  have q : atI (ns.map V.int) ((i.toNat : Nat) : Int) = some (.int (ns.getD i.toNat 0)) := atI_nat (by
    rw [List.getElem?_map, List.getElem?_eq_getElem hk, List.getD_eq_getElem?_getD, List.getElem?_eq_getElem hk]; rfl)
  rw [← ek] at q
  exact q
theorem small {n : Nat} (h : n ≤ 1000) : n ≤ sizeLine := Nat.le_of_lt (small1000 h)
theorem told_ints {K : PySem.W.Frag} {H : Hp} : ∀ (ns : List Int), Paired (Told K H 0) (ns.map V.int) (ns.map Dt.int)
  | [] => .nil
  | n :: r => .cons (show n = n from rfl) (told_ints r)
/-- an end: a number or None -/
def ov : Option Int → V
  | none => .non
  | some i => .int i
end L2
set_option Elab.async false
set_option linter.all false
set_option maxRecDepth 100000
set_option maxHeartbeats 4000000
namespace L2
open PySem PySem.Spec PyProof.Rows
section
variable {prog : Program} {w : World} {A : Around} {E : Value → Shared → Prop} {s : Shared}
/-! ### zip of two tuples, its items kept by a name -/
end
end L2
set_option Elab.async false
set_option linter.all false
set_option maxRecDepth 100000
set_option maxHeartbeats 4000000
namespace L2
open PySem PySem.Spec PyProof.Rows
section
variable {prog : Program} {w : World} {A : Around} {E : Value → Shared → Prop} {s : Shared}
/-! ### the making of a zip -/
end
end L2
set_option Elab.async false
set_option linter.all false
set_option maxRecDepth 100000
set_option maxHeartbeats 4000000
namespace L2
open PySem PySem.Spec PyProof.Rows
end L2
set_option Elab.async false
set_option linter.all false
set_option maxRecDepth 100000
set_option maxHeartbeats 4000000
namespace L2
open PySem PySem.Spec PyProof.Rows
section
variable {X : Cx}
end
/-! ### comprehensions over a tuple, over a zip of two tuples -/
theorem comp_tup {K : PySem.W.Frag} {a : Addr} {xs : List V} {fr : List Nat} {te : TE} {σ : St} {H : Hp} {Q : VK} (Pv : Nat → List V → Hp → Prop) (hn : xs.length ≤ sizeLine) (h0 : Pv 0 [] H) (hlen : ∀ i acc H, Pv i acc H → acc.length = i) (hl : ∀ i acc H, Pv i acc H → SqT K H a xs)
    (hs : ∀ i acc H x, xs[i]? = some x → Pv i acc H → ∀ R : VK, (∀ y H1, Pv (i + 1) (acc ++ [y]) H1 → R y H1) → te ((compSt σ fr).set 0 (some x)) H R)
    (hd : ∀ acc H, Pv xs.length acc H → ∀ p, H p = none → Q (.ref p) (upd H p (.lst acc))) : CompGo fr tYes te σ Q (Itt K a) H := by
  refine ⟨fun i m acc H => m = xs.length - i ∧ i ≤ xs.length ∧ Pv i acc H, ⟨xs.length, by simp, Nat.zero_le _, h0⟩, ?_⟩
  rintro i m acc H ⟨rfl, hi, p⟩
  have ha := hlen i acc H p
  have q := hl i acc H p
  by_cases hlt : i < xs.length
  · refine .inr ⟨⟨xs, xs[i], q, by simp [hlt]⟩, by omega, fun x H' y => ?_⟩
    obtain ⟨e, y⟩ := y
    subst e
    unfold tYes
    refine iteT ?_
    exact hs i acc _ x (y xs q) p _ fun y H1 q => ⟨xs.length - (i + 1), by omega, rfl, hlt, q⟩
  · have e : i = xs.length := by omega
    subst e
    exact .inl ⟨⟨xs, q, Nat.le_refl _⟩, by omega, hd acc H p⟩
end L2
set_option Elab.async false
set_option linter.all false
set_option maxRecDepth 100000
set_option maxHeartbeats 4000000
namespace L2
open PySem PySem.Spec PyProof.Rows
/-! ### the same rules where the fragment is named (within a comprehension's block) -/
section
variable {X : Cx} {K : PySem.W.Frag}
theorem ix_listK (h : X.K = K) : IxR X (rIxL K) := h ▸ ix_list
end
end L2
set_option Elab.async false
set_option linter.all false
set_option maxRecDepth 100000
set_option maxHeartbeats 4000000
namespace L2
open PySem PySem.Spec PyProof.Rows
section
variable {X : Cx}
theorem comp_core {use : Option (Value → Sem Unit)} {S : Value → Shared → Prop} {elt iter : Expr} {x : Str} {px : Pos} {ifs : List Expr} {scope : Scope} {pos : Pos} {wi : TI} {tt : TT} {te : TE} (F : List Str) (fr : List Nat) (hc : X.calm = true) (hi : PI X (.Name x px) iter wi)
    (ht : ∀ s3 H3 ex, PTs (compCx X (x :: F) scope s3 H3 ex) ifs tt) (he : ∀ s3 H3 ex, PE (compCx X (x :: F) scope s3 H3 ex) elt te)
    {pins : List (Addr × Obj)} {s : Shared} {σ : St} {H : Hp} {Q : VK} {p2 : Pos} (I : Inv X pins σ H s) (h : tComp wi fr tt te σ H Q) (hk : compChk X.env.scope X.N scope x F fr = true) (hs : ∀ x, foldedSetIterable iter X.env x = pure x)
    (fin : ∀ (s5 : Shared) (H5 : Hp) (D C : Addr) (m : Str → Option Value), Inv X pins σ H5 s5 → s5.heap.Ns C m → FpOk X pins H5 C → Q (.ref D) H5 → compPost (model X.prog X.w) X.A X.xe use S (.ref D) C (.ok .next) s5) :
    wpAny (model X.prog X.w) X.A (comprehension (.ListComp elt [⟨.Name x px, iter, ifs, 0⟩] scope pos) scope X.env p2 (newList []) false (eval iter X.env) use) S X.xe s := by
  have C := CompOk.of hk
  refine wpAny_comprehension_free (use := use) rfl hs (closure_eq (I.closes C)) C.kind C.loc ?_
  refine thn (hi pins s σ H _ I h) fun v s1 h1 => thn h1 fun itv s2 h2 => ?_
  obtain ⟨it, fp, tn, J, H2, e, I2, T, st2, f2, W, ⟨m0, w0⟩, turn⟩ := h2
  subst e
  refine wpAny_newObj_type (wpAny_newFunctionEnv C.nocell (by intro y hy; simp at hy) (fun h₁ hns₁ hsb₁ => ?_) C.kind)
  dsimp only at hns₁ hsb₁ ⊢
  generalize hs3 : ({ s2 with heap := s2.heap.push { cls := .type "list", dict := none, data := .seq ([] : List Value).toArray } } : Shared) = s3
  have e3 : s3.heap = s2.heap.push { cls := .type "list", dict := none, data := .seq ([] : List Value).toArray } := by rw [← hs3]
  rw [← e3] at hns₁ hsb₁ ⊢
  have sz3 : s3.heap.objs.size = s2.heap.objs.size + 1 := by rw [e3, Heap.size_push]
  generalize hD : s2.heap.objs.size = D at sz3 ⊢
  have I3 : Inv X pins σ H2 s3 := by
    rw [← hs3]
    exact I2.kept (t' := s2.toks) fun b o e => Heap.get?_push_of_some _ e
  have hDX : ∀ {H' : Hp}, H' D = none → FpOk X pins H' D := fun {H'} hn => I2.fpOk (H' := H') (by rw [hD]; exact Nat.le_refl _) hn
  have hCX : ∀ {H' : Hp}, H' s3.heap.objs.size = none → FpOk X pins H' s3.heap.objs.size := fun {H'} hn => I3.fpOk (H' := H') (Nat.le_refl _) hn
  have hD2 : H2 D = none := by rw [← hD]; exact I2.hok.fresh (Nat.le_refl _)
  have ltf : ∀ b ∈ fp, b < D := fun b hb => by
    obtain ⟨o, ho, _⟩ := T.obj 0 _ st2 b hb
    rw [← hD]
    exact Heap.lt_size ho
  have ltD : D < s3.heap.objs.size := by rw [sz3]; exact Nat.lt_succ_self _
  have getD3 : s3.heap.get? D = some { cls := .type "list", dict := none, data := .seq ([] : List Value).toArray } := by
    rw [e3, ← hD]
    exact Heap.get?_push_size _ rfl
  have old : ∀ b o, s3.heap.get? b = some o → h₁.get? b = some o := fun b o e => hsb₁.extBut b o (Nat.ne_of_lt (Heap.lt_size e)) (Heap.get?_push_of_some _ e)
  have J0 : Inv (compCx X (x :: F) scope s3 H2 (D :: fp)) [] (compSt σ fr) H2 { s3 with heap := h₁, toks := s3.toks + ([] : List (Str × Value)).length } := by
    refine inv_comp I3 C (fun b hb => ?_) (by simpa using hns₁) old
    rcases List.mem_cons.mp hb with e | hb
    · subst e; exact ⟨hDX hD2, ltD⟩
    · exact ⟨f2 b hb, Nat.lt_trans (ltf b hb) ltD⟩
  have nfs : ∀ b, b ≠ X.env.locals → b ∉ X.fs → b ∉ frs X.stack := fun b h1 h2 hb => by
    rcases List.mem_cons.mp (I3.stkSub b hb) with z | z
    · exact h1 z
    · exact h2 z
  have gs : ∀ {y : Str} {c : Addr}, (gather X.env.cells scope.names []).lookup y = some c → X.env.cells.lookup y = some c := fun h => I.gsub C h
  -- what is true of the block's iterator
  have fpY : ∀ {H' : Hp} {oD : Obj}, (∀ b ∈ fp, H' b = none) → ∀ b ∈ fp, FpOk (compCx X (x :: F) scope s3 H2 (D :: fp)) [(D, oD)] H' b := fun {H' oD} hn b hb => by
    obtain ⟨g0, g1, g2, g3, g4, g5⟩ := f2 b hb
    refine ⟨hn b hb, Nat.ne_of_lt (Nat.lt_trans (ltf b hb) ltD), nfs b g1 g2, .inl (List.mem_cons_of_mem _ hb), fun y c e => g4 y c (gs e), fun p hp => ?_⟩
    have e : p = (D, oD) := by
      have : p ∈ ([] : List (Addr × Obj)) ++ [(D, oD)] := hp
      simpa using this
    rw [e]
    exact Nat.ne_of_gt (ltf b hb)
  have pinD : ∀ {H' : Hp} {s' : Shared} {oD : Obj} {σ' : St}, Inv (compCx X (x :: F) scope s3 H2 (D :: fp)) [] σ' H' s' → H' D = none → s'.heap.get? D = some oD → (∀ v, oD.data ≠ .cell v) → Inv (compCx X (x :: F) scope s3 H2 (D :: fp)) [(D, oD)] σ' H' s' := fun {H' s' oD σ'} I' hn e hd => by
    refine I'.pins_of fun p hp => ?_
    have ep : p = (D, oD) := by simpa using hp
    subst ep
    obtain ⟨g0, g1, g2, _⟩ := hDX hD2
    exact ⟨e, hn, Nat.ne_of_lt ltD, nfs D g1 g2, hd⟩
  have unpin : ∀ {H' : Hp} {s' : Shared} {pl : List (Addr × Obj)} {σ' : St}, Inv (compCx X (x :: F) scope s3 H2 (D :: fp)) pl σ' H' s' → Inv (compCx X (x :: F) scope s3 H2 (D :: fp)) [] σ' H' s' := fun I' => I'.pins_of fun p hp => nomatch hp
  have post : ∀ (s' : Shared), s' = { s3 with heap := h₁, toks := s3.toks + ([] : List (Str × Value)).length } →
      codeAny (model X.prog X.w) X.A (.compLoop (.ListComp elt [⟨.Name x px, iter, ifs, 0⟩] scope pos) 0 (.ref it) (.ref D) (compEnvC scope (gather X.env.cells scope.names []) s3.heap.objs.size X.env))
        (compPost (model X.prog X.w) X.A X.xe use S (.ref D) s3.heap.objs.size) s' := by
    rintro s' rfl
    refine codeAny_compLoop_tests (fun n s' => ∃ i acc its H' oD, Inv (compCx X (x :: F) scope s3 H2 (D :: fp)) [] (compSt σ fr) H' s' ∧ tn i s'.heap ∧ (∀ b ∈ fp, H' b = none) ∧ H' D = none ∧
      s'.heap.get? D = some oD ∧ (∃ n, oD = { cls := .type "list", data := .seq (its : List Value).toArray n }) ∧ Vals acc its ∧ W i n acc H') ?_ m0 ⟨0, [], [], H2, _, J0, ?_, fun b hb => (f2 b hb).1, hD2, old _ _ getD3, ⟨0, rfl⟩, .nil, w0⟩
    · rintro n s4 ⟨i, acc, its, H4, oD, I4, st4, fr4, n4, g4, ⟨nn, rfl⟩, v4, w4⟩
      have hdat : ∀ v, ({ cls := .type "list", data := .seq its.toArray nn } : Obj).data ≠ .cell v := fun v z => by cases z
      have I4' := pinD I4 n4 g4 hdat
      rcases turn i n acc H4 w4 with ⟨stop, hz, q⟩ | ⟨go, hz, step⟩
      · refine wpAny_mono (T.done (compCx X (x :: F) scope s3 H2 (D :: fp)) rfl rfl rfl hc i [(D, _)] s4 (compSt σ fr) H4 (fun _ _ => False) I4' (fpY fr4) st4 stop) (fun r s5 ⟨hr, I5⟩ => ?_) fun _ _ z => False.elim z
        subst hr
        obtain ⟨m, hm, _⟩ := I5.loc
        obtain ⟨g5, n5, _⟩ := I5.pin (D, _) (List.mem_append_right _ List.mem_cons_self)
        have hC5 : H4 s3.heap.objs.size = none := I5.free
        have IX : Inv X pins σ H4 s5 := I3.call' (ch := D :: fp) I5.os I5.base I5.hok I5.bare fun b hb => by
          rcases List.mem_cons.mp hb with e | hb
          · subst e
            obtain ⟨g0, g1, g2, g3, g4, g5⟩ := hDX hD2
            exact ⟨g3, g1, g4, g5⟩
          · obtain ⟨g0, g1, g2, g3, g4, g5⟩ := f2 b hb
            exact ⟨g3, g1, g4, g5⟩
        have hC6 : (upd H4 D (.lst acc)) s3.heap.objs.size = none := by rw [upd_ne (Nat.ne_of_gt ltD)]; exact hC5
        exact fin s5 _ D _ m (IX.track (o := .lst acc) (hDX n5) (by rw [← hD]; exact I2.sz) ⟨hz, its, nn, v4, g5⟩) hm (hCX hC6) (q D n5)
      · refine wpAny_mono (T.item (compCx X (x :: F) scope s3 H2 (D :: fp)) rfl rfl rfl hc i [(D, _)] s4 (compSt σ fr) H4 (fun _ _ => False) I4' (fpY fr4) st4 go) (fun r s5 ⟨u, hr, h5⟩ => ?_) fun _ _ z => False.elim z
        subst hr
        refine after_pure (show wpAny _ _ (pure () : Sem Unit) _ _ s5 from h5) fun ⟨y, H6, I6, r6, y6, st6, fr6⟩ => ?_
        have hl : (compCx X (x :: F) scope s3 H2 (D :: fp)).env.scope.names.lookup x = some .local := lookup_relabel_local C.tx
        -- the target's store, the iterator and the list held fast
        have I6' := I6.pinned (fp := fp) (fun b hb => ⟨fr6 b hb, (fpY (oD := { cls := .type "list", data := .seq its.toArray nn }) fr4 b hb).2⟩) (T.obj _ _ st6)
        have PGx : PG (compCx X (x :: F) scope s3 H2 (D :: fp)) (.Name x px) (gName 0) := pg_name C.nd rfl (.inl hl) (.inr hl)
        refine wpAny_mono (PGx _ s5 (compSt σ fr) H6 y u (fun σ7 H7 => σ7 = (compSt σ fr).set 0 (some y) ∧ H7 = H6) I6' r6 ⟨rfl, rfl⟩) (fun _ s7 ⟨σ7, H7, I7, q7⟩ => ?_) fun _ _ z => False.elim z
        obtain ⟨rfl, rfl⟩ := q7
        refine wpAny_mono (ht s3 H2 (D :: fp) _ s7 _ H7 _ I7 (step y H7 y6)) (fun b s8 ⟨H8, I8, q8⟩ => ?_) fun _ _ z => False.elim z
        -- what is held fast
        have held : ∀ {σ9 : St} {H9 : Hp} {s9 : Shared}, Inv (compCx X (x :: F) scope s3 H2 (D :: fp)) ([(D, { cls := .type "list", data := .seq its.toArray nn })] ++ pinsAt fp s5.heap) σ9 H9 s9 →
            tn (i + 1) s9.heap ∧ (∀ b ∈ fp, H9 b = none) ∧ H9 D = none ∧ s9.heap.get? D = some { cls := .type "list", data := .seq its.toArray nn } := fun {σ9 H9 s9} I9 => by
          refine ⟨T.keep _ _ _ st6 fun b hb o e => (I9.pin (b, o) (List.mem_append_right _ (List.mem_append_right _ (mem_pinsAt hb e)))).1, fun b hb => ?_, ?_, ?_⟩
          · obtain ⟨o, e, _⟩ := T.obj _ _ st6 b hb
            exact (I9.pin (b, o) (List.mem_append_right _ (List.mem_append_right _ (mem_pinsAt hb e)))).2.1
          · exact (I9.pin (D, _) (List.mem_append_right _ (List.mem_append_left _ List.mem_cons_self))).2.1
          · exact (I9.pin (D, _) (List.mem_append_right _ (List.mem_append_left _ List.mem_cons_self))).1
        have forget : ∀ {H9 : Hp} {s9 : Shared} {pl : List (Addr × Obj)}, Inv (compCx X (x :: F) scope s3 H2 (D :: fp)) pl ((compSt σ fr).set 0 (some y)) H9 s9 → Inv (compCx X (x :: F) scope s3 H2 (D :: fp)) [] (compSt σ fr) H9 s9 := fun {H9 s9 pl} I9 => by
          refine (unpin I9).weak (by simp) fun j v e => ?_
          cases j with
          | zero => simp [compSt] at e
          | succ j => simpa [compSt] using e
        cases b with
        | false =>
          obtain ⟨m', hm', w8⟩ := q8
          obtain ⟨a1, a2, a3, a4⟩ := held I8
          exact ⟨m', hm', i + 1, acc, its, H8, _, forget I8, a1, a2, a3, a4, ⟨nn, rfl⟩, v4, w8⟩
        | true =>
          refine wpAny_mono (he s3 H2 (D :: fp) _ s8 _ H8 _ I8 q8) (fun yv s9 ⟨z9, H9, I9, r9, m', hm', w9⟩ => ?_) fun _ _ z => False.elim z
          obtain ⟨a1, a2, a3, a4⟩ := held I9
          have hlen := v4.length
          refine wpAny_list_append_plain (items := its.toArray) ⟨nn, a4⟩ (fun h' hp' hsb' => ?_) (by rw [List.size_toArray]; omega)
          obtain ⟨n2, hp2⟩ := hp'
          have e2 : its.toArray.push yv = (its ++ [yv]).toArray := by simp
          rw [e2] at hp2
          have I10 := forget I9
          obtain ⟨d0, d1, d2, d3, d4, d5⟩ := hDX hD2
          have I11 : Inv (compCx X (x :: F) scope s3 H2 (D :: fp)) [] (compSt σ fr) H9 { s9 with heap := h' } :=
            I10.turned (t' := s9.toks) (it := D) (fun b o hb e => (hsb'.2 b hb).trans e) a3 (Nat.ne_of_lt ltD) (.inl List.mem_cons_self) (fun y c e => d4 y c (gs e)) fun p hp => absurd (show p ∈ ([] : List (Addr × Obj)) from hp) (by simp)
          refine ⟨m', hm', i + 1, acc ++ [z9], its ++ [yv], H9, _, I11, T.keep _ _ _ a1 fun b hb o e => (hsb'.2 b (Nat.ne_of_lt (ltf b hb))).trans e, a2, a3, hp2, ⟨n2, rfl⟩, v4.append (.cons r9 .nil), w9⟩
    · exact T.keep _ _ _ st2 fun b hb o e => old b o (by rw [e3]; exact Heap.get?_push_of_some _ e)
  refine codeAny_compStart_list (post _ (by rw [← hs3])) (T.self X.A 0 _ _ _ ?_ (post _ (by rw [← hs3])))
  exact T.keep _ _ _ st2 fun b hb o e => old b o (by rw [e3]; exact Heap.get?_push_of_some _ e)

/-- x = [.. for ..] at a plain local: the store stands within the block -/
theorem ps_setComp {y : Str} {j : Nat} {elt iter : Expr} {x : Str} {px py : Pos} {ifs : List Expr} {scope : Scope} {pos spos : Pos} {wi : TI} {tt : TT} {te : TE} (F : List Str) (fr : List Nat) (hN : X.N.Nodup) (hj : X.N[j]? = some y) (hy : X.env.scope.names.lookup y = some .local) (hc : X.calm = true) (hi : PI X (.Name x px) iter wi)
    (ht : ∀ s3 H3 ex, PTs (compCx X (x :: F) scope s3 H3 ex) ifs tt) (he : ∀ s3 H3 ex, PE (compCx X (x :: F) scope s3 H3 ex) elt te)
    (hsw : swapsWith (.ListComp elt [⟨.Name x px, iter, ifs, 0⟩] scope pos) (some (.Name y py)) spos.line X.env = pure true := by rfl)
    (hk : compChk X.env.scope X.N scope x F fr = true := by rfl) (hs : ∀ x, foldedSetIterable iter X.env x = pure x := by intro _; rfl) :
    PS X (.Assign [.Name y py] (.ListComp elt [⟨.Name x px, iter, ifs, 0⟩] scope pos) spos) (tAsg (tComp wi fr tt te) (gName j)) := by
  intro pins s σ H D0 I h
  rw [exec_Assign_Name_used _ _ _ _ hsw]
  refine wpAny_bind (wpAny_standAt (wpAny_bind ?_))
  show wpAny _ X.A (do let _ ← comprehension (.ListComp elt [⟨.Name x px, iter, ifs, 0⟩] scope pos) scope X.env _ (newList []) false (eval iter X.env) (some (assign (.Name y py) X.env))) _ _ s
  refine wpAny_bind (wpAny_mono (comp_core (use := some (assign (.Name y py) X.env)) (S := fun _ s' => SP X pins D0 .next s') F fr hc hi ht he I h hk hs fun s5 H5 D C m IT hm hC q => ?_) (fun _ s' hq => wpAny_pure (wpAny_pure hq)) fun _ _ e => e)
  obtain ⟨c0, c1, c2, c3, c4, c5⟩ := hC
  show wpAny _ X.A (assign (.Name y py) X.env (.ref D)) _ _ _
  refine wpAny_assign_Name (store_ok2 IT hN hj (.inl hy) (v := .ref D) rfl (fun s6 I6 hsb => ?_) (.inr hy))
  obtain ⟨b, hsb, hb⟩ := hsb
  have hCb : C ≠ b := by
    rcases hb with e | e
    · rw [e]; exact c1
    · exact fun z => c4 y b e z.symm
  refine ⟨m, hm.sameBut hsb hCb, fun h' hs' => ?_⟩
  exact ⟨_, H5, I6.turned (t' := s6.toks) (it := C) (fun b o hb e => (hs'.2 b hb).trans e) c0 c1 c3 c4 c5, q⟩
end
end L2
set_option Elab.async false
set_option linter.all false
set_option maxRecDepth 100000
set_option maxHeartbeats 4000000
namespace L2
open PySem PySem.Spec PyProof.Rows

/-! ### an exception in flight -/
section
variable {P : Program} {w : World} {l : List Env} {H H' : Hp} {s s' : Shared} {x : Addr} {cls a0 : Value} {B : Heap}
end
section
variable {X : Cx} {pins : List (Addr × Obj)} {σ : St} {H H' : Hp} {s s' : Shared} {x : Addr} {cls a0 : Value} {B : Heap}
end

/-! ### a def's body: an exception made here, one that passes -/
section
variable {P : Program} {w : World} {K : PySem.W.Frag} {mg : Str → Option Value} {base : Heap} {N : List Str} {qual : Str} {scope : Scope} {f : Addr} {cd : Value} {A : Around} {outer : List Env} {s : Shared} {H : Hp} {E E' : XK}
end
end L2
set_option Elab.async false
set_option linter.all false
set_option maxRecDepth 100000
set_option maxHeartbeats 4000000
namespace L2
open PySem PySem.Spec PyProof.Rows

/-! ### own error classes under ValueError -/
section
variable {X : Cx} {x : Str} {C : Addr} {np cpos pos : Pos} {e : Expr} {es : List Expr} {t : TA} {E : XK}
end

/-! ### texts with places in them: what stands in them is not followed -/
section
variable {X : Cx}
end

/-! ### defs that may raise -/
section
variable {P : Program} {w : World} {K : PySem.W.Frag} {mg : Str → Option Value} {base : Heap}
end
section
variable {X : Cx} {k : Nat} {x : Str} {ps : List Str} {sp : Sp} {p pos : Pos} {e : Expr} {es : List Expr} {t : TA} {E : XK}
end
end L2
set_option Elab.async false
set_option linter.all false
set_option maxRecDepth 100000
set_option maxHeartbeats 4000000
namespace L2
open PySem PySem.Spec PyProof.Rows

/-! ### isinstance of an exception of one's own -/
section
variable {prog : Program} {w : World} {A : Around} {E : Value → Shared → Prop} {K : PySem.W.Frag} {x D : Addr} {o : Obj}
end
section
variable {X : Cx}
end
end L2
set_option Elab.async false
set_option linter.all false
set_option maxRecDepth 100000
set_option maxHeartbeats 4000000
namespace L2
open PySem PySem.Spec PyProof.Rows

/-! ### try .. except -/
section
variable {M : Model} {A : Around} {E : Value → Shared → Prop} {K : PySem.W.Frag} {x C D : Addr} {s : Shared} {Q : Bool → Shared → Prop} {b : Bool} {o : Obj}
end
/-- the context of an except suite -/
abbrev Cx.under (X : Cx) (x : Addr) : Cx := { X with A := X.A.mark (some (.ref x)), calm := false, xe := fun _ _ => False }
/-- the context of a try's body -/
abbrev Cx.tried (X : Cx) (E : Value → Shared → Prop) (pn : List (Addr × Obj)) : Cx := { X with xe := E, pn := pn }
section
variable {X : Cx} {pins : List (Addr × Obj)} {σ : St} {H : Hp} {s : Shared}
abbrev THd := Value → Ends → St → Hp → Prop
end
end L2
set_option Elab.async false
set_option linter.all false
set_option maxRecDepth 100000
set_option maxHeartbeats 4000000
namespace L2
open PySem PySem.Spec PyProof.Rows
section
variable {X : Cx} {c n : Str} {C : Addr} {i : Nat} {np pos : Pos} {b₀ : Stmt} {suite : List Stmt} {rest : List ExceptHandler} {th : TS} {tr : THd}
end
end L2
set_option Elab.async false
set_option linter.all false
set_option maxRecDepth 100000
set_option maxHeartbeats 4000000
namespace L2
open PySem PySem.Spec PyProof.Rows
section
variable {X : Cx} {K : PySem.W.Frag}
end
/-! ### sum of a list of ints -/
section
variable {X : Cx}
end
/-! ### a comprehension over a list -/
theorem comp_list {K : PySem.W.Frag} {a : Addr} {xs : List V} {fr : List Nat} {te : TE} {σ : St} {H : Hp} {Q : VK} (Pv : Nat → List V → Hp → Prop) (hn : xs.length ≤ sizeLine) (h0 : Pv 0 [] H) (hlen : ∀ i acc H, Pv i acc H → acc.length = i) (hl : ∀ i acc H, Pv i acc H → SqL K H a xs)
    (hs : ∀ i acc H x, xs[i]? = some x → Pv i acc H → ∀ R : VK, (∀ y H1, Pv (i + 1) (acc ++ [y]) H1 → R y H1) → te ((compSt σ fr).set 0 (some x)) H R)
    (hd : ∀ acc H, Pv xs.length acc H → ∀ p, H p = none → Q (.ref p) (upd H p (.lst acc))) : CompGo fr tYes te σ Q (Itl K a) H := by
  refine ⟨fun i m acc H => m = xs.length - i ∧ i ≤ xs.length ∧ Pv i acc H, ⟨xs.length, by simp, Nat.zero_le _, h0⟩, ?_⟩
  rintro i m acc H ⟨rfl, hi, p⟩
  have ha := hlen i acc H p
  have q := hl i acc H p
  by_cases hlt : i < xs.length
  · refine .inr ⟨⟨xs, xs[i], q, by simp [hlt]⟩, by omega, fun x H' y => ?_⟩
    obtain ⟨e, y⟩ := y
    subst e
    unfold tYes
    refine iteT ?_
    exact hs i acc _ x (y xs q) p _ fun y H1 q => ⟨xs.length - (i + 1), by omega, rfl, hlt, q⟩
  · have e : i = xs.length := by omega
    subst e
    exact .inl ⟨⟨xs, q, Nat.le_refl _⟩, by omega, hd acc H p⟩
end L2
set_option Elab.async false
set_option linter.all false
set_option maxRecDepth 100000
set_option maxHeartbeats 4000000
namespace L2
open PySem PySem.Spec PyProof.Rows
section
variable {X : Cx} {K : PySem.W.Frag}
/-- xs[i] by values, i not below 0 -/
theorem get_list : PGet X (fun x y H Q => ∃ p xs i v, x = .ref p ∧ y = .int i ∧ SqL X.K H p xs ∧ 0 ≤ i ∧ atI xs i = some v ∧ Q v H) := by
  intro pins s σ H x y v u Q I rx ry h
  obtain ⟨p, xs, i, z, rfl, rfl, hq, h0, he, q⟩ := h
  cases rx
  obtain ⟨t, rfl⟩ := ry
  obtain ⟨its, r, pl, hz⟩ := I.list hq
  obtain ⟨j, h1, h2, h3, h4, h5⟩ := atI_get he
  obtain ⟨w, ew, rw'⟩ := r.get h2
  have hl := r.length
  have hn := line63
  have fin : EP X pins σ Q w s := ⟨z, H, I, rw', q⟩
  have hj : i.toNat = j := by
    rw [seqIndex_of h0 h5] at h1
    exact Option.some.inj h1
  exact wpAny_getItem_list pl.isList h0 (by omega) (by rw [hj]; simpa using ew) fin
end
/-! ### a comprehension over a list, with a test -/
end L2
set_option Elab.async false
set_option linter.all false
set_option maxRecDepth 100000
set_option maxHeartbeats 4000000
namespace L2
open PySem PySem.Spec PyProof.Rows
section
variable {X : Cx}
/-- an item that is no starred one -/
def plainE : Expr → Bool
  | .Starred _ _ => false
  | _ => true
theorem star_plain {e : Expr} {es : List Expr} {env : Env} (h : plainE e = true) : starEach (e :: es) env = (false, eval e env) :: starEach es env := by
  cases e with
  | Starred _ _ => cases h
  | _ => rfl
theorem pa_consP {e : Expr} {es : List Expr} {te : TE} {t : TA} (ha : PE X e te) (hr : PA X es t) (h : plainE e = true := by rfl) : PA X (e :: es) (tCons te t) := pa_cons ha hr (star_plain h)
end
end L2
set_option Elab.async false
set_option linter.all false
set_option maxRecDepth 100000
set_option maxHeartbeats 4000000
namespace L2
open PySem PySem.Spec PyProof.Rows
section
variable {X : Cx} {K : PySem.W.Frag}
end
end L2
set_option Elab.async false
set_option linter.all false
set_option maxRecDepth 100000
set_option maxHeartbeats 4000000
namespace L2
open PySem PySem.Spec PyProof.Rows
theorem hu1 {A : Around} {k : Nat} (hr : Room k A) : A.units + 1 < cLine := by
  have := hr.units
  omega
theorem vals_of_get : ∀ {xs : List V} {us : List Value}, xs.length = us.length → (∀ (i : Nat) x u, xs[i]? = some x → us[i]? = some u → RelV x u) → Vals xs us
  | [], [], _, _ => .nil
  | [], _ :: _, h, _ => by cases h
  | _ :: _, [], h, _ => by cases h
  | x :: xs, u :: us, h, g => .cons (g 0 x u rfl rfl) (vals_of_get (by simpa using h) fun i y v h1 h2 => g (i + 1) y v (by simpa using h1) (by simpa using h2))
section
variable {X : Cx}
end
end L2
set_option Elab.async false
set_option linter.all false
set_option maxRecDepth 100000
set_option maxHeartbeats 4000000
namespace L2
open PySem PySem.Spec PyProof.Rows
/-! ### min and max of a list with a default -/
section
variable {prog : Program} {w : World} {A : Around} {E : Value → Shared → Prop} {s : Shared}
end
section
variable {X : Cx} {id : String} {x : Str} {p pos : Pos} {e : Expr} {es : List Expr} {kws : List Keyword} {t tk : TA} {r : List V → List V → Hp → VK → Prop} {ks : List Str}
end

section
variable {prog : Program} {w : World} {A : Around} {R : Result → Shared → Prop} {J Z : Addr} {fp wr : List Addr} {n : Nat} {P : Nat → Value → Prop} {St : Nat → Heap → Prop}
end
section
variable {prog : Program} {w : World} {A : Around} {E : Value → Shared → Prop} {s : Shared}
end
section
variable {X : Cx}
end

section
variable {prog : Program} {w : World} {A : Around} {R : Result → Shared → Prop} {J Z : Addr} {fp wr : List Addr} {n : Nat} {P : Nat → Value → Prop} {St : Nat → Heap → Prop}
end
section
variable {prog : Program} {w : World} {A : Around} {E : Value → Shared → Prop} {s : Shared}
end
section
variable {X : Cx}
end

section
variable {X : Cx}
open PySem.SeqAt in
theorem op_neT (hu : X.A.units + 64 < cLine) : OpR X (compareOp .NotEq) (fun x y H Q => tupsTold X.K x y H ∧ Q (.bl false) H) := by
  intro pins s σ H x y v u Q I rx ry h
  obtain ⟨⟨n, a, b, xs, ys, ds, hn, rfl, rfl, h1, h2, h3, h4⟩, q⟩ := h
  cases rx
  cases ry
  obtain ⟨its, rv, p, _⟩ := I.tuple h1
  obtain ⟨its', rv', p', _⟩ := I.tuple h2
  obtain ⟨k1, k2⟩ := told_items I (A := X.A) (n := n) (by omega) h3 h4 rv rv'
  refine (RcNeAt.tuples (e := fun _ => true) (show s.heap.IsTuple a its.toArray from p) (show s.heap.IsTuple b its'.toArray from p') (by omega) k2) X.prog X.w _ _ ?_
  have e : (!((List.range (min its.toArray.size its'.toArray.size)).all (fun _ => true) && its.toArray.size == its'.toArray.size)) = false := by
    rw [k1]; simp
  rw [e]
  exact ⟨.bl false, H, I, rfl, q⟩
end
end L2
set_option Elab.async false
set_option linter.all false
set_option maxRecDepth 100000
set_option maxHeartbeats 4000000
namespace L2
open PySem PySem.Spec PyProof.Rows
/-! ### methods of own classes, with their promises -/
structure MCal (P : Program) (w : World) (K : PySem.W.Frag) (mg : Str → Option Value) (base : Heap) (C : Addr) (k : Nat) (m : Str) (ps : List Str) (sp : Sp) where
  f : Addr
  fd : FuncData
  ok : FnOk P w K mg base CX0 k f fd ps sp
  b : Binds K fd ps []
  mt : Meth K C m f
/-- a class that is made -/
structure MkCal (P : Program) (w : World) (K : PySem.W.Frag) (mg : Str → Option Value) (base : Heap) (C : Addr) (k : Nat) (x : Str) (ps : List Str) (sp : Sp) where
  f : Addr
  fd : FuncData
  ok : FnOk P w K mg base CX0 k f fd ps sp
  b : Binds K fd ps []
  mkd : Mk K C f
  mg : mg x = some (.ref C)
section
variable {X : Cx} {k : Nat} {m : Str} {C : Addr} {ps : List Str} {sp : Sp} {apos pos : Pos} {o e : Expr} {es : List Expr} {ta : TE} {t : TA}
end
end L2
set_option Elab.async false
set_option linter.all false
set_option maxRecDepth 100000
set_option maxHeartbeats 4000000
namespace L2
open PySem PySem.Spec PyProof.Rows
section
variable {X : Cx}
/-- // by a long divisor -/
def CDivL (i j : Int) : Prop := 0 < j ∧ j < 10 ^ 100
theorem op_fdivL : OpR X (binaryOp .FloorDiv) (rI CDivL fun i j => .int (i / j)) := opI fun i j _ _ _ _ _ hc q => by
  have h1 : (0 : Int) < j := hc.1
  have h2 : j < 10 ^ 100 := hc.2
  have h3 : j.natAbs < 2 ^ 9000 := by
    have e : j.natAbs < 10 ^ 100 := by omega
    exact Nat.lt_trans e (by decide +kernel)
  have h4 : j.natAbs.log2 < 9000 := (Nat.log2_lt (by omega)).mpr h3
  exact floordiv_int (by omega) (by rw [Int.fdiv_eq_ediv_of_nonneg i (by omega)]; exact q) (.inl (PyProof.noPylong_of_log2 h4))
end
end L2
set_option Elab.async false
set_option linter.all false
set_option maxRecDepth 100000
set_option maxHeartbeats 4000000
namespace L2
open PySem PySem.Spec PyProof.Rows
/-! ### == of lists of tuples (or of lists) of ints, whatever the answer -/
theorem all_eq {α : Type} [DecidableEq α] {xs ys : List α} (d : α) (h : xs.length = ys.length) : ((List.range xs.length).all fun j => decide (xs.getD j d = ys.getD j d)) = decide (xs = ys) := by
  rw [Bool.eq_iff_iff, List.all_eq_true, decide_eq_true_iff]
  constructor
  · intro g
    refine List.ext_getElem h fun i h1 h2 => ?_
    have := of_decide_eq_true (g i (List.mem_range.mpr h1))
    rw [List.getD_eq_getElem?_getD, List.getD_eq_getElem?_getD, List.getElem?_eq_getElem h1, List.getElem?_eq_getElem h2] at this
    exact this
  · rintro rfl i _
    exact decide_eq_true rfl
theorem isList_uniq {h : Heap} {a : Addr} {x y : Array Value} (h1 : h.IsList a x) (h2 : h.IsList a y) : x = y := by
  obtain ⟨o, e1, _, n, d1⟩ := h1
  obtain ⟨o', e2, _, n', d2⟩ := h2
  rw [e1] at e2
  cases e2
  rw [d1] at d2
  injection d2
section
variable {X : Cx} {pins : List (Addr × Obj)} {σ : St} {H : Hp} {s : Shared}
open PySem.SeqAt in
/-- None and a list are not equal -/
theorem op_eqNL (hu : X.A.units + 64 < cLine) : OpR X (compareOp .Eq) (fun x y H Q => ((x = .non ∧ ∃ b ws, y = .ref b ∧ SqL X.K H b ws) ∨ (y = .non ∧ ∃ a vs, x = .ref a ∧ SqL X.K H a vs)) ∧ Q (.bl false) H) := by
  intro pins s σ H x y v u Q I rx ry h
  obtain ⟨h, q⟩ := h
  rcases h with ⟨rfl, b, ws, rfl, h2⟩ | ⟨rfl, a, vs, rfl, h1⟩
  · cases rx
    cases ry
    obtain ⟨its, rv, p, _⟩ := I.list h2
    exact RcAt.none_list p.isList (by omega) X.prog X.w _ _ ⟨.bl false, H, I, rfl, q⟩
  · cases rx
    cases ry
    obtain ⟨its, rv, p, _⟩ := I.list h1
    exact RcAt.list_none p.isList (by omega) X.prog X.w _ _ ⟨.bl false, H, I, rfl, q⟩
end
end L2
set_option Elab.async false
set_option linter.all false
set_option maxRecDepth 100000
set_option maxHeartbeats 4000000
namespace L2
open PySem PySem.Spec PyProof.Rows
/-! ### lists by their length (smaller than a match of each def's own) -/
theorem lenE1 : ∀ {us : List Value}, us.length = 1 → ∃ a, us = [a]
  | [a], _ => ⟨a, rfl⟩
theorem lenE2 : ∀ {us : List Value}, us.length = 2 → ∃ a b, us = [a, b]
  | [a, b], _ => ⟨a, b, rfl⟩
theorem lenE3 : ∀ {us : List Value}, us.length = 3 → ∃ a b c, us = [a, b, c]
  | [a, b, c], _ => ⟨a, b, c, rfl⟩
theorem lenE4 : ∀ {us : List Value}, us.length = 4 → ∃ a b c d, us = [a, b, c, d]
  | [a, b, c, d], _ => ⟨a, b, c, d, rfl⟩
theorem lenE5 : ∀ {us : List Value}, us.length = 5 → ∃ a b c d e, us = [a, b, c, d, e]
  | [a, b, c, d, e], _ => ⟨a, b, c, d, e, rfl⟩
theorem lenE6 : ∀ {us : List Value}, us.length = 6 → ∃ a b c d e f, us = [a, b, c, d, e, f]
  | [a, b, c, d, e, f], _ => ⟨a, b, c, d, e, f, rfl⟩
/-! ### any of a list of bools -/
section
variable {X : Cx} {K : PySem.W.Frag}
/-- pe_comp by way of comp_core (which ps_setComp wants too): the smaller text -/
theorem pe_compS {elt iter : Expr} {x : Str} {px : Pos} {ifs : List Expr} {scope : Scope} {pos : Pos} {wi : TI} {tt : TT} {te : TE} (F : List Str) (fr : List Nat) (hc : X.calm = true) (hi : PI X (.Name x px) iter wi)
    (ht : ∀ s3 H3 ex, PTs (compCx X (x :: F) scope s3 H3 ex) ifs tt) (he : ∀ s3 H3 ex, PE (compCx X (x :: F) scope s3 H3 ex) elt te)
    (hk : compChk X.env.scope X.N scope x F fr = true := by rfl) (hs : ∀ x, foldedSetIterable iter X.env x = pure x := by intro _; rfl) :
    PE X (.ListComp elt [⟨.Name x px, iter, ifs, 0⟩] scope pos) (tComp wi fr tt te) := by
  intro pins s σ H Q I h
  rw [eval_ListComp]
  refine comp_core (use := none) F fr hc hi ht he I h hk hs fun s5 H5 D C m IT hm hC q => ?_
  obtain ⟨c0, c1, c2, c3, c4, c5⟩ := hC
  refine ⟨m, hm, fun h' hs' => ?_⟩
  exact ⟨.ref D, H5, IT.turned (t' := s5.toks) (it := C) (fun b o hb e => (hs'.2 b hb).trans e) c0 c1 c3 c4 c5, rfl, q⟩
end
end L2
set_option Elab.async false
set_option linter.all false
set_option maxRecDepth 100000
set_option maxHeartbeats 4000000
namespace L2
open PySem PySem.Spec PyProof.Rows
/-! ### a def (or method) with defaults, of which all parameters are given -/
structure FunD (K : PySem.W.Frag) (x qual : Str) (st : Stmt) (f : Addr) (fd : FuncData) : Prop where
  ex : ∃ (oc : Value) (od : Option Addr) (dV kV doc pm : Value) (an : Option Addr) (cdv ct : Value) (osl : Array (Option Value)),
    fd = PySem.W.fnOf x qual (defArgs st) (defBody st) (defScope st) dV kV doc pm an cdv ct ∧ K.lookup f = some ⟨oc, od, .func fd, osl⟩ ∧ PySem.W.codeIn K cdv qual = true
  kp : PySem.W.keepIn K (.ref f) = true
section
variable {P : Program} {w : World} {K : PySem.W.Frag} {mg : Str → Option Value} {base : Heap}
theorem FunD.ok {x qual : Str} {st : Stmt} {f : Addr} {fd : FuncData} {N ps : List Str} {k : Nat} {sp : Sp} (F : FunD K x qual st f fd) (S : FnScope N ps (defScope st)) (len : ∀ vs H Q E, sp vs H Q E → vs.length = ps.length)
    (hbody : ∀ (cdv : Value) (A : Around) (outer : List Env) (s : Shared) (H : Hp) (vs : List V) (Q : VK) (E : XK), Room k (A.deeper (envOfC qual (defScope st) s.heap.objs.size f cdv)) → sp vs H Q E →
      ∃ t, PSs (cxOf CX0 P w K mg base N qual (defScope st) f cdv A outer s H E).nox (defBody st) t ∧ t { nx := fun _ H' => Q .non H', rt := Q } (start N vs) H) : FnOk P w K mg base CX0 (k + 1) f fd ps sp := by
  obtain ⟨oc, od, dV, kV, doc, pm, an, cdv, ct, osl, rfl, lk, hcd⟩ := F.ex
  refine fn_of lk hcd S len fun A outer s H vs Q E hr hsp => ?_
  obtain ⟨t, h, q⟩ := hbody cdv A outer s H vs Q E hr hsp
  exact ⟨t, h.nox, q⟩
theorem fun_mkD {x qual : Str} {st : Stmt} {f : Addr} {oc : Value} {od an : Option Addr} {osl : Array (Option Value)} {dV kV doc pm cdv ct : Value} (l : K.lookup f = some ⟨oc, od, .func (PySem.W.fnOf x qual (defArgs st) (defBody st) (defScope st) dV kV doc pm an cdv ct), osl⟩)
    (c : PySem.W.codeIn K cdv qual = true) (k : PySem.W.keepIn K (.ref f) = true) : FunD K x qual st f (PySem.W.fnOf x qual (defArgs st) (defBody st) (defScope st) dV kV doc pm an cdv ct) := ⟨⟨oc, od, dV, kV, doc, pm, an, cdv, ct, osl, rfl, l, c⟩, k⟩
end
end L2
set_option Elab.async false
set_option linter.all false
set_option maxRecDepth 100000
set_option maxHeartbeats 4000000
namespace L2
open PySem PySem.W PyProof.Rows
/-! ### the library's tree of questions that sorts, asked of an order: what comes out is in order -/
section
variable {lt : Nat → Nat → Bool}
end
end L2
set_option Elab.async false
set_option linter.all false
set_option maxRecDepth 100000
set_option maxHeartbeats 4000000
namespace L2
open PySem PySem.W PyProof.Rows
/-! ### what the sorting tree asks lies within the list -/
section
variable {n : Nat} (h0 : 0 < n)
include h0
end
/-! ### pairs of ints, in order -/
section
variable {prog : Program} {w : World} {A : Around} {E : Value → Shared → Prop} {s : Shared}
end
section
variable {X : Cx}
end
end L2
namespace L2
open PySem PySem.Spec PyProof.Rows

/-! ### lists of pairs as tables -/
section
variable {κ : Type} [DecidableEq κ]
def valV (kvs : List (κ × V)) (k : κ) : Option V := (kvs.find? fun kv => decide (kv.1 = k)).map (·.2)
/-- in its place, or at the end -/
def putK (kvs : List (κ × V)) (k : κ) (v : V) : List (κ × V) :=
  if (kvs.any fun kv => decide (kv.1 = k)) = true then kvs.map (fun kv => if kv.1 = k then (kv.1, v) else kv) else kvs ++ [(k, v)]
def dropK (kvs : List (κ × V)) (k : κ) : List (κ × V) := kvs.filter fun kv => decide (kv.1 ≠ k)

theorem valV_pos {p : κ × V} {r : List (κ × V)} {k : κ} (e : p.1 = k) : valV (p :: r) k = some p.2 := by simp [valV, List.find?_cons, e]
theorem valV_neg {p : κ × V} {r : List (κ × V)} {k : κ} (e : ¬ p.1 = k) : valV (p :: r) k = valV r k := by simp [valV, List.find?_cons, e]
theorem valV_any (k : κ) : ∀ kvs : List (κ × V), (kvs.any fun kv => decide (kv.1 = k)) = (valV kvs k).isSome
  | [] => rfl
  | p :: r => by
    rw [List.any_cons]
    by_cases e : p.1 = k
    · simp only [valV_pos e, decide_eq_true e, Bool.true_or, Option.isSome_some]
    · rw [valV_neg e, decide_eq_false e, Bool.false_or]; exact valV_any k r
theorem length_putK (kvs : List (κ × V)) (k : κ) (v : V) : (putK kvs k v).length ≤ kvs.length + 1 := by
  unfold putK
  split
  · rw [List.length_map]; omega
  · rw [List.length_append, List.length_cons, List.length_nil]; omega
theorem putK_new {kvs : List (κ × V)} {k : κ} (v : V) (h : valV kvs k = none) : putK kvs k v = kvs ++ [(k, v)] := by
  unfold putK
  rw [valV_any, h]
  exact if_neg (by decide)

theorem RelO.isSome_eq {o : Option V} {u : Option Value} (r : RelO o u) : o.isSome = u.isSome := by
  cases o with
  | none => cases u with
    | none => rfl
    | some _ => exact (show False from r).elim
  | some _ => cases u with
    | none => exact (show False from r).elim
    | some _ => rfl
/-- raw tables of the same keys -/
theorem KV.val {kvs : List (κ × V)} {vs : List (κ × Value)} (r : KV kvs vs) (k : κ) : RelO (valV kvs k) (valueAt vs k) := by
  unfold KV at r
  induction r with
  | nil => exact True.intro
  | @cons p q ps qs h t ih =>
    obtain ⟨h1, h2⟩ := h
    by_cases e : p.1 = k
    · have e' : q.1 = k := h1.symm.trans e
      have b : valueAt (q :: qs) k = some q.2 := by simp [valueAt, List.find?_cons, e']
      rw [valV_pos e, b]; exact h2
    · have e' : ¬ q.1 = k := fun z => e (h1.trans z)
      have b : valueAt (q :: qs) k = valueAt qs k := by simp [valueAt, List.find?_cons, e']
      rw [valV_neg e, b]; exact ih
theorem KV.any {kvs : List (κ × V)} {vs : List (κ × Value)} (r : KV kvs vs) (k : κ) : (kvs.any fun kv => decide (kv.1 = k)) = vs.any fun kv => decide (kv.1 = k) := by
  unfold KV at r
  induction r with
  | nil => rfl
  | cons h t ih => rw [List.any_cons, List.any_cons, ih, h.1]
theorem KV.repl {kvs : List (κ × V)} {vs : List (κ × Value)} (r : KV kvs vs) (k : κ) {y : V} {u : Value} (ry : RelV y u) :
    KV (kvs.map fun kv => if kv.1 = k then (kv.1, y) else kv) (vs.map fun kv => if kv.1 = k then (kv.1, u) else kv) := by
  unfold KV at r ⊢
  induction r with
  | nil => exact .nil
  | @cons p q ps qs h t ih =>
    rw [List.map_cons, List.map_cons]
    refine .cons ?_ ih
    obtain ⟨h1, h2⟩ := h
    by_cases e : p.1 = k
    · rw [if_pos e, if_pos (h1.symm.trans e)]; exact ⟨h1, ry⟩
    · rw [if_neg e, if_neg (fun z => e (h1.trans z))]; exact ⟨h1, h2⟩
theorem KV.put {kvs : List (κ × V)} {vs : List (κ × Value)} (r : KV kvs vs) (k : κ) {y : V} {u : Value} (ry : RelV y u) : KV (putK kvs k y) (stored vs k u) := by
  unfold putK stored
  rw [r.any k]
  by_cases e : (vs.any fun kv => decide (kv.1 = k)) = true
  · rw [if_pos e, if_pos e]; exact r.repl k ry
  · rw [if_neg e, if_neg e]; exact Paired.snoc r ⟨rfl, ry⟩
theorem KV.drop {kvs : List (κ × V)} {vs : List (κ × Value)} (r : KV kvs vs) (k : κ) : KV (dropK kvs k) (without vs k) := by
  unfold KV at r ⊢
  unfold dropK without
  induction r with
  | nil => exact .nil
  | @cons p q ps qs h t ih =>
    obtain ⟨h1, h2⟩ := h
    rw [List.filter_cons, List.filter_cons]
    by_cases e : p.1 = k
    · have a : ¬ decide (p.1 ≠ k) = true := by simp [e]
      have b : ¬ decide (q.1 ≠ k) = true := by simp [h1.symm.trans e]
      rw [if_neg a, if_neg b]; exact ih
    · have e' : ¬ q.1 = k := fun z => e (h1.trans z)
      have a : decide (p.1 ≠ k) = true := by simp [e]
      have b : decide (q.1 ≠ k) = true := by simp [e']
      rw [if_pos a, if_pos b]; exact .cons ⟨h1, h2⟩ ih
theorem KV.length {kvs : List (κ × V)} {vs : List (κ × Value)} (r : KV kvs vs) : kvs.length = vs.length := Paired.length r
theorem dropK_le (kvs : List (κ × V)) (k : κ) : (dropK kvs k).length ≤ kvs.length := List.length_filter_le _ _
end


/-! ### a tracked dict, its keys ints and texts or tuples of these -/
theorem kV_is {P : Program} {w : World} {k : Key} {u : Value} (r : RelV (kV k) u) : (mixKind P w).is k u = true := by
  cases k with
  | inl i => obtain ⟨t, e⟩ := (show ∃ t, u = Value.int i t from r); subst e; exact mixKind_int P w i t
  | inr x => obtain ⟨t, e⟩ := (show ∃ t, u = Value.str x t from r); subst e; exact mixKind_str P w x t
theorem items_are {P : Program} {w : World} : ∀ {ks : List Key} {us : List Value}, Vals (ks.map kV) us → ItemsAre (mixKind P w) ks us
  | [], _, r => by rw [List.map_nil] at r; cases r; exact .nil
  | k :: ks, _, r => by
    rw [List.map_cons] at r
    cases r with
    | cons h t => exact .cons (kV_is h) (items_are t)

/-- raw entries of a dict with tuple keys -/
abbrev KT (H : Hp) : List (List Key × V) → List (List Key × Addr × Value) → Prop := Paired fun p q => p.1 = q.1 ∧ H q.2.1 = some (.tup (p.1.map kV)) ∧ RelV p.2 q.2.2
theorem KT.val {H : Hp} {kvs : List (List Key × V)} {xs : List (List Key × Addr × Value)} (r : KT H kvs xs) (k : List Key) : RelO (valV kvs k) ((atKey xs k).map (·.2)) := by
  induction r with
  | nil => exact True.intro
  | @cons p q ps qs h t ih =>
    obtain ⟨h1, _, h2⟩ := h
    by_cases e : p.1 = k
    · have e' : q.1 = k := h1.symm.trans e
      have b : atKey (q :: qs) k = some q.2 := by simp [atKey, List.find?_cons, e']
      rw [valV_pos e, b]; exact h2
    · have e' : ¬ q.1 = k := fun z => e (h1.trans z)
      have b : atKey (q :: qs) k = atKey qs k := by simp [atKey, List.find?_cons, e']
      rw [valV_neg e, b]; exact ih
theorem KT.repl {H : Hp} {kvs : List (List Key × V)} {xs : List (List Key × Addr × Value)} (r : KT H kvs xs) (k : List Key) {y : V} {u : Value} (ry : RelV y u) :
    KT H (kvs.map fun kv => if kv.1 = k then (kv.1, y) else kv) (xs.map (putAt k u)) := by
  induction r with
  | nil => exact .nil
  | @cons p q ps qs h t ih =>
    rw [List.map_cons, List.map_cons]
    refine .cons ?_ ih
    obtain ⟨h1, h2, h3⟩ := h
    unfold putAt
    by_cases e : p.1 = k
    · rw [if_pos e, if_pos (h1.symm.trans e)]; exact ⟨h1, h2, ry⟩
    · rw [if_neg e, if_neg (fun z => e (h1.trans z))]; exact ⟨h1, h2, h3⟩
theorem KT.put {H : Hp} {kvs : List (List Key × V)} {xs : List (List Key × Addr × Value)} (r : KT H kvs xs) (k : List Key) {b : Addr} {y : V} {u : Value} (hb : H b = some (.tup (k.map kV))) (ry : RelV y u) :
    KT H (putK kvs k y) (storedH xs k b u) := by
  have e : (kvs.any fun kv => decide (kv.1 = k)) = (atKey xs k).isSome := by
    rw [valV_any, (r.val k).isSome_eq, Option.isSome_map]
  unfold putK storedH
  rw [e]
  by_cases q : (atKey xs k).isSome = true
  · rw [if_pos q, if_pos q]; exact r.repl k ry
  · rw [if_neg q, if_neg q]; exact Paired.snoc r ⟨rfl, hb, ry⟩
theorem KT.keeps {H H' : Hp} {kvs : List (List Key × V)} {xs : List (List Key × Addr × Value)} (r : KT H kvs xs) (ht : ∀ b ys, H b = some (.tup ys) → H' b = some (.tup ys)) : KT H' kvs xs :=
  Paired.mapP r fun _ _ z => ⟨z.1, ht _ _ z.2.1, z.2.2⟩

section
variable {P : Program} {w : World} {H : Hp} {h : Heap} {a : Addr}
theorem rd_of {u : HO} (ok : HOk P w H h) (e : Rd H a u) : ObjOk P w H h a u := e.ok ok
theorem dk_rd {kvs : List (Key × V)} (ok : HOk P w H h) (e : Rd H a (.dK kvs)) : kvs.length ≤ sizeLine ∧ (a == sysModules) = false ∧ ∃ vs, KV kvs vs ∧ h.DictOf (mixKind P w) a vs :=
  show ObjOk P w H h a (.dK kvs) from rd_of ok e
theorem dk_of {kvs : List (Key × V)} (ok : HOk P w H h) (e : H a = some (.dK kvs)) : kvs.length ≤ sizeLine ∧ (a == sysModules) = false ∧ ∃ vs, KV kvs vs ∧ h.DictOf (mixKind P w) a vs := dk_rd ok (.inl e)
/-- a tracked tuple of ints and texts is a key -/
theorem key_of {ks : List Key} (ok : HOk P w H h) (e : H a = some (.tup (ks.map kV))) : (tupleKind (mixKind P w)).is h ks a := by
  obtain ⟨_, its, r, o, h1, h2, n, h3⟩ := (show ObjOk P w H h a (.tup (ks.map kV)) from ok a _ e)
  exact ⟨o, its.toArray, n, h1, h2, h3, by simpa using items_are r⟩
theorem dt_rd {kvs : List (List Key × V)} (ok : HOk P w H h) (e : Rd H a (.dT kvs)) : kvs.length ≤ sizeLine ∧ (a == sysModules) = false ∧
    ∃ xs, KT H kvs xs ∧ h.DictOfH (tupleKind (mixKind P w)) a xs := by
  obtain ⟨z, y, xs, r, o, es, ep, h1, h2, h3, h4, h5⟩ := (show ObjOk P w H h a (.dT kvs) from rd_of ok e)
  refine ⟨z, y, xs, r, o, es, ep, h1, h2, h3, h4, fun x hx => ?_, h5⟩
  have all : ∀ {l : List (List Key × V)} {m : List (List Key × Addr × Value)}, KT H l m → ∀ x ∈ m, (tupleKind (mixKind P w)).is h x.1 x.2.1 := by
    intro l m q
    induction q with
    | nil => intro x hx; exact nomatch hx
    | @cons p q ps qs hq t ih =>
      intro x hx
      rcases List.mem_cons.mp hx with e | hx
      · subst e
        exact key_of ok (by rw [← hq.1]; exact hq.2.1)
      · exact ih x hx
  exact all r x hx
theorem dt_of {kvs : List (List Key × V)} (ok : HOk P w H h) (e : H a = some (.dT kvs)) : kvs.length ≤ sizeLine ∧ (a == sysModules) = false ∧
    ∃ xs, KT H kvs xs ∧ h.DictOfH (tupleKind (mixKind P w)) a xs := dt_rd ok (.inl e)
end

/-- what the dict at a holds at the key y -/
def DGet (H : Hp) (a : Addr) (y : V) (r : Option V) : Prop :=
  (∃ kvs k, Rd H a (.dK kvs) ∧ y = kV k ∧ r = valV kvs k) ∨ ∃ kvs k b, Rd H a (.dT kvs) ∧ y = .ref b ∧ H b = some (.tup (k.map kV)) ∧ r = valV kvs k
/-- the heap behind a[y] = v -/
def DPut (H : Hp) (a : Addr) (y v : V) (H' : Hp) : Prop :=
  (∃ kvs k, H a = some (.dK kvs) ∧ y = kV k ∧ kvs.length < sizeLine ∧ H' = upd H a (.dK (putK kvs k v))) ∨
  ∃ kvs k b, H a = some (.dT kvs) ∧ y = .ref b ∧ H b = some (.tup (k.map kV)) ∧ kvs.length < sizeLine ∧ H' = upd H a (.dT (putK kvs k v))
theorem DGet.k {H : Hp} {a : Addr} {kvs : List (Key × V)} {k : Key} (e : H a = some (.dK kvs)) : DGet H a (kV k) (valV kvs k) := .inl ⟨kvs, k, .inl e, rfl, rfl⟩
theorem DGet.t {H : Hp} {a b : Addr} {kvs : List (List Key × V)} {k : List Key} (e : H a = some (.dT kvs)) (eb : H b = some (.tup (k.map kV))) : DGet H a (.ref b) (valV kvs k) := .inr ⟨kvs, k, b, .inl e, rfl, eb, rfl⟩
theorem DPut.k {H : Hp} {a : Addr} {kvs : List (Key × V)} {k : Key} {v : V} (e : H a = some (.dK kvs)) (hl : kvs.length < sizeLine) : DPut H a (kV k) v (upd H a (.dK (putK kvs k v))) := .inl ⟨kvs, k, e, rfl, hl, rfl⟩
theorem DPut.t {H : Hp} {a b : Addr} {kvs : List (List Key × V)} {k : List Key} {v : V} (e : H a = some (.dT kvs)) (eb : H b = some (.tup (k.map kV))) (hl : kvs.length < sizeLine) :
    DPut H a (.ref b) v (upd H a (.dT (putK kvs k v))) := .inr ⟨kvs, k, b, e, rfl, eb, hl, rfl⟩


section
variable {X : Cx} {pins : List (Addr × Obj)} {σ : St} {H : Hp} {s : Shared} {a : Addr} {y v : V} {u r : Value} {o : Option V} {A : Around} {E : Value → Shared → Prop}

theorem Inv.big (I : Inv X pins σ H s) : sysModules < s.heap.objs.size := by
  have h : mainGlobals < s.heap.objs.size := (I.mod.glob.keeps I.bk).lt
  exact Nat.lt_trans (by decide) h

/-- d[y], there -/
theorem d_getItem {Q : Value → Shared → Prop} (hu : A.units + 1 < cLine) (I : Inv X pins σ H s) (g : DGet H a y (some v)) (ry : RelV y u) (h : ∀ w' s', Inv X pins σ H s' → RelV v w' → Q w' s') :
    wpAny (model X.prog X.w) A (getItem (.ref a) u) Q E s := by
  rcases g with ⟨kvs, k, e, ey, l⟩ | ⟨kvs, k, b, e, ey, eb, l⟩
  · subst ey
    obtain ⟨z, hd, vs, rel, dd⟩ := dk_rd I.hok e
    obtain ⟨w', hw, rw'⟩ := RelO.some_of (v := v) (o := valueAt vs k) (by rw [l]; exact rel.val k)
    exact wpAny_getItem_of (kV_is ry) dd.mapOf hw (h w' _ (I.tok _) rw')
  · subst ey
    cases (show u = Value.ref b from ry)
    obtain ⟨z, hd, xs, rel, dd⟩ := dt_rd I.hok e
    obtain ⟨w', hw, rw'⟩ := RelO.some_of (v := v) (o := (atKey xs k).map (·.2)) (by rw [l]; exact rel.val k)
    obtain ⟨p, hp, hp2⟩ := Option.map_eq_some_iff.mp hw
    refine wpAny_getItem_heap (tupleKind_room_in1 hu) (key_of I.hok eb) dd hp ?_
    rw [hp2]
    exact h w' _ (I.tok _) rw'
/-- y in d -/
theorem d_in {Q : Value → Shared → Prop} (hu : A.units + 1 < cLine) (I : Inv X pins σ H s) (g : DGet H a y o) (ry : RelV y u) (h : ∀ s', Inv X pins σ H s' → Q (.bool o.isSome) s') :
    wpAny (model X.prog X.w) A (compareOp .In u (.ref a)) Q E s := by
  rcases g with ⟨kvs, k, e, ey, l⟩ | ⟨kvs, k, b, e, ey, eb, l⟩
  · subst ey
    obtain ⟨z, hd, vs, rel, dd⟩ := dk_rd I.hok e
    refine wpAny_in_of (kV_is ry) hd dd.mapOf ?_
    rw [← (rel.val k).isSome_eq, ← l]
    exact h _ (I.tok _)
  · subst ey
    cases (show u = Value.ref b from ry)
    obtain ⟨z, hd, xs, rel, dd⟩ := dt_rd I.hok e
    refine wpAny_in_heap (tupleKind_room_in1 hu) (key_of I.hok eb) hd dd ?_
    have q := (rel.val k).isSome_eq
    rw [Option.isSome_map] at q
    rw [← q, ← l]
    exact h _ (I.tok _)
theorem d_notIn {Q : Value → Shared → Prop} (hu : A.units + 1 < cLine) (I : Inv X pins σ H s) (g : DGet H a y o) (ry : RelV y u) (h : ∀ s', Inv X pins σ H s' → Q (.bool (!o.isSome)) s') :
    wpAny (model X.prog X.w) A (compareOp .NotIn u (.ref a)) Q E s := by
  rcases g with ⟨kvs, k, e, ey, l⟩ | ⟨kvs, k, b, e, ey, eb, l⟩
  · subst ey
    obtain ⟨z, hd, vs, rel, dd⟩ := dk_rd I.hok e
    refine wpAny_notIn_of (kV_is ry) hd dd.mapOf ?_
    rw [← (rel.val k).isSome_eq, ← l]
    exact h _ (I.tok _)
  · subst ey
    cases (show u = Value.ref b from ry)
    obtain ⟨z, hd, xs, rel, dd⟩ := dt_rd I.hok e
    refine wpAny_notIn_heap (tupleKind_room_in1 hu) (key_of I.hok eb) hd dd ?_
    have q := (rel.val k).isSome_eq
    rw [Option.isSome_map] at q
    rw [← q, ← l]
    exact h _ (I.tok _)
/-- a dict's object is replaced -/
theorem d_write {h' : Heap} {t' : Nat} {ob : HO} (I : Inv X pins σ H s) (mu : Mut (H a)) (hs : Heap.SameBut a s.heap h') (he : ∃ q, h'.get? a = some q) (new : ObjOk X.prog X.w (upd H a ob) h' a ob) :
    Inv X pins σ (upd H a ob) { s with heap := h', toks := t' } :=
  I.write (x := a) (e := a) mu (.inl rfl) (fun b q hb z => (hs.2 b hb).trans z) he new
theorem dk_new {P : Program} {w : World} {H' : Hp} {h' : Heap} {kvs : List (Key × V)} {vs : List (Key × Value)} (z : kvs.length ≤ sizeLine) (hd : (a == sysModules) = false) (rel : KV kvs vs) (dd : h'.DictOf (mixKind P w) a vs) :
    ObjOk P w H' h' a (.dK kvs) := ⟨z, hd, vs, rel, dd⟩
/-- d[y] = v -/
theorem d_setItem {H' : Hp} {Q : Unit → Shared → Prop} (hu : A.units + 1 < cLine) (I : Inv X pins σ H s) (g : DPut H a y v H') (ry : RelV y u) (rv : RelV v r) (h : ∀ s', Inv X pins σ H' s' → Q () s') :
    wpAny (model X.prog X.w) A (setItem (.ref a) u r) Q E s := by
  rcases g with ⟨kvs, k, e, ey, l, eH⟩ | ⟨kvs, k, b, e, ey, eb, l, eH⟩
  · subst ey eH
    obtain ⟨z, hd, vs, rel, dd⟩ := dk_of I.hok e
    have hz : vs.length ≤ sizeLine := by rw [← rel.length]; exact z
    have hl : (putK kvs k v).length ≤ sizeLine := by have := length_putK kvs k v; omega
    refine wpAny_setItem_pairs (hsz := hz) (kV_is ry) dd fun h' dd' hs => h _ ?_
    have he : ∃ q, h'.get? a = some q := let ⟨q, _, _, hq, _⟩ := dd'; ⟨q, hq⟩
    exact d_write I (by rw [e]; exact True.intro) hs he (dk_new hl hd (rel.put k rv) dd')
  · subst ey eH
    cases (show u = Value.ref b from ry)
    obtain ⟨z, hd, xs, rel, dd⟩ := dt_of I.hok e
    have hz : xs.length ≤ sizeLine := by rw [← Paired.length rel]; exact z
    have hl : (putK kvs k v).length ≤ sizeLine := by have := length_putK kvs k v; omega
    refine wpAny_setItem_heap (hsz := hz) (tupleKind_room_in1 hu) (key_of I.hok eb) dd fun h' dd' hs => h _ ?_
    obtain ⟨q, es, ep, hq, h2, h3, h4, _, h5⟩ := dd'
    refine d_write I (by rw [e]; exact True.intro) hs ⟨q, hq⟩ ⟨hl, hd, _, (rel.put k eb rv).keeps fun c ys ec => ?_, q, es, ep, hq, h2, h3, h4, h5⟩
    rw [upd_ne (ne_of ec e (fun z => nomatch z))]
    exact ec
end

section
variable {X : Cx} {pins : List (Addr × Obj)} {σ : St} {H : Hp} {s : Shared} {a : Addr} {kvs : List (Key × V)} {k : Key} {u : Value} {A : Around} {E : Value → Shared → Prop}
/-- d.pop(k[, x]), there -/
theorem d_pop {v : V} {more : List Value} {Q : Value → Shared → Prop} (I : Inv X pins σ H s) (e : H a = some (.dK kvs)) (ry : RelV (kV k) u) (l : valV kvs k = some v) (hm : more = [] ∨ ∃ x, more = [x])
    (h : ∀ w' s', Inv X pins σ (upd H a (.dK (dropK kvs k))) s' → RelV v w' → Q w' s') : wpAny (model X.prog X.w) A (call (.builtin "dict.pop") (.ref a :: u :: more)) Q E s := by
  obtain ⟨z, hd, vs, rel, dd⟩ := dk_of I.hok e
  obtain ⟨w', hw, rw'⟩ := RelO.some_of (v := v) (o := valueAt vs k) (by rw [← l]; exact rel.val k)
  have hp : (keyPart u).isSome = true := by
    cases k with
    | inl i => obtain ⟨t, q⟩ := (show ∃ t, u = Value.int i t from ry); subst q; rfl
    | inr x => obtain ⟨t, q⟩ := (show ∃ t, u = Value.str x t from ry); subst q; rfl
  have ha : argsOk "dict.pop" ⟨.ref a :: u :: more, []⟩ := by
    rcases hm with q | ⟨x, q⟩
    · subst q; exact PySem.F.args_dict_pop_2 _ _
    · subst q; exact PySem.F.args_dict_pop_3 _ _ _
  refine call_meetsIn PySem.F.slot_dict_pop dd.typeIs PySem.F.entry_dict_pop ha (meets_dict_pop_there (mixKind X.prog X.w) a (kV_is ry) more hm hp)
    ⟨vs, w', dd, by rw [← rel.length]; exact z, hw, fun h' dd' hs => h w' _ ?_ rw'⟩
  have he : ∃ q, h'.get? a = some q := let ⟨q, _, _, hq, _⟩ := dd'; ⟨q, hq⟩
  exact d_write I (by rw [e]; exact True.intro) hs he (dk_new (Nat.le_trans (dropK_le kvs k) z) hd (rel.drop k) dd')
/-- len(d) -/
theorem d_len {Q : Value → Shared → Prop} (I : Inv X pins σ H s) (e : Rd H a (.dK kvs)) (h : ∀ t s', Inv X pins σ H s' → Q (.int kvs.length t) s') : wpAny (model X.prog X.w) A (call (.builtin "len") [.ref a]) Q E s := by
  obtain ⟨z, hd, vs, rel, dd⟩ := dk_rd I.hok e
  refine call_len_dict hd dd (by rw [← rel.length]; rw [sizeLine_eq] at z; omega) ?_
  rw [← rel.length]
  exact h _ _ (I.tok _)
end


/-! ### readings and rules -/
/-- the element of a subscription, not a slice -/
def NoSl (i : Expr) : Prop := ∀ ov iv, subscripted i false ov iv = operate [ov, iv] (getItem ov iv)
theorem subD_of {prog : Program} {w : World} {A : Around} {E : Value → Shared → Prop} {s : Shared} {env : Env} {value slice : Expr} {pos : Pos} {T id : String} {Q : Value → Shared → Prop}
    (hl : typeLookup (.type T) "__getitem__" = pure (some (.builtin id))) (hs : NoSl slice)
    (h : wpAny (model prog w) A (eval value env) (fun o s₁ => wpAny (model prog w) A (eval slice env) (fun i s₂ => s₂.TypeIs o T ∧ wpAny (model prog w) A (getItem o i) Q E s₂) E s₁) E s) :
    wpAny (model prog w) A (eval (.Subscript value slice pos) env) Q E s := by
  refine Subscript_ (wpAny_mono h (fun o s₁ h₁ => wpAny_mono h₁ (fun i s₂ h₂ => ?_) fun _ _ x => x) fun _ _ x => x)
  obtain ⟨hT, h₂⟩ := h₂
  unfold subscriptTail
  refine wpAny_bind ?_
  rw [getitemInPython_of_ne hT.not_modules]
  refine wpAny_bind (wpAny_specialOf hT hl ?_)
  have fin : wpAny (model prog w) A (subscripted slice false o i) (fun r s₃ => wpAny (model prog w) A (letTemporaryGo value o r >>= fun _ => pure r) Q E s₃) E s₂ := by
    rw [hs o i]
    exact wpAny_operating (wpAny_mono h₂ (fun r s₃ h₃ => wpAny_bind (wpAny_letTemporaryGo (wpAny_pure h₃))) fun _ _ x => x)
  first
    | exact wpAny_pure (wpAny_bind fin)
    | exact wpAny_bind (wpAny_pure (wpAny_bind fin))
    | exact wpAny_bind fin

theorem dict_typeIs {X : Cx} {pins : List (Addr × Obj)} {σ : St} {H : Hp} {s : Shared} {a : Addr} {y : V} {o : Option V} (I : Inv X pins σ H s) (g : DGet H a y o) : s.TypeIs (.ref a) "dict" := by
  rcases g with ⟨kvs, k, e, _, _⟩ | ⟨kvs, k, b, e, _, _, _⟩
  · obtain ⟨_, _, vs, _, dd⟩ := dk_rd I.hok e
    exact dd.typeIs
  · obtain ⟨_, _, xs, _, dd⟩ := dt_rd I.hok e
    exact dd.typeIs
/-- d[y] -/
def tDGet (td ty : TE) : TE := fun σ H Q => td σ H fun x H1 => ty σ H1 fun y H2 => ∃ a v, x = .ref a ∧ DGet H2 a y (some v) ∧ Q v H2
/-- y in d, y not in d -/
def tDIn (ty td : TE) : TE := fun σ H Q => ty σ H fun y H1 => td σ H1 fun x H2 => ∃ a o, x = .ref a ∧ DGet H2 a y o ∧ Q (.bl o.isSome) H2
def tDNotIn (ty td : TE) : TE := fun σ H Q => ty σ H fun y H1 => td σ H1 fun x H2 => ∃ a o, x = .ref a ∧ DGet H2 a y o ∧ Q (.bl (!o.isSome)) H2
/-- d[y] = v -/
def sDPut (td ty tv : TE) : TS := fun D σ H => tv σ H fun v H1 => td σ H1 fun x H2 => ty σ H2 fun y H3 => ∃ a H4, x = .ref a ∧ DPut H3 a y v H4 ∧ D.nx σ H4
section
variable {X : Cx} {o i e value : Expr} {pos pos' tpos : Pos} {td ty tv : TE}
theorem pe_dget (hu : X.A.units + 1 < cLine) (ho : PE X o td) (hi : PE X i ty) (hs : NoSl i) : PE X (.Subscript o i pos) (tDGet td ty) := by
  intro pins s σ H Q I h
  refine subD_of PySem.F.slot_dict_getitem.lookup hs (thn (ho pins s σ H _ I h) fun u s1 ⟨x, H1, I1, rx, q1⟩ => thn (hi pins s1 σ H1 _ I1 q1) fun iv s2 ⟨y, H2, I2, ry, a, v, ex, g, q2⟩ => ?_)
  subst ex
  obtain rfl : u = Value.ref a := rx
  exact ⟨dict_typeIs I2 g, d_getItem hu I2 g ry fun w' s3 I3 rw' => ⟨v, H2, I3, rw', q2⟩⟩
theorem pc_din (hu : X.A.units + 1 < cLine) (hi : PE X i ty) (ho : PE X o td) : PC X .In i o (tDIn ty td) := by
  intro pins s σ H Q I h
  refine thn (hi pins s σ H _ I h) fun iv s1 ⟨y, H1, I1, ry, q1⟩ => thn (ho pins s1 σ H1 _ I1 q1) fun u s2 ⟨x, H2, I2, rx, a, ov, ex, g, q2⟩ => ?_
  subst ex
  obtain rfl : u = Value.ref a := rx
  exact d_in hu I2 g ry fun s3 I3 => ⟨.bl ov.isSome, H2, I3, rfl, q2⟩
theorem pc_dnotin (hu : X.A.units + 1 < cLine) (hi : PE X i ty) (ho : PE X o td) : PC X .NotIn i o (tDNotIn ty td) := by
  intro pins s σ H Q I h
  refine thn (hi pins s σ H _ I h) fun iv s1 ⟨y, H1, I1, ry, q1⟩ => thn (ho pins s1 σ H1 _ I1 q1) fun u s2 ⟨x, H2, I2, rx, a, ov, ex, g, q2⟩ => ?_
  subst ex
  obtain rfl : u = Value.ref a := rx
  exact d_notIn hu I2 g ry fun s3 I3 => ⟨.bl (!ov.isSome), H2, I3, rfl, q2⟩
theorem ps_dput (hu : X.A.units + 1 < cLine) (ho : PE X o td) (hi : PE X i ty) (hv : PE X value tv) (hs : swapsWith value (some (.Subscript o i pos')) pos.line X.env = pure false) :
    PS X (.Assign [.Subscript o i pos'] value pos) (sDPut td ty tv) := by
  intro pins s σ H D I h
  refine wpAny_Assign_Subscript (thn (hv pins s σ H _ I h) fun r s1 ⟨v, H1, I1, rv, q1⟩ => thn (ho pins s1 σ H1 _ I1 q1) fun u s2 ⟨x, H2, I2, rx, q2⟩ => thn (hi pins s2 σ H2 _ I2 q2) fun iv s3 ⟨y, H3, I3, ry, a, H4, ex, g, q3⟩ => ?_) hs
  subst ex
  obtain rfl : u = Value.ref a := rx
  exact d_setItem hu I3 g ry rv fun s4 I4 => ⟨σ, H4, I4, q3⟩
end


/-! ### displays -/
theorem dk_empty {P : Program} {w : World} {H : Hp} (h : Heap) (hb : sysModules < h.objs.size) : ObjOk P w H (h.push { cls := .type "dict", data := .dict #[] }) h.objs.size (.dK []) :=
  ⟨Nat.zero_le _, beq_eq_false_iff_ne.mpr (Ne.symm (Nat.ne_of_lt hb)), [], .nil, Heap.DictOf.new h⟩
theorem dt_empty {P : Program} {w : World} {H : Hp} (h : Heap) (hb : sysModules < h.objs.size) : ObjOk P w H (h.push { cls := .type "dict", data := .dict #[] }) h.objs.size (.dT []) :=
  ⟨Nat.zero_le _, beq_eq_false_iff_ne.mpr (Ne.symm (Nat.ne_of_lt hb)), [], .nil, _, #[], 0, Heap.get?_push_size _ rfl, ⟨rfl, rfl, rfl⟩, rfl, rfl, List.nodup_nil⟩
/-- {}, to be a dict of the kind that is wanted -/
def tDNewK : TE := fun _ H Q => ∀ p, H p = none → Q (.ref p) (upd H p (.dK []))
def tDNewT : TE := fun _ H Q => ∀ p, H p = none → Q (.ref p) (upd H p (.dT []))
section
variable {X : Cx} {pos : Pos}
theorem pe_dnewK : PE X (.Dict [] [] pos) tDNewK := fun pins s σ H Q I h =>
  wpAny_Dict_empty ⟨.ref s.heap.objs.size, _, I.laid (a := s.heap.objs.size) (o := .dK []) (t' := s.toks) (fun _ _ q => Heap.get?_push_of_some _ q) (Nat.le_refl _) (dk_empty s.heap I.big), rfl, h _ (I.hok.fresh (Nat.le_refl _))⟩
theorem pe_dnewT : PE X (.Dict [] [] pos) tDNewT := fun pins s σ H Q I h =>
  wpAny_Dict_empty ⟨.ref s.heap.objs.size, _, I.laid (a := s.heap.objs.size) (o := .dT []) (t' := s.toks) (fun _ _ q => Heap.get?_push_of_some _ q) (Nat.le_refl _) (dt_empty s.heap I.big), rfl, h _ (I.hok.fresh (Nat.le_refl _))⟩
end

/-! ### methods -/
/-- a method call o.m(e) of a built-in, with one argument: what must be seen of the text -/
structure M1 (X : Cx) (o : Expr) (m : Str) (apos : Pos) (e : Expr) (cpos : Pos) : Prop where
  base : attributeBase o m X.env (eval o X.env) = eval o X.env
  few : ((backTo cpos (starEach [e] X.env)).all (fun x => !x.1) && (backToKw cpos (keywordEach [] X.env)).all (fun x => x.1.isSome)
    && decide (([e] : List Expr).length + ([] : List Keyword).length + (if ([] : List Keyword).isEmpty then 0 else 1) < 30)) = true
  line : (apos.endLine == cpos.line) = true
  trees : backTo cpos (starEach [e] X.env) = [(false, eval e X.env)]
/-- a is a dict, whatever its keys -/
def IsD (H : Hp) (a : Addr) : Prop := (∃ kvs, Rd H a (.dK kvs)) ∨ ∃ kvs, Rd H a (.dT kvs)
theorem isD_at {X : Cx} {pins : List (Addr × Obj)} {σ : St} {H : Hp} {s : Shared} {a : Addr} (I : Inv X pins σ H s) (d : IsD H a) :
    s.TypeIs (.ref a) "dict" ∧ (∀ b, Value.ref a = .ref b → ∃ ob, s.heap.get? b = some ob ∧ ob.dict = none) ∧ (a == sysModules) = false := by
  rcases d with ⟨kvs, e⟩ | ⟨kvs, e⟩
  · obtain ⟨_, hd, vs, _, dd⟩ := dk_rd I.hok e
    refine ⟨dd.typeIs, fun b q => ?_, hd⟩
    cases q
    obtain ⟨ob, _, _, h1, h2, _⟩ := dd
    exact ⟨ob, h1, h2.2.1⟩
  · obtain ⟨_, hd, xs, _, dd⟩ := dt_rd I.hok e
    refine ⟨dd.typeIs, fun b q => ?_, hd⟩
    cases q
    obtain ⟨ob, _, _, h1, h2, _⟩ := dd
    exact ⟨ob, h1, h2.2.1⟩

section
variable {X : Cx} {pins : List (Addr × Obj)} {σ : St} {H : Hp} {s : Shared} {a : Addr} {y d : V} {u r : Value} {o : Option V} {A : Around} {E : Value → Shared → Prop}
end

/-- d.pop(k): there; d.pop(k, x): there or not -/
def tDPop1 (td ty : TE) : TE := fun σ H Q => td σ H fun x H1 => ∃ a, x = .ref a ∧ IsD H1 a ∧ ty σ H1 fun y H2 => ∃ kvs k v, H2 a = some (.dK kvs) ∧ y = kV k ∧ valV kvs k = some v ∧ Q v (upd H2 a (.dK (dropK kvs k)))
section
variable {X : Cx} {o e f : Expr} {apos cpos : Pos} {td ty tx : TE}
theorem pe_dpop1 (ho : PE X o td) (he : PE X e ty) (m : M1 X o "pop" apos e cpos) : PE X (.Call (.Attribute o "pop" apos) [e] [] cpos) (tDPop1 td ty) := by
  intro pins s σ H Q I h
  refine wpAny_Call_method m.base m.few m.line PySem.F.plainAttrs_dict PySem.F.slot_dict_pop PySem.F.type_dict_pop (thn (ho pins s σ H _ I h) fun u s1 ⟨x, H1, I1, rx, a, ex, d, q1⟩ => ?_)
  subst ex
  obtain rfl : u = Value.ref a := rx
  obtain ⟨t1, t2, _⟩ := isD_at I1 d
  refine ⟨t1, t2, ?_⟩
  rw [m.trees]
  refine Calls.callWith_builtin rfl (Calls.evalArgs_plain (Calls.spliced_cons (thn (he pins s1 σ H1 _ I1 q1) fun iv s2 ⟨y, H2, I2, ry, kvs, k, v, ea, ey, l, q2⟩ => Calls.spliced_nil ?_)))
  subst ey
  exact d_pop I2 ea ry l (.inl rfl) fun w' s3 I3 rw' => ⟨v, _, I3, rw', q2⟩
end

/-! ### dict(d): a copy -/
section
variable {X : Cx} {pins : List (Addr × Obj)} {σ : St} {H : Hp} {s : Shared} {a : Addr} {kvs : List (Key × V)} {A : Around} {E : Value → Shared → Prop}
theorem d_copyOf {Q : Value → Shared → Prop} (I : Inv X pins σ H s) (e : Rd H a (.dK kvs)) (h : ∀ p s', H p = none → Inv X pins σ (upd H p (.dK kvs)) s' → Q (.ref p) s') : wpAny (model X.prog X.w) A (call (.type "dict") [.ref a]) Q E s := by
  obtain ⟨z, hd, vs, rel, dd⟩ := dk_rd I.hok e
  refine kt_call_dict hd dd (by rw [← rel.length]; exact z) fun h' dd' hs => ?_
  refine h _ _ (I.hok.fresh (Nat.le_refl _)) (I.laid (a := s.heap.objs.size) (o := .dK kvs) (t' := s.toks) (fun b q hq => ?_) (Nat.le_refl _) (dk_new z (beq_eq_false_iff_ne.mpr (Ne.symm (Nat.ne_of_lt I.big))) rel dd'))
  exact (hs.2 b (Nat.ne_of_lt (Heap.lt_size hq))).trans (Heap.get?_push_of_some _ hq)
end


section
variable {X : Cx} {pins : List (Addr × Obj)} {σ : St} {H : Hp} {s : Shared} {a : Addr} {y : V} {u : Value} {A : Around} {E : Value → Shared → Prop}
end
end L2

namespace L2
open PySem PySem.Spec PyProof.Rows
/-! ### a dict's pairs: keys that differ -/
section
variable {κ : Type} [DecidableEq κ]
theorem valV_in {kvs : List (κ × V)} {k : κ} {v : V} (h : valV kvs k = some v) : k ∈ kvs.map (·.1) := by
  have q : (kvs.any fun kv => decide (kv.1 = k)) = true := by
    rw [valV_any, h]
    all_goals rfl
  obtain ⟨p, hp, e⟩ := List.any_eq_true.mp q
  exact List.mem_map.mpr ⟨p, hp, of_decide_eq_true e⟩
theorem nd_snoc : ∀ {l : List κ} {k : κ}, l.Nodup → ¬ k ∈ l → (l ++ [k]).Nodup
  | [], k, _, _ => by simp
  | a :: r, k, h, hk => by
    obtain ⟨h1, h2⟩ := List.nodup_cons.mp h
    show (a :: (r ++ [k])).Nodup
    refine List.nodup_cons.mpr ⟨fun m => ?_, nd_snoc h2 fun m => hk (List.mem_cons.mpr (Or.inr m))⟩
    rcases List.mem_append.mp m with q | q
    · exact h1 q
    · exact hk (List.mem_cons.mpr (Or.inl (List.mem_singleton.mp q).symm))
theorem dropK_pos {p : κ × V} {r : List (κ × V)} {k : κ} (e : p.1 = k) : dropK (p :: r) k = dropK r k := by
  unfold dropK
  rw [List.filter_cons, if_neg (by simp [e])]
theorem dropK_neg {p : κ × V} {r : List (κ × V)} {k : κ} (e : ¬ p.1 = k) : dropK (p :: r) k = p :: dropK r k := by
  unfold dropK
  rw [List.filter_cons, if_pos (by simp [e])]
end
end L2
set_option Elab.async false
set_option linter.all false
set_option maxRecDepth 100000
set_option maxHeartbeats 4000000
/-! A dict that a loop walks: it is frozen ahead of the first turn and thawed behind the last -/
namespace L2
open PySem PySem.Spec PyProof.Rows

theorem is_kV {P : Program} {w : World} {k : Key} {u : Value} (h : (mixKind P w).is k u = true) : RelV (kV k) u := by
  rw [mixKind_is] at h
  cases k with
  | inl i =>
    cases u <;> simp [keyIs, Value.isInt] at h
    all_goals first | (subst h; exact ⟨_, rfl⟩) | skip
  | inr x =>
    cases u <;> simp [keyIs, Value.isStrOf] at h
    all_goals first | (subst h; exact ⟨_, rfl⟩) | skip
theorem KV.get : ∀ {kvs : List (Key × V)} {vs : List (Key × Value)} {i : Nat} {k : Key} {v : V}, KV kvs vs → kvs[i]? = some (k, v) → ∃ u, vs[i]? = some (k, u) ∧ RelV v u
  | _, _, _, _, _, .nil, e => by simp at e
  | _, (b1, b2) :: _, 0, _, _, .cons r _, e => by
    simp at e; subst e
    exact ⟨b2, by rw [show b1 = _ from r.1.symm]; rfl, r.2⟩
  | _, _, i + 1, _, _, .cons _ t, e => by
    simp at e
    obtain ⟨u, q, r⟩ := KV.get t e
    exact ⟨u, by simpa using q, r⟩

section
variable {X : Cx} {pins : List (Addr × Obj)} {σ : St} {H : Hp} {s : Shared} {a : Addr} {kvs : List (Key × V)} {ob : Obj}
/-- nothing at a was known by its object when the def was entered -/
def NoFrz (X : Cx) (a : Addr) : Prop := ∀ o u, X.H₀ a ≠ some (.frz o u)
theorem Inv.freeze (I : Inv X pins σ H s) (e : H a = some (.dK kvs)) : ∃ o, s.heap.get? a = some o ∧ Inv X pins σ (upd H a (.frz o (.dK kvs))) s ∧ NoFrz X a := by
  have oa := I.hok a _ e
  obtain ⟨z, hd, vs, rel, o, es, ep, e1, c⟩ := id oa
  refine ⟨o, e1, ?_, fun o' u' q => ?_⟩
  · have := I.write (x := a) (e := a) (h' := s.heap) (t' := s.toks) (o := .frz o (.dK kvs)) (by rw [e]; trivial) (.inl rfl) (fun b q hb z => z) ⟨o, e1⟩ ⟨e1, z, hd, vs, rel, o, es, ep, e1, c⟩
    exact this
  · have := I.base.frzs a _ _ q
    rw [e] at this; cases this
theorem Inv.thaw (I : Inv X pins σ H s) (e : H a = some (.frz ob (.dK kvs))) (hn : NoFrz X a) : Inv X pins σ (upd H a (.dK kvs)) s := by
  have ne : ∀ {b : Addr}, H b = none → b ≠ a := fun q z => by subst z; rw [e] at q; cases q
  have net : ∀ {b : Addr} {xs : List V}, H b = some (.tup xs) → b ≠ a := fun q z => by subst z; rw [e] at q; cases q
  have neo : ∀ {b y : Addr}, H b = some (.own y) → b ≠ a := fun q z => by subst z; rw [e] at q; cases q
  have neb : ∀ {b : Addr} {ps : Array Value}, H b = some (.tbl ps) → b ≠ a := fun q z => by subst z; rw [e] at q; cases q
  exact {
    ok := I.ok
    os := I.os
    bare := I.bare
    base := {
      keep := I.base.keep
      slot := I.base.slot
      free := fun b o h1 h2 h3 => by
        have q := I.base.free b o h1 h2 h3
        rw [upd_ne (ne q)]; exact q
      there := I.base.there
      tups := fun b xs q => by
        have q' := I.base.tups b xs q
        rw [upd_ne (net q')]; exact q'
      frzs := fun b o u q => by
        have q' := I.base.frzs b o u q
        have hb : b ≠ a := fun z => by subst z; exact hn _ _ q
        rw [upd_ne hb]; exact q'
      tbls := fun b ps q => by
        obtain ⟨more, q'⟩ := I.base.tbls b ps q
        exact ⟨more, by rw [upd_ne (neb q')]; exact q'⟩ }
    loc := I.loc
    cell := I.cell
    free := by rw [upd_ne (ne I.free)]; exact I.free
    freeC := fun x c q => by rw [upd_ne (ne (I.freeC x c q))]; exact I.freeC x c q
    pin := fun p hp => by
      obtain ⟨q1, q2, q3⟩ := I.pin p hp
      exact ⟨q1, by rw [upd_ne (ne q2)]; exact q2, q3⟩
    hok := fun b u q => by
      by_cases hb : b = a
      · subst hb
        rw [upd_same] at q; cases q
        exact (I.hok b _ e).2
      · rw [upd_ne hb] at q
        exact (I.hok b u q).stay (fun _ _ _ q => q) (fun c q => by rw [upd_ne (neo q)]; exact q) fun c xs q => by rw [upd_ne (net q)]; exact q
    len := I.len }

/-- the dict of the object ob at a, walked by its keys (val false) or its values -/
def Itd (val : Bool) (a : Addr) (ob : Obj) (kvs : List (Key × V)) : It :=
  ⟨fun i H => H a = some (.frz ob (.dK kvs)) ∧ i < kvs.length, fun i H x H' => H' = H ∧ ∃ k v, kvs[i]? = some (k, v) ∧ x = if val then v else kV k, fun i H => H a = some (.frz ob (.dK kvs)) ∧ kvs.length ≤ i⟩
theorem Inv.dictAt (I : Inv X pins σ H s) (e : H a = some (.frz ob (.dK kvs))) {es : Array DictEntry} {ep : Nat} (he : ob.data = .dict es ep) : ∃ vs, KV kvs vs ∧ s.heap.DictAt (mixKind X.prog X.w) a vs ep := by
  obtain ⟨e1, z, hd, vs, rel, o, es', ep', e2, c1, c2, c3⟩ := I.hok a _ e
  rw [e1] at e2; cases e2
  rw [he] at c2; cases c2
  exact ⟨vs, rel, ob, es, e1, c1, he, c3⟩
theorem turn_keys {P : Program} {w : World} {K : PySem.W.Frag} {tg : Expr} (a it : Addr) (ob : Obj) (kvs : List (Key × V)) {es : Array DictEntry} {ep : Nat} (he : ob.data = .dict es ep) :
    Turn P w K tg (Itd false a ob kvs) [it] it (fun i h => h.IsKeyIter it a i kvs.length ep) where
  mem := by simp
  obj := fun i h st b hb => by
    have e : b = it := by simpa using hb
    subst e
    obtain ⟨o, e, c, d⟩ := st
    exact ⟨o, e, fun v z => by rw [d] at z; cases z⟩
  keep := fun i h h' st k => st.at fun o e => k it (by simp) o e
  item := by
    intro X hP hw hK hc i pins s σ H E I hf st hg
    subst hP hw hK
    obtain ⟨hq, hi⟩ := hg
    obtain ⟨vs, rel, D⟩ := I.dictAt hq he
    obtain ⟨⟨k, v⟩, hx⟩ : ∃ p, kvs[i]? = some p := ⟨kvs[i], by simp [hi]⟩
    obtain ⟨u, hu, ru⟩ := rel.get hx
    obtain ⟨f0, f1, f2, f3, f4, f5⟩ := hf it (by simp)
    rw [rel.length] at st
    refine wpAny_pyNext_dict_item st D hu fun key h' hk st' sb => ?_
    have I1 : Inv X pins σ H { s with heap := h' } := I.turned (t' := s.toks) (fun b o hb e => (sb.2 b hb).trans e) f0 f1 f3 f4 f5
    rw [← rel.length] at st'
    obtain ⟨o, e, c, d⟩ := id st'
    exact ⟨key, rfl, go_of (s := { s with heap := h' }) e c d (by decide) ⟨kV k, H, I1, is_kV hk, ⟨rfl, k, v, hx, rfl⟩, st', fun b hb => (hf b hb).1⟩⟩
  done := by
    intro X hP hw hK hc i pins s σ H E I hf st hg
    subst hP hw hK
    obtain ⟨hq, hi⟩ := hg
    obtain ⟨vs, rel, D⟩ := I.dictAt hq he
    obtain ⟨f0, f1, f2, f3, f4, f5⟩ := hf it (by simp)
    rw [rel.length] at st
    exact wpAny_pyNext_dict_end (I.ok.hd hc) st D (by have := rel.length; simp; omega) fun h' eb => ⟨rfl, I.turned (t' := s.toks) (fun b o hb e => eb b o hb e) f0 f1 f3 f4 f5⟩
  self := fun _ _ _ _ _ st h => wpAny_pyIter_keyiter st h
theorem turn_values {P : Program} {w : World} {K : PySem.W.Frag} {tg : Expr} (a it : Addr) (ob : Obj) (kvs : List (Key × V)) {es : Array DictEntry} {ep : Nat} (he : ob.data = .dict es ep) :
    Turn P w K tg (Itd true a ob kvs) [it] it (fun i h => h.IsValIter it a i kvs.length ep) where
  mem := by simp
  obj := fun i h st b hb => by
    have e : b = it := by simpa using hb
    subst e
    obtain ⟨o, e, c, d⟩ := st
    exact ⟨o, e, fun v z => by rw [d] at z; cases z⟩
  keep := fun i h h' st k => st.at fun o e => k it (by simp) o e
  item := by
    intro X hP hw hK hc i pins s σ H E I hf st hg
    subst hP hw hK
    obtain ⟨hq, hi⟩ := hg
    obtain ⟨vs, rel, D⟩ := I.dictAt hq he
    obtain ⟨⟨k, v⟩, hx⟩ : ∃ p, kvs[i]? = some p := ⟨kvs[i], by simp [hi]⟩
    obtain ⟨u, hu, ru⟩ := rel.get hx
    obtain ⟨f0, f1, f2, f3, f4, f5⟩ := hf it (by simp)
    rw [rel.length] at st
    refine wpAny_pyNext_values_item st D hu fun h' st' sb => ?_
    have I1 : Inv X pins σ H { s with heap := h' } := I.turned (t' := s.toks) (fun b o hb e => (sb.2 b hb).trans e) f0 f1 f3 f4 f5
    rw [← rel.length] at st'
    obtain ⟨o, e, c, d⟩ := id st'
    exact ⟨u, rfl, go_of (s := { s with heap := h' }) e c d (by decide) ⟨v, H, I1, ru, ⟨rfl, k, v, hx, rfl⟩, st', fun b hb => (hf b hb).1⟩⟩
  done := by
    intro X hP hw hK hc i pins s σ H E I hf st hg
    subst hP hw hK
    obtain ⟨hq, hi⟩ := hg
    obtain ⟨vs, rel, D⟩ := I.dictAt hq he
    obtain ⟨f0, f1, f2, f3, f4, f5⟩ := hf it (by simp)
    rw [rel.length] at st
    exact wpAny_pyNext_values_end (I.ok.hd hc) st D (by have := rel.length; simp; omega) fun h' eb => ⟨rfl, I.turned (t' := s.toks) (fun b o hb e => eb b o hb e) f0 f1 f3 f4 f5⟩
  self := fun _ _ _ _ _ st h => wpAny_pyIter_valiter st h
end
/-- NF a: whatever holds of a dict that was not known by its object ahead of the loop -/
def iDict (NF : Addr → Prop) (val : Bool) (td : TE) : TI := fun σ H R => td σ H fun x H1 => ∃ a kvs, x = .ref a ∧ H1 a = some (.dK kvs) ∧ ∀ ob, NF a → R (Itd val a ob kvs) (upd H1 a (.frz ob (.dK kvs)))
/-- for k in d; for v in d.values(): the dict stands still meanwhile (in the body it is frozen), behind the loop it is as it was -/
def tForD (val : Bool) (td : TE) (g : TG) (tb : TS) : TS := fun D σ H => ∀ NF : Addr → Prop, tFor (iDict NF val td) g tb { D with nx := fun σ H => ∃ a ob kvs, NF a ∧ H a = some (.frz ob (.dK kvs)) ∧ D.nx σ (upd H a (.dK kvs)) } σ H
theorem pi_keys {X : Cx} {tg l : Expr} {td : TE} (hl : PE X l td) : PI X tg l (iDict (NoFrz X) false td) := by
  intro pins s σ H R I h
  refine thn (hl pins s σ H _ I h) fun v s1 ⟨x, H1, I1, r1, q1⟩ => ?_
  obtain ⟨a, kvs, e, ha, q⟩ := q1
  subst e
  cases r1
  obtain ⟨ob, eo, I2, nf⟩ := I1.freeze ha
  obtain ⟨z, hd, vs, rel, o, es, ep, e2, c1, c2, c3⟩ := I1.hok a _ ha
  rw [eo] at e2; cases e2
  have len := rel.length
  refine wpAny_pyIter_dict (knd := mixKind X.prog X.w) (kvs := vs) hd ⟨ob, es, eo, c1, c2, c3⟩ ?_
  refine ⟨s1.heap.objs.size, [s1.heap.objs.size], _, _, _, rfl, I2.kept (t' := s1.toks) fun b o e => Heap.get?_push_of_some _ e, turn_keys a _ ob kvs c2, ⟨_, Heap.get?_push_size _ rfl, rfl, by rw [len]; rfl⟩, fun b hb => ?_, q ob nf⟩
  have e : b = s1.heap.objs.size := by simpa using hb
  subst e
  exact I2.fpOk (Nat.le_refl _) (I2.hok.fresh (Nat.le_refl _))
theorem pi_values {X : Cx} {tg l : Expr} {td : TE} {apos cpos : Pos} (hl : PE X l td) (hb : attributeBase l "values" X.env (eval l X.env) = eval l X.env := by rfl) (hline : (apos.endLine == cpos.line) = true := by rfl) :
    PI X tg (.Call (.Attribute l "values" apos) [] [] cpos) (iDict (NoFrz X) true td) := by
  intro pins s σ H R I h
  refine wpAny_Call_method hb rfl hline PySem.F.plainAttrs_dict PySem.F.slot_dict_values PySem.F.type_dict_values (thn (hl pins s σ H _ I h) fun v s1 ⟨x, H1, I1, r1, q1⟩ => ?_)
  obtain ⟨a, kvs, e, ha, q⟩ := q1
  subst e
  cases r1
  obtain ⟨t1, t2, t3⟩ := isD_at I1 (.inl ⟨kvs, .inl ha⟩)
  refine ⟨t1, t2, ?_⟩
  obtain ⟨ob, eo, I2, nf⟩ := I1.freeze ha
  obtain ⟨z, hd, vs, rel, o, es, ep, e2, c1, c2, c3⟩ := I1.hok a _ ha
  rw [eo] at e2; cases e2
  have len := rel.length
  have hD : s1.heap.DictOf (mixKind X.prog X.w) a vs := ⟨ob, es, ep, eo, c1, c2, c3⟩
  refine Calls.callWith_builtin rfl (PySem.evalArgs_none ?_)
  refine call_meetsIn PySem.F.slot_dict_values hD.typeIs PySem.F.entry_dict_values (PySem.F.args_dict_values_1 _) (meets_dict_values (mixKind X.prog X.w) a hd) ⟨⟨vs, hD⟩, ?_⟩
  have I3 : Inv X pins σ (upd H1 a (.frz ob (.dK kvs))) { s1 with heap := s1.heap.push { cls := .type "dict_values", data := .fields #[.ref a] } } := I2.kept (t' := s1.toks) fun b o e => Heap.get?_push_of_some _ e
  refine wpAny_pyIter_values (knd := mixKind X.prog X.w) (kvs := vs) ⟨_, Heap.get?_push_size _ rfl, rfl, rfl⟩ ⟨ob, es, Heap.get?_push_of_some _ eo, c1, c2, c3⟩ ?_
  refine ⟨(s1.heap.push { cls := .type "dict_values", data := .fields #[.ref a] }).objs.size, [(s1.heap.push { cls := .type "dict_values", data := .fields #[.ref a] }).objs.size], _, _, _, rfl, I3.kept (t' := s1.toks) fun b o e => Heap.get?_push_of_some _ e, turn_values a _ ob kvs c2, ⟨_, Heap.get?_push_size _ rfl, rfl, by rw [len]; rfl⟩, fun b hb => ?_, q ob nf⟩
  have e : b = (s1.heap.push { cls := .type "dict_values", data := .fields #[.ref a] }).objs.size := by simpa using hb
  subst e
  exact I3.fpOk (Nat.le_refl _) (I3.hok.fresh (Nat.le_refl _))
theorem ps_forD {X : Cx} {tg iter : Expr} {val : Bool} {td : TE} {body : List Stmt} {g : TG} {tb : TS} {pos : Pos} (hp : PassesOwn (model X.prog X.w) X.A X.env X.xe) (hc : X.calm = true) (hi : PI X tg iter (iDict (NoFrz X) val td)) (hg : PG X tg g) (hb : PSs X body tb)
    (hs : ∀ x, foldedSetIterable iter X.env x = pure x := by intro _; rfl) : PS X (.For tg iter body [] pos) (tForD val td g tb) := by
  intro pins s σ H D I h
  refine thn (ps_for (pos := pos) hp hc hi hg hb hs pins s σ H _ I (h (NoFrz X))) fun f s7 q7 => ?_
  cases f with
  | next => obtain ⟨σ7, H7, I7, a, ob, kvs, nf, e, n7⟩ := q7; exact ⟨σ7, _, I7.thaw e nf, n7⟩
  | cont => exact q7
  | brk => exact q7
  | ret v => exact q7
/-- over a dict that the body leaves as it is -/
theorem for_dict {NF : Addr → Prop} {val : Bool} {a : Addr} {ob : Obj} {kvs : List (Key × V)} {g : TG} {tb : TS} {D : Ends} {σ : St} {H : Hp} (Pv : Nat → St → Hp → Prop) (h0 : Pv 0 σ (upd H a (.frz ob (.dK kvs)))) (hl : ∀ i σ H, i ≤ kvs.length → Pv i σ H → H a = some (.frz ob (.dK kvs)))
    (hs : ∀ i k v σ H, kvs[i]? = some (k, v) → Pv i σ H → g (if val then v else kV k) σ H fun σ2 H2 => tb { D with nx := Pv (i + 1), ct := Pv (i + 1), bk := D.nx } σ2 H2) (hd : ∀ σ H, Pv kvs.length σ H → D.nx σ H) :
    ∃ W : Nat → Nat → St → Hp → Prop, (∃ m, W 0 m σ (upd H a (.frz ob (.dK kvs)))) ∧ ∀ i m σ H, W i m σ H →
      ((Itd val a ob kvs).stop i H ∧ D.nx σ H) ∨ ((Itd val a ob kvs).go i H ∧ ∃ N : St → Hp → Prop, (∀ σ' H', N σ' H' → ∃ m', m' < m ∧ W (i + 1) m' σ' H') ∧ ∀ x H', (Itd val a ob kvs).yld i H x H' → g x σ H' fun σ2 H2 => tb { D with nx := N, ct := N, bk := D.nx } σ2 H2) := by
  refine ⟨fun i m σ H => m = kvs.length - i ∧ i ≤ kvs.length ∧ Pv i σ H, ⟨kvs.length, by simp, Nat.zero_le _, h0⟩, ?_⟩
  rintro i m σ H ⟨rfl, hi, p⟩
  have q := hl i σ H hi p
  by_cases hlt : i < kvs.length
  · refine .inr ⟨⟨q, hlt⟩, Pv (i + 1), fun σ' H' p' => ⟨kvs.length - (i + 1), by omega, rfl, hlt, p'⟩, fun x H' y => ?_⟩
    obtain ⟨e, k, v, hx, ex⟩ := y
    subst e ex
    exact hs i k v σ _ hx p
  · have e : i = kvs.length := by omega
    subst e
    exact .inl ⟨⟨q, Nat.le_refl _⟩, hd σ H p⟩
end L2
set_option Elab.async false
set_option linter.all false
set_option maxRecDepth 100000
set_option maxHeartbeats 4000000
/-! list(d), list(d.values()) for a dict of any keys, reversed(list) in a loop -/
namespace L2
open PySem PySem.Spec PyProof.Rows PySem.W
section
variable {prog : Program} {w : World} {A : Around} {E : Value → Shared → Prop} {s : Shared}
/-- the object of a dict, whatever its keys are -/
def DObj (h : Heap) (d : Addr) (es : Array DictEntry) (ep : Nat) : Prop := ∃ o, h.get? d = some o ∧ o.ExactDict ∧ o.data = .dict es ep
theorem DObj.typeIs {d : Addr} {es : Array DictEntry} {ep : Nat} (x : DObj s.heap d es ep) : s.TypeIs (.ref d) "dict" := let ⟨o, h1, h2, _⟩ := x; ⟨o, h1, h2.1⟩
theorem DObj.at {h h' : Heap} {d : Addr} {es : Array DictEntry} {ep : Nat} (x : DObj h d es ep) (k : ∀ o, h.get? d = some o → h'.get? d = some o) : DObj h' d es ep := let ⟨o, h1, r⟩ := x; ⟨o, k o h1, r⟩
theorem DObj.lt {h : Heap} {d : Addr} {es : Array DictEntry} {ep : Nat} (x : DObj h d es ep) : d < h.objs.size := let ⟨_, h1, _⟩ := x; Heap.lt_size h1
theorem meets_valuesO (d : Addr) (hd : (d == sysModules) = false) : MeetsIn prog w (Builtin.«dict.values» ⟨[.ref d], []⟩) (fun _ R s => s.TypeIs (.ref d) "dict" ∧
      R (.ok (.ret (.ref s.heap.objs.size))) { s with heap := s.heap.push { cls := .type "dict_values", data := .fields #[.ref d] } }) :=
  .of_wp fun A R s ⟨hm, h⟩ => by
    refine wpAny_bind ?_
    unfold Builtin.Dict.noArgs
    refine wpAny_bind (wpAny_notOrdered_dict hm (wpAny_pure ?_))
    show wpAny _ _ (Builtin.Dict.showsAll d >>= _) _ _ s
    unfold Builtin.Dict.showsAll
    rw [if_neg (by rw [hd]; exact Bool.false_ne_true)]
    exact wpAny_bind (wpAny_pure (wpAny_bind (wpAny_newObj_type (wpAny_pure ⟨_, rfl, h⟩))))
theorem iter_valuesO {v d : Addr} {es : Array DictEntry} {ep : Nat} {Q : Value → Shared → Prop} (hv : s.heap.IsValuesView v d) (hm : DObj s.heap d es ep)
    (hQ : Q (.ref s.heap.objs.size) { s with heap := s.heap.push { cls := .type "dict_valueiterator", data := .fields #[.ref d, .int 0 0, .int es.size 0, .int ep 0] } }) : wpAny (model prog w) A (pyIter (.ref v)) Q E s := by
  obtain ⟨ov, hov, hcv, hdv⟩ := id hv
  obtain ⟨o, ho, hc, hdat⟩ := hm
  refine wpAny_pyIter_slot hv.typeIs F.slot_dict_values_iter (wpAny_call_entry F.slot_dict_values_iter hv.typeIs F.entry_dict_values_iter ?_ (F.args_dict_values_iter_1 _))
  unfold Builtin.«dict_values.__iter__» Builtin.Dict_items.dictOf Builtin.Dict_items.newIterator
  refine wpAny_bind (wpAny_pure (wpAny_bind (wpAny_bind (wpAny_field hov hdv (x := .ref d) rfl (wpAny_pure (wpAny_bind (wpAny_bind (wpAny_dictEntries ho hdat (wpAny_bind (wpAny_dictEpoch ho hdat ?_)))))))))) 
  simp only [show Builtin.Dict_items.ownsTuple "dict_valueiterator" = false from by decide, Bool.false_eq_true, if_false]
  refine wpAny_newObj_type (wpAny_pure ⟨_, rfl, "dict_valueiterator", _, ⟨_, Heap.get?_push_size _ rfl, rfl⟩, F.slot_dict_valueiterator_next.lookup, ?_⟩)
  simpa [rawInt] using hQ
theorem next_valuesO {it d : Addr} {i ep : Nat} {es : Array DictEntry} {e : DictEntry} {Q : Option Value → Shared → Prop} (hit : s.heap.IsValIter it d i es.size ep) (hm : DObj s.heap d es ep) (hx : es[i]? = some e)
    (hQ : ∀ h', h'.IsValIter it d (i + 1) es.size ep → Heap.SameBut it s.heap h' → Q (some e.val) { s with heap := h' }) : wpAny (model prog w) A (pyNext (.ref it)) Q E s := by
  obtain ⟨o, ho, hc, hd⟩ := id hit
  obtain ⟨od, hod, hcd, hdd⟩ := hm
  unfold pyNext
  refine wpAny_bind (wpAny_attempt (wpAny_callSpecial?_slot (name := Str.ofString "__next__") hit.typeIs F.slot_dict_valueiterator_next
    (wpAny_call_entry F.slot_dict_valueiterator_next hit.typeIs F.entry_dict_valueiterator_next ?_ (F.args_dict_valueiterator_next_1 _))))
  refine wpAny_bind (wpAny_pure (wpAny_bind (wpAny_bind ?_)))
  first | refine wpAny_bind (wpAny_typeNameOfWhole_valiter hit.typeIs (wpAny_pure ?_)) | refine wpAny_bind (wpAny_typeNameOf_valiter hit.typeIs (wpAny_pure ?_))
  refine wpAny_bind (wpAny_fieldsOf ho hd ?_)
  simp only [show Builtin.Dict_items.ownsTuple "dict_valueiterator" = false from by decide, Bool.false_eq_true, if_false]
  show wpAny _ _ (if (Value.ref d == Value.none) = true then _ else _) _ _ s
  rw [if_neg (show ¬ ((Value.ref d == Value.none) = true) from Bool.false_ne_true)]
  refine wpAny_bind (wpAny_pure (wpAny_bind (wpAny_dictEntries hod hdd ?_)))
  rw [if_neg (by simp)]
  refine wpAny_bind (wpAny_pure (wpAny_bind (wpAny_dictEpoch hod hdd ?_)))
  rw [if_neg (by simp)]
  refine wpAny_pure ?_
  simp only [show ¬ ((i : Int) < 0) from by omega, if_false, Int.toNat_natCast, hx]
  refine wpAny_bind ?_
  first | refine wpAny_bind (wpAny_typeNameOfWhole_valiter hit.typeIs (wpAny_pure ?_)) | refine wpAny_bind (wpAny_typeNameOf_valiter hit.typeIs (wpAny_pure ?_))
  refine wpAny_bind (wpAny_isOneOf_valiter hit.typeIs ?_)
  show wpAny _ _ (setField (.ref it) 1 (rawInt ((i : Int) + 1)) >>= _) _ _ s
  refine wpAny_bind (wpAny_setField ho hd (by simp) ?_)
  have hit' : (s.heap.update it (Obj.mapFields (·.setIfInBounds 1 (rawInt ((i : Int) + 1))))).IsValIter it d (i + 1) es.size ep :=
    ⟨_, Heap.get?_update_self _ ho (Obj.isFreed_of_fields (Obj.data_mapFields hd _)), (Obj.cls_mapFields ..).trans hc, by rw [Obj.data_mapFields hd]; simp [rawInt]⟩
  refine wpAny_bind (wpAny_holding ?_)
  refine wpAny_bind (wpAny_isOneOf_valiter (s := { s with heap := s.heap.update it (Obj.mapFields (·.setIfInBounds 1 (rawInt ((i : Int) + 1)))) }) hit'.typeIs ?_)
  refine wpAny_bind (wpAny_isOneOf_valiter (s := { s with heap := s.heap.update it (Obj.mapFields (·.setIfInBounds 1 (rawInt ((i : Int) + 1)))) }) hit'.typeIs ?_)
  show wpAny _ _ (pure e.val) _ _ _
  exact wpAny_pure (wpAny_pure ⟨_, rfl, wpAny_pure (hQ _ hit' (Heap.SameBut.update ..))⟩)
theorem end_valuesO {it d : Addr} {i ep : Nat} {es : Array DictEntry} {Q : Option Value → Shared → Prop} (hh : A.handled = none) (hit : s.heap.IsValIter it d i es.size ep) (hm : DObj s.heap d es ep) (hx : es.size ≤ i)
    (hQ : ∀ h', Heap.ExtBut it s.heap h' → Q none { s with heap := h' }) : wpAny (model prog w) A (pyNext (.ref it)) Q E s := by
  obtain ⟨o, ho, hc, hd⟩ := id hit
  obtain ⟨od, hod, hcd, hdd⟩ := hm
  unfold pyNext
  refine wpAny_bind (wpAny_attempt (wpAny_callSpecial?_slot (name := Str.ofString "__next__") hit.typeIs F.slot_dict_valueiterator_next
    (wpAny_call_entry F.slot_dict_valueiterator_next hit.typeIs F.entry_dict_valueiterator_next ?_ (F.args_dict_valueiterator_next_1 _))))
  refine wpAny_bind (wpAny_pure (wpAny_bind (wpAny_bind ?_)))
  first | refine wpAny_bind (wpAny_typeNameOfWhole_valiter hit.typeIs (wpAny_pure ?_)) | refine wpAny_bind (wpAny_typeNameOf_valiter hit.typeIs (wpAny_pure ?_))
  refine wpAny_bind (wpAny_fieldsOf ho hd ?_)
  simp only [show Builtin.Dict_items.ownsTuple "dict_valueiterator" = false from by decide, Bool.false_eq_true, if_false]
  show wpAny _ _ (if (Value.ref d == Value.none) = true then _ else _) _ _ s
  rw [if_neg (show ¬ ((Value.ref d == Value.none) = true) from Bool.false_ne_true)]
  refine wpAny_bind (wpAny_pure (wpAny_bind (wpAny_dictEntries hod hdd ?_)))
  rw [if_neg (by simp)]
  refine wpAny_bind (wpAny_pure (wpAny_bind (wpAny_dictEpoch hod hdd ?_)))
  rw [if_neg (by simp)]
  refine wpAny_pure ?_
  simp only [show ¬ ((i : Int) < 0) from by omega, if_false, Int.toNat_natCast, Array.getElem?_eq_none hx]
  refine wpAny_bind ?_
  first | refine wpAny_bind (wpAny_typeNameOfWhole_valiter hit.typeIs (wpAny_pure ?_)) | refine wpAny_bind (wpAny_typeNameOf_valiter hit.typeIs (wpAny_pure ?_))
  show wpAny _ _ (setField (.ref it) 0 .none >>= _) _ _ s
  refine wpAny_bind (wpAny_setField ho hd (by simp) ?_)
  show wpAny _ _ (newExc (.type "StopIteration") [] >>= _) _ _ _
  refine wpAny_bind ?_
  simp only [newExc, newTuple]
  refine wpAny_bind (wpAny_newObj_type ?_ (by size_fits))
  refine wpAny_bind (m := firstArgMember _ _) (wpAny_of_eq (a := Value.none) (by first | rfl | (simp only [firstArgMember]; rfl)) ?_)
  refine wpAny_newObj_type ?_ (by size_fits)
  simp only [raiseNew]
  refine wpAny_bind (wpAny_handled ?_)
  rw [show A.in1.handled = none from hh]
  refine wpAny_bind (wpAny_pure (wpAny_throw ?_))
  refine wpAny_bind (wpAny_isInstance (T := "StopIteration") (b := true) ⟨_, Heap.get?_push_size _ rfl, rfl⟩ isSubtype_stop ?_)
  exact wpAny_pure (hQ _ (((Heap.SameBut.update ..).extBut.push _).push _))
theorem src_valuesO {r d : Addr} {es : Array DictEntry} {ep : Nat} : KdlSrc prog w "dict_values" r d es.size (fun i v => ∃ e, es[i]? = some e ∧ v = e.val) (fun h => h.IsValuesView r d ∧ DObj h d es ep) where
  type := fun _ hm => hm.1.typeIs
  there := fun _ hm => ⟨let ⟨_, ho, _⟩ := hm.1; Heap.lt_size ho, hm.2.lt⟩
  keep := fun _ _ hm hk => ⟨let ⟨o, ho, x⟩ := hm.1; ⟨o, hk r (.inl rfl) o ho, x⟩, hm.2.at fun o e => hk d (.inr rfl) o e⟩
  notList := by decide
  notTuple := by decide
  hint := fun _ _ _ _ hm hq => kdl_hint_values hm.1.typeIs hq
  iter := fun A s hh hm => by
    refine ⟨_, fun i h => h.IsValIter s.heap.objs.size d i es.size ep ∧ DObj h d es ep, fun _ _ hq => iter_valuesO hm.1 hm.2 hq, ?_, ⟨_, Heap.get?_push_size _ rfl, rfl, rfl⟩, hm.2.at fun o e => Heap.get?_push_of_some _ e⟩
    have hne : d ≠ s.heap.objs.size := Nat.ne_of_lt hm.2.lt
    exact {
      sub := fun b hb => by simp at hb; simp [hb]
      frame := fun _ _ _ st hk => ⟨st.1.at fun o e => hk _ (by simp) o e, st.2.at fun o e => hk d (by simp) o e⟩
      item := fun i s' Q E hi st hQ => by
        have hx : es[i]? = some es[i] := Array.getElem?_eq_getElem hi
        refine next_valuesO st.1 st.2 hx fun h' hit' hs' => ?_
        exact hQ _ h' s'.toks ⟨_, hx, rfl⟩ ⟨hit', st.2.at fun o e => (hs'.2 d hne).trans e⟩ fun b o hb e => hs'.extBut b o (fun h => hb (by simp [h])) e
      done := fun s' Q E st hQ => end_valuesO hh st.1 st.2 (Nat.le_refl _) fun h' he' => hQ h' s'.toks fun b o hb e => he' b o (fun h => hb (by simp [h])) e
      self := fun _ _ _ _ st hQ => wpAny_pyIter_valiter st.1 hQ }
end
end L2
set_option Elab.async false
set_option linter.all false
set_option maxRecDepth 100000
set_option maxHeartbeats 4000000
namespace L2
open PySem PySem.Spec PyProof.Rows PySem.W
theorem pairs_val {P : Program} {w : World} {K : Type} [DecidableEq K] {knd : KeyKind P w K} : ∀ {es : List DictEntry} {vs : List (K × Value)}, Pairs knd es vs → es.map (·.val) = vs.map (·.2)
  | _, _, .nil => rfl
  | _, _, .cons _ e t => by simp [e, pairs_val t]
section
variable {X : Cx} {pins : List (Addr × Obj)} {σ : St} {H : Hp} {s : Shared} {a : Addr}
/-- the values of a dict, whatever its keys are -/
def DVals (H : Hp) (a : Addr) (vs : List V) : Prop := (∃ kvs, Rd H a (.dK kvs) ∧ vs = kvs.map (·.2)) ∨ ∃ kvs, Rd H a (.dT kvs) ∧ vs = kvs.map (·.2)
theorem vals_map {α β : Type} {R : α → β → Prop} {f : α → V} {g : β → Value} (h : ∀ x y, R x y → RelV (f x) (g y)) : ∀ {l : List α} {m : List β}, Paired R l m → Vals (l.map f) (m.map g)
  | _, _, .nil => .nil
  | _, _, .cons r t => .cons (h _ _ r) (vals_map h t)
theorem Inv.dvals {vs : List V} (I : Inv X pins σ H s) (e : DVals H a vs) : (a == sysModules) = false ∧ vs.length ≤ sizeLine ∧ ∃ es ep, DObj s.heap a es ep ∧ Vals vs (es.toList.map (·.val)) := by
  rcases e with ⟨kvs, e, rfl⟩ | ⟨kvs, e, rfl⟩
  · obtain ⟨z, hd, us, rel, o, es, ep, h1, h2, h3, h4, h5, h6⟩ := dk_rd I.hok e
    refine ⟨hd, by rw [List.length_map]; exact z, es, ep, ⟨o, h1, h2, h3⟩, ?_⟩
    rw [pairs_val h5]
    exact vals_map (fun _ _ r => r.2) rel
  · obtain ⟨z, hd, xs, rel, o, es, ep, h1, h2, h3, h4, h5, h6⟩ := dt_rd I.hok e
    refine ⟨hd, by rw [List.length_map]; exact z, es, ep, ⟨o, h1, h2, h3⟩, ?_⟩
    rw [h4, List.map_map]
    exact vals_map (fun _ _ r => r.2.2) rel
end
section
variable {X : Cx}
/-- list(d): its keys -/
theorem call_listD (hc : X.calm = true) : CallR X (.type "list") (fun xs H Q => ∃ a kvs, xs = [.ref a] ∧ Rd H a (.dK kvs) ∧ ∀ l, H l = none → Q (.ref l) (upd H l (.lst (kvs.map fun p => kV p.1)))) := by
  intro pins s σ H xs us Q I r h
  obtain ⟨a, kvs, rfl, e, q⟩ := h
  obtain ⟨u, rfl, rx⟩ := vals1 r
  cases rx
  obtain ⟨z, hd, vs, rel, dd⟩ := dk_rd I.hok e
  obtain ⟨ep, hat⟩ := dd.dictAt
  have len := rel.length
  refine kdl_call (kdl_dict (knd := mixKind X.prog X.w) (kvs := vs) (ep := ep) hd) (I.ok.hd hc) hat (by rw [← len]; exact z) fun h' tk acc c hk hS hacc => ?_
  have rv : Vals (kvs.map fun p => kV p.1) acc.toList := by
    refine vals_of_get (by rw [List.length_map, show acc.toList.length = acc.size from rfl, hacc.1, len]) fun i x u h1 h2 => ?_
    obtain ⟨k, v, hx, hk⟩ := hacc.2 i u (by simpa using h2)
    rw [List.getElem?_map] at h1
    cases hp : kvs[i]? with
    | none => rw [hp] at h1; cases h1
    | some p =>
      rw [hp] at h1
      obtain ⟨u', hu, _⟩ := rel.get (k := p.1) (v := p.2) hp
      rw [hu] at hx; cases hx
      cases h1
      exact is_kV hk
  exact ⟨.ref _, _, I.laid (t' := tk) hk (Nat.le_refl _) (show ObjOk X.prog X.w _ h' _ (.lst _) from ⟨by rw [List.length_map]; exact z, acc.toList, c, rv, by simpa using hS⟩), rfl, q _ (I.hok.fresh (Nat.le_refl _))⟩
/-- list(d.values()) -/
def tLV (td : TE) : TE := fun σ H Q => td σ H fun x H1 => ∃ a vs, x = .ref a ∧ DVals H1 a vs ∧ ∀ p, H1 p = none → Q (.ref p) (upd H1 p (.lst vs))
theorem pe_listVals {d : Expr} {td : TE} {p1 apos pos pos2 : Pos} (hc : X.calm = true) (hgL : Gl X "list") (hmL : X.mg "list" = none) (hd : PE X d td) (hb : attributeBase d "values" X.env (eval d X.env) = eval d X.env := by rfl) (hline : (apos.endLine == pos2.line) = true := by rfl) :
    PE X (.Call (.Name "list" p1) [.Call (.Attribute d "values" apos) [] [] pos2] [] pos) (tLV td) := by
  intro pins s σ H Q I h
  refine wpAny_Call_Name_kw (ld_blt I hgL hmL boot_list ?_ (by decide) (by decide))
  refine PyProof.Rows.callWith_type1 ?_ (star_plain rfl) rfl
  rw [star_plain rfl]
  show wpAny _ _ (spliced ((false, eval (.Call (.Attribute d "values" apos) [] [] pos2) X.env) :: backTo pos (starEach [] X.env))) _ _ s
  refine Calls.spliced_cons ?_
  refine wpAny_Call_method hb rfl hline PySem.F.plainAttrs_dict PySem.F.slot_dict_values PySem.F.type_dict_values (thn (hd pins s σ H _ I h) fun v s1 ⟨x, H1, I1, r1, q1⟩ => ?_)
  obtain ⟨a, vs, e, dv, q⟩ := q1
  subst e
  cases r1
  obtain ⟨t1, t2, t3⟩ := isD_at I1 (dv.imp (fun ⟨kvs, h, _⟩ => ⟨kvs, h⟩) fun ⟨kvs, h, _⟩ => ⟨kvs, h⟩)
  refine ⟨t1, t2, ?_⟩
  obtain ⟨hm, z, es, ep, hD, rv⟩ := I1.dvals dv
  refine Calls.callWith_builtin rfl (PySem.evalArgs_none ?_)
  refine call_meetsIn PySem.F.slot_dict_values hD.typeIs PySem.F.entry_dict_values (PySem.F.args_dict_values_1 _) (meets_valuesO a hm) ⟨hD.typeIs, ?_⟩
  refine Calls.spliced_nil ?_
  have I2 : Inv X pins σ H1 { s1 with heap := s1.heap.push { cls := .type "dict_values", data := .fields #[.ref a] } } := I1.kept (t' := s1.toks) fun b o e => Heap.get?_push_of_some _ e
  have len := rv.length
  rw [List.length_map, show es.toList.length = es.size from rfl] at len
  refine kdl_call (src_valuesO (es := es) (ep := ep)) (I.ok.hd hc) (show _ ∧ _ from ⟨⟨_, Heap.get?_push_size _ rfl, rfl, rfl⟩, hD.at fun o e => Heap.get?_push_of_some _ e⟩) (by rw [← len]; exact z) fun h' tk acc c hk hS hacc => ?_
  have rv' : Vals vs acc.toList := by
    have : acc.toList = es.toList.map (·.val) := by
      apply List.ext_getElem?
      intro i
      by_cases hi : i < es.size
      · have h1 : i < acc.size := by rw [hacc.1]; exact hi
        obtain ⟨e, he, hv⟩ := hacc.2 i acc[i] (Array.getElem?_eq_getElem h1)
        rw [List.getElem?_map, Array.getElem?_toList, Array.getElem?_toList, he, Array.getElem?_eq_getElem h1, hv]
        rfl
      · rw [List.getElem?_eq_none (by rw [show acc.toList.length = acc.size from rfl, hacc.1]; omega), List.getElem?_eq_none (by rw [List.length_map, show es.toList.length = es.size from rfl]; omega)]
    rw [this]; exact rv
  exact ⟨.ref _, _, I2.laid (t' := tk) hk (Nat.le_refl _) (show ObjOk X.prog X.w _ h' _ (.lst _) from ⟨z, acc.toList, c, rv', by simpa using hS⟩), rfl, q _ (I2.hok.fresh (Nat.le_refl _))⟩
end

/-- len(d) -/
theorem call_lenD {X : Cx} : CallR X (.builtin "len") (fun xs H Q => ∃ a kvs, xs = [.ref a] ∧ Rd H a (.dK kvs) ∧ Q (.int kvs.length) H) := by
  intro pins s σ H xs us Q I r h
  obtain ⟨a, kvs, rfl, e, q⟩ := h
  obtain ⟨u, rfl, rx⟩ := vals1 r
  cases rx
  exact d_len I e fun t s' I' => ⟨.int kvs.length, H, I', ⟨t, rfl⟩, q⟩
/-! ### reversed(list) in a loop -/
end L2
set_option Elab.async false
set_option linter.all false
set_option maxRecDepth 100000
set_option maxHeartbeats 4000000
namespace L2
open PySem PySem.Spec PyProof.Rows PySem.W
/-- a def with defaults, of which all parameters are given: its defaults are read all the same -/
theorem FunD.bindsT {K : PySem.W.Frag} {x qual : Str} {st : Stmt} {f : Addr} {fd : FuncData} {ps : List Str} {T : Addr} {o : Obj} {items : Array Value} {n : Nat} (_F : FunD K x qual st f fd) (lk : K.lookup T = some o) (hd : fd.defaults = .ref T) (hs : o.data = .seq items n)
    (h : ∀ us : List Value, us.length = ps.length → ∃ k, bindArgs fd ⟨us, []⟩ = seqItems? fd.defaults >>= k ∧ k (some items) = pure (ps.zip us)) : Binds K fd ps [] := fun s us hk hl => by
  rw [List.append_nil] at hl ⊢
  obtain ⟨k, h1, h2⟩ := h us hl
  exact .of_defaults hd (hk _ _ lk) hs h1 h2
end L2
set_option Elab.async false
set_option linter.all false
set_option maxRecDepth 100000
set_option maxHeartbeats 4000000
namespace L2
open PySem PySem.Spec PyProof.Rows PySem.W
end L2
set_option Elab.async false
set_option linter.all false
set_option maxRecDepth 100000
set_option maxHeartbeats 4000000
namespace L2
open PySem PySem.Spec PyProof.Rows PySem.W
/-! ### dict(d): a new dict of the same pairs; a text times 1, 2 or 3 -/
section
variable {X : Cx}
theorem call_dictD : CallR X (.type "dict") (fun xs H Q => ∃ a kvs, xs = [.ref a] ∧ Rd H a (.dK kvs) ∧ ∀ p, H p = none → Q (.ref p) (upd H p (.dK kvs))) := by
  intro pins s σ H xs us Q I r h
  obtain ⟨a, kvs, rfl, e, q⟩ := h
  obtain ⟨u, rfl, rx⟩ := vals1 r
  cases rx
  exact d_copyOf I e fun p s' hp I' => ⟨.ref p, _, I', rfl, q p hp⟩
theorem fold_size (a : Array Nat) : ∀ (k : Nat) (acc : Array Nat), ((List.replicate k a).foldl (· ++ ·) acc).size = acc.size + k * a.size
  | 0, acc => by simp
  | k + 1, acc => by
    rw [List.replicate_succ, List.foldl_cons, fold_size a k, Array.size_append, Nat.succ_mul]
    omega
/-- the text so many times -/
def timesS (x : Str) (n : Int) : Str := if n = 1 then x else ⟨(List.replicate n.toNat x.cps).foldl (· ++ ·) #[]⟩
theorem op_mul_str : OpR X (binaryOp .Mult) (fun x y H Q => ∃ i n, x = .str i ∧ y = .int n ∧ 1 ≤ n ∧ n ≤ 100 ∧ 1 ≤ i.length ∧ i.length ≤ 100 ∧ Q (.str (timesS i n)) H) := by
  intro pins s σ H x y v u Q I rx ry h
  obtain ⟨i, n, rfl, rfl, h1, h2, h3, h4, q⟩ := h
  obtain ⟨t, rfl⟩ := rx
  obtain ⟨t', rfl⟩ := ry
  have hn : ¬ n < 1 := by omega
  refine PySem.P.mul_str ?_ (fun _ _ => ?_) (fun _ _ => ?_) ?_
  · rw [decide_eq_false (by omega), decide_eq_false (by omega)]; rfl
  · have : (100 : Int) ≤ (2 ^ 63 - 1) / n := Int.le_ediv_of_mul_le (by omega) (by omega)
    omega
  · refine decide_eq_false ?_
    have hm : i.length * n.toNat ≤ 100 * 100 := Nat.mul_le_mul h4 (by omega)
    rw [sizeLine_eq]; omega
  · rw [if_neg hn]
    by_cases c : n = 1
    · subst c
      rw [if_pos (by rfl)]
      unfold timesS at q
      rw [if_pos rfl] at q
      exact ⟨.str i, H, I, ⟨_, rfl⟩, q⟩
    · have hl0 : (i.length == 0) = false := by simp; omega
      rw [if_neg (by rw [hl0]; simp [c])]
      unfold timesS at q
      rw [if_neg c] at q
      refine ⟨?_, .str ⟨(List.replicate n.toNat i.cps).foldl (· ++ ·) #[]⟩, H, I.tok _, ⟨_, rfl⟩, q⟩
      show ((List.replicate n.toNat i.cps).foldl (· ++ ·) #[]).size ≤ sizeLine
      rw [fold_size]
      have hm : n.toNat * i.cps.size ≤ 100 * 100 := Nat.mul_le_mul (by omega) h4
      show 0 + _ ≤ _
      rw [sizeLine_eq]; omega
end
end L2
set_option Elab.async false
set_option linter.all false
set_option maxRecDepth 100000
set_option maxHeartbeats 4000000
namespace L2
open PySem PySem.Spec PyProof.Rows PySem.W
/-! ### == of tables (lists of lists of ints or None), whatever the answer -/
/-- a list of ints or None -/
def OvSeq (K : PySem.W.Frag) (H : Hp) (v : V) (xs : List (Option Int)) : Prop := ∃ a, v = .ref a ∧ SqL K H a (xs.map ov)
theorem ovs_inj {xs ys : List (Option Int)} (h : xs.map ov = ys.map ov) : xs = ys := by
  induction xs generalizing ys with
  | nil => cases ys with
    | nil => rfl
    | cons y ys => cases h
  | cons x xs ih => cases ys with
    | nil => cases h
    | cons y ys =>
      injection h with h1 h2
      rw [ih h2]
      cases x with
      | none => cases y with
        | none => rfl
        | some z => cases h1
      | some z => cases y with
        | none => cases h1
        | some w =>
          injection h1 with h1
          rw [h1]
section
variable {X : Cx} {pins : List (Addr × Obj)} {σ : St} {H : Hp} {s : Shared}
open PySem.SeqAt in
theorem ov_items {A : Around} {xs ys : List (Option Int)} {its its' : List Value} (rv : Vals (xs.map ov) its) (rv' : Vals (ys.map ov) its') :
    ∀ j (h1 : j < its.toArray.size) (h2 : j < its'.toArray.size), EqAt A s its.toArray[j] its'.toArray[j] (decide (xs.getD j none = ys.getD j none)) := fun j h1 h2 => by
  have l1 : its.toArray.size = xs.length := by rw [List.size_toArray, ← rv.length, List.length_map]
  have l2 : its'.toArray.size = ys.length := by rw [List.size_toArray, ← rv'.length, List.length_map]
  have k1 : j < xs.length := by omega
  have k2 : j < ys.length := by omega
  obtain ⟨u1, e1, r1⟩ := rv.get (show (xs.map ov)[j]? = some (ov xs[j]) by rw [List.getElem?_map, List.getElem?_eq_getElem k1]; rfl)
  obtain ⟨u2, e2, r2⟩ := rv'.get (show (ys.map ov)[j]? = some (ov ys[j]) by rw [List.getElem?_map, List.getElem?_eq_getElem k2]; rfl)
  have f1 : its.toArray[j] = u1 := by
    have := (List.getElem?_eq_some_iff.mp e1).2
    simpa using this
  have f2 : its'.toArray[j] = u2 := by
    have := (List.getElem?_eq_some_iff.mp e2).2
    simpa using this
  have d1 : xs.getD j none = xs[j] := by rw [List.getD_eq_getElem?_getD, List.getElem?_eq_getElem k1]; rfl
  have d2 : ys.getD j none = ys[j] := by rw [List.getD_eq_getElem?_getD, List.getElem?_eq_getElem k2]; rfl
  rw [f1, f2, d1, d2]
  generalize xs[j] = o1 at r1 ⊢
  generalize ys[j] = o2 at r2 ⊢
  cases o1 with
  | none =>
    have q1 : u1 = .none := by cases r1; rfl
    subst q1
    cases o2 with
    | none =>
      have q2 : u2 = .none := by cases r2; rfl
      subst q2
      rw [decide_eq_true rfl]
      exact EqAt.same _
    | some z =>
      obtain ⟨t, rfl⟩ := r2
      rw [decide_eq_false (by simp)]
      exact EqAt.none_int z t
  | some z =>
    obtain ⟨t, rfl⟩ := r1
    cases o2 with
    | none =>
      have q2 : u2 = .none := by cases r2; rfl
      subst q2
      rw [decide_eq_false (by simp)]
      exact EqAt.int_none z t
    | some w =>
      obtain ⟨t', rfl⟩ := r2
      have e : decide (some z = some w) = (z == w) := by rw [Bool.eq_iff_iff]; simp
      rw [e]
      exact EqAt.int_int z t w t'
open PySem.SeqAt in
theorem ov_seq_eq (I : Inv X pins σ H s) {A : Around} (hu : A.units + 1 < cLine) {v w : V} {u u' : Value} {xs ys : List (Option Int)} (h1 : OvSeq X.K H v xs) (h2 : OvSeq X.K H w ys) (r1 : RelV v u) (r2 : RelV w u') : EqAt A s u u' (decide (xs = ys)) := by
  obtain ⟨a, rfl, h1⟩ := h1
  obtain ⟨b, rfl, h2⟩ := h2
  cases r1
  cases r2
  obtain ⟨its, rv, p, _⟩ := I.list h1
  obtain ⟨its', rv', p', _⟩ := I.list h2
  have q : s.heap.IsList a its.toArray := p.isList
  have q' : s.heap.IsList b its'.toArray := p'.isList
  have l1 : its.toArray.size = xs.length := by rw [List.size_toArray, ← rv.length, List.length_map]
  have l2 : its'.toArray.size = ys.length := by rw [List.size_toArray, ← rv'.length, List.length_map]
  by_cases c : a = b
  · subst c
    have e := isList_uniq q q'
    have e' : its = its' := by simpa using e
    subst e'
    rw [decide_eq_true (ovs_inj (rv.inj rv'))]
    exact EqAt.same _
  · refine EqAt.of_refs c ?_
    by_cases hl : xs.length = ys.length
    · have g := RcAt.lists (A := A) q q' (by omega) (by omega) (ov_items (A := A.in1) rv rv')
      rw [l1, all_eq none hl] at g
      exact g
    · have g := RcAt.lists_lengths (A := A) q q' (bne_iff_ne.mpr (by omega)) (by omega)
      rw [decide_eq_false (fun h => hl (by rw [h]))]
      exact g
open PySem.SeqAt in
theorem op_eqTT (hu : X.A.units + 64 < cLine) : OpR X (compareOp .Eq) (fun x y H Q => ∃ a b vs ws xss yss, x = .ref a ∧ y = .ref b ∧ SqL X.K H a vs ∧ SqL X.K H b ws ∧ Paired (OvSeq X.K H) vs xss ∧ Paired (OvSeq X.K H) ws yss ∧ Q (.bl (decide (xss = yss))) H) := by
  intro pins s σ H x y v u Q I rx ry h
  obtain ⟨a, b, vs, ws, xss, yss, rfl, rfl, h1, h2, h3, h4, q⟩ := h
  cases rx
  cases ry
  obtain ⟨its, rv, p, _⟩ := I.list h1
  obtain ⟨its', rv', p', _⟩ := I.list h2
  have l1 : its.toArray.size = xss.length := by rw [List.size_toArray, ← rv.length, Paired.length h3]
  have l2 : its'.toArray.size = yss.length := by rw [List.size_toArray, ← rv'.length, Paired.length h4]
  by_cases hl : xss.length = yss.length
  · refine eq_listAt (e := fun j => decide (xss.getD j [] = yss.getD j [])) p.isList p'.isList (by omega) (by omega) (fun j k1 k2 => ?_) ?_
    · have j1 : j < vs.length := by rw [Paired.length h3]; omega
      have j2 : j < ws.length := by rw [Paired.length h4]; omega
      obtain ⟨u1, e1, r1⟩ := rv.get (List.getElem?_eq_getElem j1)
      obtain ⟨u2, e2, r2⟩ := rv'.get (List.getElem?_eq_getElem j2)
      have f1 : its.toArray[j] = u1 := by
        have := (List.getElem?_eq_some_iff.mp e1).2
        simpa using this
      have f2 : its'.toArray[j] = u2 := by
        have := (List.getElem?_eq_some_iff.mp e2).2
        simpa using this
      have pg : ∀ {l₁ : List V} {l₂ : List (List (Option Int))} {i : Nat} {x : V}, Paired (OvSeq X.K H) l₁ l₂ → l₁[i]? = some x → OvSeq X.K H x (l₂.getD i []) := by
        intro l₁ l₂ i x hp
        induction hp generalizing i with
        | nil => intro e; simp at e
        | cons r t ih =>
          intro e
          cases i with
          | zero => simp at e; subst e; simpa using r
          | succ i => simpa using ih (by simpa using e)
      rw [f1, f2]
      exact ov_seq_eq I (by rw [units_in1]; omega) (pg h3 (List.getElem?_eq_getElem j1)) (pg h4 (List.getElem?_eq_getElem j2)) r1 r2
    · rw [l1, all_eq [] hl]
      exact ⟨.bl _, H, I, rfl, q⟩
  · refine eq_list_lengthsAt p.isList p'.isList (bne_iff_ne.mpr (by omega)) (by omega) ?_
    rw [decide_eq_false (fun h => hl (by rw [h]))] at q
    exact ⟨.bl false, H, I, rfl, q⟩
end
end L2
set_option Elab.async false
set_option linter.all false
set_option maxRecDepth 100000
set_option maxHeartbeats 4000000
namespace L2
open PySem PySem.Spec PyProof.Rows PySem.W
/-! ### texts: a part, a join, the repr within an f-text; keyword arguments of a method -/
section
variable {X : Cx}
end
end L2

namespace Toy
open PySem PySem.Spec PyProof.Rows L2
def top (i : Nat) : Stmt := PySem.Challenge.pw_waithouse_k31_whole_houses.main.body.getD i (.Pass ⟨0, 0, 0, 0⟩)
abbrev s_bounds_of : Stmt := top 4
abbrev s_wide : Stmt := top 6
abbrev s_wide_row : Stmt := top 7
abbrev s_table_of : Stmt := top 8
abbrev s_held : Stmt := top 9
abbrev s_shuts : Stmt := top 10
abbrev s_held_row : Stmt := top 11
abbrev s_total : Stmt := top 12
abbrev s_lesser : Stmt := top 13
abbrev s_ring : Stmt := top 15
abbrev s_chain : Stmt := top 17
abbrev s_search : Stmt := top 19
abbrev s_first_ways : Stmt := top 20
abbrev s_narrowed : Stmt := top 21
abbrev s_led : Stmt := top 22
abbrev s_by_way : Stmt := top 23
abbrev s_all_bounds : Stmt := top 26
abbrev s_all_bound_names : Stmt := top 27
abbrev s_ends_of : Stmt := top 28
abbrev s_names_at : Stmt := top 29
abbrev s_law_cell : Stmt := top 31
abbrev s_law_big : Stmt := top 33
abbrev s_law_times : Stmt := top 34
abbrev s_law_bag : Stmt := top 35
abbrev s_law_take : Stmt := top 36
abbrev s_law_many : Stmt := top 37
abbrev s_law_lies : Stmt := top 38
abbrev s_law_kept : Stmt := top 39
abbrev s_law_truth : Stmt := top 40
abbrev s_law_gap_round : Stmt := top 41
abbrev s_law_ends : Stmt := top 42
abbrev s_law_due : Stmt := top 43
abbrev s_law_deed : Stmt := top 44
abbrev s_law_walked : Stmt := top 45
abbrev s_law_ring_good : Stmt := top 46
abbrev s_law_pair_good : Stmt := top 47
abbrev s_law_idle_good : Stmt := top 48
abbrev s_law_told : Stmt := top 49
abbrev s_law_tries : Stmt := top 50
abbrev s_law : Stmt := top 51
abbrev s_House___init__ : Stmt := inClass (top 25) 0
abbrev s_House_add : Stmt := inClass (top 25) 1
abbrev s_House_drop : Stmt := inClass (top 25) 2
abbrev s_House_need : Stmt := inClass (top 25) 3
abbrev s_House_names : Stmt := inClass (top 25) 4
abbrev s_House_table : Stmt := inClass (top 25) 6
abbrev s_House_ring : Stmt := inClass (top 25) 7
abbrev s_House_chain : Stmt := inClass (top 25) 8
abbrev s_House_idle : Stmt := inClass (top 25) 9
structure Cl where
  WaitError : Addr
  NoName : Addr
  House : Addr
structure Txt (K : PySem.W.Frag) (mg : Str → Option Value) (cl : Cl) : Prop where
  z_dict : mg "dict" = none
  z_isinstance : mg "isinstance" = none
  z_len : mg "len" = none
  z_list : mg "list" = none
  z_min : mg "min" = none
  z_range : mg "range" = none
  z_str : mg "str" = none
  z_tuple : mg "tuple" = none
  g_WaitError : mg "WaitError" = some (.ref cl.WaitError)
  g_NoName : mg "NoName" = some (.ref cl.NoName)
  g_House : mg "House" = some (.ref cl.House)
  cl_House : Cls K cl.House
  n_House_count : NoAttr K cl.House "count"
  n_House_gaps : NoAttr K cl.House "gaps"
/-- the time from a to b -/
def tm (ns : List Int) (a b : Int) : Int := ns.getD b.toNat 0 - ns.getD a.toNat 0
def inR (a : Int) (ns : List Int) : Prop := 0 ≤ a ∧ a < ns.length
theorem ints_snoc {acc : List V} {zs : List Int} (h : acc = zs.map V.int) (y : Int) : acc ++ [V.int y] = (zs ++ [y]).map V.int := by
  rw [h, List.map_append]; rfl
def sp_law_cell (K : PySem.W.Frag) : Sp := fun vs H Q _ => ∃ (a : Addr) (ns : List Int) (k : Int), vs = [.ref a, .int k] ∧ SqL K H a (ns.map V.int) ∧ ns.length ≤ 63 ∧ 0 ≤ k ∧ k ≤ 100 ∧ ∀ i : Int, Q (.int i) H
def sp_law_big (K : PySem.W.Frag) : Sp := fun vs H Q _ => ∃ c : Int, vs = [.int c] ∧ ∀ i : Int, Q (.int i) H
def sp_law_times (K : PySem.W.Frag) : Sp := fun vs H Q _ => ∃ (a : Addr) (ns : List Int) (k n : Int), vs = [.ref a, .int k, .int n] ∧ SqL K H a (ns.map V.int) ∧ ns.length ≤ 63 ∧ 0 ≤ k ∧ k ≤ 50 ∧ 0 ≤ n ∧ n ≤ 8 ∧
  ∀ (r : Addr) (H' : Hp) (ms : List Int), Same H H' → (ms.length : Int) = n → H' r = some (.tup (ms.map V.int)) → Q (.ref r) H'
def sp_law_truth (K : PySem.W.Frag) : Sp := fun vs H Q _ => ∃ b : Bool, vs = [.bl b, .bl b] ∧ Q (.bl true) H
def sp_law (K : PySem.W.Frag) : Sp := fun vs H Q _ => ∃ (a : Addr) (ns : List Int), vs = [.ref a] ∧ SqL K H a (ns.map V.int) ∧ ns.length ≤ 63 ∧ ∀ H', Q (.bl true) H'
/-! bounds: triples of numbers, each a tuple of its own -/
abbrev Bd := Int × Int × Int
def bv (m : Bd) : List V := [.int m.1, .int m.2.1, .int m.2.2]
def AreB (H : Hp) : List V → List Bd → Prop := Paired fun v m => ∃ p, v = .ref p ∧ H p = some (.tup (bv m))
theorem AreB.same {H H' : Hp} {vs : List V} {ms : List Bd} (s : Same H H') (h : AreB H vs ms) : AreB H' vs ms := Paired.mapP h fun _ _ ⟨p, e, q⟩ => ⟨p, e, s _ _ q⟩
theorem AreB.len {H : Hp} {vs : List V} {ms : List Bd} (h : AreB H vs ms) : vs.length = ms.length := Paired.length h
theorem AreB.get {H : Hp} : ∀ {vs : List V} {ms : List Bd} {i : Nat} {v : V}, AreB H vs ms → vs[i]? = some v → ∃ p m, ms[i]? = some m ∧ v = .ref p ∧ H p = some (.tup (bv m))
  | _, _, _, _, .nil, e => by simp at e
  | _, _, 0, _, .cons ⟨p, e1, q⟩ _, e => by
    simp at e
    exact ⟨p, _, rfl, e.symm.trans e1, q⟩
  | _, _, i + 1, v, .cons _ t, e => by
    obtain ⟨p, m, h1, h2⟩ := AreB.get (i := i) (v := v) t (by simpa using e)
    exact ⟨p, m, by simpa using h1, h2⟩
theorem AreB.snoc {H : Hp} {vs : List V} {ms : List Bd} {p : Addr} {m : Bd} (h : AreB H vs ms) (e : H p = some (.tup (bv m))) : AreB H (vs ++ [.ref p]) (ms ++ [m]) := Paired.snoc h ⟨p, rfl, e⟩
/-- a new tuple is appended to a list that is not among what stood before -/
theorem app_same {H H1 : Hp} {r p : Addr} {o u : HO} (hr : H r = none) (s : Same H H1) (hp : H1 p = none) : Same H (upd (upd H1 p o) r u) := fun b x e => by
  rw [upd_ne (ne_of_none e hr), upd_ne (ne_of_none (s b x e) hp)]; exact s b x e
theorem app_at {H1 : Hp} {r p : Addr} {o u w : HO} (h1 : H1 r = some w) (hp : H1 p = none) : (upd (upd H1 p o) r u) p = some o := by
  rw [upd_ne (Ne.symm (ne_of_none h1 hp)), upd_same]
theorem AreB.app {H1 : Hp} {vs xs : List V} {ms : List Bd} {r p : Addr} {m : Bd} {u : HO} (h : AreB H1 vs ms) (h1 : H1 r = some (.lst xs)) (hp : H1 p = none) : AreB (upd (upd H1 p (.tup (bv m))) r u) (vs ++ [.ref p]) (ms ++ [m]) := by
  refine AreB.snoc (Paired.mapP h fun v m ⟨t, e, q⟩ => ⟨t, e, ?_⟩) (app_at h1 hp)
  rw [upd_ne (ne_of q h1 (fun z => by cases z)), upd_ne (ne_of_none q hp)]; exact q
theorem atI_of {α : Type} {xs : List α} {i : Int} {n : Nat} {v : α} (h0 : 0 ≤ i) (hn : i.toNat = n) (h : xs[n]? = some v) : atI xs i = some v := by
  have e : i = ((n : Nat) : Int) := by omega
  rw [e]
  exact atI_nat h
/-- the bounds of a gap -/
def hiB (a b : Int) : Option Int → List Bd
  | none => []
  | some h => [(a, b, h)]
def loB (a b : Int) : Option Int → List Bd
  | none => []
  | some l => [(b, a, -l)]
def bnds (a b : Int) (low high : Option Int) : List Bd := hiB a b high ++ loB a b low
def bKept (ms : List Int) (m : Bd) : Bool := decide (tm ms m.1 m.2.1 ≤ m.2.2)
def sp_bounds_of (K : PySem.W.Frag) : Sp := fun vs H Q _ => ∃ (u : Addr) (a b : Int) (low high : Option Int), vs = [.ref u] ∧ SqT K H u [.int a, .int b, ov low, ov high] ∧
  ∀ (r : Addr) (H' : Hp) (qs : List V), H r = none → Same H H' → H' r = some (.lst qs) → AreB H' qs (bnds a b low high) → Q (.ref r) H'
/-! tables, chains, rings: the mathematics of bounds -/
abbrev Tab := List (List (Option Int))
def ent (t : Tab) (a b : Int) : Option Int := (t.getD a.toNat []).getD b.toNat none
def inN (a : Int) (n : Nat) : Prop := 0 ≤ a ∧ a < n
inductive Path (bs : List Bd) : Int → Int → Int → Prop where
  | nil (a : Int) : Path bs a a 0
  | cons {a x b c d : Int} (h : (a, x, c) ∈ bs) (r : Path bs x b d) : Path bs a b (c + d)
theorem Path.one {bs : List Bd} {a b c : Int} (h : (a, b, c) ∈ bs) : Path bs a b c := by
  have q := Path.cons h (.nil b)
  rw [Int.add_zero] at q
  exact q
theorem Path.trans {bs : List Bd} {a b c d e : Int} (p : Path bs a b c) : Path bs b d e → Path bs a d (c + e) := by
  induction p with
  | nil a => intro q; rw [Int.zero_add]; exact q
  | cons h r ih =>
    intro q
    rw [Int.add_assoc]
    exact .cons h (ih q)
theorem Path.mono {bs cs : List Bd} {a b c : Int} (p : Path bs a b c) (h : ∀ m ∈ bs, m ∈ cs) : Path cs a b c := by
  induction p with
  | nil a => exact .nil a
  | cons k r ih => exact .cons (h _ k) ih
theorem Path.keep {bs : List Bd} {ns : List Int} (hk : ∀ m ∈ bs, bKept ns m = true) {a b c : Int} (p : Path bs a b c) : tm ns a b ≤ c := by
  induction p with
  | nil a => unfold tm; omega
  | cons h r ih =>
    have q : tm ns _ _ ≤ _ := of_decide_eq_true (hk _ h)
    unfold tm at q ih ⊢
    simp only at q
    omega
def Within (n : Nat) (bs : List Bd) : Prop := ∀ m ∈ bs, inN m.1 n ∧ inN m.2.1 n
def NegR (bs : List Bd) : Prop := ∃ a c, c < 0 ∧ Path bs a a c
theorem Path.begins {bs : List Bd} {n : Nat} (hw : Within n bs) {a b c : Int} (p : Path bs a b c) : (a = b ∧ c = 0) ∨ inN a n := by
  cases p with
  | nil => exact .inl ⟨rfl, rfl⟩
  | cons h r => exact .inr (hw _ h).1
/-- t is the table of the bounds -/
structure Right (n : Nat) (bs : List Bd) (t : Tab) : Prop where
  len : t.length = n
  row : ∀ r ∈ t, r.length = n
  low : ∀ a b c, inN a n → inN b n → Path bs a b c → ∃ e, ent t a b = some e ∧ e ≤ c
  hit : ∀ a b e, inN a n → inN b n → ent t a b = some e → Path bs a b e
theorem Right.self {n : Nat} {bs : List Bd} {t : Tab} (R : Right n bs t) {a : Int} (ha : inN a n) : ent t a a = some 0 := by
  obtain ⟨e, h1, h2⟩ := R.low a a 0 ha ha (.nil a)
  have p := R.hit a a e ha ha h1
  obtain ⟨e', h3, h4⟩ := R.low a a (e + e) ha ha (p.trans p)
  rw [h1] at h3
  cases h3
  have : e = 0 := by omega
  rw [h1, this]
theorem Right.tri {n : Nat} {bs : List Bd} {t : Tab} (R : Right n bs t) {a p b x y : Int} (ha : inN a n) (hp : inN p n) (hb : inN b n) (h1 : ent t a p = some x) (h2 : ent t p b = some y) : ∃ e, ent t a b = some e ∧ e ≤ x + y :=
  R.low a b (x + y) ha hb ((R.hit a p x ha hp h1).trans (R.hit p b y hp hb h2))
theorem Right.noneg {n : Nat} {bs : List Bd} {t : Tab} (R : Right n bs t) (hw : Within n bs) : ¬ NegR bs := by
  rintro ⟨a, c, hc, p⟩
  rcases p.begins hw with ⟨_, e⟩ | ha
  · omega
  · obtain ⟨e, h1, h2⟩ := R.low a a c ha ha p
    rw [R.self ha] at h1
    cases h1
    omega
def Lies (n : Nat) (t : Tab) (ns : List Int) : Prop := ∀ a b, inN a n → inN b n → ∀ e, ent t a b = some e → tm ns a b ≤ e
theorem Right.lies {n : Nat} {bs : List Bd} {t : Tab} (R : Right n bs t) {ns : List Int} (hk : ∀ m ∈ bs, bKept ns m = true) : Lies n t ns := fun a b ha hb e h => (R.hit a b e ha hb h).keep hk
theorem Right.keeps {n : Nat} {bs : List Bd} {t : Tab} (R : Right n bs t) (hw : Within n bs) {ns : List Int} (hl : Lies n t ns) : ∀ m ∈ bs, bKept ns m = true := fun m hm => by
  obtain ⟨h1, h2⟩ := hw m hm
  obtain ⟨e, q1, q2⟩ := R.low m.1 m.2.1 m.2.2 h1 h2 (.one hm)
  have := hl _ _ h1 h2 e q1
  exact decide_eq_true (by omega)
theorem Right.lies_iff {n : Nat} {bs : List Bd} {t : Tab} (R : Right n bs t) (hw : Within n bs) {ns : List Int} : Lies n t ns ↔ bs.all (bKept ns) = true := by
  rw [List.all_eq_true]
  exact ⟨R.keeps hw, R.lies⟩
theorem noneg_kept {bs : List Bd} {ns : List Int} (hk : ∀ m ∈ bs, bKept ns m = true) : ¬ NegR bs := by
  rintro ⟨a, c, hc, p⟩
  have := p.keep hk
  unfold tm at this
  omega
theorem ent_nat (t : Tab) (i j : Nat) : ent t (i : Int) (j : Int) = (t.getD i []).getD j none := by
  unfold ent; rw [Int.toNat_natCast, Int.toNat_natCast]
theorem tab_ext {n : Nat} {t u : Tab} (ht : t.length = n) (hu : u.length = n) (rt : ∀ r ∈ t, r.length = n) (ru : ∀ r ∈ u, r.length = n) (h : ∀ a b, inN a n → inN b n → ent t a b = ent u a b) : t = u := by
  refine List.ext_getElem (ht.trans hu.symm) fun i h1 h2 => ?_
  have l1 := rt _ (List.getElem_mem h1)
  have l2 := ru _ (List.getElem_mem h2)
  refine List.ext_getElem (l1.trans l2.symm) fun j k1 k2 => ?_
  have q := h (i : Int) (j : Int) ⟨by omega, by omega⟩ ⟨by omega, by omega⟩
  rw [ent_nat, ent_nat] at q
  simp only [List.getD_eq_getElem?_getD, List.getElem?_eq_getElem h1, List.getElem?_eq_getElem h2, Option.getD_some, List.getElem?_eq_getElem k1, List.getElem?_eq_getElem k2] at q
  exact q
theorem Right.same {n : Nat} {bs cs : List Bd} {t u : Tab} (R : Right n bs t) (S : Right n cs u) (hp : ∀ a b c, Path bs a b c → ∃ d, d ≤ c ∧ Path cs a b d) (hq : ∀ a b c, Path cs a b c → ∃ d, d ≤ c ∧ Path bs a b d) : t = u := by
  refine tab_ext R.len S.len R.row S.row fun a b ha hb => ?_
  have one : ∀ {n : Nat} {bs cs : List Bd} {t u : Tab}, Right n bs t → Right n cs u → (∀ a b c, Path bs a b c → ∃ d, d ≤ c ∧ Path cs a b d) → ∀ {a b : Int}, inN a n → inN b n → ∀ e, ent t a b = some e → ∃ f, ent u a b = some f ∧ f ≤ e := fun {n bs cs t u} R S hp {a b} ha hb e h => by
    obtain ⟨d, h1, h2⟩ := hp a b e (R.hit a b e ha hb h)
    obtain ⟨f, h3, h4⟩ := S.low a b d ha hb h2
    exact ⟨f, h3, by omega⟩
  cases e1 : ent t a b with
  | none =>
    cases e2 : ent u a b with
    | none => rfl
    | some f =>
      obtain ⟨g, q, _⟩ := one S R hq ha hb f e2
      rw [e1] at q; cases q
  | some e =>
    obtain ⟨f, q1, q2⟩ := one R S hp ha hb e e1
    obtain ⟨g, q3, q4⟩ := one S R hq ha hb f q1
    rw [e1] at q3
    cases q3
    rw [q1]
    congr 1
    omega
theorem Right.uniq {n : Nat} {bs : List Bd} {t u : Tab} (R : Right n bs t) (S : Right n bs u) : t = u := R.same S (fun _ _ c p => ⟨c, Int.le_refl _, p⟩) fun _ _ c p => ⟨c, Int.le_refl _, p⟩
theorem rIx_of {K : PySem.W.Frag} {H : Hp} {p : Addr} {xs : List V} {i : Int} {v : V} {Q : VK} (h : SqL K H p xs ∨ SqT K H p xs) (e : atI xs i = some v) (q : Q v H) : rIx K (.ref p) (.int i) H Q := by
  rcases h with h | h
  · exact .inl ⟨p, xs, i, v, rfl, rfl, h, e, q⟩
  · exact .inr (.inl ⟨p, xs, i, v, rfl, rfl, h, e, q⟩)
def SqS (K : PySem.W.Frag) (H : Hp) (p : Addr) (xs : List V) : Prop := SqL K H p xs ∨ SqT K H p xs
def sp_law_kept (K : PySem.W.Frag) : Sp := fun vs H Q _ => ∃ (t r : Addr) (ns : List Int) (qs : List V) (ms : List Bd), vs = [.ref t, .ref r] ∧ SqS K H t (ns.map V.int) ∧ SqL K H r qs ∧ AreB H qs ms ∧ (∀ m ∈ ms, inR m.1 ns ∧ inR m.2.1 ns) ∧ Q (.bl (ms.all (bKept ns))) H
/-! tables in the heap -/
def RowsAt (H : Hp) : List Addr → Tab → Prop := Paired fun r row => H r = some (.lst (row.map ov))
structure TabAt (H : Hp) (p : Addr) (rs : List Addr) (t : Tab) : Prop where
  ob : H p = some (.lst (rs.map V.ref))
  rows : RowsAt H rs t
def Square (n : Nat) (t : Tab) : Prop := t.length = n ∧ ∀ r ∈ t, r.length = n
theorem Right.square {n : Nat} {bs : List Bd} {t : Tab} (R : Right n bs t) : Square n t := ⟨R.len, R.row⟩
theorem TabAt.same {H H' : Hp} {p : Addr} {rs : List Addr} {t : Tab} (s : Same H H') (h : TabAt H p rs t) : TabAt H' p rs t := ⟨s _ _ h.ob, Paired.mapP h.rows fun _ _ q => s _ _ q⟩
theorem paired_get {α β : Type} {F : α → β → Prop} : ∀ {l₁ : List α} {l₂ : List β} {i : Nat} {x : α}, Paired F l₁ l₂ → l₁[i]? = some x → ∃ y, l₂[i]? = some y ∧ F x y
  | _, _, _, _, .nil, e => by simp at e
  | _, _, 0, _, .cons r _, e => by simp at e; subst e; exact ⟨_, rfl, r⟩
  | _, _, i + 1, x, .cons _ t, e => by
    obtain ⟨y, h1, h2⟩ := paired_get (i := i) (x := x) t (by simpa using e)
    exact ⟨y, by simpa using h1, h2⟩
theorem TabAt.at {H : Hp} {p : Addr} {rs : List Addr} {t : Tab} {n : Nat} (T : TabAt H p rs t) (S : Square n t) {a b : Int} (ha : inN a n) (hb : inN b n) :
    ∃ (r : Addr) (row : List (Option Int)), atI (rs.map V.ref) a = some (.ref r) ∧ H r = some (.lst (row.map ov)) ∧ atI (row.map ov) b = some (ov (ent t a b)) := by
  have hl := Paired.length T.rows
  have h1 : a.toNat < rs.length := by have := ha.1; have := ha.2; have := S.1; omega
  obtain ⟨row, e1, e2⟩ := paired_get T.rows (List.getElem?_eq_getElem h1)
  have hr := S.2 row (List.mem_of_getElem? e1)
  have h2 : b.toNat < row.length := by have := hb.1; have := hb.2; omega
  refine ⟨rs[a.toNat], row, atI_of ha.1 rfl ?_, e2, atI_of hb.1 rfl ?_⟩
  · rw [List.getElem?_map, List.getElem?_eq_getElem h1]; rfl
  · have q : ent t a b = row[b.toNat] := by
      unfold ent
      simp only [List.getD_eq_getElem?_getD]
      rw [e1, Option.getD_some, List.getElem?_eq_getElem h2, Option.getD_some]
    rw [q, List.getElem?_map, List.getElem?_eq_getElem h2]
    rfl
def sp_law_lies (K : PySem.W.Frag) : Sp := fun vs H Q _ => ∃ (p x : Addr) (rs : List Addr) (t : Tab) (n : Nat) (ns : List Int), vs = [.ref p, .ref x] ∧ TabAt H p rs t ∧ Square n t ∧ n ≤ 100 ∧ SqS K H x (ns.map V.int) ∧ ns.length = n ∧ ∀ b : Bool, (b = true ↔ Lies n t ns) → Q (.bl b) H
/-! the program's tables: mathematics -/
def tot : Option Int → Option Int → Option Int
  | some x, some y => some (x + y)
  | _, _ => none
def les : Option Int → Option Int → Option Int
  | none, y => y
  | some x, none => some x
  | some x, some y => some (if y < x then y else x)
def mkT (n : Nat) (f : Int → Int → Option Int) : Tab := (List.range n).map fun (i : Nat) => (List.range n).map fun (j : Nat) => f (i : Int) (j : Int)
theorem mkT_square (n : Nat) (f : Int → Int → Option Int) : Square n (mkT n f) := by
  refine ⟨by unfold mkT; simp, fun r hr => ?_⟩
  unfold mkT at hr
  obtain ⟨i, _, e⟩ := List.mem_map.mp hr
  rw [← e]; simp
theorem mkT_ent {n : Nat} (f : Int → Int → Option Int) {a b : Int} (ha : inN a n) (hb : inN b n) : ent (mkT n f) a b = f a b := by
  obtain ⟨i, rfl⟩ : ∃ i : Nat, a = (i : Int) := ⟨a.toNat, by have := ha.1; omega⟩
  obtain ⟨j, rfl⟩ : ∃ j : Nat, b = (j : Int) := ⟨b.toNat, by have := hb.1; omega⟩
  have hi : i < n := by have := ha.2; omega
  have hj : j < n := by have := hb.2; omega
  rw [ent_nat]
  unfold mkT
  simp [List.getD_eq_getElem?_getD, hi, hj]
def wideT (n : Nat) : Tab := mkT n fun a b => if a = b then some 0 else none
def heldF (t : Tab) (m : Bd) (a b : Int) : Option Int := les (ent t a b) (tot (tot (ent t a m.1) (some m.2.2)) (ent t m.2.1 b))
def heldT (n : Nat) (t : Tab) (m : Bd) : Tab := mkT n (heldF t m)
def shutB (t : Tab) (m : Bd) : Bool := match ent t m.2.1 m.1 with
  | none => false
  | some e => decide (e + m.2.2 < 0)
theorem Path.none {a b c : Int} (p : Path [] a b c) : a = b ∧ c = 0 := by
  cases p with
  | nil => exact ⟨rfl, rfl⟩
  | cons h _ => exact (nomatch h)
theorem wide_right (n : Nat) : Right n [] (wideT n) where
  len := (mkT_square n _).1
  row := (mkT_square n _).2
  low a b c ha hb p := by
    obtain ⟨rfl, rfl⟩ := p.none
    exact ⟨0, by unfold wideT; rw [mkT_ent _ ha hb, if_pos rfl], Int.le_refl _⟩
  hit a b e ha hb h := by
    unfold wideT at h
    rw [mkT_ent _ ha hb] at h
    by_cases q : a = b
    · rw [if_pos q] at h
      cases h
      rw [q]; exact .nil b
    · rw [if_neg q] at h; cases h
theorem held_old {t : Tab} {m : Bd} {a b e : Int} (h : ent t a b = some e) : ∃ f, heldF t m a b = some f ∧ f ≤ e := by
  unfold heldF
  rw [h]
  cases tot (tot (ent t a m.1) (some m.2.2)) (ent t m.2.1 b) with
  | none => exact ⟨e, rfl, Int.le_refl _⟩
  | some y =>
    refine ⟨_, rfl, ?_⟩
    split <;> omega
theorem held_new {t : Tab} {m : Bd} {a b e1 e2 : Int} (h1 : ent t a m.1 = some e1) (h2 : ent t m.2.1 b = some e2) : ∃ f, heldF t m a b = some f ∧ f ≤ e1 + m.2.2 + e2 := by
  unfold heldF
  rw [h1, h2]
  cases ent t a b with
  | none => exact ⟨_, rfl, Int.le_refl _⟩
  | some x =>
    refine ⟨_, rfl, ?_⟩
    split <;> omega
theorem held_from {t : Tab} {m : Bd} {a b e : Int} (h : heldF t m a b = some e) : ent t a b = some e ∨ ∃ e1 e2, ent t a m.1 = some e1 ∧ ent t m.2.1 b = some e2 ∧ e = e1 + m.2.2 + e2 := by
  unfold heldF at h
  cases h1 : ent t a m.1 with
  | none =>
    rw [h1] at h
    have e0 : tot (tot none (some m.2.2)) (ent t m.2.1 b) = none := by cases ent t m.2.1 b <;> rfl
    rw [e0] at h
    cases h3 : ent t a b with
    | none => rw [h3] at h; cases h
    | some x => rw [h3] at h; exact .inl h
  | some e1 =>
    rw [h1] at h
    cases h2 : ent t m.2.1 b with
    | none =>
      rw [h2] at h
      have e0 : tot (tot (some e1) (some m.2.2)) none = none := rfl
      rw [e0] at h
      cases h3 : ent t a b with
      | none => rw [h3] at h; cases h
      | some x => rw [h3] at h; exact .inl h
    | some e2 =>
      rw [h2] at h
      have e0 : tot (tot (some e1) (some m.2.2)) (some e2) = some (e1 + m.2.2 + e2) := rfl
      rw [e0] at h
      cases h3 : ent t a b with
      | none => rw [h3] at h; exact .inr ⟨e1, e2, rfl, rfl, (Option.some.inj h).symm⟩
      | some x =>
        rw [h3] at h
        have h' := Option.some.inj h
        by_cases c : e1 + m.2.2 + e2 < x
        · rw [if_pos c] at h'
          exact .inr ⟨e1, e2, rfl, rfl, h'.symm⟩
        · rw [if_neg c] at h'
          exact .inl (by rw [h'])
theorem shut_neg {n : Nat} {bs : List Bd} {t : Tab} {m : Bd} (R : Right n bs t) (h1 : inN m.1 n) (h2 : inN m.2.1 n) (h : shutB t m = true) : NegR (bs ++ [m]) := by
  unfold shutB at h
  cases e : ent t m.2.1 m.1 with
  | none => rw [e] at h; cases h
  | some z =>
    rw [e] at h
    have h' : z + m.2.2 < 0 := of_decide_eq_true h
    have p := (R.hit _ _ z h2 h1 e).mono (cs := bs ++ [m]) fun x hx => List.mem_append_left _ hx
    exact ⟨m.1, m.2.2 + z, by omega, .cons (List.mem_append_right _ (List.mem_singleton.mpr rfl)) p⟩
theorem held_low {n : Nat} {bs : List Bd} {t : Tab} {m : Bd} (R : Right n bs t) (hw : Within n (bs ++ [m])) (h : shutB t m = false) {a b d : Int} (p : Path (bs ++ [m]) a b d) : inN a n → inN b n → ∃ e, heldF t m a b = some e ∧ e ≤ d := by
  have hm := hw m (List.mem_append_right _ (List.mem_singleton.mpr rfl))
  induction p with
  | nil a => exact fun ha _ => held_old (R.self ha)
  | @cons a z b k d' hin r ih =>
    intro ha hb
    have hz : inN z n := (hw _ hin).2
    obtain ⟨e, g1, g2⟩ := ih hz hb
    rcases List.mem_append.mp hin with hin | hin
    · obtain ⟨k', q1, q2⟩ := R.low a z k ha hz (.one hin)
      rcases held_from g1 with g | ⟨e1, e2, f1, f2, f3⟩
      · obtain ⟨x, y1, y2⟩ := R.tri ha hz hb q1 g
        obtain ⟨f, w1, w2⟩ := held_old (m := m) y1
        exact ⟨f, w1, by omega⟩
      · obtain ⟨x, y1, y2⟩ := R.tri ha hz hm.1 q1 f1
        obtain ⟨f, w1, w2⟩ := held_new y1 f2
        exact ⟨f, w1, by omega⟩
    · have em := List.mem_singleton.mp hin
      have ea : a = m.1 := by rw [← em]
      have ez : z = m.2.1 := by rw [← em]
      have ek : k = m.2.2 := by rw [← em]
      subst ea ez ek
      rcases held_from g1 with g | ⟨e1, e2, f1, f2, f3⟩
      · obtain ⟨f, w1, w2⟩ := held_new (R.self ha) g
        exact ⟨f, w1, by omega⟩
      · obtain ⟨f, w1, w2⟩ := held_new (R.self ha) f2
        unfold shutB at h
        rw [f1] at h
        have h' : ¬ e1 + m.2.2 < 0 := of_decide_eq_false h
        exact ⟨f, w1, by omega⟩
theorem held_right {n : Nat} {bs : List Bd} {t : Tab} {m : Bd} (R : Right n bs t) (hw : Within n (bs ++ [m])) (h : shutB t m = false) : Right n (bs ++ [m]) (heldT n t m) where
  len := (mkT_square n _).1
  row := (mkT_square n _).2
  low a b c ha hb p := by
    unfold heldT
    rw [mkT_ent _ ha hb]
    exact held_low R hw h p ha hb
  hit a b e ha hb q := by
    have hm := hw m (List.mem_append_right _ (List.mem_singleton.mpr rfl))
    unfold heldT at q
    rw [mkT_ent _ ha hb] at q
    have mo : ∀ x ∈ bs, x ∈ bs ++ [m] := fun x hx => List.mem_append_left _ hx
    rcases held_from q with g | ⟨e1, e2, f1, f2, f3⟩
    · exact (R.hit a b e ha hb g).mono mo
    · have p1 := (R.hit a m.1 e1 ha hm.1 f1).mono mo
      have p2 := (R.hit m.2.1 b e2 hm.2 hb f2).mono mo
      have p0 : Path (bs ++ [m]) m.1 m.2.1 m.2.2 := .one (List.mem_append_right _ (List.mem_singleton.mpr rfl))
      rw [f3]
      exact (p1.trans p0).trans p2
theorem NegR.mono {bs cs : List Bd} (h : NegR bs) (hs : ∀ m ∈ bs, m ∈ cs) : NegR cs := by
  obtain ⟨a, c, hc, p⟩ := h
  exact ⟨a, c, hc, p.mono hs⟩
/-! tables in the heap, made new -/
theorem TabAt.rowAt {H : Hp} {p : Addr} {rs : List Addr} {t : Tab} {n : Nat} (T : TabAt H p rs t) (S : Square n t) {a : Int} (ha : inN a n) :
    ∃ (r : Addr) (row : List (Option Int)), atI (rs.map V.ref) a = some (.ref r) ∧ H r = some (.lst (row.map ov)) ∧ row.length = n ∧ ∀ b, inN b n → atI (row.map ov) b = some (ov (ent t a b)) := by
  have hl := Paired.length T.rows
  have h1 : a.toNat < rs.length := by have := ha.1; have := ha.2; have := S.1; omega
  obtain ⟨row, e1, e2⟩ := paired_get T.rows (List.getElem?_eq_getElem h1)
  have hr := S.2 row (List.mem_of_getElem? e1)
  refine ⟨rs[a.toNat], row, atI_of ha.1 rfl ?_, e2, hr, fun b hb => atI_of hb.1 rfl ?_⟩
  · rw [List.getElem?_map, List.getElem?_eq_getElem h1]; rfl
  · have h2 : b.toNat < row.length := by have := hb.1; have := hb.2; omega
    have q : ent t a b = row[b.toNat] := by
      unfold ent
      simp only [List.getD_eq_getElem?_getD]
      rw [e1, Option.getD_some, List.getElem?_eq_getElem h2, Option.getD_some]
    rw [q, List.getElem?_map, List.getElem?_eq_getElem h2]
    rfl
theorem TabAt.len {H : Hp} {p : Addr} {rs : List Addr} {t : Tab} {n : Nat} (T : TabAt H p rs t) (S : Square n t) : (rs.map V.ref).length = n := by
  rw [List.length_map, Paired.length T.rows]; exact S.1
structure NewT (H H' : Hp) (p : Addr) (rs : List Addr) (t : Tab) : Prop where
  p0 : H p = none
  r0 : ∀ r ∈ rs, H r = none
  nd : (p :: rs).Nodup
  sm : Same H H'
  tb : TabAt H' p rs t
theorem none_of {H H' : Hp} (s : Same H H') {p : Addr} (h : H' p = none) : H p = none := by
  cases e : H p with
  | none => rfl
  | some o => rw [s _ _ e] at h; cases h
/-- a comprehension over a range that makes a new row in each turn -/
theorem comp_rows {n : Nat} {fr : List Nat} {te : TE} {σ : L2.St} {H : Hp} {Q : VK} (f : Nat → List (Option Int)) (hn : n ≤ sizeLine)
    (hs : ∀ i H1, i < n → Same H H1 → ∀ R : VK, (∀ r H2, H1 r = none → Same H1 H2 → H2 r = some (.lst ((f i).map ov)) → R (.ref r) H2) → te ((compSt σ fr).set 0 (some (.int (0 + (i : Int))))) H1 R)
    (hd : ∀ p rs H', NewT H H' p rs ((List.range n).map f) → Q (.ref p) H') : CompGo fr tYes te σ Q (Itr 0 n) H := by
  refine comp_range (lo := 0) (n := n) (fun i acc H1 => Same H H1 ∧ ∃ rs : List Addr, acc = rs.map V.ref ∧ (∀ r ∈ rs, H r = none) ∧ rs.Nodup ∧ RowsAt H1 rs ((List.range i).map f)) hn ⟨fun _ _ e => e, [], rfl, fun _ h => (nomatch h), .nil, .nil⟩
    (fun i acc H1 ⟨_, rs, e, _, _, w⟩ => by rw [e, List.length_map, Paired.length w]; simp) ?_ ?_
  · rintro i acc H1 hi ⟨s1, rs, rfl, r0, nd, w⟩ R kR
    refine hs i H1 hi s1 _ fun r H2 n0 s2 e2 => kR _ _ ⟨s1.trans s2, rs ++ [r], by simp, fun x hx => ?_, ?_, ?_⟩
    · rcases List.mem_append.mp hx with hx | hx
      · exact r0 x hx
      · rw [List.mem_singleton.mp hx]; exact none_of s1 n0
    · rw [List.nodup_append]
      refine ⟨nd, by simp, fun x hx y hy => ?_⟩
      rw [List.mem_singleton.mp hy]
      rintro rfl
      obtain ⟨k, hk⟩ := List.mem_iff_getElem?.mp hx
      obtain ⟨_, _, q⟩ := paired_get w hk
      rw [q] at n0; cases n0
    · rw [List.range_succ, List.map_append]
      exact Paired.snoc (Paired.mapP w fun _ _ q => s2 _ _ q) e2
  · rintro acc H1 ⟨s1, rs, rfl, r0, nd, w⟩ p hp
    have hne : ∀ x ∈ rs, x ≠ p := fun x hx e => by
      obtain ⟨k, hk⟩ := List.mem_iff_getElem?.mp hx
      obtain ⟨_, _, q⟩ := paired_get w hk
      rw [e, hp] at q; cases q
    refine hd p rs _ ⟨none_of s1 hp, r0, List.nodup_cons.mpr ⟨fun h => hne p h rfl, nd⟩, s1.trans (same_new hp _), upd_same, ?_⟩
    exact Paired.mapP w fun _ _ q => same_new hp _ _ _ q
/-- a comprehension over a range whose turns leave the heap -/
theorem comp_vals {n : Nat} {fr : List Nat} {te : TE} {σ : L2.St} {H : Hp} {Q : VK} (f : Nat → V) (hn : n ≤ sizeLine)
    (hs : ∀ i, i < n → ∀ R : VK, R (f i) H → te ((compSt σ fr).set 0 (some (.int (0 + (i : Int))))) H R)
    (hd : ∀ p, H p = none → Q (.ref p) (upd H p (.lst ((List.range n).map f)))) : CompGo fr tYes te σ Q (Itr 0 n) H := by
  refine comp_range (lo := 0) (n := n) (fun i acc H1 => H1 = H ∧ acc = (List.range i).map f) hn ⟨rfl, rfl⟩ (fun i acc H1 ⟨_, e⟩ => by rw [e]; simp) ?_ ?_
  · rintro i acc H1 hi ⟨rfl, rfl⟩ R kR
    exact hs i hi _ (kR _ _ ⟨rfl, by rw [List.range_succ, List.map_append]; rfl⟩)
  · rintro acc H1 ⟨rfl, rfl⟩ p hp
    exact hd p hp
def sp_total (_ : PySem.W.Frag) : Sp := fun vs H Q _ => ∃ x y : Option Int, vs = [ov x, ov y] ∧ Q (ov (tot x y)) H
def sp_lesser (_ : PySem.W.Frag) : Sp := fun vs H Q _ => ∃ x y : Option Int, vs = [ov x, ov y] ∧ Q (ov (les x y)) H
def sp_wide_row (_ : PySem.W.Frag) : Sp := fun vs H Q _ => ∃ (n : Nat) (a : Int), vs = [.int n, .int a] ∧ n ≤ 100 ∧ ∀ r, H r = none → Q (.ref r) (upd H r (.lst (((List.range n).map fun (j : Nat) => if a = (j : Int) then some (0 : Int) else none).map ov)))
def sp_wide (_ : PySem.W.Frag) : Sp := fun vs H Q _ => ∃ n : Nat, vs = [.int n] ∧ n ≤ 100 ∧ ∀ p rs H', NewT H H' p rs (wideT n) → Q (.ref p) H'
def sp_shuts (K : PySem.W.Frag) : Sp := fun vs H Q _ => ∃ (u p : Addr) (m : Bd) (rs : List Addr) (t : Tab) (n : Nat), vs = [.ref u, .ref p] ∧ SqT K H u (bv m) ∧ TabAt H p rs t ∧ Square n t ∧ inN m.1 n ∧ inN m.2.1 n ∧ Q (.bl (shutB t m)) H
def sp_held_row (K : PySem.W.Frag) : Sp := fun vs H Q _ => ∃ (u p : Addr) (a : Int) (m : Bd) (rs : List Addr) (t : Tab) (n : Nat), vs = [.ref p, .int a, .ref u] ∧ SqT K H u (bv m) ∧ TabAt H p rs t ∧ Square n t ∧ n ≤ 100 ∧ inN a n ∧ inN m.1 n ∧ inN m.2.1 n ∧ ∀ r, H r = none → Q (.ref r) (upd H r (.lst (((List.range n).map fun (j : Nat) => heldF t m a (j : Int)).map ov)))
/-- a table or none, in the heap -/
def IsT (H : Hp) (v : V) (n : Nat) (bs : List Bd) : Prop := (v = .non ∧ NegR bs) ∨ ∃ p rs t, v = .ref p ∧ TabAt H p rs t ∧ Right n bs t
def sp_held (K : PySem.W.Frag) : Sp := fun vs H Q _ => ∃ (u : Addr) (v : V) (m : Bd), vs = [v, .ref u] ∧ SqT K H u (bv m) ∧
  ((v = .non ∧ Q .non H) ∨ ∃ (p : Addr) (rs : List Addr) (t : Tab) (n : Nat), v = .ref p ∧ TabAt H p rs t ∧ Square n t ∧ n ≤ 100 ∧ inN m.1 n ∧ inN m.2.1 n ∧ (shutB t m = true → Q .non H) ∧ (shutB t m = false → ∀ p' rs' H', NewT H H' p' rs' (heldT n t m) → Q (.ref p') H'))
theorem same_upd {H H' : Hp} (s : Same H H') {p : Addr} (h : H p = none) (o : HO) : Same H (upd H' p o) := fun b x e => by
  rw [upd_ne (ne_of_none e h)]; exact s b x e
theorem same_refl (H : Hp) : Same H H := fun _ _ e => e
theorem ixN_of {n : Nat} {k : Int} (h0 : 0 ≤ k) (h1 : k < n) : ixN n k = some k.toNat := by
  unfold ixN
  rw [if_pos h0, if_pos h1]
theorem mem_of_atI {α : Type} {xs : List α} {i : Int} {v : α} (h : atI xs i = some v) : v ∈ xs := by
  obtain ⟨j, _, h, _⟩ := atI_get h
  exact List.mem_of_getElem? h
theorem mem_rows {rs : List Addr} {i : Int} {r : Addr} (h : atI (rs.map V.ref) i = some (.ref r)) : r ∈ rs := by
  have := mem_of_atI h
  rw [List.mem_map] at this
  obtain ⟨z, hz, e⟩ := this
  cases e; exact hz
/-! a table's entry is written -/
def setE (t : Tab) (a b : Int) (o : Option Int) : Tab := t.set a.toNat ((t.getD a.toNat []).set b.toNat o)
theorem setE_square {n : Nat} {t : Tab} (S : Square n t) {a b : Int} (ha : inN a n) (o : Option Int) : Square n (setE t a b o) := by
  refine ⟨by unfold setE; rw [List.length_set]; exact S.1, fun r hr => ?_⟩
  unfold setE at hr
  have h1 : a.toNat < t.length := by have := ha.1; have := ha.2; have := S.1; omega
  rcases List.mem_or_eq_of_mem_set hr with h | h
  · exact S.2 r h
  · rw [h, List.length_set, List.getD_eq_getElem?_getD, List.getElem?_eq_getElem h1]
    exact S.2 _ (List.getElem_mem h1)
theorem setE_ent {n : Nat} {t : Tab} (S : Square n t) {a b x y : Int} (ha : inN a n) (hb : inN b n) (hx : inN x n) (hy : inN y n) (o : Option Int) : ent (setE t a b o) x y = if x = a ∧ y = b then o else ent t x y := by
  have h1 : a.toNat < t.length := by have := ha.1; have := ha.2; have := S.1; omega
  have h2 : b.toNat < (t.getD a.toNat []).length := by
    rw [List.getD_eq_getElem?_getD, List.getElem?_eq_getElem h1]
    have := S.2 _ (List.getElem_mem h1)
    have := hb.1; have := hb.2
    show b.toNat < (t[a.toNat]).length
    omega
  unfold ent setE
  by_cases c : x = a
  · subst c
    have e1 : (t.set x.toNat ((t.getD x.toNat []).set b.toNat o)).getD x.toNat [] = (t.getD x.toNat []).set b.toNat o := by
      rw [List.getD_eq_getElem?_getD, List.getElem?_set_self h1]; rfl
    rw [e1]
    by_cases d : y = b
    · subst d
      rw [if_pos ⟨rfl, rfl⟩, List.getD_eq_getElem?_getD, List.getElem?_set_self h2]; rfl
    · rw [if_neg (fun h => d h.2), List.getD_eq_getElem?_getD, List.getElem?_set_ne (by have := hb.1; have := hy.1; omega), ← List.getD_eq_getElem?_getD]
  · rw [if_neg (fun h => c h.1)]
    have e1 : (t.set a.toNat ((t.getD a.toNat []).set b.toNat o)).getD x.toNat [] = t.getD x.toNat [] := by
      rw [List.getD_eq_getElem?_getD, List.getElem?_set_ne (by have := ha.1; have := hx.1; omega), ← List.getD_eq_getElem?_getD]
    rw [e1]
theorem rows_upd {H : Hp} {x : Addr} {o : HO} : ∀ {rs : List Addr} {t : Tab}, RowsAt H rs t → (∀ r ∈ rs, r ≠ x) → RowsAt (upd H x o) rs t
  | _, _, .nil, _ => .nil
  | _, _, .cons h tl, hr => .cons (by rw [upd_ne (hr _ (List.mem_cons_self ..))]; exact h) (rows_upd tl fun r hm => hr r (List.mem_cons_of_mem _ hm))
theorem rows_set {H : Hp} {r : Addr} (row' : List (Option Int)) : ∀ {rs : List Addr} {t : Tab} {k : Nat}, RowsAt H rs t → rs.Nodup → rs[k]? = some r → RowsAt (upd H r (.lst (row'.map ov))) rs (t.set k row')
  | _, _, _, .nil, _, e => by simp at e
  | _, _, 0, .cons h tl, nd, e => by
    simp at e
    subst e
    exact .cons upd_same (rows_upd tl fun y hy e => (List.nodup_cons.mp nd).1 (e ▸ hy))
  | _, _, k + 1, .cons h tl, nd, e => by
    have e' : _ := (by simpa using e : _[k]? = some r)
    have hne := (List.nodup_cons.mp nd).1
    exact .cons ((upd_ne (fun z => hne (by rw [z]; exact List.mem_of_getElem? e'))).trans h) (rows_set row' (k := k) tl (List.nodup_cons.mp nd).2 e')
theorem TabAt.setE {H : Hp} {p r : Addr} {rs : List Addr} {t : Tab} {n : Nat} {row : List (Option Int)} (T : TabAt H p rs t) (S : Square n t) (nd : (p :: rs).Nodup) {a b : Int} (ha : inN a n) (g1 : atI (rs.map V.ref) a = some (.ref r)) (g2 : H r = some (.lst (row.map ov))) (o : Option Int) :
    TabAt (L2.upd H r (.lst ((row.map ov).set b.toNat (ov o)))) p rs (Toy.setE t a b o) := by
  have hl := Paired.length T.rows
  have h1 : a.toNat < rs.length := by have := ha.1; have := ha.2; have := S.1; omega
  have er : rs[a.toNat]? = some r := by
    have := atI_of (xs := rs.map V.ref) ha.1 rfl (by rw [List.getElem?_map, List.getElem?_eq_getElem h1]; rfl)
    rw [this] at g1
    rw [List.getElem?_eq_getElem h1]
    have := Option.some.inj g1
    cases this
    rfl
  obtain ⟨row2, e1, e2⟩ := paired_get T.rows er
  have erow : t.getD a.toNat [] = row2 := by rw [List.getD_eq_getElem?_getD, e1]; rfl
  have emap : row.map ov = row2.map ov := by
    rw [g2] at e2
    injection e2 with e2
    injection e2
  have mem : r ∈ rs := List.mem_of_getElem? er
  have pne : p ≠ r := fun e => (List.nodup_cons.mp nd).1 (e ▸ mem)
  refine ⟨by rw [upd_ne pne]; exact T.ob, ?_⟩
  unfold Toy.setE
  rw [erow, emap, ← List.map_set]
  exact rows_set _ T.rows (List.nodup_cons.mp nd).2 er
theorem NewT.setE {H H' : Hp} {p r : Addr} {rs : List Addr} {t : Tab} {n : Nat} {row : List (Option Int)} (N : NewT H H' p rs t) (S : Square n t) {a b : Int} (ha : inN a n) (g1 : atI (rs.map V.ref) a = some (.ref r)) (g2 : H' r = some (.lst (row.map ov))) (o : Option Int) :
    NewT H (L2.upd H' r (.lst ((row.map ov).set b.toNat (ov o)))) p rs (Toy.setE t a b o) :=
  ⟨N.p0, N.r0, N.nd, same_upd N.sm (N.r0 r (mem_rows g1)) _, N.tb.setE S N.nd ha g1 g2 o⟩
/-- ways that go on alike, but for the heap and the names' values -/
theorem restJ {G : Prop} (C : Hp → L2.St → Prop) {P : Hp → L2.St → Prop} (h : (∀ H σ, C H σ → P H σ) → G) (r : ∀ H σ, C H σ → P H σ) : G := h r
/-- a table or none, told by table_of: all its lists are new -/
def IsTN (H H' : Hp) (v : V) (n : Nat) (bs : List Bd) : Prop := (v = .non ∧ NegR bs) ∨ ∃ p rs t, v = .ref p ∧ NewT H H' p rs t ∧ Right n bs t
theorem NewT.since {H H1 H2 : Hp} {p : Addr} {rs : List Addr} {t : Tab} (s : Same H H1) (N : NewT H1 H2 p rs t) : NewT H H2 p rs t := ⟨none_of s N.p0, fun r hr => none_of s (N.r0 r hr), N.nd, s.trans N.sm, N.tb⟩
theorem IsTN.since {H H1 H2 : Hp} {v : V} {n : Nat} {bs : List Bd} (s : Same H H1) (h : IsTN H1 H2 v n bs) : IsTN H H2 v n bs := h.imp id fun ⟨p, rs, t, e, N, R⟩ => ⟨p, rs, t, e, N.since s, R⟩
def sp_table_of (K : PySem.W.Frag) : Sp := fun vs H Q _ => ∃ (n : Nat) (r : Addr) (qs : List V) (bs : List Bd), vs = [.int n, .ref r] ∧ SqL K H r qs ∧ AreB H qs bs ∧ 1 ≤ n ∧ n ≤ 8 ∧ Within n bs ∧ bs.length ≤ 150 ∧ ∀ v H', Same H H' → IsTN H H' v n bs → Q v H'
/-! all ways over other points, stage by stage -/
inductive SP (bs : List Bd) : Nat → Int → Int → Int → Prop where
  | self (a : Int) : SP bs 0 a a 0
  | edge {a b c : Int} (h : (a, b, c) ∈ bs) : SP bs 0 a b c
  | old {k : Nat} {a b c : Int} (h : SP bs k a b c) : SP bs (k + 1) a b c
  | via {k : Nat} {a b c d : Int} (h : SP bs k a (k : Int) c) (g : SP bs k (k : Int) b d) : SP bs (k + 1) a b (c + d)
theorem SP.mono {bs : List Bd} {k : Nat} {a b c : Int} (h : SP bs k a b c) : ∀ j, SP bs (k + j) a b c
  | 0 => h
  | j + 1 => .old (h.mono j)
theorem SP.cases {bs : List Bd} {k : Nat} {a b c : Int} (h : SP bs (k + 1) a b c) : SP bs k a b c ∨ ∃ c1 c2, SP bs k a (k : Int) c1 ∧ SP bs k (k : Int) b c2 ∧ c = c1 + c2 := by
  cases h with
  | old h => exact .inl h
  | via h g => exact .inr ⟨_, _, h, g, rfl⟩
theorem SP.tri {bs : List Bd} {n : Nat} (nn : ∀ a c, inN a n → SP bs n a a c → 0 ≤ c) : ∀ k, k ≤ n → ∀ a z b c d, 0 ≤ z → z < (k : Int) → SP bs k a z c → SP bs k z b d → ∃ e, e ≤ c + d ∧ SP bs k a b e
  | 0, _, a, z, b, c, d, h0, h1, _, _ => absurd h1 (by omega)
  | k + 1, hk, a, z, b, c, d, h0, h1, p, q => by
    have ih := SP.tri nn k (by omega)
    have nk : ∀ c, SP bs k (k : Int) (k : Int) c → 0 ≤ c := fun c h => by
      have := h.mono (n - k)
      rw [show k + (n - k) = n by omega] at this
      exact nn _ c ⟨by omega, by omega⟩ this
    by_cases hz : z = (k : Int)
    · subst hz
      have l1 : ∃ e, e ≤ c ∧ SP bs k a (k : Int) e := by
        rcases p.cases with p | ⟨c1, c2, p1, p2, rfl⟩
        · exact ⟨c, Int.le_refl _, p⟩
        · have := nk c2 p2
          exact ⟨c1, by omega, p1⟩
      have l2 : ∃ e, e ≤ d ∧ SP bs k (k : Int) b e := by
        rcases q.cases with q | ⟨c1, c2, q1, q2, rfl⟩
        · exact ⟨d, Int.le_refl _, q⟩
        · have := nk c1 q1
          exact ⟨c2, by omega, q2⟩
      obtain ⟨e1, g1, p'⟩ := l1
      obtain ⟨e2, g2, q'⟩ := l2
      exact ⟨e1 + e2, by omega, .via p' q'⟩
    · have hz' : z < (k : Int) := by omega
      rcases p.cases with p | ⟨c1, c2, p1, p2, rfl⟩
      · rcases q.cases with q | ⟨d1, d2, q1, q2, rfl⟩
        · obtain ⟨e, g, r⟩ := ih a z b c d h0 hz' p q
          exact ⟨e, g, .old r⟩
        · obtain ⟨e, g, r⟩ := ih a z _ c d1 h0 hz' p q1
          exact ⟨e + d2, by omega, .via r q2⟩
      · rcases q.cases with q | ⟨d1, d2, q1, q2, rfl⟩
        · obtain ⟨e, g, r⟩ := ih _ z b c2 d h0 hz' p2 q
          exact ⟨c1 + e, by omega, .via p1 r⟩
        · obtain ⟨e, g, r⟩ := ih _ z _ c2 d1 h0 hz' p2 q1
          have := nk e r
          exact ⟨c1 + d2, by omega, .via p1 q2⟩
theorem SP.path {bs : List Bd} {n : Nat} (hw : Within n bs) (nn : ∀ a c, inN a n → SP bs n a a c → 0 ≤ c) {a b c : Int} (p : Path bs a b c) : ∃ e, e ≤ c ∧ SP bs n a b e := by
  induction p with
  | nil a =>
    have := (SP.self (bs := bs) a).mono n
    rw [Nat.zero_add] at this
    exact ⟨0, Int.le_refl _, this⟩
  | @cons a x b c d h r ih =>
    obtain ⟨e, g, q⟩ := ih
    have hx := (hw _ h).2
    have p0 := (SP.edge h).mono n
    rw [Nat.zero_add] at p0
    obtain ⟨f, f1, f2⟩ := SP.tri nn n (Nat.le_refl _) a x b c e hx.1 hx.2 p0 q
    exact ⟨f, by omega, f2⟩
/-- an entry is not above c -/
def Low (o : Option Int) (c : Int) : Prop := ∃ e, o = some e ∧ e ≤ c
def Hit (n : Nat) (bs : List Bd) (t : Tab) : Prop := ∀ a b e, inN a n → inN b n → ent t a b = some e → Path bs a b e
/-- t has come by the first k points -/
def Stage (n : Nat) (bs : List Bd) (k : Nat) (t : Tab) : Prop := ∀ a b c, inN a n → inN b n → SP bs k a b c → Low (ent t a b) c
theorem stage_end {n : Nat} {bs : List Bd} {t : Tab} (hw : Within n bs) (S : Square n t) (hh : Hit n bs t) (st : Stage n bs n t) (nn : ∀ a e, inN a n → ent t a a = some e → 0 ≤ e) : Right n bs t := by
  have nn' : ∀ a c, inN a n → SP bs n a a c → 0 ≤ c := fun a c ha h => by
    obtain ⟨e, h1, h2⟩ := st a a c ha ha h
    have := nn a e ha h1
    omega
  refine ⟨S.1, S.2, fun a b c ha hb p => ?_, hh⟩
  obtain ⟨e, h1, h2⟩ := SP.path hw nn' p
  obtain ⟨f, h3, h4⟩ := st a b e ha hb h2
  exact ⟨f, h3, by omega⟩
theorem stage_neg {n : Nat} {bs : List Bd} {t : Tab} {a e : Int} (hh : Hit n bs t) (ha : inN a n) (h : ent t a a = some e) (he : e < 0) : NegR bs := ⟨a, e, he, hh a a e ha ha h⟩
/-- one entry is lowered to the number of a path -/
theorem set_low {n : Nat} {t : Tab} (S : Square n t) {a b z : Int} (ha : inN a n) (hb : inN b n) (h : ∀ e, ent t a b = some e → z ≤ e) {x y c : Int} (hx : inN x n) (hy : inN y n) (l : Low (ent t x y) c) : Low (ent (setE t a b (some z)) x y) c := by
  rw [setE_ent S ha hb hx hy]
  by_cases q : x = a ∧ y = b
  · rw [if_pos q]
    obtain ⟨e, h1, h2⟩ := l
    rw [q.1, q.2] at h1
    have := h e h1
    exact ⟨z, rfl, by omega⟩
  · rw [if_neg q]; exact l
theorem set_hit {n : Nat} {bs : List Bd} {t : Tab} (S : Square n t) {a b z : Int} (ha : inN a n) (hb : inN b n) (hh : Hit n bs t) (p : Path bs a b z) : Hit n bs (setE t a b (some z)) := fun x y e hx hy he => by
  rw [setE_ent S ha hb hx hy] at he
  by_cases q : x = a ∧ y = b
  · rw [if_pos q] at he
    have := Option.some.inj he
    rw [q.1, q.2, ← this]
    exact p
  · rw [if_neg q] at he
    exact hh x y e hx hy he
def sp_law_due (K : PySem.W.Frag) : Sp := fun vs H Q _ => ∃ (n : Nat) (r : Addr) (qs : List V) (bs : List Bd), vs = [.int n, .ref r] ∧ SqL K H r qs ∧ AreB H qs bs ∧ 1 ≤ n ∧ n ≤ 8 ∧ Within n bs ∧ bs.length ≤ 150 ∧ ∀ v H', Same H H' → IsT H' v n bs → Q v H'
/-- all but what stands at x is as it was -/
def But (x : Addr) (H H' : Hp) : Prop := ∀ b o, H b = some o → b ≠ x → H' b = some o
theorem But.tab {x : Addr} {H H' : Hp} {p : Addr} {rs : List Addr} {t : Tab} (h : But x H H') (T : TabAt H p rs t) (hp : p ≠ x) (hr : ∀ r ∈ rs, r ≠ x) : TabAt H' p rs t := by
  refine ⟨h _ _ T.ob hp, ?_⟩
  have rows := T.rows
  have go : ∀ {rs : List Addr} {t : Tab}, RowsAt H rs t → (∀ r ∈ rs, r ≠ x) → RowsAt H' rs t := by
    intro rs t w
    induction w with
    | nil => exact fun _ => .nil
    | cons e _ ih => exact fun hr => .cons (h _ _ e (hr _ (List.mem_cons_self ..))) (ih fun r hm => hr r (List.mem_cons_of_mem _ hm))
  exact go rows hr
theorem but_same {x : Addr} {H H' : Hp} (s : Same H H') : But x H H' := fun b o e _ => s b o e
theorem But.trans {x : Addr} {H H' H'' : Hp} (h : But x H H') (g : But x H' H'') : But x H H'' := fun b o e n => g b o (h b o e n) n
/-! bags of numbers -/
def sp_law_take (_ : PySem.W.Frag) : Sp := fun vs H Q _ => ∃ (b : Addr) (u v m : Int), vs = [.ref b, .int m] ∧ H b = some (.lst [.int u, .int v]) ∧ 0 ≤ v ∧ v < 1000000 ∧ 0 < m ∧ m < 10 ^ 100 ∧ ∀ z u' v' H', But b H H' → H' b = some (.lst [.int u', .int v']) → 0 ≤ v' → v' ≤ v + 1 → 0 ≤ z → z < m → Q (.int z) H'
theorem but_upd {b : Addr} {H : Hp} (o : HO) : But b H (upd H b o) := fun c x e h => by rw [upd_ne h]; exact e
theorem But.none {b : Addr} {H H' : Hp} {o : HO} (h : But b H H') (e : H' b = some o) {p : Addr} (hp : H' p = none) : H p = none := by
  cases g : H p with
  | none => rfl
  | some x =>
    by_cases c : p = b
    · rw [c, e] at hp; cases hp
    · rw [h p x g c] at hp; cases hp
theorem at_ovW {os : List (Option Int)} {x : Int} (h0 : 0 ≤ x) (h1 : x < os.length) : atI (os.map ov) x = some (ov (os.getD x.toNat none)) := by
  have h : x.toNat < os.length := by omega
  refine atI_of h0 rfl ?_
  rw [List.getElem?_map, List.getElem?_eq_getElem h, List.getD_eq_getElem?_getD, List.getElem?_eq_getElem h]
  rfl
/-! ways: places of bounds -/
abbrev Wy := List (List (Option (List Int)))
def went (w : Wy) (a b : Int) : Option (List Int) := (w.getD a.toNat []).getD b.toNat none
def SqW (n : Nat) (w : Wy) : Prop := w.length = n ∧ ∀ r ∈ w, r.length = n
inductive Walk (bs : List Bd) : List Int → Int → Int → Int → Prop where
  | nil (a : Int) : Walk bs [] a a 0
  | cons {k : Int} {ps : List Int} {m : Bd} {b d : Int} (h0 : 0 ≤ k) (hm : bs[k.toNat]? = some m) (r : Walk bs ps m.2.1 b d) : Walk bs (k :: ps) m.1 b (m.2.2 + d)
def beg (bs : List Bd) (k : Int) : Int := ((bs[k.toNat]?).getD (0, 0, 0)).1
def begs (bs : List Bd) (ps : List Int) : List Int := ps.map (beg bs)
theorem Walk.trans {bs : List Bd} {ps qs : List Int} {a b c d e : Int} (p : Walk bs ps a b c) : Walk bs qs b d e → Walk bs (ps ++ qs) a d (c + e) := by
  induction p with
  | nil a => intro q; rw [Int.zero_add]; exact q
  | cons h0 hm r ih => intro q; rw [Int.add_assoc]; exact .cons h0 hm (ih q)
theorem Walk.one {bs : List Bd} {k : Int} {m : Bd} (h0 : 0 ≤ k) (hm : bs[k.toNat]? = some m) : Walk bs [k] m.1 m.2.1 m.2.2 := by
  have q := Walk.cons h0 hm (.nil m.2.1)
  rw [Int.add_zero] at q
  exact q
theorem Walk.path {bs : List Bd} {ps : List Int} {a b c : Int} (p : Walk bs ps a b c) : Path bs a b c := by
  induction p with
  | nil a => exact .nil a
  | cons h0 hm r ih => exact .cons (List.mem_of_getElem? hm) ih
theorem Walk.mono {bs cs : List Bd} (h : ∀ (k : Nat) m, bs[k]? = some m → cs[k]? = some m) {ps : List Int} {a b c : Int} (p : Walk bs ps a b c) : Walk cs ps a b c ∧ begs cs ps = begs bs ps := by
  induction p with
  | nil a => exact ⟨.nil a, rfl⟩
  | cons h0 hm r ih =>
    refine ⟨.cons h0 (h _ _ hm) ih.1, ?_⟩
    show beg cs _ :: begs cs _ = beg bs _ :: begs bs _
    rw [ih.2]
    unfold beg
    rw [hm, h _ _ hm]
theorem Walk.split {bs : List Bd} {ps : List Int} {a b c z : Int} (p : Walk bs ps a b c) : z ∈ begs bs ps ++ [b] → ∃ c1 c2, Path bs a z c1 ∧ Path bs z b c2 ∧ c = c1 + c2 := by
  induction p with
  | nil a =>
    intro h
    have : z = a := List.mem_singleton.mp h
    subst this
    exact ⟨0, 0, .nil _, .nil _, rfl⟩
  | @cons k ps m b d h0 hm r ih =>
    intro h
    have h' : z = beg bs k ∨ z ∈ begs bs ps ++ [b] := List.mem_cons.mp h
    rcases h' with h' | h'
    · have e : beg bs k = m.1 := by unfold beg; rw [hm]; rfl
      rw [h', e]
      exact ⟨0, m.2.2 + d, .nil _, .cons (List.mem_of_getElem? hm) r.path, by omega⟩
    · obtain ⟨c1, c2, h1, h2, h3⟩ := ih h'
      exact ⟨m.2.2 + c1, c2, .cons (List.mem_of_getElem? hm) h1, h2, by omega⟩
theorem Walk.inN {bs : List Bd} {n : Nat} (hw : Within n bs) {ps : List Int} {a b c : Int} (p : Walk bs ps a b c) : ∀ z ∈ begs bs ps, Toy.inN z n := by
  induction p with
  | nil a => intro z h; exact (nomatch h)
  | @cons k ps m b d h0 hm r ih =>
    intro z h
    rcases List.mem_cons.mp h with h | h
    · have e : beg bs k = m.1 := by unfold beg; rw [hm]; rfl
      rw [h, e]
      exact (hw m (List.mem_of_getElem? hm)).1
    · exact ih z h
theorem Walk.places {bs : List Bd} {ps : List Int} {a b c : Int} (p : Walk bs ps a b c) : ∀ k ∈ ps, 0 ≤ k ∧ k < bs.length := by
  induction p with
  | nil a => intro z h; exact (nomatch h)
  | @cons k ps m b d h0 hm r ih =>
    intro z h
    rcases List.mem_cons.mp h with h | h
    · rw [h]
      have := (List.getElem?_eq_some_iff.mp hm).1
      exact ⟨h0, by omega⟩
    · exact ih z h
theorem pigeon1 (n : Nat) : ∀ l : List Nat, l.Nodup → (∀ x ∈ l, x < n + 1) → l.length ≤ (l.filter fun x => decide (x < n)).length + 1
  | [], _, _ => by simp
  | a :: l, nd, h => by
    have nd' := List.nodup_cons.mp nd
    by_cases c : a < n
    · rw [List.filter_cons_of_pos (by simpa using c)]
      have := pigeon1 n l nd'.2 fun x hx => h x (List.mem_cons_of_mem _ hx)
      simp only [List.length_cons]
      omega
    · have ha : a = n := by have := h a (List.mem_cons_self ..); omega
      have e : (a :: l).filter (fun x => decide (x < n)) = l := by
        rw [List.filter_cons_of_neg (by simpa using c), List.filter_eq_self]
        intro x hx
        have h1 := h x (List.mem_cons_of_mem _ hx)
        have h2 : x ≠ n := fun e => nd'.1 (by rw [ha, ← e]; exact hx)
        simp; omega
      rw [e]; simp
theorem pigeonN : ∀ (n : Nat) (l : List Nat), l.Nodup → (∀ x ∈ l, x < n) → l.length ≤ n
  | 0, l, _, h => by
    cases l with
    | nil => simp
    | cons a l => exact absurd (h a (List.mem_cons_self ..)) (by omega)
  | n + 1, l, nd, h => by
    have h1 := pigeon1 n l nd h
    have h2 := pigeonN n (l.filter fun x => decide (x < n)) (nd.filter _) fun x hx => by have := (List.mem_filter.mp hx).2; simpa using this
    omega
theorem nodup_toNat : ∀ (l : List Int), l.Nodup → (∀ z ∈ l, 0 ≤ z) → (l.map Int.toNat).Nodup
  | [], _, _ => .nil
  | a :: l, nd, h => by
    have nd' := List.nodup_cons.mp nd
    rw [List.map_cons, List.nodup_cons]
    refine ⟨fun hm => ?_, nodup_toNat l nd'.2 fun z hz => h z (List.mem_cons_of_mem _ hz)⟩
    obtain ⟨z, hz, e⟩ := List.mem_map.mp hm
    have h1 := h a (List.mem_cons_self ..)
    have h2 := h z (List.mem_cons_of_mem _ hz)
    have : z = a := by omega
    exact nd'.1 (this ▸ hz)
theorem pigeon {n : Nat} {l : List Int} (nd : l.Nodup) (h : ∀ z ∈ l, inN z n) : l.length ≤ n := by
  have := pigeonN n (l.map Int.toNat) (nodup_toNat l nd fun z hz => (h z hz).1) fun x hx => by
    obtain ⟨z, hz, e⟩ := List.mem_map.mp hx
    have := (h z hz).1; have := (h z hz).2
    omega
  rwa [List.length_map] at this
def WayOk (n : Nat) (bs : List Bd) (t : Tab) (w : Wy) : Prop := ∀ a b, inN a n → inN b n → (ent t a b = none ∧ went w a b = none) ∨ ∃ e ps, ent t a b = some e ∧ went w a b = some ps ∧ Walk bs ps a b e ∧ (begs bs ps ++ [b]).Nodup
theorem way_len {n : Nat} {bs : List Bd} (hw : Within n bs) {ps : List Int} {a b c : Int} (hb : inN b n) (p : Walk bs ps a b c) (nd : (begs bs ps ++ [b]).Nodup) : ps.length < n := by
  have h := pigeon nd fun z hz => by
    rcases List.mem_append.mp hz with hz | hz
    · exact p.inN hw z hz
    · rw [List.mem_singleton.mp hz]; exact hb
  rw [List.length_append] at h
  unfold begs at h
  rw [List.length_map] at h
  have : ([b] : List Int).length = 1 := rfl
  omega
def newW (w : Wy) (m : Bd) (k a b : Int) : Option (List Int) := match went w a m.1, went w m.2.1 b with
  | some p, some q => some (p ++ [k] ++ q)
  | _, _ => none
def mkW (n : Nat) (f : Int → Int → Option (List Int)) : Wy := (List.range n).map fun (i : Nat) => (List.range n).map fun (j : Nat) => f (i : Int) (j : Int)
theorem mkW_sq (n : Nat) (f : Int → Int → Option (List Int)) : SqW n (mkW n f) := by
  refine ⟨by unfold mkW; simp, fun r hr => ?_⟩
  unfold mkW at hr
  obtain ⟨i, _, e⟩ := List.mem_map.mp hr
  rw [← e]; simp
theorem mkW_ent {n : Nat} (f : Int → Int → Option (List Int)) {a b : Int} (ha : inN a n) (hb : inN b n) : went (mkW n f) a b = f a b := by
  obtain ⟨i, rfl⟩ : ∃ i : Nat, a = (i : Int) := ⟨a.toNat, by have := ha.1; omega⟩
  obtain ⟨j, rfl⟩ : ∃ j : Nat, b = (j : Int) := ⟨b.toNat, by have := hb.1; omega⟩
  have hi : i < n := by have := ha.2; omega
  have hj : j < n := by have := hb.2; omega
  unfold went mkW
  rw [Int.toNat_natCast, Int.toNat_natCast]
  simp [List.getD_eq_getElem?_getD, hi, hj]
/-- the ways with one bound more -/
def stepW (n : Nat) (t : Tab) (w : Wy) (m : Bd) (k : Int) : Wy := mkW n fun a b => if !decide (ent t a b = heldF t m a b) then newW w m k a b else went w a b
theorem ext_bs {bs : List Bd} {m : Bd} : ∀ (k : Nat) x, bs[k]? = some x → (bs ++ [m])[k]? = some x := fun k x h => by
  rw [List.getElem?_append_left (List.getElem?_eq_some_iff.mp h).1]; exact h
theorem last_bs {bs : List Bd} {m : Bd} : (bs ++ [m])[((bs.length : Nat) : Int).toNat]? = some m := by
  rw [Int.toNat_natCast, List.getElem?_append_right (Nat.le_refl _), Nat.sub_self]; rfl
theorem step_new {n : Nat} {bs : List Bd} {t : Tab} {w : Wy} {m : Bd} (R : Right n bs t) (hw : Within n (bs ++ [m])) (hs : shutB t m = false) (W : WayOk n bs t w) {a b : Int} (ha : inN a n) (hb : inN b n) (hne : ent t a b ≠ heldF t m a b) :
    ∃ e e1 e2 ps qs, heldF t m a b = some e ∧ e = e1 + m.2.2 + e2 ∧ went w a m.1 = some ps ∧ went w m.2.1 b = some qs ∧ Walk bs ps a m.1 e1 ∧ Walk bs qs m.2.1 b e2 ∧ (begs bs ps ++ [m.1]).Nodup ∧ (begs bs qs ++ [b]).Nodup ∧ ∀ z ∈ begs bs ps ++ [m.1], ∀ y ∈ begs bs qs ++ [b], z ≠ y := by
  have hm := hw m (List.mem_append_right _ (List.mem_singleton.mpr rfl))
  cases ho : heldF t m a b with
  | none =>
    cases e0 : ent t a b with
    | none => rw [ho, e0] at hne; exact absurd rfl hne
    | some e =>
      obtain ⟨f, h1, _⟩ := held_old (m := m) e0
      rw [ho] at h1; cases h1
  | some e =>
    rcases held_from ho with h | ⟨e1, e2, f1, f2, f3⟩
    · rw [ho, h] at hne; exact absurd rfl hne
    · rcases W a m.1 ha hm.1 with ⟨h, _⟩ | ⟨e1', ps, g1, g2, g3, g4⟩
      · rw [f1] at h; cases h
      rcases W m.2.1 b hm.2 hb with ⟨h, _⟩ | ⟨e2', qs, k1, k2, k3, k4⟩
      · rw [f2] at h; cases h
      rw [f1] at g1; cases g1
      rw [f2] at k1; cases k1
      refine ⟨e, e1, e2, ps, qs, rfl, f3, g2, k2, g3, k3, g4, k4, ?_⟩
      rintro z hz y hy rfl
      obtain ⟨p1, p2, u1, u2, u3⟩ := g3.split hz
      obtain ⟨q1, q2, v1, v2, v3⟩ := k3.split hy
      obtain ⟨f, w1, w2⟩ := R.low _ _ _ hm.2 hm.1 (v1.trans u2)
      obtain ⟨g, x1, x2⟩ := R.low _ _ _ ha hb (u1.trans v2)
      unfold shutB at hs
      rw [w1] at hs
      have hs' : ¬ f + m.2.2 < 0 := of_decide_eq_false hs
      have hho := ho
      unfold heldF at hho
      rw [x1, f1, f2] at hho
      have hh : (if e1 + m.2.2 + e2 < g then e1 + m.2.2 + e2 else g) = e := Option.some.inj hho
      rw [if_neg (by omega)] at hh
      rw [ho, x1, hh] at hne
      exact hne rfl
theorem step_ok {n : Nat} {bs : List Bd} {t : Tab} {w : Wy} {m : Bd} (R : Right n bs t) (hw : Within n (bs ++ [m])) (hs : shutB t m = false) (W : WayOk n bs t w) : WayOk n (bs ++ [m]) (heldT n t m) (stepW n t w m bs.length) := fun a b ha hb => by
  have hm := hw m (List.mem_append_right _ (List.mem_singleton.mpr rfl))
  unfold heldT stepW
  rw [mkT_ent _ ha hb, mkW_ent _ ha hb]
  by_cases c : ent t a b = heldF t m a b
  · rw [decide_eq_true c]
    rw [← c]
    rcases W a b ha hb with ⟨h1, h2⟩ | ⟨e, ps, h1, h2, h3, h4⟩
    · exact .inl ⟨h1, h2⟩
    · have q := h3.mono (cs := bs ++ [m]) ext_bs
      exact .inr ⟨e, ps, h1, h2, q.1, by rw [q.2]; exact h4⟩
  · rw [decide_eq_false c]
    obtain ⟨e, e1, e2, ps, qs, h1, h2, h3, h4, h5, h6, h7, h8, h9⟩ := step_new R hw hs W ha hb c
    have q1 := h5.mono (cs := bs ++ [m]) ext_bs
    have q2 := h6.mono (cs := bs ++ [m]) ext_bs
    have q0 : Walk (bs ++ [m]) [((bs.length : Nat) : Int)] m.1 m.2.1 m.2.2 := Walk.one (by omega) last_bs
    refine .inr ⟨e, ps ++ [((bs.length : Nat) : Int)] ++ qs, h1, ?_, ?_, ?_⟩
    · show newW w m _ a b = _
      unfold newW
      rw [h3, h4]
    · rw [h2]; exact (q1.1.trans q0).trans q2.1
    · have eb : begs (bs ++ [m]) (ps ++ [((bs.length : Nat) : Int)] ++ qs) ++ [b] = (begs bs ps ++ [m.1]) ++ (begs bs qs ++ [b]) := by
        have e0 : beg (bs ++ [m]) ((bs.length : Nat) : Int) = m.1 := by unfold beg; rw [last_bs]; rfl
        rw [← q1.2, ← q2.2]
        unfold begs
        simp [e0]
      rw [eb, List.nodup_append]
      exact ⟨h7, h8, h9⟩
/-- a ring below 0 -/
def RingOk (n : Nat) (bs : List Bd) (ps : List Int) : Prop := ∃ x c, c < 0 ∧ inN x n ∧ Walk bs ps x x c ∧ (begs bs ps).Nodup
theorem shut_ring {n : Nat} {bs : List Bd} {t : Tab} {w : Wy} {m : Bd} (hw : Within n (bs ++ [m])) (hs : shutB t m = true) (W : WayOk n bs t w) : ∃ ps, went w m.2.1 m.1 = some ps ∧ RingOk n (bs ++ [m]) (((bs.length : Nat) : Int) :: ps) ∧ ps.length < n := by
  have hm := hw m (List.mem_append_right _ (List.mem_singleton.mpr rfl))
  unfold shutB at hs
  rcases W m.2.1 m.1 hm.2 hm.1 with ⟨h, _⟩ | ⟨e, ps, h1, h2, h3, h4⟩
  · rw [h] at hs; cases hs
  · rw [h1] at hs
    have hs' : e + m.2.2 < 0 := of_decide_eq_true hs
    have q := h3.mono (cs := bs ++ [m]) ext_bs
    have e0 : beg (bs ++ [m]) ((bs.length : Nat) : Int) = m.1 := by unfold beg; rw [last_bs]; rfl
    refine ⟨ps, h2, ⟨m.1, m.2.2 + e, by omega, hm.1, .cons (by omega) last_bs q.1, ?_⟩, way_len (fun x hx => hw x (List.mem_append_left _ hx)) hm.1 h3 h4⟩
    show (beg (bs ++ [m]) _ :: begs (bs ++ [m]) ps).Nodup
    rw [e0, q.2]
    rw [List.nodup_append] at h4
    exact List.nodup_cons.mpr ⟨fun h => h4.2.2 m.1 h m.1 (List.mem_singleton.mpr rfl) rfl, h4.1⟩
theorem first_ok (n : Nat) : WayOk n [] (wideT n) (mkW n fun a b => if a = b then some [] else none) := fun a b ha hb => by
  unfold wideT
  rw [mkT_ent _ ha hb, mkW_ent _ ha hb]
  by_cases c : a = b
  · subst c
    rw [if_pos rfl, if_pos rfl]
    exact .inr ⟨0, [], rfl, rfl, .nil a, by simp [begs]⟩
  · rw [if_neg c, if_neg c]; exact .inl ⟨rfl, rfl⟩
/-! ways in the heap; H0: all of their lists are newer than it -/
def WayV (H0 H : Hp) (v : V) : Option (List Int) → Prop
  | none => v = .non
  | some ps => ∃ l, v = .ref l ∧ H l = some (.lst (ps.map V.int)) ∧ H0 l = none
def RowW (H0 H : Hp) (r : Addr) (row : List (Option (List Int))) : Prop := ∃ vs, H r = some (.lst vs) ∧ Paired (WayV H0 H) vs row
def WaysAt (H0 H : Hp) (p : Addr) (w : Wy) : Prop := ∃ rs : List Addr, H p = some (.lst (rs.map V.ref)) ∧ Paired (RowW H0 H) rs w
theorem WayV.same {H0 H H' : Hp} (s : Same H H') {v : V} {o : Option (List Int)} (h : WayV H0 H v o) : WayV H0 H' v o := by
  cases o with
  | none => exact h
  | some ps => obtain ⟨l, h1, h2, h3⟩ := h; exact ⟨l, h1, s _ _ h2, h3⟩
theorem WayV.base {H0 H1 H : Hp} (s : Same H0 H1) {v : V} {o : Option (List Int)} (h : WayV H1 H v o) : WayV H0 H v o := by
  cases o with
  | none => exact h
  | some ps => obtain ⟨l, h1, h2, h3⟩ := h; exact ⟨l, h1, h2, none_of s h3⟩
theorem RowW.same {H0 H H' : Hp} (s : Same H H') {r : Addr} {row : List (Option (List Int))} (h : RowW H0 H r row) : RowW H0 H' r row := by
  obtain ⟨vs, h1, h2⟩ := h
  exact ⟨vs, s _ _ h1, Paired.mapP h2 fun _ _ q => q.same s⟩
theorem WaysAt.same {H0 H H' : Hp} (s : Same H H') {p : Addr} {w : Wy} (h : WaysAt H0 H p w) : WaysAt H0 H' p w := by
  obtain ⟨rs, h1, h2⟩ := h
  exact ⟨rs, s _ _ h1, Paired.mapP h2 fun _ _ q => q.same s⟩
theorem paired_at {α β : Type} {F : α → β → Prop} : ∀ {l₁ : List α} {l₂ : List β} {i : Nat} {y : β}, Paired F l₁ l₂ → l₂[i]? = some y → ∃ x, l₁[i]? = some x ∧ F x y
  | _, _, _, _, .nil, e => by simp at e
  | _, _, 0, _, .cons r _, e => by simp at e; subst e; exact ⟨_, rfl, r⟩
  | _, _, i + 1, y, .cons _ t, e => by
    obtain ⟨x, h1, h2⟩ := paired_at (i := i) (y := y) t (by simpa using e)
    exact ⟨x, by simpa using h1, h2⟩
theorem WaysAt.at {H0 H : Hp} {p : Addr} {w : Wy} {n : Nat} (T : WaysAt H0 H p w) (S : SqW n w) {a b : Int} (ha : inN a n) (hb : inN b n) :
    ∃ (rs : List Addr) (r : Addr) (vs : List V) (v : V), H p = some (.lst (rs.map V.ref)) ∧ atI (rs.map V.ref) a = some (.ref r) ∧ H r = some (.lst vs) ∧ atI vs b = some v ∧ WayV H0 H v (went w a b) := by
  obtain ⟨rs, h1, h2⟩ := T
  have l1 : a.toNat < w.length := by have := ha.1; have := ha.2; have := S.1; omega
  obtain ⟨r, g1, vs, g2, g3⟩ := paired_at h2 (List.getElem?_eq_getElem l1)
  have l2 : b.toNat < (w[a.toNat]).length := by have := S.2 _ (List.getElem_mem l1); have := hb.1; have := hb.2; omega
  obtain ⟨v, k1, k2⟩ := paired_at g3 (List.getElem?_eq_getElem l2)
  refine ⟨rs, r, vs, v, h1, atI_of ha.1 rfl (by rw [List.getElem?_map, g1]; rfl), g2, atI_of hb.1 rfl k1, ?_⟩
  have e : went w a b = w[a.toNat][b.toNat] := by
    unfold went
    simp only [List.getD_eq_getElem?_getD]
    rw [List.getElem?_eq_getElem l1, Option.getD_some, List.getElem?_eq_getElem l2, Option.getD_some]
  rw [e]; exact k2
theorem WaysAt.len {H0 H : Hp} {p : Addr} {w : Wy} {n : Nat} (T : WaysAt H0 H p w) (S : SqW n w) : ∃ rs : List Addr, H p = some (.lst (rs.map V.ref)) ∧ (rs.map V.ref).length = n := by
  obtain ⟨rs, h1, h2⟩ := T
  exact ⟨rs, h1, by rw [List.length_map, Paired.length h2]; exact S.1⟩
/-- a comprehension over a range that makes a row of ways in each turn -/
theorem comp_wrows {n : Nat} {fr : List Nat} {te : TE} {σ : L2.St} {H0 H : Hp} {Q : VK} (f : Nat → List (Option (List Int))) (hn : n ≤ sizeLine)
    (hs : ∀ i H1, i < n → Same H H1 → ∀ R : VK, (∀ r H2, Same H1 H2 → RowW H0 H2 r (f i) → R (.ref r) H2) → te ((compSt σ fr).set 0 (some (.int (0 + (i : Int))))) H1 R)
    (hd : ∀ p H', Same H H' → WaysAt H0 H' p ((List.range n).map f) → Q (.ref p) H') : CompGo fr tYes te σ Q (Itr 0 n) H := by
  refine comp_range (lo := 0) (n := n) (fun i acc H1 => Same H H1 ∧ ∃ rs : List Addr, acc = rs.map V.ref ∧ Paired (RowW H0 H1) rs ((List.range i).map f)) hn ⟨fun _ _ e => e, [], rfl, .nil⟩
    (fun i acc H1 ⟨_, rs, e, w⟩ => by rw [e, List.length_map, Paired.length w]; simp) ?_ ?_
  · rintro i acc H1 hi ⟨s1, rs, rfl, w⟩ R kR
    refine hs i H1 hi s1 _ fun r H2 s2 e2 => kR _ _ ⟨s1.trans s2, rs ++ [r], by simp, ?_⟩
    rw [List.range_succ, List.map_append]
    exact Paired.snoc (Paired.mapP w fun _ _ q => q.same s2) e2
  · rintro acc H1 ⟨s1, rs, rfl, w⟩ p hp
    exact hd p _ (s1.trans (same_new hp _)) ⟨rs, upd_same, Paired.mapP w fun _ _ q => q.same (same_new hp _)⟩
def sp_first_ways (_ : PySem.W.Frag) : Sp := fun vs H Q _ => ∃ (r : Addr) (row : List (Option Int)), vs = [.ref r] ∧ H r = some (.lst (row.map ov)) ∧ row.length ≤ 100 ∧ ∀ r' H', Same H H' → RowW H H' r' (row.map fun o => o.map fun _ => []) → Q (.ref r') H'
def sp_narrowed (_ : PySem.W.Frag) : Sp := fun vs H Q _ => ∃ (r1 r2 : Addr) (row1 row2 : List (Option Int)) (n : Nat), vs = [.ref r1, .ref r2] ∧ H r1 = some (.lst (row1.map ov)) ∧ H r2 = some (.lst (row2.map ov)) ∧ row1.length = n ∧ row2.length = n ∧ n ≤ 100 ∧ ∀ r, H r = none → Q (.ref r) (upd H r (.lst ((List.range n).map fun j => V.bl (!decide (row1.getD j none = row2.getD j none)))))
def sp_by_way (_ : PySem.W.Frag) : Sp := fun vs H Q _ => ∃ (H0 : Hp) (p u : Addr) (w : Wy) (n : Nat) (m : Bd) (a b k : Int) (ps qs : List Int), vs = [.ref p, .int a, .int b, .ref u, .int k] ∧ WaysAt H0 H p w ∧ SqW n w ∧ H u = some (.tup (bv m)) ∧ inN a n ∧ inN b n ∧ inN m.1 n ∧ inN m.2.1 n ∧ went w a m.1 = some ps ∧ went w m.2.1 b = some qs ∧ ps.length ≤ 100 ∧ qs.length ≤ 100 ∧ ∀ l H', Same H H' → H l = none → H' l = some (.lst ((ps ++ [k] ++ qs).map V.int)) → Q (.ref l) H'
def sp_led (_ : PySem.W.Frag) : Sp := fun vs H Q _ => ∃ (H0 : Hp) (p u rc : Addr) (w : Wy) (n : Nat) (m : Bd) (a k : Int) (ch : Nat → Bool), vs = [.ref p, .int a, .ref u, .int k, .ref rc] ∧ Same H0 H ∧ WaysAt H0 H p w ∧ SqW n w ∧ n ≤ 100 ∧ H u = some (.tup (bv m)) ∧ inN a n ∧ inN m.1 n ∧ inN m.2.1 n ∧ H rc = some (.lst ((List.range n).map fun j => V.bl (ch j))) ∧ (∀ j : Nat, j < n → ch j = true → ∃ ps qs, went w a m.1 = some ps ∧ went w m.2.1 (j : Int) = some qs ∧ ps.length ≤ 100 ∧ qs.length ≤ 100) ∧
  ∀ r H', Same H H' → RowW H0 H' r ((List.range n).map fun (j : Nat) => if ch j then newW w m k a (j : Int) else went w a (j : Int)) → Q (.ref r) H'
def sp_search (K : PySem.W.Frag) : Sp := fun vs H Q _ => ∃ (n : Nat) (r : Addr) (qs : List V) (bs : List Bd), vs = [.int n, .ref r] ∧ SqL K H r qs ∧ AreB H qs bs ∧ 1 ≤ n ∧ n ≤ 8 ∧ Within n bs ∧ bs.length ≤ 150 ∧
  (∀ u l ps H', Same H H' → H' u = some (.tup [.non, .ref l]) → H' l = some (.lst (ps.map V.int)) → H l = none → RingOk n bs ps → ps.length ≤ n → NegR bs → Q (.ref u) H') ∧
  ∀ u p w t H', Same H H' → H' u = some (.tup [.ref p, .non]) → WaysAt H H' p w → SqW n w → Right n bs t → WayOk n bs t w → Q (.ref u) H'
theorem ov_inj {x y : Option Int} : (ov x = ov y) ↔ x = y := by
  cases x <;> cases y
  · exact ⟨fun _ => rfl, fun _ => rfl⟩
  · exact ⟨fun h => (nomatch h), fun h => (nomatch h)⟩
  · exact ⟨fun h => (nomatch h), fun h => (nomatch h)⟩
  · exact ⟨fun h => by have := V.int.inj h; rw [this], fun h => by rw [h]⟩
theorem scal_ov (x y : Option Int) : scal (ov x) (ov y) = true := by cases x <;> cases y <;> rfl
/-- a ring told by its places, or None -/
def IsR (H H' : Hp) (v : V) (n : Nat) (bs : List Bd) : Prop := (v = .non ∧ ∃ t, Right n bs t) ∨ ∃ l ps, v = .ref l ∧ H' l = some (.lst (ps.map V.int)) ∧ H l = none ∧ RingOk n bs ps ∧ ps.length ≤ n ∧ NegR bs
def sp_ring (K : PySem.W.Frag) : Sp := fun vs H Q _ => ∃ (n : Nat) (r : Addr) (qs : List V) (bs : List Bd), vs = [.int n, .ref r] ∧ SqL K H r qs ∧ AreB H qs bs ∧ 1 ≤ n ∧ n ≤ 8 ∧ Within n bs ∧ bs.length ≤ 150 ∧ ∀ v H', Same H H' → IsR H H' v n bs → Q v H'
/-- a chain told by its places, or None -/
def IsC (H H' : Hp) (v : V) (n : Nat) (bs : List Bd) (a b : Int) : Prop := (v = .non ∧ NegR bs) ∨ ∃ t, Right n bs t ∧ ((v = .non ∧ ent t a b = none) ∨ ∃ l ps e, v = .ref l ∧ H' l = some (.lst (ps.map V.int)) ∧ H l = none ∧ ent t a b = some e ∧ Walk bs ps a b e ∧ (begs bs ps ++ [b]).Nodup)
def sp_chain (K : PySem.W.Frag) : Sp := fun vs H Q _ => ∃ (n : Nat) (r : Addr) (qs : List V) (bs : List Bd) (a b : Int), vs = [.int n, .ref r, .int a, .int b] ∧ SqL K H r qs ∧ AreB H qs bs ∧ 1 ≤ n ∧ n ≤ 8 ∧ Within n bs ∧ bs.length ≤ 150 ∧ inN a n ∧ inN b n ∧ ∀ v H', Same H H' → IsC H H' v n bs a b → Q v H'
/-! houses: gaps by their names, in the heap -/
abbrev Gp := Int × Int × Option Int × Option Int
def gv (g : Gp) : List V := [.int g.1, .int g.2.1, ov g.2.2.1, ov g.2.2.2]
def gbs (g : Gp) : List Bd := bnds g.1 g.2.1 g.2.2.1 g.2.2.2
def GapsIn (H : Hp) : List (Key × V) → List (Str × Gp) → Prop := Paired fun kv g => kv.1 = Sum.inr g.1 ∧ ∃ p, kv.2 = .ref p ∧ H p = some (.tup (gv g.2))
/-- the bounds of gaps, gap by gap -/
def allB (gs : List (Str × Gp)) : List Bd := gs.flatMap fun g => gbs g.2
def gnames (gs : List (Str × Gp)) : List Str := gs.map (·.1)
theorem GapsIn.keep {H H' : Hp} {kvs : List (Key × V)} {gs : List (Str × Gp)} (h : GapsIn H kvs gs) (k : ∀ p xs, H p = some (.tup xs) → H' p = some (.tup xs)) : GapsIn H' kvs gs := Paired.mapP h fun _ _ ⟨e, p, e2, q⟩ => ⟨e, p, e2, k _ _ q⟩
theorem GapsIn.same {H H' : Hp} {kvs : List (Key × V)} {gs : List (Str × Gp)} (s : Same H H') (h : GapsIn H kvs gs) : GapsIn H' kvs gs := h.keep fun _ _ q => s _ _ q
theorem GapsIn.len {H : Hp} {kvs : List (Key × V)} {gs : List (Str × Gp)} (h : GapsIn H kvs gs) : kvs.length = gs.length := Paired.length h
theorem GapsIn.val_none {H : Hp} {nm : Str} : ∀ {kvs : List (Key × V)} {gs : List (Str × Gp)}, GapsIn H kvs gs → ¬ nm ∈ gnames gs → valV kvs (Sum.inr nm : Key) = none
  | _, _, .nil, _ => rfl
  | _, _, .cons ⟨e, _⟩ t, h => by
    rw [valV_neg (fun z => h (by rw [e] at z; cases z; exact List.mem_cons_self ..))]
    exact GapsIn.val_none t fun z => h (List.mem_cons_of_mem _ z)
theorem GapsIn.val_some {H : Hp} {nm : Str} : ∀ {kvs : List (Key × V)} {gs : List (Str × Gp)}, GapsIn H kvs gs → nm ∈ gnames gs → ∃ p g, (nm, g) ∈ gs ∧ valV kvs (Sum.inr nm : Key) = some (.ref p) ∧ H p = some (.tup (gv g))
  | _, _, .nil, h => by cases h
  | _, g :: gs, .cons ⟨e, p, e2, q⟩ t, h => by
    by_cases c : g.1 = nm
    · refine ⟨p, g.2, ?_, ?_, q⟩
      · rw [← c]; exact List.mem_cons_self ..
      · rw [valV_pos (by rw [e, c]), e2]
    · have h' : nm ∈ gnames gs := by
        rcases List.mem_cons.mp h with z | z
        · exact absurd z.symm c
        · exact z
      obtain ⟨p', g', m, v, q'⟩ := GapsIn.val_some t h'
      exact ⟨p', g', List.mem_cons_of_mem _ m, by rw [valV_neg (fun z => c (by rw [e] at z; cases z; rfl))]; exact v, q'⟩
/-- the gaps without the one by the name -/
def gdrop (nm : Str) (gs : List (Str × Gp)) : List (Str × Gp) := gs.filter fun g => decide (g.1 ≠ nm)
theorem GapsIn.drop {H : Hp} {nm : Str} : ∀ {kvs : List (Key × V)} {gs : List (Str × Gp)}, GapsIn H kvs gs → GapsIn H (dropK kvs (Sum.inr nm : Key)) (gdrop nm gs)
  | _, _, .nil => .nil
  | _, g :: gs, .cons ⟨e, r⟩ t => by
    have ih := GapsIn.drop (nm := nm) t
    by_cases c : g.1 = nm
    · rw [dropK_pos (by rw [e, c])]
      unfold gdrop
      rw [List.filter_cons_of_neg (by simpa using c)]
      exact ih
    · rw [dropK_neg (fun z => c (by rw [e] at z; cases z; rfl))]
      unfold gdrop
      rw [List.filter_cons_of_pos (by simpa using c)]
      exact .cons ⟨e, r⟩ ih
theorem gdrop_len (nm : Str) (gs : List (Str × Gp)) : (gdrop nm gs).length ≤ gs.length := List.length_filter_le _ _
theorem gdrop_mem {nm : Str} {gs : List (Str × Gp)} {g : Str × Gp} (h : g ∈ gdrop nm gs) : g ∈ gs := (List.mem_filter.mp h).1
theorem GapsIn.snoc {H : Hp} {kvs : List (Key × V)} {gs : List (Str × Gp)} {nm : Str} {g : Gp} {p : Addr} (h : GapsIn H kvs gs) (hp : H p = some (.tup (gv g))) : GapsIn H (kvs ++ [(Sum.inr nm, .ref p)]) (gs ++ [(nm, g)]) := Paired.snoc h ⟨rfl, p, rfl, hp⟩
theorem f_cg : ¬ (("count" : Str) = "gaps") := by decide +kernel
def fldh (n : Nat) (d : Addr) : List (Str × V) := putF "gaps" (.ref d) (putF "count" (.int n) [])
theorem fldh_gaps (n : Nat) (d : Addr) : (fldh n d).lookup ("gaps" : Str) = some (.ref d) := by
  unfold fldh
  rw [lookup_putF, if_pos rfl]
theorem fldh_count (n : Nat) (d : Addr) : (fldh n d).lookup ("count" : Str) = some (.int n) := by
  unfold fldh
  rw [lookup_putF, if_neg f_cg, lookup_putF, if_pos rfl]
theorem fldh_no (n : Nat) (d : Addr) {m : Str} (h0 : ¬ m = "gaps") (h1 : ¬ m = "count") : (fldh n d).lookup m = none := by
  unfold fldh
  rw [lookup_putF, if_neg h0, lookup_putF, if_neg h1]
  all_goals rfl
structure HouseAt (C : Addr) (H : Hp) (x d : Addr) (n : Nat) (gs : List (Str × Gp)) : Prop where
  ob : ∃ dx, H x = some (.ins C dx (fldh n d))
  dc : ∃ kvs, H d = some (.dK kvs) ∧ GapsIn H kvs gs
theorem HouseAt.same {C : Addr} {H H' : Hp} {x d : Addr} {n : Nat} {gs : List (Str × Gp)} (s : Same H H') (W : HouseAt C H x d n gs) : HouseAt C H' x d n gs := by
  obtain ⟨dx, h⟩ := W.ob
  obtain ⟨kvs, h1, h2⟩ := W.dc
  exact ⟨⟨dx, s _ _ h⟩, kvs, s _ _ h1, h2.same s⟩
def sp_House___init__ (_ : PySem.W.Frag) (cl : Cl) : Sp := fun vs H Q _ => ∃ (x dx : Addr) (n : Nat), vs = [.ref x, .int n] ∧ H x = some (.ins cl.House dx []) ∧ ∀ d H', HouseAt cl.House H' x d n [] → But x H H' → H d = none → Q .non H'
def sp_House_need (_ : PySem.W.Frag) (cl : Cl) : Sp := fun vs H Q _ => ∃ (x d : Addr) (n : Nat) (gs : List (Str × Gp)) (nm : Str), vs = [.ref x, .str nm] ∧ HouseAt cl.House H x d n gs ∧ nm ∈ gnames gs ∧ Q .non H
def sp_House_add (_ : PySem.W.Frag) (cl : Cl) : Sp := fun vs H Q _ => ∃ (x d : Addr) (n : Nat) (gs : List (Str × Gp)) (nm : Str) (g : Gp), vs = [.ref x, .str nm, .int g.1, .int g.2.1, ov g.2.2.1, ov g.2.2.2] ∧ HouseAt cl.House H x d n gs ∧ ¬ nm ∈ gnames gs ∧ gs.length ≤ 100 ∧
  ∀ H', HouseAt cl.House H' x d n (gs ++ [(nm, g)]) → But d H H' → Q .non H'
def sp_House_drop (_ : PySem.W.Frag) (cl : Cl) : Sp := fun vs H Q _ => ∃ (x d : Addr) (n : Nat) (gs : List (Str × Gp)) (nm : Str), vs = [.ref x, .str nm] ∧ HouseAt cl.House H x d n gs ∧ nm ∈ gnames gs ∧ ∀ H', HouseAt cl.House H' x d n (gdrop nm gs) → But d H H' → Q .non H'
def sp_House_table (_ : PySem.W.Frag) (cl : Cl) : Sp := fun vs H Q _ => ∃ (x d : Addr) (n : Nat) (gs : List (Str × Gp)), vs = [.ref x] ∧ HouseAt cl.House H x d n gs ∧ 1 ≤ n ∧ n ≤ 8 ∧ Within n (allB gs) ∧ gs.length ≤ 64 ∧ ∀ v H', Same H H' → IsTN H H' v n (allB gs) → Q v H'
def sp_all_bounds (_ : PySem.W.Frag) : Sp := fun vs H Q _ => ∃ (d : Addr) (kvs : List (Key × V)) (gs : List (Str × Gp)), vs = [.ref d] ∧ H d = some (.dK kvs) ∧ GapsIn H kvs gs ∧ gs.length ≤ 64 ∧
  ∀ (r : Addr) (H' : Hp) (qs : List V), H r = none → Same H H' → H' r = some (.lst qs) → AreB H' qs (allB gs) → Q (.ref r) H'
theorem gbs_len (g : Gp) : (gbs g).length ≤ 2 := by
  obtain ⟨a, b, lo, hi⟩ := g
  unfold gbs bnds
  cases lo <;> cases hi <;> simp [hiB, loB]
theorem allB_len : ∀ gs : List (Str × Gp), (allB gs).length ≤ 2 * gs.length
  | [] => Nat.le_refl _
  | g :: gs => by
    have := allB_len gs
    have h2 := gbs_len g.2
    unfold allB at *
    rw [List.flatMap_cons, List.length_append, List.length_cons]
    omega
theorem valV_get {κ : Type} [DecidableEq κ] : ∀ {kvs : List (κ × V)} {i : Nat} {k : κ} {v : V}, (kvs.map (·.1)).Nodup → kvs[i]? = some (k, v) → valV kvs k = some v
  | [], _, _, _, _, e => by simp at e
  | p :: r, 0, k, v, _, e => by
    simp at e; subst e
    exact valV_pos rfl
  | p :: r, i + 1, k, v, h, e => by
    simp at e
    obtain ⟨h1, h2⟩ := List.nodup_cons.mp h
    have np : ¬ p.1 = k := fun z => h1 (by
      show p.1 ∈ _
      rw [z]
      exact List.mem_map_of_mem (f := fun x : κ × V => x.1) (List.mem_of_getElem? e))
    rw [valV_neg np]
    exact valV_get h2 e
theorem GapsIn.keys {H : Hp} : ∀ {kvs : List (Key × V)} {gs : List (Str × Gp)}, GapsIn H kvs gs → kvs.map (·.1) = (gnames gs).map Sum.inr
  | _, _, .nil => rfl
  | _, _, .cons ⟨e, _⟩ t => by
    unfold gnames
    rw [List.map_cons, e, GapsIn.keys t]; rfl
theorem GapsIn.nodup {H : Hp} {kvs : List (Key × V)} {gs : List (Str × Gp)} (h : GapsIn H kvs gs) (hn : (gnames gs).Nodup) : (kvs.map (·.1)).Nodup := by
  rw [h.keys]
  exact List.Pairwise.map _ (fun a b c e => c (Sum.inr.inj e)) hn
theorem AreB.append {H : Hp} : ∀ {qs : List V} {bs : List Bd} {qs2 : List V} {cs : List Bd}, AreB H qs bs → AreB H qs2 cs → AreB H (qs ++ qs2) (bs ++ cs)
  | _, _, _, _, .nil, g => g
  | _, _, _, _, .cons h t, g => .cons h (AreB.append t g)
theorem AreB.tups {H H' : Hp} {qs : List V} {bs : List Bd} (a : AreB H qs bs) (k : ∀ p xs, H p = some (.tup xs) → H' p = some (.tup xs)) : AreB H' qs bs := Paired.mapP a fun _ _ ⟨p, e, q⟩ => ⟨p, e, k _ _ q⟩
theorem allB_take {gs : List (Str × Gp)} {i : Nat} {g : Str × Gp} (h : gs[i]? = some g) : allB (gs.take (i + 1)) = allB (gs.take i) ++ gbs g.2 := by
  unfold allB
  rw [List.take_add_one, h, Option.toList_some, List.flatMap_append, List.flatMap_cons, List.flatMap_nil, List.append_nil]
/-! the names of bounds: a gap's name and the end -/
def hiE (hi : Option Int) : List Str := match hi with | none => [] | some _ => ["high"]
def loE (lo : Option Int) : List Str := match lo with | none => [] | some _ => ["low"]
def endsL (g : Gp) : List Str := hiE g.2.2.2 ++ loE g.2.2.1
abbrev Nm := Str × Str
def nv (m : Nm) : List V := [.str m.1, .str m.2]
/-- names, each a tuple of its own -/
def AreN (H : Hp) : List V → List Nm → Prop := Paired fun v m => ∃ p, v = .ref p ∧ H p = some (.tup (nv m))
def allN (gs : List (Str × Gp)) : List Nm := gs.flatMap fun g => (endsL g.2).map fun e => (g.1, e)
theorem AreN.tups {H H' : Hp} {vs : List V} {ms : List Nm} (h : AreN H vs ms) (k : ∀ p xs, H p = some (.tup xs) → H' p = some (.tup xs)) : AreN H' vs ms := Paired.mapP h fun _ _ ⟨p, e, q⟩ => ⟨p, e, k _ _ q⟩
theorem AreN.same {H H' : Hp} {vs : List V} {ms : List Nm} (s : Same H H') (h : AreN H vs ms) : AreN H' vs ms := h.tups fun _ _ q => s _ _ q
theorem AreN.len {H : Hp} {vs : List V} {ms : List Nm} (h : AreN H vs ms) : vs.length = ms.length := Paired.length h
theorem AreN.snoc {H : Hp} {vs : List V} {ms : List Nm} {p : Addr} {m : Nm} (h : AreN H vs ms) (e : H p = some (.tup (nv m))) : AreN H (vs ++ [.ref p]) (ms ++ [m]) := Paired.snoc h ⟨p, rfl, e⟩
theorem AreN.append {H : Hp} : ∀ {qs : List V} {bs : List Nm} {qs2 : List V} {cs : List Nm}, AreN H qs bs → AreN H qs2 cs → AreN H (qs ++ qs2) (bs ++ cs)
  | _, _, _, _, .nil, g => g
  | _, _, _, _, .cons h t, g => .cons h (AreN.append t g)
theorem allN_take {gs : List (Str × Gp)} {i : Nat} {g : Str × Gp} (h : gs[i]? = some g) : allN (gs.take (i + 1)) = allN (gs.take i) ++ (endsL g.2).map fun e => (g.1, e) := by
  unfold allN
  rw [List.take_add_one, h, Option.toList_some, List.flatMap_append, List.flatMap_cons, List.flatMap_nil, List.append_nil]
theorem endsL_len (g : Gp) : (endsL g).length = (gbs g).length := by
  obtain ⟨a, b, lo, hi⟩ := g
  unfold endsL gbs bnds
  cases lo <;> cases hi <;> rfl
theorem allN_len : ∀ gs : List (Str × Gp), (allN gs).length = (allB gs).length
  | [] => rfl
  | g :: gs => by
    have ih := allN_len gs
    have h := endsL_len g.2
    unfold allN allB at *
    rw [List.flatMap_cons, List.flatMap_cons, List.length_append, List.length_append, ih, List.length_map, h]
def keyN (m : Nm) : List Key := [Sum.inr m.1, Sum.inr m.2]
theorem keyN_inj {a b : Nm} (h : keyN a = keyN b) : a = b := by
  unfold keyN at h
  have h1 := (List.cons.inj h).1
  have h2 := (List.cons.inj (List.cons.inj h).2).1
  exact Prod.ext (Sum.inr.inj h1) (Sum.inr.inj h2)
theorem allN_keys {gs : List (Str × Gp)} : ∀ key ∈ (allN gs).map keyN, ∃ g z, g ∈ gs ∧ key = [(Sum.inr g.1 : Key), Sum.inr z] := fun key h => by
  obtain ⟨m, hm, rfl⟩ := List.mem_map.mp h
  obtain ⟨g, hg, h2⟩ := List.mem_flatMap.mp hm
  obtain ⟨z, _, rfl⟩ := List.mem_map.mp h2
  exact ⟨g, z, hg, rfl⟩
def sp_ends_of (K : PySem.W.Frag) : Sp := fun vs H Q _ => ∃ (u : Addr) (g : Gp), vs = [.ref u] ∧ SqT K H u (gv g) ∧ ∀ r H', H r = none → Same H H' → H' r = some (.lst ((endsL g).map V.str)) → Q (.ref r) H'
def sp_all_bound_names (_ : PySem.W.Frag) : Sp := fun vs H Q _ => ∃ (d : Addr) (kvs : List (Key × V)) (gs : List (Str × Gp)), vs = [.ref d] ∧ H d = some (.dK kvs) ∧ GapsIn H kvs gs ∧ (gnames gs).Nodup ∧ gs.length ≤ 64 ∧
  ∀ (r : Addr) (H' : Hp) (qs : List V), H r = none → Same H H' → H' r = some (.lst qs) → AreN H' qs (allN gs) → Q (.ref r) H'
/-- the name of the bound at a place -/
def nmAt (gs : List (Str × Gp)) (k : Int) : Nm := ((allN gs)[k.toNat]?).getD ("", "")
theorem nmAt_get {gs : List (Str × Gp)} {k : Int} (h0 : 0 ≤ k) (h1 : k < (allB gs).length) : (allN gs)[k.toNat]? = some (nmAt gs k) := by
  unfold nmAt
  rw [List.getElem?_eq_getElem (by rw [allN_len]; omega)]; rfl
theorem hl_ne' : ("high" : Str) ≠ "low" := by decide +kernel
theorem endsL_nd (g : Gp) : (endsL g).Nodup := by
  obtain ⟨a, b, lo, hi⟩ := g
  unfold endsL hiE loE
  cases lo <;> cases hi
  · exact .nil
  · exact .cons (fun _ h => (nomatch h)) .nil
  · exact .cons (fun _ h => (nomatch h)) .nil
  · exact .cons (fun z h => by rw [List.mem_singleton.mp h]; exact hl_ne') (.cons (fun _ h => (nomatch h)) .nil)
theorem allN_nd : ∀ {gs : List (Str × Gp)}, (gnames gs).Nodup → (allN gs).Nodup
  | [], _ => .nil
  | g :: gs, h => by
    obtain ⟨h1, h2⟩ := List.nodup_cons.mp (show (g.1 :: gnames gs).Nodup from h)
    show ((endsL g.2).map (fun e => (g.1, e)) ++ allN gs).Nodup
    rw [List.nodup_append]
    refine ⟨List.Pairwise.map _ (fun a b c e => c (Prod.mk.inj e).2) (endsL_nd g.2), allN_nd h2, fun a ha b hb e => ?_⟩
    subst e
    obtain ⟨z, _, rfl⟩ := List.mem_map.mp ha
    obtain ⟨g', hg', h3⟩ := List.mem_flatMap.mp hb
    obtain ⟨z', _, e'⟩ := List.mem_map.mp h3
    have e1 : g'.1 = g.1 := (Prod.mk.inj e').1
    exact h1 (e1 ▸ List.mem_map_of_mem (f := fun x : Str × Gp => x.1) hg')
/-- the end by its name in the law's own dict -/
theorem ends_at {H : Hp} {us : List (List Key × V)} {gs : List (Str × Gp)} (KE : us.map (·.1) = (allN gs).map keyN) (A : AreB H (us.map (·.2)) (allB gs)) (nd : (gnames gs).Nodup) {k : Int} {m : Bd} (h0 : 0 ≤ k) (hm : (allB gs)[k.toNat]? = some m) : ∃ p, valV us (keyN (nmAt gs k)) = some (.ref p) ∧ H p = some (.tup (bv m)) := by
  have hk := (List.getElem?_eq_some_iff.mp hm).1
  have hn := nmAt_get (gs := gs) h0 (by omega)
  obtain ⟨v, hv, p, e, hp⟩ := paired_at A hm
  subst e
  rw [List.getElem?_map] at hv
  obtain ⟨u, hu, e⟩ := Option.map_eq_some_iff.mp hv
  have hk1 : (us.map (·.1))[k.toNat]? = some (keyN (nmAt gs k)) := by rw [KE, List.getElem?_map, hn]; rfl
  rw [List.getElem?_map, hu] at hk1
  have e1 : u.1 = keyN (nmAt gs k) := Option.some.inj hk1
  obtain ⟨u1, u2⟩ := u
  have e2 : u2 = .ref p := e
  have e1 : u1 = keyN (nmAt gs k) := e1
  subst e1 e2
  exact ⟨p, valV_get (by rw [KE]; exact List.Pairwise.map _ (fun a b c e => c (keyN_inj e)) (allN_nd nd)) hu, hp⟩
def sp_names_at (_ : PySem.W.Frag) : Sp := fun vs H Q _ => ∃ (d : Addr) (kvs : List (Key × V)) (gs : List (Str × Gp)) (v : V), vs = [.ref d, v] ∧ H d = some (.dK kvs) ∧ GapsIn H kvs gs ∧ (gnames gs).Nodup ∧ gs.length ≤ 64 ∧
  ((v = .non ∧ Q .non H) ∨ ∃ (l : Addr) (ps : List Int), v = .ref l ∧ H l = some (.lst (ps.map V.int)) ∧ (∀ k ∈ ps, 0 ≤ k ∧ k < (allB gs).length) ∧ ps.length ≤ 100 ∧ ∀ r H' qs, H r = none → Same H H' → H' r = some (.lst qs) → AreN H' qs (ps.map (nmAt gs)) → Q (.ref r) H')
/-- a ring told by names, or None -/
def IsRN (H H' : Hp) (v : V) (n : Nat) (gs : List (Str × Gp)) : Prop := (v = .non ∧ ∃ t, Right n (allB gs) t) ∨ ∃ l qs ps, v = .ref l ∧ H' l = some (.lst qs) ∧ H l = none ∧ AreN H' qs (ps.map (nmAt gs)) ∧ RingOk n (allB gs) ps ∧ ps.length ≤ n ∧ NegR (allB gs)
def sp_House_ring (_ : PySem.W.Frag) (cl : Cl) : Sp := fun vs H Q _ => ∃ (x d : Addr) (n : Nat) (gs : List (Str × Gp)), vs = [.ref x] ∧ HouseAt cl.House H x d n gs ∧ (gnames gs).Nodup ∧ 1 ≤ n ∧ n ≤ 8 ∧ Within n (allB gs) ∧ gs.length ≤ 64 ∧ ∀ v H', Same H H' → IsRN H H' v n gs → Q v H'
/-- a chain told by names, or None -/
def IsCN (H H' : Hp) (v : V) (n : Nat) (gs : List (Str × Gp)) (a b : Int) : Prop := (v = .non ∧ NegR (allB gs)) ∨ ∃ t, Right n (allB gs) t ∧ ((v = .non ∧ ent t a b = none) ∨ ∃ l qs ps e, v = .ref l ∧ H' l = some (.lst qs) ∧ H l = none ∧ AreN H' qs (ps.map (nmAt gs)) ∧ ent t a b = some e ∧ Walk (allB gs) ps a b e ∧ (begs (allB gs) ps ++ [b]).Nodup)
def sp_House_chain (_ : PySem.W.Frag) (cl : Cl) : Sp := fun vs H Q _ => ∃ (x d : Addr) (n : Nat) (gs : List (Str × Gp)) (a b : Int), vs = [.ref x, .int a, .int b] ∧ HouseAt cl.House H x d n gs ∧ (gnames gs).Nodup ∧ 1 ≤ n ∧ n ≤ 8 ∧ Within n (allB gs) ∧ gs.length ≤ 64 ∧ inN a n ∧ inN b n ∧ ∀ v H', Same H H' → IsCN H H' v n gs a b → Q v H'
/-! the laws' own gaps and houses -/
theorem names_ne : ∀ {gs : List (Str × Gp)} {i : Nat} {g g' : Str × Gp}, (gnames gs).Nodup → gs[i]? = some g → g' ∈ gs.take i → g'.1 ≠ g.1
  | [], _, _, _, _, e, _ => by simp at e
  | _ :: _, 0, _, _, _, _, h => by simp at h
  | x :: r, i + 1, g, g', hn, e, h => by
    obtain ⟨h1, h2⟩ := List.nodup_cons.mp (show (x.1 :: gnames r).Nodup from hn)
    have e' : r[i]? = some g := by simpa using e
    rw [List.take_succ_cons] at h
    rcases List.mem_cons.mp h with h | h
    · subst h
      intro z
      exact h1 (z ▸ List.mem_map_of_mem (f := fun x : Str × Gp => x.1) (List.mem_of_getElem? e'))
    · exact names_ne h2 e' h
/-- one end of a gap is put in by its name -/
theorem ends_put {H : Hp} {gs : List (Str × Gp)} {i : Nat} {us : List (List Key × V)} {nm z : Str} (h : ∀ key ∈ us.map (·.1), (∃ g z, g ∈ gs.take i ∧ key = [Sum.inr g.1, Sum.inr z]) ∨ ∃ y, y ≠ z ∧ key = [Sum.inr nm, Sum.inr y])
    (n : ∀ g' ∈ gs.take i, g'.1 ≠ nm) : valV us [(Sum.inr nm : Key), Sum.inr z] = none := by
  cases e : valV us [(Sum.inr nm : Key), Sum.inr z] with
  | none => rfl
  | some v =>
    rcases h _ (valV_in e) with ⟨g, y, hm, hk⟩ | ⟨y, hy, hk⟩
    · have := (List.cons.inj hk).1
      exact absurd (Sum.inr.inj this).symm (n g hm)
    · have := (List.cons.inj (List.cons.inj hk).2).1
      exact absurd (Sum.inr.inj this).symm hy
theorem ends_step {H0 H2 : Hp} {e p1 p2 : Addr} {us : List (List Key × V)} {bs : List Bd} {x y z : Int} {o2 : HO} {key : List Key} (s2 : Same H0 H2) (he : H0 e = none) (e2 : H2 e = some (.dT us)) (A2 : AreB H2 (us.map (·.2)) bs) (hp1 : H2 p1 = none)
    (hp2 : (upd H2 p1 (.tup [.int x, .int y, .int z])) p2 = none) : Same H0 (upd (upd (upd H2 p1 (.tup [.int x, .int y, .int z])) p2 o2) e (.dT (us ++ [(key, .ref p1)]))) ∧
      AreB (upd (upd (upd H2 p1 (.tup [.int x, .int y, .int z])) p2 o2) e (.dT (us ++ [(key, .ref p1)]))) ((us ++ [(key, V.ref p1)]).map fun (u : List Key × V) => u.2) (bs ++ [(x, y, z)]) := by
  have t1 := same_new hp1 (.tup [.int x, .int y, .int z])
  have e1 : (upd H2 p1 (.tup [.int x, .int y, .int z])) p1 = some (.tup (bv (x, y, z))) := upd_same
  generalize upd H2 p1 (.tup [.int x, .int y, .int z]) = H3 at t1 e1 hp2 ⊢
  have t2 := same_new hp2 o2
  generalize upd H3 p2 o2 = H4 at t2 ⊢
  have t := t1.trans t2
  have e4 := t _ _ e2
  refine ⟨fun b o h => ?_, ?_⟩
  · rw [upd_ne (ne_of_none h he)]; exact t _ _ (s2 _ _ h)
  · rw [List.map_append]
    refine AreB.tups (AreB.snoc (A2.same t) (t2 _ _ e1)) fun c xs h => ?_
    rw [upd_ne (ne_of h e4 (fun z => by cases z))]; exact h
theorem opt_or {α : Type} : ∀ o : Option α, o = none ∨ ∃ x, o = some x
  | none => .inl rfl
  | some x => .inr ⟨x, rfl⟩
theorem hl_ne : ("high" : Str) ≠ "low" := by decide +kernel
def sp_law_ends (_ : PySem.W.Frag) : Sp := fun vs H Q _ => ∃ (d : Addr) (kvs : List (Key × V)) (gs : List (Str × Gp)), vs = [.ref d] ∧ H d = some (.dK kvs) ∧ GapsIn H kvs gs ∧ (gnames gs).Nodup ∧ gs.length ≤ 64 ∧
  ∀ (e : Addr) (H' : Hp) (us : List (List Key × V)), H e = none → Same H H' → H' e = some (.dT us) → AreB H' (us.map (·.2)) (allB gs) → us.map (·.1) = (allN gs).map keyN → Q (.ref e) H'
/-! a house and the law's own dict of the same gaps -/
theorem gbs_in {n : Nat} {g : Gp} (ha : inN g.1 n) (hb : inN g.2.1 n) : ∀ m ∈ gbs g, inN m.1 n ∧ inN m.2.1 n := by
  obtain ⟨a, b, lo, hi⟩ := g
  intro m hm
  unfold gbs bnds at hm
  cases lo <;> cases hi <;> simp [hiB, loB] at hm
  · subst hm; exact ⟨ha, hb⟩
  · subst hm; exact ⟨hb, ha⟩
  · rcases hm with e | e <;> subst e
    · exact ⟨ha, hb⟩
    · exact ⟨hb, ha⟩
theorem allB_mem {gs : List (Str × Gp)} {m : Bd} : m ∈ allB gs ↔ ∃ g ∈ gs, m ∈ gbs g.2 := List.mem_flatMap
theorem HouseAt.but {C : Addr} {H H' : Hp} {x d e : Addr} {n : Nat} {gs : List (Str × Gp)} {kvs : List (Key × V)} (W : HouseAt C H x d n gs) (b : But e H H') (he : H e = some (.dK kvs)) (ne : d ≠ e) : HouseAt C H' x d n gs := by
  obtain ⟨dx, h⟩ := W.ob
  obtain ⟨kv, h1, h2⟩ := W.dc
  exact ⟨⟨dx, b _ _ h (ne_of h he (fun z => by cases z))⟩, kv, b _ _ h1 ne, h2.keep fun p xs q => b _ _ q (ne_of q he (fun z => by cases z))⟩
structure HG (cl : Cl) (H : Hp) (n : Nat) (x dh dg : Addr) (gs : List (Str × Gp)) : Prop where
  W : HouseAt cl.House H x dh n gs
  D : ∃ kvs, H dg = some (.dK kvs) ∧ GapsIn H kvs gs
  ne : dg ≠ dh
  nd : (gnames gs).Nodup
  wi : ∀ g ∈ gs, inN g.2.1 n ∧ inN g.2.2.1 n
theorem HG.within {cl : Cl} {H : Hp} {n : Nat} {x dh dg : Addr} {gs : List (Str × Gp)} (L : HG cl H n x dh dg gs) : Within n (allB gs) := fun m hm => by
  obtain ⟨g, hg, h⟩ := allB_mem.mp hm
  exact gbs_in (L.wi g hg).1 (L.wi g hg).2 m h
theorem HG.same {cl : Cl} {H H' : Hp} {n : Nat} {x dh dg : Addr} {gs : List (Str × Gp)} (s : Same H H') (L : HG cl H n x dh dg gs) : HG cl H' n x dh dg gs := by
  obtain ⟨kvs, h1, h2⟩ := L.D
  exact ⟨L.W.same s, ⟨kvs, s _ _ h1, h2.same s⟩, L.ne, L.nd, L.wi⟩
/-- all but two addresses as it was -/
def But2h (a b : Addr) (H H' : Hp) : Prop := ∀ c o, H c = some o → c ≠ a → c ≠ b → H' c = some o
theorem HG.tup {cl : Cl} {H H2 : Hp} {n : Nat} {x dh dg : Addr} {gs : List (Str × Gp)} (L : HG cl H n x dh dg gs) (b : But2h dg dh H H2) : ∀ p xs, H p = some (.tup xs) → H2 p = some (.tup xs) := fun p xs h => by
  obtain ⟨kvs, hd, _⟩ := L.D
  obtain ⟨kvh, he, _⟩ := L.W.dc
  exact b _ _ h (ne_of h hd (fun z => by cases z)) (ne_of h he (fun z => by cases z))
theorem HG.lst {cl : Cl} {H H2 : Hp} {n : Nat} {x dh dg : Addr} {gs : List (Str × Gp)} (L : HG cl H n x dh dg gs) (b : But2h dg dh H H2) : ∀ p xs, H p = some (.lst xs) → H2 p = some (.lst xs) := fun p xs h => by
  obtain ⟨kvs, hd, _⟩ := L.D
  obtain ⟨kvh, he, _⟩ := L.W.dc
  exact b _ _ h (ne_of h hd (fun z => by cases z)) (ne_of h he (fun z => by cases z))
/-- the gap by the name is taken out of both -/
theorem HG.drop {cl : Cl} {H H2 : Hp} {n : Nat} {x dh dg : Addr} {gs : List (Str × Gp)} {kvs : List (Key × V)} {nm : Str} (L : HG cl H n x dh dg gs) (G : GapsIn H kvs gs)
    (hd2 : H2 dg = some (.dK (dropK kvs (Sum.inr nm)))) (b : But2h dg dh H H2) (W : HouseAt cl.House H2 x dh n (gdrop nm gs)) : HG cl H2 n x dh dg (gdrop nm gs) :=
  ⟨W, ⟨_, hd2, G.drop.keep (L.tup b)⟩, L.ne, (List.filter_sublist.map _).nodup L.nd, fun g hg => L.wi g (gdrop_mem hg)⟩
/-- a gap by a new name is put into both -/
theorem HG.add {cl : Cl} {H H2 : Hp} {n : Nat} {x dh dg p : Addr} {gs : List (Str × Gp)} {kvs : List (Key × V)} {nm : Str} {g : Gp} (L : HG cl H n x dh dg gs) (G : GapsIn H kvs gs) (hn : ¬ nm ∈ gnames gs) (hp : H p = some (.tup (gv g)))
    (ha : inN g.1 n) (hb : inN g.2.1 n) (hd2 : H2 dg = some (.dK (kvs ++ [(Sum.inr nm, .ref p)]))) (b : But2h dg dh H H2) (W : HouseAt cl.House H2 x dh n (gs ++ [(nm, g)])) : HG cl H2 n x dh dg (gs ++ [(nm, g)]) := by
  refine ⟨W, ⟨_, hd2, (G.snoc hp).keep (L.tup b)⟩, L.ne, ?_, fun g' hg => ?_⟩
  · unfold gnames
    rw [List.map_append]
    exact nd_snoc L.nd hn
  · rcases List.mem_append.mp hg with h | h
    · exact L.wi g' h
    · rw [List.mem_singleton.mp h]; exact ⟨ha, hb⟩
theorem iteS' {c A B : Prop} [Decidable c] (hc : c) (h : A) : if decide c = true then A else B := by
  rw [decide_eq_true hc]
  exact iteT h
/-! a house's names, idle gaps -/
/-- both lists of bounds have the same table, or none has one -/
def TSame (n : Nat) (bs cs : List Bd) : Prop := (NegR bs ∧ NegR cs) ∨ ∃ t, Right n bs t ∧ Right n cs t
theorem TSame.comm {n : Nat} {bs cs : List Bd} (h : TSame n bs cs) : TSame n cs bs := by
  rcases h with ⟨a, b⟩ | ⟨t, a, b⟩
  · exact .inl ⟨b, a⟩
  · exact .inr ⟨t, b, a⟩
theorem tsame_tabs {n : Nat} {bs cs : List Bd} {t u : Tab} (hw : Within n bs) (R : Right n bs t) (S : Right n cs u) : decide (t = u) = true ↔ TSame n bs cs := by
  rw [decide_eq_true_iff]
  constructor
  · intro e
    subst e
    exact .inr ⟨t, R, S⟩
  · rintro (⟨g, _⟩ | ⟨w, h1, h2⟩)
    · exact (R.noneg hw g).elim
    · exact (R.uniq h1).trans (h2.uniq S)
theorem tsame_no {n : Nat} {bs cs : List Bd} {u : Tab} (hw : Within n bs) (hc : Within n cs) (g : NegR bs) (S : Right n cs u) : false = true ↔ TSame n bs cs := by
  constructor
  · intro h; cases h
  · rintro (⟨_, g'⟩ | ⟨w, h1, _⟩)
    · exact (S.noneg hc g').elim
    · exact (h1.noneg hw g).elim
theorem tsame_no' {n : Nat} {bs cs : List Bd} {u : Tab} (hw : Within n bs) (hc : Within n cs) (S : Right n bs u) (g : NegR cs) : false = true ↔ TSame n bs cs := (tsame_no hc hw g S).trans ⟨TSame.comm, TSame.comm⟩
theorem ovs_rows {K : PySem.W.Frag} {H : Hp} : ∀ {rs : List Addr} {t : Tab}, RowsAt H rs t → Paired (OvSeq K H) (rs.map V.ref) t
  | _, _, .nil => .nil
  | _, _, .cons h r => .cons ⟨_, rfl, SqL.of h⟩ (ovs_rows r)
theorem GapsIn.kv {H : Hp} {kvs : List (Key × V)} {gs : List (Str × Gp)} (G : GapsIn H kvs gs) : kvs.map (fun p => kV p.1) = (gnames gs).map V.str := by
  have h := congrArg (List.map kV) G.keys
  rw [List.map_map, List.map_map] at h
  exact h
theorem within_drop {n : Nat} {gs : List (Str × Gp)} (hw : Within n (allB gs)) (nm : Str) : Within n (allB (gdrop nm gs)) := fun m hm => by
  obtain ⟨g, hg, h⟩ := allB_mem.mp hm
  exact hw m (allB_mem.mpr ⟨g, gdrop_mem hg, h⟩)
def sp_House_names (_ : PySem.W.Frag) (cl : Cl) : Sp := fun vs H Q _ => ∃ (x d : Addr) (n : Nat) (gs : List (Str × Gp)), vs = [.ref x] ∧ HouseAt cl.House H x d n gs ∧ ∀ r H', H r = none → Same H H' → H' r = some (.lst ((gnames gs).map V.str)) → Q (.ref r) H'
def sp_House_idle (_ : PySem.W.Frag) (cl : Cl) : Sp := fun vs H Q _ => ∃ (x d : Addr) (n : Nat) (gs : List (Str × Gp)) (nm : Str), vs = [.ref x, .str nm] ∧ HouseAt cl.House H x d n gs ∧ nm ∈ gnames gs ∧ 1 ≤ n ∧ n ≤ 8 ∧ Within n (allB gs) ∧ gs.length ≤ 64 ∧ ∀ b H', Same H H' → (b = true ↔ TSame n (allB (gdrop nm gs)) (allB gs)) → Q (.bl b) H'
/-! two houses, each with the law's own dict of its gaps -/
def BagAt (H : Hp) (b : Addr) (k : Int) : Prop := ∃ u v : Int, H b = some (.lst [.int u, .int v]) ∧ 0 ≤ v ∧ v ≤ k
theorem BagAt.same {H H' : Hp} {b : Addr} {k : Int} (B : BagAt H b k) (h : Same H H') : BagAt H' b k := by
  obtain ⟨u, v, e, h1, h2⟩ := B
  exact ⟨u, v, h _ _ e, h1, h2⟩
def nameOf (z : Int) (k : Nat) : Str := timesS "gap" (1 + z) ++ Str.ofString (toString (0 + ((k : Nat) : Int)))
theorem names_nd : ((List.range 60).map fun i => nameOf ((i / 20 : Nat) : Int) (i % 20)).Nodup := by decide +kernel
theorem name_ok : ∀ i, i < 20 → (0 + ((i : Nat) : Int)).natAbs.log2 < 1920 ∧ (Str.ofString (toString (0 + ((i : Nat) : Int)))).length ≤ 3 := by decide +kernel
theorem times_ok : ∀ i, i < 3 → (timesS "gap" (1 + ((i : Nat) : Int))).length ≤ 9 := by decide +kernel
theorem name_inj {a b : Int} {i j : Nat} (ha : 0 ≤ a ∧ a < 3) (hb : 0 ≤ b ∧ b < 3) (hi : i < 20) (hj : j < 20) (h : nameOf a i = nameOf b j) : i = j := by
  obtain ⟨a', rfl⟩ : ∃ a' : Nat, a = (a' : Int) := ⟨a.toNat, by omega⟩
  obtain ⟨b', rfl⟩ : ∃ b' : Nat, b = (b' : Int) := ⟨b.toNat, by omega⟩
  have nd := names_nd
  have get : ∀ (c k : Nat), c < 3 → k < 20 → ((List.range 60).map fun i => nameOf ((i / 20 : Nat) : Int) (i % 20))[c * 20 + k]? = some (nameOf (c : Int) k) := fun c k hc hk => by
    rw [List.getElem?_map, List.getElem?_range (by omega), Option.map_some, show (c * 20 + k) / 20 = c by omega, show (c * 20 + k) % 20 = k by omega]
  have h1 := get a' i (by omega) hi
  have h2 := get b' j (by omega) hj
  rw [← h] at h2
  generalize ((List.range 60).map fun i => nameOf ((i / 20 : Nat) : Int) (i % 20)) = xs at nd h1 h2
  obtain ⟨li, e1⟩ := List.getElem?_eq_some_iff.mp h1
  obtain ⟨lj, e2⟩ := List.getElem?_eq_some_iff.mp h2
  have eq := e1.trans e2.symm
  rcases Nat.lt_trichotomy (a' * 20 + i) (b' * 20 + j) with c | c | c
  · exact absurd eq (List.pairwise_iff_getElem.mp nd _ _ li lj c)
  · omega
  · exact absurd eq.symm (List.pairwise_iff_getElem.mp nd _ _ lj li c)
/-- the gaps stand by names of deeds that were done -/
def NmOk (k : Nat) (gs : List (Str × Gp)) : Prop := ∀ g ∈ gs, ∃ (j : Nat) (z : Int), j < k ∧ (0 ≤ z ∧ z < 3) ∧ g.1 = nameOf z j
theorem NmOk.mono {k : Nat} {gs : List (Str × Gp)} (h : NmOk k gs) : NmOk (k + 1) gs := fun g hg => by
  obtain ⟨j, z, h1, h2, h3⟩ := h g hg
  exact ⟨j, z, by omega, h2, h3⟩
theorem NmOk.new {k : Nat} {gs : List (Str × Gp)} (h : NmOk k gs) {z : Int} (hz : 0 ≤ z ∧ z < 3) (hk : k < 20) : ¬ nameOf z k ∈ gnames gs := fun m => by
  obtain ⟨g', hg', e⟩ := List.mem_map.mp m
  obtain ⟨j, y, hj, hy, e'⟩ := h g' hg'
  have := name_inj hy hz (by omega) hk (e'.symm.trans e)
  omega
/-- all but three addresses as it was -/
def But3 (a b c : Addr) (H H' : Hp) : Prop := ∀ d o, H d = some o → d ≠ a → d ≠ b → d ≠ c → H' d = some o
theorem HG.oth {cl : Cl} {H H' : Hp} {n : Nat} {x dh dg a1 a2 a3 : Addr} {gs : List (Str × Gp)} {k1 k2 : List (Key × V)} {ys : List V} (L : HG cl H n x dh dg gs) (b : But3 a1 a2 a3 H H')
    (h1 : H a1 = some (.dK k1)) (h2 : H a2 = some (.dK k2)) (h3 : H a3 = some (.lst ys)) (n1 : dg ≠ a1) (n2 : dg ≠ a2) (n3 : dh ≠ a1) (n4 : dh ≠ a2) : HG cl H' n x dh dg gs := by
  have tp : ∀ p xs, H p = some (.tup xs) → H' p = some (.tup xs) := fun p xs h => b _ _ h (ne_of h h1 (fun z => by cases z)) (ne_of h h2 (fun z => by cases z)) (ne_of h h3 (fun z => by cases z))
  obtain ⟨kvs, hd, G⟩ := L.D
  obtain ⟨dx, hx⟩ := L.W.ob
  obtain ⟨kvh, he, Gh⟩ := L.W.dc
  exact ⟨⟨⟨dx, b _ _ hx (ne_of hx h1 (fun z => by cases z)) (ne_of hx h2 (fun z => by cases z)) (ne_of hx h3 (fun z => by cases z))⟩, kvh, b _ _ he n3 n4 (ne_of he h3 (fun z => by cases z)), Gh.keep tp⟩, ⟨kvs, b _ _ hd n1 n2 (ne_of hd h3 (fun z => by cases z)), G.keep tp⟩, L.ne, L.nd, L.wi⟩
theorem HG.but {cl : Cl} {H H' : Hp} {n : Nat} {x dh dg a : Addr} {gs : List (Str × Gp)} {ys : List V} (L : HG cl H n x dh dg gs) (b : But a H H') (h : H a = some (.lst ys)) : HG cl H' n x dh dg gs := by
  have tp : ∀ p xs, H p = some (.tup xs) → H' p = some (.tup xs) := fun p xs g => b _ _ g (ne_of g h (fun z => by cases z))
  obtain ⟨kvs, hd, G⟩ := L.D
  obtain ⟨dx, hx⟩ := L.W.ob
  obtain ⟨kvh, he, Gh⟩ := L.W.dc
  exact ⟨⟨⟨dx, b _ _ hx (ne_of hx h (fun z => by cases z))⟩, kvh, b _ _ he (ne_of he h (fun z => by cases z)), Gh.keep tp⟩, ⟨kvs, b _ _ hd (ne_of hd h (fun z => by cases z)), G.keep tp⟩, L.ne, L.nd, L.wi⟩
theorem BagAt.tup {H H' : Hp} {b p : Addr} {k : Int} {xs : List V} (B : BagAt H b k) (h : But b H H') (e : H p = some (.tup xs)) : H' p = some (.tup xs) := by
  obtain ⟨u, v, g, _, _⟩ := B
  exact h _ _ e (ne_of e g (fun z => by cases z))
/-- schedules to be tried -/
def TriesAt (H : Hp) (n : Nat) (ws : List V) : Prop := ∀ v ∈ ws, ∃ (p : Addr) (ts : List Int), v = .ref p ∧ H p = some (.tup (ts.map V.int)) ∧ ts.length = n
theorem TriesAt.tups {H H' : Hp} {n : Nat} {ws : List V} (k : ∀ p xs, H p = some (.tup xs) → H' p = some (.tup xs)) (h : TriesAt H n ws) : TriesAt H' n ws := fun v hv => by
  obtain ⟨p, ts, e, hp, l⟩ := h v hv
  exact ⟨p, ts, e, k _ _ hp, l⟩
theorem TriesAt.same {H H' : Hp} {n : Nat} {ws : List V} (s : Same H H') (h : TriesAt H n ws) : TriesAt H' n ws := h.tups fun _ _ e => s _ _ e
theorem Walk.first {bs : List Bd} {ps : List Int} {a b c : Int} (w : Walk bs ps a b c) (h : c < 0) : ∃ k ps' m, ps = k :: ps' ∧ 0 ≤ k ∧ bs[k.toNat]? = some m ∧ m.1 = a := by
  cases w with
  | nil => omega
  | cons h0 hm r => exact ⟨_, _, _, rfl, h0, hm, rfl⟩
theorem cut_len {α : Type} (f : α → V) (zs : List α) {k m : Int} (h0 : 0 ≤ k) (h1 : 0 ≤ m) : (cutV (zs.map f) (some k) (some (k + m))).length ≤ m.toNat := by
  obtain ⟨k', rfl⟩ : ∃ k' : Nat, k = (k' : Int) := ⟨k.toNat, by omega⟩
  obtain ⟨m', rfl⟩ : ∃ m' : Nat, m = (m' : Int) := ⟨m.toNat, by omega⟩
  unfold cutV
  rw [List.length_take, show ((k' : Int) + (m' : Int)) = ((k' + m' : Nat) : Int) by omega, HT.sIx_nat, HT.sIx_nat]
  omega
def sp_law_bag (K : PySem.W.Frag) : Sp := fun vs H Q _ => ∃ (a : Addr) (ns : List Int) (k : Int), vs = [.ref a, .int k] ∧ SqL K H a (ns.map V.int) ∧ ns.length ≤ 63 ∧ 0 ≤ k ∧ k ≤ 90 ∧ ∀ r H', Same H H' → H r = none → BagAt H' r 100 → Q (.ref r) H'
def sp_law_many (K : PySem.W.Frag) : Sp := fun vs H Q _ => ∃ (a : Addr) (ns : List Int) (k m : Int), vs = [.ref a, .int k, .int m] ∧ SqL K H a (ns.map V.int) ∧ ns.length ≤ 63 ∧ 0 ≤ k ∧ k ≤ 50 ∧ 0 ≤ m ∧ m ≤ 20 ∧ ∀ z H', Same H H' → 0 ≤ z → z ≤ 20 → Q (.int z) H'
def sp_law_gap_round (_ : PySem.W.Frag) : Sp := fun vs H Q _ => ∃ (b t : Addr) (k l : Int) (ns : List Int), vs = [.ref b, .ref t, .int l] ∧ BagAt H b k ∧ k < 900 ∧ H t = some (.tup (ns.map V.int)) ∧ 0 < ns.length ∧ ns.length ≤ 8 ∧
  ∀ p (g : Gp) H', But b H H' → BagAt H' b (k + 7) → H p = none → H' p = some (.tup (gv g)) → inN g.1 ns.length → inN g.2.1 ns.length → Q (.ref p) H'
def sp_law_deed (_ : PySem.W.Frag) (cl : Cl) : Sp := fun vs H Q _ => ∃ (x dh dg b t : Addr) (k n : Nat) (c : Int) (gs : List (Str × Gp)) (ts : List Int), vs = [.ref x, .ref dg, .ref b, .int (0 + ((k : Nat) : Int)), .ref t] ∧ HG cl H n x dh dg gs ∧ BagAt H b c ∧ c ≤ 800 ∧ H t = some (.tup (ts.map V.int)) ∧ ts.length = n ∧ 1 ≤ n ∧ n ≤ 8 ∧ k < 20 ∧ gs.length ≤ k ∧ NmOk k gs ∧
  ∀ H' gs', HG cl H' n x dh dg gs' → BagAt H' b (c + 12) → But3 dg dh b H H' → gs'.length ≤ k + 1 → NmOk (k + 1) gs' → Q .non H'
def sp_law_walked (_ : PySem.W.Frag) : Sp := fun vs H Q _ => ∃ (l dg : Addr) (a b en : Int) (qs : List V) (kvs : List (Key × V)) (gs : List (Str × Gp)) (ps : List Int), vs = [.ref l, .ref dg, .int a] ∧ H l = some (.lst qs) ∧ AreN H qs (ps.map (nmAt gs)) ∧ H dg = some (.dK kvs) ∧ GapsIn H kvs gs ∧ (gnames gs).Nodup ∧ gs.length ≤ 64 ∧ Walk (allB gs) ps a b en ∧
  ∀ p H', Same H H' → H' p = some (.tup [.int b, .int en]) → Q (.ref p) H'
def sp_law_ring_good (_ : PySem.W.Frag) (cl : Cl) : Sp := fun vs H Q _ => ∃ (x dh dg : Addr) (n : Nat) (gs : List (Str × Gp)), vs = [.ref x, .ref dg] ∧ HG cl H n x dh dg gs ∧ NegR (allB gs) ∧ 1 ≤ n ∧ n ≤ 8 ∧ gs.length ≤ 64 ∧ ∀ H', Same H H' → Q (.bl true) H'
def sp_law_pair_good (_ : PySem.W.Frag) (cl : Cl) : Sp := fun vs H Q _ => ∃ (x dh dg pp rt : Addr) (n : Nat) (gs : List (Str × Gp)) (a b : Int) (o : Option Int) (ws : List V), vs = [.ref x, .ref dg, .ref pp, ov o, .ref rt] ∧ HG cl H n x dh dg gs ∧ H pp = some (.tup [.int a, .int b]) ∧ inN a n ∧ inN b n ∧ (∃ t, Right n (allB gs) t ∧ ent t a b = o) ∧ H rt = some (.lst ws) ∧ TriesAt H n ws ∧ 1 ≤ n ∧ n ≤ 8 ∧ gs.length ≤ 64 ∧ ∀ H', Same H H' → Q (.bl true) H'
def sp_law_idle_good (_ : PySem.W.Frag) (cl : Cl) : Sp := fun vs H Q _ => ∃ (x dh dg b : Addr) (n : Nat) (c : Int) (gs : List (Str × Gp)), vs = [.ref x, .ref dg, .ref b, .int n] ∧ HG cl H n x dh dg gs ∧ BagAt H b c ∧ c ≤ 900 ∧ 0 < gs.length ∧ gs.length ≤ 64 ∧ 1 ≤ n ∧ n ≤ 8 ∧ ∀ H', But b H H' → Q (.bl true) H'
def sp_law_told (_ : PySem.W.Frag) (cl : Cl) : Sp := fun vs H Q _ => ∃ (x dh dg b rt : Addr) (n : Nat) (c : Int) (gs : List (Str × Gp)) (ws : List V), vs = [.ref x, .ref dg, .ref b, .ref rt] ∧ HG cl H n x dh dg gs ∧ BagAt H b c ∧ c ≤ 850 ∧ H rt = some (.lst ws) ∧ rt ≠ b ∧ TriesAt H n ws ∧ 0 < ws.length ∧ gs.length ≤ 64 ∧ 1 ≤ n ∧ n ≤ 8 ∧ ∀ H', But b H H' → Q (.bl true) H'
def sp_law_tries (_ : PySem.W.Frag) : Sp := fun vs H Q _ => ∃ (t b : Addr) (n : Nat) (c : Int) (ts : List Int), vs = [.ref t, .ref b] ∧ H t = some (.tup (ts.map V.int)) ∧ ts.length = n ∧ 1 ≤ n ∧ n ≤ 8 ∧ BagAt H b c ∧ c ≤ 850 ∧ ∀ r ws H', But b H H' → BagAt H' b (c + 2) → H r = none → H' r = some (.lst ws) → TriesAt H' n ws → 0 < ws.length → Q (.ref r) H'
/-- both houses, the law's dicts, the schedules, as they stand behind i deeds -/
structure LW (H0 : Hp) (cl : Cl) (H : Hp) (i n : Nat) (a rs rh rg : Addr) (X DH DG TT : Bool → Addr) (GS : Bool → List (Str × Gp)) (TS : Bool → List Int) : Prop where
  hg : ∀ j, HG cl H n (X j) (DH j) (DG j) (GS j)
  ne : ∀ j, DG j ≠ DG (!j) ∧ DG j ≠ DH (!j) ∧ DH j ≠ DH (!j) ∧ DH j ≠ DG (!j)
  len : ∀ j, (GS j).length ≤ i
  nm : ∀ j, NmOk i (GS j)
  ts : ∀ j, H (TT j) = some (.tup ((TS j).map V.int))
  ln : ∀ j, (TS j).length = n
  rs : H rs = some (.lst [.ref (TT false), .ref (TT true)])
  rh : H rh = some (.lst [.ref (X false), .ref (X true)])
  rg : H rg = some (.lst [.ref (DG false), .ref (DG true)])
  sc : ∀ o, H0 a = some o → H a = some o
  dn : ∀ j, H0 (DG j) = none ∧ H0 (DH j) = none
theorem LW.same {H0 : Hp} {cl : Cl} {H H' : Hp} {i n : Nat} {a rs rh rg : Addr} {X DH DG TT : Bool → Addr} {GS : Bool → List (Str × Gp)} {TS : Bool → List Int} (s : Same H H') (W : LW H0 cl H i n a rs rh rg X DH DG TT GS TS) : LW H0 cl H' i n a rs rh rg X DH DG TT GS TS :=
  ⟨fun j => (W.hg j).same s, W.ne, W.len, W.nm, fun j => s _ _ (W.ts j), W.ln, s _ _ W.rs, s _ _ W.rh, s _ _ W.rg, fun o h => s _ _ (W.sc o h), W.dn⟩
/-- a new bag is no part of it -/
theorem LW.but {H0 : Hp} {cl : Cl} {H H1 H' : Hp} {i n : Nat} {a rs rh rg b : Addr} {X DH DG TT : Bool → Addr} {GS : Bool → List (Str × Gp)} {TS : Bool → List Int} (W : LW H0 cl H i n a rs rh rg X DH DG TT GS TS) (hb : H b = none) (s : Same H H1) {ys : List V} (e : H1 b = some (.lst ys)) (bt : But b H1 H') : LW H0 cl H' i n a rs rh rg X DH DG TT GS TS := by
  have W1 := W.same s
  exact ⟨fun j => (W1.hg j).but bt e, W.ne, W.len, W.nm, fun j => bt _ _ (W1.ts j) (ne_of_none (W.ts j) hb), W.ln, bt _ _ W1.rs (ne_of_none W.rs hb), bt _ _ W1.rh (ne_of_none W.rh hb), bt _ _ W1.rg (ne_of_none W.rg hb), fun o h => bt _ _ (W1.sc o h) (ne_of_none (W.sc o h) hb), W.dn⟩
theorem LW.sq {K : PySem.W.Frag} {H0 : Hp} {cl : Cl} {H : Hp} {i n : Nat} {a rs rh rg : Addr} {X DH DG TT : Bool → Addr} {GS : Bool → List (Str × Gp)} {TS : Bool → List Int} {xs : List V} (W : LW H0 cl H i n a rs rh rg X DH DG TT GS TS) (h : SqL K H0 a xs) : SqL K H a xs := by
  rcases h with (h | ⟨o, h⟩) | h
  · exact .inl (.inl (W.sc _ h))
  · exact .inl (.inr ⟨o, W.sc _ h⟩)
  · exact .inr h
/-- the gaps of the one house become others -/
def setG (GS : Bool → List (Str × Gp)) (j : Bool) (gs : List (Str × Gp)) : Bool → List (Str × Gp) := fun i => if i = j then gs else GS i
theorem LW.deed {H0 : Hp} {cl : Cl} {H H' : Hp} {i n : Nat} {a rs rh rg b : Addr} {X DH DG TT : Bool → Addr} {GS : Bool → List (Str × Gp)} {TS : Bool → List Int} (W : LW H0 cl H i n a rs rh rg X DH DG TT GS TS) {j : Bool} {gs : List (Str × Gp)} {ys : List V} (e : H b = some (.lst ys)) (n1 : rs ≠ b) (n2 : rh ≠ b) (n3 : rg ≠ b) (n4 : ∀ o, H0 a = some o → a ≠ b) (L : HG cl H' n (X j) (DH j) (DG j) gs) (bt : But3 (DG j) (DH j) b H H') (l : gs.length ≤ i + 1) (nm : NmOk (i + 1) gs) : LW H0 cl H' (i + 1) n a rs rh rg X DH DG TT (setG GS j gs) TS := by
  obtain ⟨k1, h1, _⟩ := (W.hg j).D
  obtain ⟨k2, h2, _⟩ := (W.hg j).W.dc
  have tp : ∀ p xs, H p = some (.tup xs) → H' p = some (.tup xs) := fun p xs h => bt _ _ h (ne_of h h1 (fun z => by cases z)) (ne_of h h2 (fun z => by cases z)) (ne_of h e (fun z => by cases z))
  have ls : ∀ p xs, H p = some (.lst xs) → p ≠ b → H' p = some (.lst xs) := fun p xs h nb => bt _ _ h (ne_of h h1 (fun z => by cases z)) (ne_of h h2 (fun z => by cases z)) nb
  have oth : ∀ k, k ≠ j → k = !j := fun k h => by cases k <;> cases j <;> simp at h ⊢
  refine ⟨fun k => ?_, W.ne, fun k => ?_, fun k => ?_, fun k => tp _ _ (W.ts k), W.ln, ls _ _ W.rs n1, ls _ _ W.rh n2, ls _ _ W.rg n3, fun o h => bt _ _ (W.sc o h) (ne_of_none h (W.dn j).1) (ne_of_none h (W.dn j).2) (n4 o h), W.dn⟩
  · unfold setG
    by_cases c : k = j
    · subst c; rw [if_pos rfl]; exact L
    · rw [if_neg c]
      have ek := oth k c
      subst ek
      obtain ⟨m1, m2, m3, m4⟩ := W.ne j
      exact (W.hg (!j)).oth bt h1 h2 e (Ne.symm m1) (Ne.symm m4) (Ne.symm m2) (Ne.symm m3)
  · unfold setG
    by_cases c : k = j
    · rw [if_pos c]; exact l
    · rw [if_neg c]; have := W.len k; omega
  · unfold setG
    by_cases c : k = j
    · rw [if_pos c]; exact nm
    · rw [if_neg c]; exact (W.nm k).mono
theorem two_at (f : Bool → Addr) {w : Int} {j : Bool} (h : w = if j then 1 else 0) : atI [V.ref (f false), V.ref (f true)] w = some (V.ref (f j)) := by
  cases j <;> subst h <;> rfl
/-- lists of texts, each a list of its own -/
def AreT (H : Hp) : List V → List (List Str) → Prop := Paired fun v ns => ∃ p, v = .ref p ∧ H p = some (.lst (ns.map V.str))
theorem AreT.same {H H' : Hp} {vs : List V} {ns : List (List Str)} (s : Same H H') (h : AreT H vs ns) : AreT H' vs ns := Paired.mapP h fun _ _ ⟨p, e, q⟩ => ⟨p, e, s _ _ q⟩
theorem told_strs {K : PySem.W.Frag} {H : Hp} : ∀ ns : List Str, Paired (Told K H 0) (ns.map V.str) (ns.map Dt.str)
  | [] => .nil
  | _ :: ns => .cons rfl (told_strs ns)
theorem told_lists {K : PySem.W.Frag} {H : Hp} : ∀ {vs : List V} {ns : List (List Str)}, AreT H vs ns → Paired (Told K H 1) vs (ns.map fun n => Dt.lst (n.map Dt.str))
  | _, _, .nil => .nil
  | _, _, .cons ⟨p, e, h⟩ r => .cons (by rw [e]; exact ⟨_, SqL.of h, told_strs _⟩) (told_lists r)
section
variable {P : Program} {w : World} {K : PySem.W.Frag} {mg : Str → Option Value} {base : Heap} {cl : Cl}
seal L2.PSs L2.PS L2.PE L2.PA L2.PT L2.PI L2.PG L2.PGs L2.PTs L2.PW L2.PC L2.PO
theorem sc_bounds_of : FnScope ["gap", "a", "b", "low", "high", "found"] ["gap"] (defScope s_bounds_of) := ⟨rfl, rfl, rfl, by decide +kernel, rfl, by decide +kernel, by decide +kernel⟩
theorem ok_bounds_of {f : Addr} {fd : FuncData} (F : Fun K "bounds_of" "bounds_of" s_bounds_of f fd) (T : Txt K mg cl)  : FnOk P w K mg base CX0 1 f fd ["gap"] (sp_bounds_of K) := by
  refine F.ok sc_bounds_of (fun vs H Q E h => ?_) (fun cdv A outer s H vs Q E hr h => ?_)
  · obtain ⟨u, a, b, low, high, rfl, hB, q⟩ := h
    rfl
  · obtain ⟨u, a, b, low, high, rfl, hB, q⟩ := h
    refine ⟨_, (pss_cons (ps_set (i := 1) sc_bounds_of.nd rfl (Or.inl rfl) (pe_ix ix_tup (pv 0) pe_int (fun _ _ => rfl)))
      (pss_cons (ps_set (i := 2) sc_bounds_of.nd rfl (Or.inl rfl) (pe_ix ix_tup (pv 0) pe_int (fun _ _ => rfl)))
      (pss_cons (ps_set (i := 3) sc_bounds_of.nd rfl (Or.inl rfl) (pe_ix ix_tup (pv 0) pe_int (fun _ _ => rfl)))
      (pss_cons (ps_set (i := 4) sc_bounds_of.nd rfl (Or.inl rfl) (pe_ix ix_tup (pv 0) pe_int (fun _ _ => rfl)))
      (pss_cons (ps_set (i := 5) sc_bounds_of.nd rfl (Or.inl rfl) (pe_lst pa_nil))
      (pss_cons (ps_if (pt_cmpR op_notN (pv 4) pe_non (nomark _))
      (pss_one (ps_expr (pe_bm PySem.F.plainAttrs_list PySem.F.slot_list_append PySem.F.type_list_append mt_append (pv 5) (pa_cons (pe_tup (pa_cons (pv 1) (pa_cons (pv 2) (pa_cons (pv 4) pa_nil)))) pa_nil))))
      pss_nil)
      (pss_cons (ps_if (pt_cmpR op_notN (pv 3) pe_non (nomark _))
      (pss_one (ps_expr (pe_bm PySem.F.plainAttrs_list PySem.F.slot_list_append PySem.F.type_list_append mt_append (pv 5) (pa_cons (pe_tup (pa_cons (pv 2) (pa_cons (pv 1) (pa_cons (pe_un un_neg (pv 3)) pa_nil)))) pa_nil))))
      pss_nil)
      (pss_one (ps_ret (pv 5)))))))))), ?_⟩
    refine ⟨_, rfl, u, _, 0, _, rfl, rfl, hB, rfl, _, rfl, u, _, 1, _, rfl, rfl, hB, rfl, _, rfl, u, _, 2, _, rfl, rfl, hB, rfl, _, rfl, u, _, 3, _, rfl, rfl, hB, rfl, (by show 0 ≤ sizeLine; decide), fun r hr0 => ?_⟩
    have s0 := same_new hr0 (.lst [])
    have e0 : (upd H r (.lst [])) r = some (.lst []) := upd_same
    generalize upd H r (.lst []) = H1 at s0 e0
    have a0 : AreB H1 [] [] := .nil
    cases high with
    | none =>
      refine ⟨_, rfl, rfl, _, rfl, iteF ?_⟩
      cases low with
      | none => exact ⟨_, rfl, rfl, _, rfl, iteF ⟨_, rfl, q r _ [] hr0 s0 e0 a0⟩⟩
      | some l =>
        refine ⟨_, rfl, rfl, _, rfl, iteT ⟨_, rfl, .inl ⟨rfl, _, SqL.of e0⟩, _, rfl, _, rfl, _, rfl, _, rfl, (by show 3 ≤ sizeLine; decide), fun p hp => ⟨r, [], _, rfl, rfl, same_new hp _ _ _ e0, (by show 0 < sizeLine; decide), _, rfl, ?_⟩⟩⟩
        exact q r _ _ hr0 (app_same hr0 s0 hp) upd_same (a0.app (m := (b, a, -l)) e0 hp)
    | some h =>
      refine ⟨_, rfl, rfl, _, rfl, iteT ⟨_, rfl, .inl ⟨rfl, _, SqL.of e0⟩, _, rfl, _, rfl, _, rfl, (by show 3 ≤ sizeLine; decide), fun p hp => ⟨r, [], _, rfl, rfl, same_new hp _ _ _ e0, (by show 0 < sizeLine; decide), ?_⟩⟩⟩
      have s1 := app_same (o := .tup (bv (a, b, h))) (u := .lst ([] ++ [.ref p])) hr0 s0 hp
      have e1 : (upd (upd H1 p (.tup (bv (a, b, h)))) r (.lst ([] ++ [.ref p]))) r = some (.lst [.ref p]) := upd_same
      have a1 : AreB (upd (upd H1 p (.tup (bv (a, b, h)))) r (.lst ([] ++ [.ref p]))) [.ref p] [(a, b, h)] := a0.app (m := (a, b, h)) e0 hp
      cases low with
      | none => exact ⟨_, rfl, rfl, _, rfl, iteF ⟨_, rfl, q r _ _ hr0 s1 e1 a1⟩⟩
      | some l =>
        refine ⟨_, rfl, rfl, _, rfl, iteT ⟨_, rfl, .inl ⟨rfl, _, SqL.of e1⟩, _, rfl, _, rfl, _, rfl, _, rfl, (by show 3 ≤ sizeLine; decide), fun p2 hp2 => ⟨r, _, _, rfl, rfl, same_new hp2 _ _ _ e1, (by show 1 < sizeLine; decide), _, rfl, ?_⟩⟩⟩
        exact q r _ _ hr0 (app_same hr0 s1 hp2) upd_same (a1.app (m := (b, a, -l)) e1 hp2)
theorem sc_wide_row : FnScope ["count", "a"] ["count", "a"] (defScope s_wide_row) := ⟨rfl, rfl, rfl, by decide +kernel, rfl, by decide +kernel, by decide +kernel⟩
theorem ok_wide_row {f : Addr} {fd : FuncData} (F : Fun K "wide_row" "wide_row" s_wide_row f fd) (T : Txt K mg cl)  : FnOk P w K mg base CX0 1 f fd ["count", "a"] (sp_wide_row K) := by
  refine F.ok sc_wide_row (fun vs H Q E h => ?_) (fun cdv A outer s H vs Q E hr h => ?_)
  · obtain ⟨n, a, rfl, hn, q⟩ := h
    rfl
  · obtain ⟨n, a, rfl, hn, q⟩ := h
    refine ⟨_, (pss_one (ps_ret (pe_compS ["a"] [1] rfl (pi_range1 rfl T.z_range (pa_cons (pv 0) pa_nil)) (fun _ _ _ => pts_nil) (fun _ _ _ => (pe_ifExp (pt_cmpR op_eq (pv 1) (pv 0) (nomark _)) pe_int pe_non)) (hk := by kernel_rfl)))), ?_⟩
    refine ⟨_, rfl, (n : Int), rfl, by omega, by omega, comp_vals (n := ((n : Nat) : Int).toNat) (fun j => ov (if a = (j : Int) then some (0 : Int) else none)) (small (by omega)) ?_ ?_⟩
    · intro i hi R kR
      refine ⟨_, rfl, _, rfl, rfl, _, rfl, ?_⟩
      refine ite2 (fun c => ?_) (fun c => ?_)
      · have c' := of_decide_eq_true c
        have e : a = (i : Int) := by have := V.int.inj c'; omega
        rw [if_pos e] at kR
        exact kR
      · have c' := of_decide_eq_false (Bool.eq_false_iff.mpr c)
        have e : ¬ a = (i : Int) := fun e => c' (by rw [e, Int.zero_add])
        rw [if_neg e] at kR
        exact kR
    · intro p hp
      have := q p hp
      rw [List.map_map] at this
      rw [Int.toNat_natCast]
      exact this
theorem sc_shuts : FnScope ["bound", "table", "back"] ["bound", "table"] (defScope s_shuts) := ⟨rfl, rfl, rfl, by decide +kernel, rfl, by decide +kernel, by decide +kernel⟩
theorem ok_shuts {f : Addr} {fd : FuncData} (F : Fun K "shuts" "shuts" s_shuts f fd) (T : Txt K mg cl)  : FnOk P w K mg base CX0 1 f fd ["bound", "table"] (sp_shuts K) := by
  refine F.ok sc_shuts (fun vs H Q E h => ?_) (fun cdv A outer s H vs Q E hr h => ?_)
  · obtain ⟨u, p, m, rs, t, n, rfl, hB, hT, hS, h1, h2, q⟩ := h
    rfl
  · obtain ⟨u, p, m, rs, t, n, rfl, hB, hT, hS, h1, h2, q⟩ := h
    refine ⟨_, (pss_cons (ps_set (i := 2) sc_shuts.nd rfl (Or.inl rfl) (pe_ix ix_list (pe_ix ix_list (pv 1) (pe_ix ix_tup (pv 0) pe_int (fun _ _ => rfl)) (fun _ _ => rfl)) (pe_ix ix_tup (pv 0) pe_int (fun _ _ => rfl)) (fun _ _ => rfl)))
      (pss_one (ps_ret (pe_and (pe_cmpR op_notN (pv 2) pe_non (nomark _)) (pe_one (pe_cmpR op_lt (pe_op op_add (pv 2) (pe_ix ix_tup (pv 0) pe_int (fun _ _ => rfl))) pe_int (nomark _))))))), ?_⟩
    obtain ⟨r, row, g1, g2, g3⟩ := hT.at hS h2 h1
    refine ⟨_, rfl, _, rfl, u, _, 1, _, rfl, rfl, hB, rfl, p, _, _, _, rfl, rfl, SqL.of hT.ob, g1, _, rfl, u, _, 0, _, rfl, rfl, hB, rfl, r, _, _, _, rfl, rfl, SqL.of g2, g3, ?_⟩
    refine ⟨_, rfl, rfl, _, rfl, ?_⟩
    unfold shutB at q
    cases e : ent t m.2.1 m.1 with
    | none => rw [e] at q; exact iteF q
    | some z =>
      rw [e] at q
      exact iteT ⟨_, rfl, _, rfl, u, _, 2, _, rfl, rfl, hB, rfl, _, _, rfl, rfl, _, _, rfl, rfl, q⟩
theorem sc_total : FnScope ["one", "other"] ["one", "other"] (defScope s_total) := ⟨rfl, rfl, rfl, by decide +kernel, rfl, by decide +kernel, by decide +kernel⟩
theorem ok_total {f : Addr} {fd : FuncData} (F : Fun K "total" "total" s_total f fd) (T : Txt K mg cl)  : FnOk P w K mg base CX0 1 f fd ["one", "other"] (sp_total K) := by
  refine F.ok sc_total (fun vs H Q E h => ?_) (fun cdv A outer s H vs Q E hr h => ?_)
  · obtain ⟨x, y, rfl, q⟩ := h
    rfl
  · obtain ⟨x, y, rfl, q⟩ := h
    refine ⟨_, (pss_cons (ps_if (PW.pt (pw_or (pt_cmpR op_isN (pv 0) pe_non (nomark _)) (pw_or1 (pt_cmpR op_isN (pv 1) pe_non (nomark _)))))
      (pss_one (ps_ret pe_non))
      pss_nil)
      (pss_one (ps_ret (pe_op op_add (pv 0) (pv 1))))), ?_⟩
    refine ⟨_, rfl, rfl, _, rfl, ?_⟩
    cases x with
    | none => exact iteT (iteT q)
    | some x =>
      refine iteF ⟨_, rfl, rfl, _, rfl, ?_⟩
      cases y with
      | none => exact iteT q
      | some y => exact iteF ⟨_, rfl, _, rfl, _, _, rfl, rfl, q⟩
theorem sc_lesser : FnScope ["one", "other"] ["one", "other"] (defScope s_lesser) := ⟨rfl, rfl, rfl, by decide +kernel, rfl, by decide +kernel, by decide +kernel⟩
theorem ok_lesser {f : Addr} {fd : FuncData} (F : Fun K "lesser" "lesser" s_lesser f fd) (T : Txt K mg cl)  : FnOk P w K mg base CX0 1 f fd ["one", "other"] (sp_lesser K) := by
  refine F.ok sc_lesser (fun vs H Q E h => ?_) (fun cdv A outer s H vs Q E hr h => ?_)
  · obtain ⟨x, y, rfl, q⟩ := h
    rfl
  · obtain ⟨x, y, rfl, q⟩ := h
    refine ⟨_, (pss_cons (ps_if (pt_cmpR op_isN (pv 0) pe_non (nomark _))
      (pss_one (ps_ret (pv 1)))
      pss_nil)
      (pss_cons (ps_if (pt_cmpR op_isN (pv 1) pe_non (nomark _))
      (pss_one (ps_ret (pv 0)))
      pss_nil)
      (pss_one (ps_ret (pe_callB (call_min2 rfl) rfl T.z_min boot_min (pa_cons (pv 0) (pa_cons (pv 1) pa_nil))))))), ?_⟩
    refine ⟨_, rfl, rfl, _, rfl, ?_⟩
    cases x with
    | none => exact iteT ⟨_, rfl, q⟩
    | some x =>
      refine iteF ⟨_, rfl, rfl, _, rfl, ?_⟩
      cases y with
      | none => exact iteT ⟨_, rfl, q⟩
      | some y => exact iteF ⟨_, rfl, _, rfl, x, y, rfl, q⟩
theorem sc_first_ways : FnScope ["row"] ["row"] (defScope s_first_ways) := ⟨rfl, rfl, rfl, by decide +kernel, rfl, by decide +kernel, by decide +kernel⟩
theorem ok_first_ways {f : Addr} {fd : FuncData} (F : Fun K "first_ways" "first_ways" s_first_ways f fd) (T : Txt K mg cl)  : FnOk P w K mg base CX0 1 f fd ["row"] (sp_first_ways K) := by
  refine F.ok sc_first_ways (fun vs H Q E h => ?_) (fun cdv A outer s H vs Q E hr h => ?_)
  · obtain ⟨r, row, rfl, hr', hn, q⟩ := h
    rfl
  · obtain ⟨r, row, rfl, hr', hn, q⟩ := h
    refine ⟨_, (pss_one (ps_ret (pe_compS [] [] rfl (pi_list (pv 0)) (fun _ _ _ => pts_nil) (fun _ _ _ => (pe_ifExp (pt_cmpR op_isN (pv 0) pe_non (nomark _)) pe_non (pe_lst pa_nil))) (hk := by kernel_rfl)))), ?_⟩
    refine ⟨_, rfl, r, rfl, ⟨_, SqL.of hr'⟩, comp_list (K := K) (a := r) (xs := row.map ov) (fun i acc H1 => i ≤ row.length ∧ Same H H1 ∧ Paired (WayV H H1) acc ((row.take i).map fun o => o.map fun _ => [])) (by rw [List.length_map]; exact small (by omega)) ⟨Nat.zero_le _, same_refl _, .nil⟩
      (fun i acc H1 ⟨hi, _, w⟩ => by rw [Paired.length w, List.length_map, List.length_take]; omega) (fun i acc H1 ⟨_, s, _⟩ => SqL.of (s _ _ hr')) ?_ ?_⟩
    · rintro i acc H1 x hx ⟨hi, s1, w⟩ R kR
      rw [List.getElem?_map] at hx
      cases e : row[i]? with
      | none => rw [e] at hx; cases hx
      | some o =>
        rw [e] at hx
        have ex : x = ov o := (Option.some.inj hx).symm
        subst ex
        have hlt := (List.getElem?_eq_some_iff.mp e).1
        have tk : (row.take (i + 1)).map (fun o => o.map fun _ => ([] : List Int)) = (row.take i).map (fun o => o.map fun _ => []) ++ [o.map fun _ => []] := by rw [List.take_add_one, e, List.map_append]; rfl
        refine ⟨_, rfl, rfl, _, rfl, ?_⟩
        cases o with
        | none => exact iteT (kR _ _ ⟨hlt, s1, by rw [tk]; exact Paired.snoc w rfl⟩)
        | some z =>
          refine iteF ⟨(by show 0 ≤ sizeLine; decide), fun l hl => kR _ _ ⟨hlt, s1.trans (same_new hl _), ?_⟩⟩
          rw [tk]
          exact Paired.snoc (Paired.mapP w fun _ _ q => q.same (same_new hl _)) ⟨l, rfl, upd_same, none_of s1 hl⟩
    · rintro acc H1 ⟨hi, s1, w⟩ p hp
      rw [List.length_map, List.take_length] at w
      exact q p _ (s1.trans (same_new hp _)) ⟨acc, upd_same, Paired.mapP w fun _ _ q => q.same (same_new hp _)⟩
theorem sc_narrowed : FnScope ["row", "other"] ["row", "other"] (defScope s_narrowed) := ⟨rfl, rfl, rfl, by decide +kernel, rfl, by decide +kernel, by decide +kernel⟩
theorem ok_narrowed {f : Addr} {fd : FuncData} (F : Fun K "narrowed" "narrowed" s_narrowed f fd) (T : Txt K mg cl)  : FnOk P w K mg base CX0 1 f fd ["row", "other"] (sp_narrowed K) := by
  refine F.ok sc_narrowed (fun vs H Q E h => ?_) (fun cdv A outer s H vs Q E hr h => ?_)
  · obtain ⟨r1, r2, row1, row2, n, rfl, h1, h2, l1, l2, hn, q⟩ := h
    rfl
  · obtain ⟨r1, r2, row1, row2, n, rfl, h1, h2, l1, l2, hn, q⟩ := h
    refine ⟨_, (pss_one (ps_ret (pe_compS ["row", "other"] [0, 1] rfl (pi_range1 rfl T.z_range (pa_cons (pe_callB call_len_seq rfl T.z_len PySem.boot_len (pa_cons (pv 0) pa_nil)) pa_nil)) (fun _ _ _ => pts_nil) (fun _ _ _ => (pe_cmpR op_ne (pe_ix (ix_listK (K := K) rfl) (pv 1) (pv 0) (fun _ _ => rfl)) (pe_ix (ix_listK (K := K) rfl) (pv 2) (pv 0) (fun _ _ => rfl)) (nomark _))) (hk := by kernel_rfl)))), ?_⟩
    refine ⟨_, rfl, r1, _, rfl, .inl (SqL.of h1), ((n : Nat) : Int), by rw [List.length_map, l1], by omega, by omega, comp_vals (n := ((n : Nat) : Int).toNat) (fun j => V.bl (!decide (row1.getD j none = row2.getD j none))) (small (by omega)) ?_ (fun p hp => by have := q p hp; rw [Int.toNat_natCast]; exact this)⟩
    intro i hi R kR
    have a1 := at_ovW (os := row1) (x := 0 + (i : Int)) (by omega) (by omega)
    have a2 := at_ovW (os := row2) (x := 0 + (i : Int)) (by omega) (by omega)
    refine ⟨_, rfl, _, rfl, r1, _, _, _, rfl, rfl, SqL.of h1, a1, _, rfl, _, rfl, r2, _, _, _, rfl, rfl, SqL.of h2, a2, scal_ov _ _, ?_⟩
    have e : (0 + (i : Int)).toNat = i := by omega
    rw [e, decide_eq_decide.mpr ov_inj]
    exact kR
theorem sc_by_way : FnScope ["ways", "a", "b", "bound", "place"] ["ways", "a", "b", "bound", "place"] (defScope s_by_way) := ⟨rfl, rfl, rfl, by decide +kernel, rfl, by decide +kernel, by decide +kernel⟩
theorem ok_by_way {f : Addr} {fd : FuncData} (F : Fun K "by_way" "by_way" s_by_way f fd) (T : Txt K mg cl)  : FnOk P w K mg base CX0 1 f fd ["ways", "a", "b", "bound", "place"] (sp_by_way K) := by
  refine F.ok sc_by_way (fun vs H Q E h => ?_) (fun cdv A outer s H vs Q E hr h => ?_)
  · obtain ⟨H0, p, u, w, n, m, a, b, k, ps, qs, rfl, hW, hS, hu, ha, hb, m1, m2, e1, e2, l1, l2, q⟩ := h
    rfl
  · obtain ⟨H0, p, u, w, n, m, a, b, k, ps, qs, rfl, hW, hS, hu, ha, hb, m1, m2, e1, e2, l1, l2, q⟩ := h
    refine ⟨_, (pss_one (ps_ret (pe_op op_cat (pe_op op_cat (pe_ix ix_list (pe_ix ix_list (pv 0) (pv 1) (fun _ _ => rfl)) (pe_ix ix_tup (pv 3) pe_int (fun _ _ => rfl)) (fun _ _ => rfl)) (pe_lst (pa_cons (pv 4) pa_nil))) (pe_ix ix_list (pe_ix ix_list (pv 0) (pe_ix ix_tup (pv 3) pe_int (fun _ _ => rfl)) (fun _ _ => rfl)) (pv 2) (fun _ _ => rfl))))), ?_⟩
    obtain ⟨rs, r, vs, v, g1, g2, g3, g4, g5⟩ := hW.at hS ha m1
    rw [e1] at g5
    obtain ⟨la, rfl, g6, _⟩ := g5
    refine ⟨_, rfl, _, rfl, p, _, _, _, rfl, rfl, SqL.of g1, g2, _, rfl, u, _, 0, _, rfl, rfl, SqT.of hu, rfl, r, _, _, _, rfl, rfl, SqL.of g3, g4, _, rfl, (by show 1 ≤ sizeLine; decide), fun l hl => ?_⟩
    have s1 := same_new hl (.lst [.int k])
    have f1 : (upd H l (.lst [.int k])) l = some (.lst [.int k]) := upd_same
    generalize upd H l (.lst [.int k]) = H1 at s1 f1 ⊢
    refine ⟨la, l, _, _, rfl, rfl, s1 _ _ g6, f1, small (by rw [List.length_map]; show _ + 1 ≤ 1000; omega), fun l' hl' => ?_⟩
    have s2 := same_new hl' (.lst (ps.map V.int ++ [.int k]))
    have f2 : (upd H1 l' (.lst (ps.map V.int ++ [.int k]))) l' = some (.lst (ps.map V.int ++ [.int k])) := upd_same
    generalize upd H1 l' (.lst (ps.map V.int ++ [.int k])) = H2 at s2 f2 ⊢
    have s12 := s1.trans s2
    obtain ⟨rs', r', vs', v', k1, k2, k3, k4, k5⟩ := (hW.same s12).at hS m2 hb
    rw [e2] at k5
    obtain ⟨lb, rfl, k6, _⟩ := k5
    refine ⟨_, rfl, _, rfl, u, _, 1, _, rfl, rfl, SqT.of (s12 _ _ hu), rfl, p, _, _, _, rfl, rfl, SqL.of k1, k2, _, rfl, r', _, _, _, rfl, rfl, SqL.of k3, k4, l', lb, _, _, rfl, rfl, f2, k6, small (by simp; omega), fun l'' hl'' => ?_⟩
    exact q l'' _ (s12.trans (same_new hl'' _)) (none_of s12 hl'') (by rw [upd_same]; simp)
theorem sc_all_bounds : FnScope ["gaps", "found", "gap"] ["gaps"] (defScope s_all_bounds) := ⟨rfl, rfl, rfl, by decide +kernel, rfl, by decide +kernel, by decide +kernel⟩
theorem ok_all_bounds {f : Addr} {fd : FuncData} (F : Fun K "all_bounds" "all_bounds" s_all_bounds f fd) (T : Txt K mg cl) (C_bounds_of : Cal P w K mg base 1 "bounds_of" ["gap"] (sp_bounds_of K)) : FnOk P w K mg base CX0 2 f fd ["gaps"] (sp_all_bounds K) := by
  refine F.ok sc_all_bounds (fun vs H Q E h => ?_) (fun cdv A outer s H vs Q E hr h => ?_)
  · obtain ⟨d, kvs, gs, rfl, hd, G, hl, q⟩ := h
    rfl
  · obtain ⟨d, kvs, gs, rfl, hd, G, hl, q⟩ := h
    refine ⟨_, (pss_cons (ps_set (i := 1) sc_all_bounds.nd rfl (Or.inl rfl) (pe_lst pa_nil))
      (pss_cons (ps_forD PassesOwn.never rfl (pi_values (pv 0)) (pg_name (i := 2) sc_all_bounds.nd rfl (Or.inl rfl))
      (pss_one (ps_expr (pe_bm PySem.F.plainAttrs_list PySem.F.slot_list_extend PySem.F.type_list_extend mt_extend (pv 1) (pa_cons (pec C_bounds_of (hr.mono (by decide)) rfl (pa_cons (pv 2) pa_nil)) pa_nil)))))
      (pss_one (ps_ret (pv 1))))), ?_⟩
    have len := G.len
    refine ⟨(by show 0 ≤ sizeLine; decide), fun r hr0 => ?_⟩
    have s1 := same_new hr0 (.lst [])
    have e1 : (upd H r (.lst [])) r = some (.lst []) := upd_same
    generalize upd H r (.lst []) = H1 at s1 e1 ⊢
    have nr : r ≠ d := Ne.symm (ne_of_none hd hr0)
    have hd1 := s1 _ _ hd
    intro NF
    refine ⟨_, rfl, d, kvs, rfl, hd1, fun ob nf => for_dict (NF := NF) (a := d) (ob := ob) (kvs := kvs) (fun i σ H2 => Same (upd H d (.frz ob (.dK kvs))) H2 ∧ (∃ u3, σ = [some (.ref d), some (.ref r), u3]) ∧ ∃ qs, H2 r = some (.lst qs) ∧ AreB H2 qs (allB (gs.take i))) ?_ ?_ ?_ ?_⟩
    · refine ⟨fun b o e => ?_, ⟨_, rfl⟩, [], by rw [upd_ne nr]; exact e1, .nil⟩
      by_cases c : b = d
      · subst c; rw [upd_same] at e ⊢; exact e
      · rw [upd_ne c] at e ⊢; exact s1 _ _ e
    · rintro i σ H2 _ ⟨s2, _⟩
      exact s2 _ _ upd_same
    · rintro i k v σ H2 hi ⟨s2, ⟨u3, rfl⟩, qs, e2, A2⟩
      obtain ⟨g, hg, _, p, hv, hp⟩ := paired_get G hi
      have hv : v = .ref p := hv
      subst hv
      have hp2 : H2 p = some (.tup (gv g.2)) := s2 _ _ (by rw [upd_ne (ne_of hp hd (fun z => by cases z))]; exact hp)
      have hlt : i < gs.length := (List.getElem?_eq_some_iff.mp hg).1
      have l1 := A2.len
      have l2 := allB_len (gs.take i)
      have l3 := gbs_len g.2
      rw [List.length_take] at l2
      refine ⟨_, rfl, .inl ⟨rfl, _, SqL.of e2⟩, _, rfl, p, g.2.1, g.2.2.1, g.2.2.2.1, g.2.2.2.2, rfl, SqT.of hp2, fun r3 H3 qs3 hr3 s3 e3 A3 => ?_⟩
      have l4 := A3.len
      have e3' := s3 _ _ e2
      have l5 : (bnds g.2.1 g.2.2.1 g.2.2.2.1 g.2.2.2.2).length ≤ 2 := l3
      refine ⟨r, r3, qs, qs3, rfl, rfl, e3', e3, small (by omega), ?_⟩
      refine ⟨fun b o e => ?_, ⟨_, rfl⟩, _, upd_same, ?_⟩
      · have nb : b ≠ r := fun z => by
          subst z
          rw [upd_ne nr, hr0] at e; cases e
        rw [upd_ne nb]; exact s3 _ _ (s2 _ _ e)
      · rw [allB_take hg]
        exact AreB.tups (AreB.append (A2.same s3) A3) fun c xs e => by rw [upd_ne (ne_of e e3' (fun z => by cases z))]; exact e
    · rintro σ H2 ⟨s2, ⟨u3, rfl⟩, qs, e2, A2⟩
      rw [len, List.take_length] at A2
      have hf := s2 d _ upd_same
      refine ⟨d, ob, kvs, nf, hf, _, rfl, q r _ qs hr0 (fun b o e => ?_) (by rw [upd_ne nr]; exact e2) (A2.tups fun c xs e => by rw [upd_ne (ne_of e hf (fun z => by cases z))]; exact e)⟩
      by_cases c : b = d
      · subst c; rw [upd_same, ← hd]; exact e
      · rw [upd_ne c]; exact s2 _ _ (by rw [upd_ne c]; exact e)
theorem sc_ends_of : FnScope ["gap", "ends"] ["gap"] (defScope s_ends_of) := ⟨rfl, rfl, rfl, by decide +kernel, rfl, by decide +kernel, by decide +kernel⟩
theorem ok_ends_of {f : Addr} {fd : FuncData} (F : Fun K "ends_of" "ends_of" s_ends_of f fd) (T : Txt K mg cl)  : FnOk P w K mg base CX0 1 f fd ["gap"] (sp_ends_of K) := by
  refine F.ok sc_ends_of (fun vs H Q E h => ?_) (fun cdv A outer s H vs Q E hr h => ?_)
  · obtain ⟨u, ⟨a, b, lo, hi⟩, rfl, hB, q⟩ := h
    rfl
  · obtain ⟨u, ⟨a, b, lo, hi⟩, rfl, hB, q⟩ := h
    refine ⟨_, (pss_cons (ps_set (i := 1) sc_ends_of.nd rfl (Or.inl rfl) (pe_lst pa_nil))
      (pss_cons (ps_if (pt_cmpR op_notN (pe_ix ix_tup (pv 0) pe_int (fun _ _ => rfl)) pe_non (nomark _))
      (pss_one (ps_expr (pe_bm PySem.F.plainAttrs_list PySem.F.slot_list_append PySem.F.type_list_append mt_append (pv 1) (pa_cons pe_str pa_nil))))
      pss_nil)
      (pss_cons (ps_if (pt_cmpR op_notN (pe_ix ix_tup (pv 0) pe_int (fun _ _ => rfl)) pe_non (nomark _))
      (pss_one (ps_expr (pe_bm PySem.F.plainAttrs_list PySem.F.slot_list_append PySem.F.type_list_append mt_append (pv 1) (pa_cons pe_str pa_nil))))
      pss_nil)
      (pss_one (ps_ret (pv 1)))))), ?_⟩
    refine ⟨(by show 0 ≤ sizeLine; decide), fun r hr0 => ?_⟩
    have s0 := same_new hr0 (.lst [])
    have e0 : (upd H r (.lst [])) r = some (.lst []) := upd_same
    generalize upd H r (.lst []) = H1 at s0 e0 ⊢
    have hB1 := s0.seqT hB
    have put : ∀ (H2 : Hp) (xs : List V), Same H H2 → Same H (upd H2 r (.lst xs)) := fun H2 xs s b o h => by rw [upd_ne (ne_of_none h hr0)]; exact s _ _ h
    cases hi with
    | none =>
      refine ⟨_, rfl, u, _, 3, _, rfl, rfl, hB1, rfl, rfl, _, rfl, iteF ?_⟩
      cases lo with
      | none => exact ⟨_, rfl, u, _, 2, _, rfl, rfl, hB1, rfl, rfl, _, rfl, iteF ⟨_, rfl, q r H1 hr0 s0 e0⟩⟩
      | some l => exact ⟨_, rfl, u, _, 2, _, rfl, rfl, hB1, rfl, rfl, _, rfl, iteT ⟨_, rfl, .inl ⟨rfl, _, SqL.of e0⟩, r, _, _, rfl, rfl, e0, (by show 0 < sizeLine; decide), _, rfl, q r _ hr0 (put _ _ s0) upd_same⟩⟩
    | some h =>
      refine ⟨_, rfl, u, _, 3, _, rfl, rfl, hB1, rfl, rfl, _, rfl, iteT ⟨_, rfl, .inl ⟨rfl, _, SqL.of e0⟩, r, _, _, rfl, rfl, e0, (by show 0 < sizeLine; decide), ?_⟩⟩
      have s2 := put H1 [.str "high"] s0
      have e2 : (upd H1 r (.lst ([] ++ [.str "high"]))) r = some (.lst [.str "high"]) := upd_same
      have hB2 := s2.seqT hB
      cases lo with
      | none => exact ⟨_, rfl, u, _, 2, _, rfl, rfl, hB2, rfl, rfl, _, rfl, iteF ⟨_, rfl, q r _ hr0 s2 e2⟩⟩
      | some l => exact ⟨_, rfl, u, _, 2, _, rfl, rfl, hB2, rfl, rfl, _, rfl, iteT ⟨_, rfl, .inl ⟨rfl, _, SqL.of e2⟩, r, _, _, rfl, rfl, e2, (by show 1 < sizeLine; decide), _, rfl, q r _ hr0 (put _ _ s2) upd_same⟩⟩
theorem sc_law_cell : FnScope ["_law_script", "_law_k", "_law_seed", "_law_some"] ["_law_script", "_law_k"] (defScope s_law_cell) := ⟨rfl, rfl, rfl, by decide +kernel, rfl, by decide +kernel, by decide +kernel⟩
theorem ok_law_cell {f : Addr} {fd : FuncData} (F : Fun K "_law_cell" "_law_cell" s_law_cell f fd) (T : Txt K mg cl)  : FnOk P w K mg base CX0 1 f fd ["_law_script", "_law_k"] (sp_law_cell K) := by
  refine F.ok sc_law_cell (fun vs H Q E h => ?_) (fun cdv A outer s H vs Q E hr h => ?_)
  · obtain ⟨a, ns, k, rfl, hS, h63, h0, h1, q⟩ := h
    rfl
  · obtain ⟨a, ns, k, rfl, hS, h63, h0, h1, q⟩ := h
    refine ⟨_, (pss_cons (ps_if (pt_cmpR op_lt (pv 1) (pe_callB call_len_seq rfl T.z_len PySem.boot_len (pa_cons (pv 0) pa_nil)) (nomark _))
      (pss_one (ps_ret (pe_ix ix_list (pv 0) (pv 1) (fun _ _ => rfl))))
      pss_nil)
      (pss_cons (ps_set (i := 2) sc_law_cell.nd rfl (Or.inl rfl) (pe_op op_mul (pv 1) pe_int))
      (pss_cons (ps_if (pt_cmpR op_gt (pe_callB call_len_seq rfl T.z_len PySem.boot_len (pa_cons (pv 0) pa_nil)) pe_int (nomark _))
      (pss_one (ps_set (i := 2) sc_law_cell.nd rfl (Or.inl rfl) (pe_op op_add (pv 2) (pe_op op_mod (pe_ix ix_list (pv 0) (pe_op op_mod (pv 1) (pe_callB call_len_seq rfl T.z_len PySem.boot_len (pa_cons (pv 0) pa_nil))) (fun _ _ => rfl)) pe_int))))
      pss_nil)
      (pss_cons (ps_set (i := 3) sc_law_cell.nd rfl (Or.inl rfl) (pe_op op_mod (pe_op op_mul (pv 2) pe_int) pe_int))
      (pss_one (ps_ret (pe_op op_mod (pe_op op_fdiv (pe_op op_mul (pv 3) (pe_op op_add (pe_op op_add (pv 3) (pe_op op_mul pe_int (pv 1))) pe_int)) pe_int) pe_int))))))), ?_⟩
    have hl : (ns.map V.int).length = ns.length := List.length_map _
    refine ⟨_, rfl, _, rfl, a, _, rfl, .inl hS, _, _, rfl, rfl, _, rfl, ?_⟩
    refine ite2 (fun c => ?_) (fun c => ?_)
    · have c' : k < (((ns.map V.int).length : Nat) : Int) := of_decide_eq_true c
      rw [hl] at c'
      exact ⟨_, rfl, _, rfl, a, _, k, _, rfl, rfl, hS, at_int h0 c', q _⟩
    · refine ⟨_, rfl, _, _, rfl, rfl, .inl ⟨by omega, by omega⟩, _, rfl, a, _, rfl, .inl hS, _, _, rfl, rfl, _, rfl, ?_⟩
      have fin : ∀ z : Int, tSeq (tAsg (tOp (rI (fun _ j => 0 < j) fun i j => .int (i % j)) (tOp (rI CMul fun i j => .int (i * j)) (tVar 2) (tC (.int 48271))) (tC (.int 65537))) (gName 3))
          (tRet (tOp (rI (fun _ j => 0 < j) fun i j => .int (i % j)) (tOp (rI CDiv fun i j => .int (i / j)) (tOp (rI CMul fun i j => .int (i * j)) (tVar 3) (tOp (rI0 fun i j => .int (i + j)) (tOp (rI0 fun i j => .int (i + j)) (tVar 3) (tOp (rI CMul fun i j => .int (i * j)) (tC (.int 2)) (tVar 1))) (tC (.int 1)))) (tC (.int 7))) (tC (.int 65521)))) { nx := fun _ H' => Q .non H', rt := Q } [some (.ref a), some (.int k), some (.int z), none] H := fun z => by
        refine ⟨_, rfl, _, _, rfl, rfl, .inr ⟨by decide, by decide⟩, _, _, rfl, rfl, (by show (0 : Int) < 65537; decide), ?_⟩
        have m1 := Int.emod_nonneg (z * 48271) (show (65537 : Int) ≠ 0 by decide)
        have m2 := Int.emod_lt_of_pos (z * 48271) (show (0 : Int) < 65537 by decide)
        exact ⟨_, rfl, _, rfl, _, rfl, _, _, rfl, rfl, .inl ⟨by decide, by decide⟩, _, _, rfl, rfl, _, _, rfl, rfl, _, _, rfl, rfl, .inl ⟨by omega, by omega⟩, _, _, rfl, rfl, ⟨by decide, by decide⟩, _, _, rfl, rfl, (by show (0 : Int) < 65521; decide), q _⟩
      refine ite2 (fun c2 => ?_) (fun c2 => fin _)
      have c3 : (0 : Int) < (((ns.map V.int).length : Nat) : Int) := of_decide_eq_true c2
      have m1 := Int.emod_nonneg k (show (((ns.map V.int).length : Nat) : Int) ≠ 0 by omega)
      have m2 := Int.emod_lt_of_pos k c3
      refine ⟨_, rfl, _, rfl, _, rfl, _, rfl, a, _, rfl, .inl hS, _, _, rfl, rfl, c3, a, _, _, _, rfl, rfl, hS, at_int m1 (by rw [hl] at m2 ⊢; exact m2), _, _, rfl, rfl, (by show (0 : Int) < 65537; decide), _, _, rfl, rfl, fin _⟩
theorem sc_law_big : FnScope ["_law_cell_here"] ["_law_cell_here"] (defScope s_law_big) := ⟨rfl, rfl, rfl, by decide +kernel, rfl, by decide +kernel, by decide +kernel⟩
theorem ok_law_big {f : Addr} {fd : FuncData} (F : Fun K "_law_big" "_law_big" s_law_big f fd) (T : Txt K mg cl)  : FnOk P w K mg base CX0 1 f fd ["_law_cell_here"] (sp_law_big K) := by
  refine F.ok sc_law_big (fun vs H Q E h => ?_) (fun cdv A outer s H vs Q E hr h => ?_)
  · obtain ⟨c, rfl, q⟩ := h
    rfl
  · obtain ⟨c, rfl, q⟩ := h
    refine ⟨_, (pss_cons (ps_if (pt_cmpR op_eq (pe_op op_mod (pv 0) pe_int) pe_int (nomark _))
      (pss_one (ps_ret (pe_op op_mul (pe_op op_mod (pe_op op_fdiv (pv 0) pe_int) (pe_op op_pow pe_int pe_int)) (pe_op op_sub pe_int (pe_op op_mul (pe_op op_mod (pe_op op_fdiv (pv 0) pe_int) pe_int) pe_int)))))
      pss_nil)
      (pss_one (ps_ret (pe_op op_sub (pe_op op_mod (pe_op op_fdiv (pv 0) pe_int) pe_int) pe_int)))), ?_⟩
    refine ⟨_, rfl, _, _, rfl, rfl, (by show (0 : Int) < 4; decide), rfl, _, rfl, ?_⟩
    refine ite2 (fun _ => ?_) (fun _ => ?_)
    · refine ⟨_, rfl, _, _, rfl, rfl, ⟨by decide, by decide⟩, _, _, rfl, rfl, ⟨by decide, by decide, by decide⟩, _, _, rfl, rfl, (by show (0 : Int) < 10 ^ 60; decide), _, rfl, _, _, rfl, rfl, ⟨by decide, by decide⟩, _, _, rfl, rfl, (by show (0 : Int) < 2; decide), _, _, rfl, rfl, .inr ⟨by decide, by decide⟩, _, _, rfl, rfl, _, _, rfl, rfl, .inr ⟨?_, ?_⟩, q _⟩
      all_goals
        have m1 := Int.emod_nonneg (c / 4) (show (2 : Int) ≠ 0 by decide)
        have m2 := Int.emod_lt_of_pos (c / 4) (show (0 : Int) < 2 by decide)
        omega
    · exact ⟨_, rfl, _, _, rfl, rfl, ⟨by decide, by decide⟩, _, _, rfl, rfl, (by show (0 : Int) < 21; decide), _, _, rfl, rfl, q _⟩
theorem sc_law_times : FnScope ["_law_script", "_law_at", "_law_count"] ["_law_script", "_law_at", "_law_count"] (defScope s_law_times) := ⟨rfl, rfl, rfl, by decide +kernel, rfl, by decide +kernel, by decide +kernel⟩
theorem ok_law_times {f : Addr} {fd : FuncData} (F : Fun K "_law_times" "_law_times" s_law_times f fd) (T : Txt K mg cl) (C_law_cell : Cal P w K mg base 1 "_law_cell" ["_law_script", "_law_k"] (sp_law_cell K)) (C_law_big : Cal P w K mg base 1 "_law_big" ["_law_cell_here"] (sp_law_big K)) : FnOk P w K mg base CX0 2 f fd ["_law_script", "_law_at", "_law_count"] (sp_law_times K) := by
  refine F.ok sc_law_times (fun vs H Q E h => ?_) (fun cdv A outer s H vs Q E hr h => ?_)
  · obtain ⟨a, ns, k, n, rfl, hS, h63, h0, h1, hn0, hn8, q⟩ := h
    rfl
  · obtain ⟨a, ns, k, n, rfl, hS, h63, h0, h1, hn0, hn8, q⟩ := h
    refine ⟨_, (pss_one (ps_ret (pe_callTy call_tuple_of rfl T.z_tuple boot_tuple (pa_cons (pe_compS ["_law_script", "_law_at"] [0, 1] rfl (pi_range1 rfl T.z_range (pa_cons (pv 2) pa_nil)) (fun _ _ _ => pts_nil) (fun _ _ _ => (pec C_law_big (hr.mono (by decide)) rfl (pa_cons (pec C_law_cell (hr.mono (by decide)) rfl (pa_cons (pv 1) (pa_cons (pe_op op_add (pv 2) (pv 0)) pa_nil))) pa_nil))) (hk := by kernel_rfl)) pa_nil)))), ?_⟩
    refine ⟨_, rfl, n, rfl, by omega, by omega, comp_range (lo := 0) (n := n.toNat) (fun i acc H1 => H1 = H ∧ ∃ ms : List Int, ms.length = i ∧ acc = ms.map V.int) (small (by omega)) ⟨rfl, [], rfl, rfl⟩ (fun i acc H1 ⟨_, ms, e1, e2⟩ => by rw [e2, List.length_map, e1]) ?_ ?_⟩
    · rintro i acc H1 hi ⟨rfl, ms, e1, e2⟩ R kR
      refine ⟨_, rfl, _, rfl, _, rfl, _, _, rfl, rfl, a, ns, _, rfl, hS, h63, by omega, by omega, fun z => ⟨_, rfl, fun y => kR _ _ ⟨rfl, ms ++ [y], by simp [e1], by simp [e2]⟩⟩⟩
    · rintro acc H1 ⟨rfl, ms, e1, e2⟩ p hp
      refine ⟨p, _, rfl, .inl ⟨SqL.of upd_same, fun l hl => ?_⟩⟩
      refine q l _ ms (fun b o hb => ?_) (by omega) (by rw [upd_same, e2])
      have g1 := same_new (H := H1) hp (.lst acc) b o hb
      exact same_new hl (.tup acc) b o g1
theorem sc_law_bag : FnScope ["_law_script", "_law_at"] ["_law_script", "_law_at"] (defScope s_law_bag) := ⟨rfl, rfl, rfl, by decide +kernel, rfl, by decide +kernel, by decide +kernel⟩
theorem ok_law_bag {f : Addr} {fd : FuncData} (F : Fun K "_law_bag" "_law_bag" s_law_bag f fd) (T : Txt K mg cl) (C_law_cell : Cal P w K mg base 1 "_law_cell" ["_law_script", "_law_k"] (sp_law_cell K)) : FnOk P w K mg base CX0 2 f fd ["_law_script", "_law_at"] (sp_law_bag K) := by
  refine F.ok sc_law_bag (fun vs H Q E h => ?_) (fun cdv A outer s H vs Q E hr h => ?_)
  · obtain ⟨a, ns, k, rfl, hS, h63, k0, k1, q⟩ := h
    rfl
  · obtain ⟨a, ns, k, rfl, hS, h63, k0, k1, q⟩ := h
    refine ⟨_, (pss_one (ps_ret (pe_lst (pa_cons (pec C_law_cell (hr.mono (by decide)) rfl (pa_cons (pv 0) (pa_cons (pv 1) pa_nil))) (pa_cons (pe_op op_mul (pe_op op_mod (pec C_law_cell (hr.mono (by decide)) rfl (pa_cons (pv 0) (pa_cons pe_int pa_nil))) pe_int) (pe_op op_add (pv 1) pe_int)) pa_nil))))), ?_⟩
    refine ⟨_, rfl, _, rfl, a, ns, k, rfl, hS, h63, by omega, by omega, fun c0 => ?_⟩
    refine ⟨_, rfl, a, ns, 1, rfl, hS, h63, by decide, by decide, fun c1 => ⟨_, _, rfl, rfl, (by show (0 : Int) < 2; decide), _, rfl, _, _, rfl, rfl, _, _, rfl, rfl, .inr ⟨by omega, by omega⟩, (by show 2 ≤ sizeLine; decide), fun r hr0 => ?_⟩⟩
    have h2 : c1 % 2 = 0 ∨ c1 % 2 = 1 := by omega
    refine q r _ (same_new hr0 _) hr0 ⟨c0, c1 % 2 * (k + 1), upd_same, ?_, ?_⟩
    all_goals rcases h2 with e | e <;> rw [e] <;> omega
theorem sc_law_take : FnScope ["_law_bag_here", "_law_many_here", "_law_some"] ["_law_bag_here", "_law_many_here"] (defScope s_law_take) := ⟨rfl, rfl, rfl, by decide +kernel, rfl, by decide +kernel, by decide +kernel⟩
theorem ok_law_take {f : Addr} {fd : FuncData} (F : Fun K "_law_take" "_law_take" s_law_take f fd) (T : Txt K mg cl)  : FnOk P w K mg base CX0 1 f fd ["_law_bag_here", "_law_many_here"] (sp_law_take K) := by
  refine F.ok sc_law_take (fun vs H Q E h => ?_) (fun cdv A outer s H vs Q E hr h => ?_)
  · obtain ⟨b, u, v, m, rfl, hb, v0, v1, m0, m1, q⟩ := h
    rfl
  · obtain ⟨b, u, v, m, rfl, hb, v0, v1, m0, m1, q⟩ := h
    refine ⟨_, (pss_cons (ps_if (pt_cmpR op_eq (pe_ix ix_list (pv 0) pe_int (fun _ _ => rfl)) pe_int (nomark _))
      (pss_cons (ps_set (i := 2) sc_law_take.nd rfl (Or.inl rfl) (pe_op op_mod (pe_ix ix_list (pv 0) pe_int (fun _ _ => rfl)) (pv 1)))
      (pss_cons (ps_asg (pe_op op_fdivL (pe_ix ix_list (pv 0) pe_int (fun _ _ => rfl)) (pv 1)) (pg_sub (pv 0) pe_int set_list))
      (pss_one (ps_ret (pv 2)))))
      pss_nil)
      (pss_cons (ps_asg (pe_op op_mod (pe_op op_add (pe_op op_add (pe_op op_mul (pe_ix ix_list (pv 0) pe_int (fun _ _ => rfl)) pe_int) (pe_op op_mul (pe_op op_mul pe_int (pe_ix ix_list (pv 0) pe_int (fun _ _ => rfl))) (pe_ix ix_list (pv 0) pe_int (fun _ _ => rfl)))) pe_int) pe_int) (pg_sub (pv 0) pe_int set_list))
      (pss_cons (ps_asg (pe_op op_add (pe_ix ix_list (pv 0) pe_int (fun _ _ => rfl)) pe_int) (pg_sub (pv 0) pe_int set_list))
      (pss_one (ps_ret (pe_op op_mod (pe_op op_mod (pe_op op_mul (pe_ix ix_list (pv 0) pe_int (fun _ _ => rfl)) pe_int) pe_int) (pv 1))))))), ?_⟩
    refine ⟨_, rfl, b, _, 1, _, rfl, rfl, SqL.of hb, rfl, rfl, _, rfl, ?_⟩
    refine ite2 (fun c => ?_) (fun c => ?_)
    · refine ⟨_, rfl, b, _, 0, _, rfl, rfl, SqL.of hb, rfl, _, rfl, _, _, rfl, rfl, m0, ?_⟩
      refine ⟨_, rfl, b, _, 0, _, rfl, rfl, SqL.of hb, rfl, _, rfl, _, _, rfl, rfl, ⟨m0, m1⟩, _, rfl, b, _, _, _, rfl, rfl, hb, rfl, ?_⟩
      exact ⟨_, rfl, q _ _ v _ (but_upd _) upd_same v0 (by omega) (Int.emod_nonneg _ (by omega)) (Int.emod_lt_of_pos _ m0)⟩
    · refine ⟨_, rfl, b, _, 0, _, rfl, rfl, SqL.of hb, rfl, _, _, rfl, rfl, .inr ⟨by decide, by decide⟩, _, rfl, b, _, 1, _, rfl, rfl, SqL.of hb, rfl, _, _, rfl, rfl, .inl ⟨by decide, by decide⟩, _, rfl, b, _, 1, _, rfl, rfl, SqL.of hb, rfl, _, _, rfl, rfl, .inr ⟨by omega, by omega⟩, _, _, rfl, rfl, _, _, rfl, rfl, _, _, rfl, rfl, (by show (0 : Int) < 2147483647; decide), _, rfl, b, _, _, _, rfl, rfl, hb, rfl, ?_⟩
      dsimp only
      generalize (u * 48271 + 7919 * v * v + 17) % 2147483647 = w
      have b1 : But b H (upd H b (.lst [.int w, .int v])) := but_upd _
      have e1 : (upd H b (.lst [.int w, .int v])) b = some (.lst [.int w, .int v]) := upd_same
      have eH : upd H b (.lst ([V.int u, V.int v].set (Int.toNat 0) (.int w))) = upd H b (.lst [.int w, .int v]) := rfl
      rw [eH]
      generalize upd H b (.lst [.int w, .int v]) = H1 at b1 e1 ⊢
      refine ⟨_, rfl, b, _, 1, _, rfl, rfl, SqL.of e1, rfl, _, _, rfl, rfl, _, rfl, b, _, _, _, rfl, rfl, e1, rfl, ?_⟩
      have b2 : But b H (upd H1 b (.lst [.int w, .int (v + 1)])) := b1.trans (but_upd _)
      have e2 : (upd H1 b (.lst [.int w, .int (v + 1)])) b = some (.lst [.int w, .int (v + 1)]) := upd_same
      have eH2 : upd H1 b (.lst ([V.int w, V.int v].set (Int.toNat 1) (.int (v + 1)))) = upd H1 b (.lst [.int w, .int (v + 1)]) := rfl
      dsimp only
      rw [eH2]
      generalize upd H1 b (.lst [.int w, .int (v + 1)]) = H2 at b2 e2 ⊢
      refine ⟨_, rfl, b, _, 0, _, rfl, rfl, SqL.of e2, rfl, _, _, rfl, rfl, .inr ⟨by decide, by decide⟩, _, _, rfl, rfl, (by show (0 : Int) < 2147483629; decide), _, rfl, _, _, rfl, rfl, m0, ?_⟩
      exact q _ w (v + 1) _ b2 e2 (by omega) (by omega) (Int.emod_nonneg _ (by omega)) (Int.emod_lt_of_pos _ m0)
theorem sc_law_many : FnScope ["_law_script", "_law_at", "_law_most", "_law_many_here"] ["_law_script", "_law_at", "_law_most"] (defScope s_law_many) := ⟨rfl, rfl, rfl, by decide +kernel, rfl, by decide +kernel, by decide +kernel⟩
theorem ok_law_many {f : Addr} {fd : FuncData} (F : Fun K "_law_many" "_law_many" s_law_many f fd) (T : Txt K mg cl) (C_law_cell : Cal P w K mg base 1 "_law_cell" ["_law_script", "_law_k"] (sp_law_cell K)) : FnOk P w K mg base CX0 2 f fd ["_law_script", "_law_at", "_law_most"] (sp_law_many K) := by
  refine F.ok sc_law_many (fun vs H Q E h => ?_) (fun cdv A outer s H vs Q E hr h => ?_)
  · obtain ⟨a, ns, k, m, rfl, hS, h63, k0, k1, m0, m1, q⟩ := h
    rfl
  · obtain ⟨a, ns, k, m, rfl, hS, h63, k0, k1, m0, m1, q⟩ := h
    refine ⟨_, (pss_cons (ps_set (i := 3) sc_law_many.nd rfl (Or.inl rfl) (pe_callB call_len_seq rfl T.z_len PySem.boot_len (pa_cons (pe_slice sl_list (pv 0) (po_some (pv 1)) (po_some (pe_op op_add (pv 1) (pv 2)))) pa_nil)))
      (pss_cons (ps_if (pt_cmpR op_lt (pv 3) pe_int (nomark _))
      (pss_one (ps_set (i := 3) sc_law_many.nd rfl (Or.inl rfl) (pe_op op_add pe_int (pe_op op_mod (pe_op op_fdiv (pec C_law_cell (hr.mono (by decide)) rfl (pa_cons (pv 0) (pa_cons pe_int pa_nil))) pe_int) pe_int))))
      pss_nil)
      (pss_one (ps_ret (pv 3))))), ?_⟩
    have cl := cut_len V.int ns k0 m0
    refine ⟨_, rfl, _, rfl, _, rfl, _, rfl, _, rfl, _, _, rfl, rfl, _, rfl, a, _, rfl, hS, fun p hp => ?_⟩
    have s1 := same_new hp (.lst (cutV (ns.map V.int) (some k) (some (k + m))))
    have e1 : (upd H p (.lst (cutV (ns.map V.int) (some k) (some (k + m))))) p = some (.lst (cutV (ns.map V.int) (some k) (some (k + m)))) := upd_same
    generalize upd H p (.lst (cutV (ns.map V.int) (some k) (some (k + m)))) = H1 at s1 e1 ⊢
    refine ⟨p, _, rfl, .inl (SqL.of e1), ?_⟩
    generalize cutV (ns.map V.int) (some k) (some (k + m)) = ys at cl e1 ⊢
    refine ⟨_, rfl, _, _, rfl, rfl, _, rfl, ?_⟩
    refine ite2 (fun c => ?_) (fun c => ?_)
    · refine ⟨_, rfl, a, ns, 1, rfl, s1.seq hS, h63, by decide, by decide, fun c1 => ⟨_, _, rfl, rfl, ⟨by decide, by decide⟩, _, _, rfl, rfl, (by show (0 : Int) < 7; decide), _, _, rfl, rfl, ?_⟩⟩
      exact ⟨_, rfl, q _ H1 s1 (by omega) (by omega)⟩
    · exact ⟨_, rfl, q _ H1 s1 (by omega) (by omega)⟩
theorem sc_law_lies : FnScope ["_law_table", "_law_times_here", "_law_a", "_law_b", "_law_entry"] ["_law_table", "_law_times_here"] (defScope s_law_lies) := ⟨rfl, rfl, rfl, by decide +kernel, rfl, by decide +kernel, by decide +kernel⟩
theorem ok_law_lies {f : Addr} {fd : FuncData} (F : Fun K "_law_lies" "_law_lies" s_law_lies f fd) (T : Txt K mg cl)  : FnOk P w K mg base CX0 1 f fd ["_law_table", "_law_times_here"] (sp_law_lies K) := by
  refine F.ok sc_law_lies (fun vs H Q E h => ?_) (fun cdv A outer s H vs Q E hr h => ?_)
  · obtain ⟨p, x, rs, t, n, ns, rfl, hT, hS, hn, hX, hns, q⟩ := h
    rfl
  · obtain ⟨p, x, rs, t, n, ns, rfl, hT, hS, hn, hX, hns, q⟩ := h
    refine ⟨_, (pss_cons (ps_for PassesOwn.never rfl (pi_range1 rfl T.z_range (pa_cons (pe_callB call_len_seq rfl T.z_len PySem.boot_len (pa_cons (pv 0) pa_nil)) pa_nil)) (pg_name (i := 2) sc_law_lies.nd rfl (Or.inl rfl))
      (pss_one (ps_for PassesOwn.never rfl (pi_range1 rfl T.z_range (pa_cons (pe_callB call_len_seq rfl T.z_len PySem.boot_len (pa_cons (pv 0) pa_nil)) pa_nil)) (pg_name (i := 3) sc_law_lies.nd rfl (Or.inl rfl))
      (pss_cons (ps_set (i := 4) sc_law_lies.nd rfl (Or.inl rfl) (pe_ix ix_list (pe_ix ix_list (pv 0) (pv 2) (fun _ _ => rfl)) (pv 3) (fun _ _ => rfl)))
      (pss_one (ps_if (PW.pt (pw_and (pt_cmpR op_notN (pv 4) pe_non (nomark _)) (pw_and1 (pt_cmpR op_gt (pe_op op_sub (pe_ix ix_seq (pv 1) (pv 3) (fun _ _ => rfl)) (pe_ix ix_seq (pv 1) (pv 2) (fun _ _ => rfl))) (pv 4) (nomark _)))))
      (pss_one (ps_ret pe_bl))
      pss_nil))))))
      (pss_one (ps_ret pe_bl))), ?_⟩
    have hl := Paired.length hT.rows
    have hl2 := hS.1
    have hlm : (rs.map V.ref).length = rs.length := List.length_map _
    have yes : (∀ a b : Int, 0 ≤ a → a < n → inN b n → ∀ e, ent t a b = some e → tm ns a b ≤ e) → Lies n t ns := fun h a b ha hb => h a b ha.1 ha.2 hb
    refine ⟨_, rfl, p, _, rfl, .inl (SqL.of hT.ob), _, rfl, by omega, by omega, for_range (lo := 0) (n := (((rs.map V.ref).length : Nat) : Int).toNat) (fun i σ H2 => H2 = H ∧ (∀ a b : Int, 0 ≤ a → a < i → inN b n → ∀ e, ent t a b = some e → tm ns a b ≤ e) ∧ ∃ u v w, σ = [some (.ref p), some (.ref x), u, v, w])
      ⟨rfl, fun a b h1 h2 => absurd h1 (by omega), _, _, _, rfl⟩ ?_ ?_⟩
    · rintro i σ H2 hi ⟨rfl, hall, u, v, w, rfl⟩
      have hi' : i < n := by rw [hlm] at hi; omega
      refine ⟨_, rfl, p, _, rfl, .inl (SqL.of hT.ob), _, rfl, by omega, by omega, for_range (lo := 0) (n := (((rs.map V.ref).length : Nat) : Int).toNat) (fun j σ H3 => H3 = H2 ∧ (∀ b : Int, 0 ≤ b → b < j → ∀ e, ent t i b = some e → tm ns i b ≤ e) ∧ ∃ v w, σ = [some (.ref p), some (.ref x), some (.int (0 + i)), v, w])
        ⟨rfl, fun b h1 h2 => absurd h1 (by omega), _, _, rfl⟩ ?_ ?_⟩
      · rintro j σ H3 hj ⟨rfl, hrow, v', w', rfl⟩
        have hj' : j < n := by rw [hlm] at hj; omega
        obtain ⟨r, row, g1, g2, g3⟩ := hT.at hS (a := 0 + (i : Int)) (b := 0 + (j : Int)) ⟨by omega, by omega⟩ ⟨by omega, by omega⟩
        have step : (∀ e, ent t i j = some e → tm ns i j ≤ e) → ∀ b : Int, 0 ≤ b → b < ((j + 1 : Nat) : Int) → ∀ e, ent t i b = some e → tm ns i b ≤ e := fun h b h1 h2 => by
          by_cases hb : b < j
          · exact hrow b h1 hb
          · have e : b = (j : Int) := by omega
            rw [e]; exact h
        rw [Int.zero_add, Int.zero_add] at g3
        refine ⟨_, rfl, _, rfl, p, _, _, _, rfl, rfl, SqL.of hT.ob, g1, _, rfl, r, _, 0 + (j : Int), _, rfl, rfl, SqL.of g2, (by rw [Int.zero_add]; exact g3), ?_⟩
        refine ⟨_, rfl, rfl, _, rfl, ?_⟩
        cases he : ent t (i : Int) (j : Int) with
        | none => exact iteF (iteF ⟨rfl, step (fun e h => by rw [he] at h; cases h), _, _, rfl⟩)
        | some e =>
          refine iteT ⟨_, rfl, _, rfl, rIx_of hX (at_int (i := 0 + (j : Int)) (by omega) (by omega)) ⟨_, rfl, _, rfl, rIx_of hX (at_int (i := 0 + (i : Int)) (by omega) (by omega)) ⟨_, _, rfl, rfl, _, rfl, _, _, rfl, rfl, _, rfl, ?_⟩⟩⟩
          have eq : ns.getD (0 + (j : Int)).toNat 0 - ns.getD (0 + (i : Int)).toNat 0 = tm ns i j := by rw [Int.zero_add, Int.zero_add]; rfl
          rw [eq]
          refine ite2 (fun c => ?_) (fun c => ?_)
          · have c' : e < tm ns i j := of_decide_eq_true c
            refine q false ⟨fun z => (nomatch z), fun z => ?_⟩
            have := z i j ⟨by omega, by omega⟩ ⟨by omega, by omega⟩ e he
            omega
          · have c' : ¬ e < tm ns i j := of_decide_eq_false (Bool.eq_false_iff.mpr c)
            exact ⟨rfl, step (fun e' h => by rw [he] at h; cases h; omega), _, _, rfl⟩
      · rintro σ H3 ⟨rfl, hrow, v', w', rfl⟩
        refine ⟨rfl, fun a b h1 h2 hb => ?_, _, _, _, rfl⟩
        by_cases ha : a < i
        · exact hall a b h1 ha hb
        · have e : a = (i : Int) := by omega
          rw [e]
          exact hrow b hb.1 (by rw [hlm]; have := hb.2; omega)
    · rintro σ H2 ⟨rfl, hall, u, v, w, rfl⟩
      exact q true ⟨fun _ => yes fun a b h1 h2 => hall a b h1 (by rw [hlm]; omega), fun _ => rfl⟩
theorem sc_law_kept : FnScope ["_law_times_here", "_law_bounds", "_law_bound"] ["_law_times_here", "_law_bounds"] (defScope s_law_kept) := ⟨rfl, rfl, rfl, by decide +kernel, rfl, by decide +kernel, by decide +kernel⟩
theorem ok_law_kept {f : Addr} {fd : FuncData} (F : Fun K "_law_kept" "_law_kept" s_law_kept f fd) (T : Txt K mg cl)  : FnOk P w K mg base CX0 1 f fd ["_law_times_here", "_law_bounds"] (sp_law_kept K) := by
  refine F.ok sc_law_kept (fun vs H Q E h => ?_) (fun cdv A outer s H vs Q E hr h => ?_)
  · obtain ⟨t, r, ns, qs, ms, rfl, hT, hL, hA, hI, q⟩ := h
    rfl
  · obtain ⟨t, r, ns, qs, ms, rfl, hT, hL, hA, hI, q⟩ := h
    refine ⟨_, (pss_cons (ps_for PassesOwn.never rfl (pi_list (pv 1)) (pg_name (i := 2) sc_law_kept.nd rfl (Or.inl rfl))
      (pss_one (ps_if (pt_cmpR op_gt (pe_op op_sub (pe_ix ix_seq (pv 0) (pe_ix ix_tup (pv 2) pe_int (fun _ _ => rfl)) (fun _ _ => rfl)) (pe_ix ix_seq (pv 0) (pe_ix ix_tup (pv 2) pe_int (fun _ _ => rfl)) (fun _ _ => rfl))) (pe_ix ix_tup (pv 2) pe_int (fun _ _ => rfl)) (nomark _))
      (pss_one (ps_ret pe_bl))
      pss_nil)))
      (pss_one (ps_ret pe_bl))), ?_⟩
    refine ⟨_, rfl, r, rfl, ⟨_, hL⟩, for_list (K := K) (a := r) (xs := qs) (fun i σ H2 => H2 = H ∧ (ms.take i).all (bKept ns) = true ∧ ∃ v, σ = [some (.ref t), some (.ref r), v]) ⟨rfl, rfl, _, rfl⟩ (fun i σ H2 _ ⟨e, _⟩ => by rw [e]; exact hL) ?_ ?_⟩
    · rintro i x σ H2 hi ⟨rfl, hall, v, rfl⟩
      obtain ⟨p, m, hm, rfl, hp⟩ := hA.get hi
      obtain ⟨i1, i2⟩ := hI m (List.mem_of_getElem? hm)
      refine ⟨_, rfl, _, rfl, p, _, 1, _, rfl, rfl, SqT.of hp, rfl, rIx_of hT (at_int i2.1 i2.2) ⟨_, rfl, _, rfl, p, _, 0, _, rfl, rfl, SqT.of hp, rfl, rIx_of hT (at_int i1.1 i1.2) ⟨_, _, rfl, rfl, _, rfl, p, _, 2, _, rfl, rfl, SqT.of hp, rfl, _, _, rfl, rfl, _, rfl, ?_⟩⟩⟩
      refine ite2 (fun c => ?_) (fun c => ?_)
      · have c' : m.2.2 < tm ns m.1 m.2.1 := of_decide_eq_true c
        have e : ms.all (bKept ns) = false := by
          rw [List.all_eq_false]
          refine ⟨m, List.mem_of_getElem? hm, ?_⟩
          unfold bKept
          rw [decide_eq_false (by omega)]
          exact Bool.false_ne_true
        rw [e] at q
        exact q
      · have c' : ¬ m.2.2 < tm ns m.1 m.2.1 := of_decide_eq_false (Bool.eq_false_iff.mpr c)
        refine ⟨rfl, ?_, _, rfl⟩
        have e : bKept ns m = true := decide_eq_true (by omega)
        rw [List.take_add_one, hm, List.all_append, hall]
        simp [e]
    · rintro σ H2 ⟨rfl, hall, v, rfl⟩
      rw [hA.len, List.take_length] at hall
      rw [hall] at q
      exact q
theorem sc_law_truth : FnScope ["_law_found", "_law_due_here"] ["_law_found", "_law_due_here"] (defScope s_law_truth) := ⟨rfl, rfl, rfl, by decide +kernel, rfl, by decide +kernel, by decide +kernel⟩
theorem ok_law_truth {f : Addr} {fd : FuncData} (F : Fun K "_law_truth" "_law_truth" s_law_truth f fd) (T : Txt K mg cl)  : FnOk P w K mg base CX0 1 f fd ["_law_found", "_law_due_here"] (sp_law_truth K) := by
  refine F.ok sc_law_truth (fun vs H Q E h => ?_) (fun cdv A outer s H vs Q E hr h => ?_)
  · obtain ⟨b, rfl, q⟩ := h
    rfl
  · obtain ⟨b, rfl, q⟩ := h
    refine ⟨_, (pss_cons (ps_if (pt_val (pv 1))
      (pss_one (ps_ret (pe_cmpR op_isB (pv 0) pe_bl (nomark _))))
      pss_nil)
      (pss_one (ps_ret (pe_cmpR op_isB (pv 0) pe_bl (nomark _))))), ?_⟩
    refine ⟨_, rfl, _, rfl, ?_⟩
    cases b with
    | true => exact iteT ⟨_, rfl, true, rfl, q⟩
    | false => exact iteF ⟨_, rfl, false, rfl, q⟩
theorem sc_law_gap_round : FnScope ["_law_bag_here", "_law_times_here", "_law_loose", "_law_a", "_law_b", "_law_some", "_law_low", "_law_high", "_law_way"] ["_law_bag_here", "_law_times_here", "_law_loose"] (defScope s_law_gap_round) := ⟨rfl, rfl, rfl, by decide +kernel, rfl, by decide +kernel, by decide +kernel⟩
theorem ok_law_gap_round {f : Addr} {fd : FuncData} (F : Fun K "_law_gap_round" "_law_gap_round" s_law_gap_round f fd) (T : Txt K mg cl) (C_law_take : Cal P w K mg base 1 "_law_take" ["_law_bag_here", "_law_many_here"] (sp_law_take K)) : FnOk P w K mg base CX0 2 f fd ["_law_bag_here", "_law_times_here", "_law_loose"] (sp_law_gap_round K) := by
  refine F.ok sc_law_gap_round (fun vs H Q E h => ?_) (fun cdv A outer s H vs Q E hr h => ?_)
  · obtain ⟨b, t, k, l, ns, rfl, ⟨u, v, hb, v0, v1⟩, hk, ht, n0, n8, q⟩ := h
    rfl
  · obtain ⟨b, t, k, l, ns, rfl, ⟨u, v, hb, v0, v1⟩, hk, ht, n0, n8, q⟩ := h
    refine ⟨_, (pss_cons (ps_set (i := 3) sc_law_gap_round.nd rfl (Or.inl rfl) (pec C_law_take (hr.mono (by decide)) rfl (pa_cons (pv 0) (pa_cons (pe_callB call_len_seq rfl T.z_len PySem.boot_len (pa_cons (pv 1) pa_nil)) pa_nil))))
      (pss_cons (ps_set (i := 4) sc_law_gap_round.nd rfl (Or.inl rfl) (pec C_law_take (hr.mono (by decide)) rfl (pa_cons (pv 0) (pa_cons (pe_callB call_len_seq rfl T.z_len PySem.boot_len (pa_cons (pv 1) pa_nil)) pa_nil))))
      (pss_cons (ps_set (i := 5) sc_law_gap_round.nd rfl (Or.inl rfl) (pe_op op_sub (pe_ix ix_tup (pv 1) (pv 4) (fun _ _ => rfl)) (pe_ix ix_tup (pv 1) (pv 3) (fun _ _ => rfl))))
      (pss_cons (ps_set (i := 6) sc_law_gap_round.nd rfl (Or.inl rfl) (pe_op op_sub (pe_op op_sub (pv 5) (pec C_law_take (hr.mono (by decide)) rfl (pa_cons (pv 0) (pa_cons pe_int pa_nil)))) (pv 2)))
      (pss_cons (ps_set (i := 7) sc_law_gap_round.nd rfl (Or.inl rfl) (pe_op op_add (pe_op op_add (pv 5) (pec C_law_take (hr.mono (by decide)) rfl (pa_cons (pv 0) (pa_cons pe_int pa_nil)))) (pv 2)))
      (pss_cons (ps_if (pt_cmpR op_eq (pec C_law_take (hr.mono (by decide)) rfl (pa_cons (pv 0) (pa_cons pe_int pa_nil))) pe_int (nomark _))
      (pss_one (ps_set (i := 7) sc_law_gap_round.nd rfl (Or.inl rfl) (pe_op op_add (pv 5) (pec C_law_take (hr.mono (by decide)) rfl (pa_cons (pv 0) (pa_cons (pe_op op_pow pe_int pe_int) pa_nil))))))
      pss_nil)
      (pss_cons (ps_set (i := 8) sc_law_gap_round.nd rfl (Or.inl rfl) (pec C_law_take (hr.mono (by decide)) rfl (pa_cons (pv 0) (pa_cons pe_int pa_nil))))
      (pss_cons (ps_if (pt_cmpR op_eq (pv 8) pe_int (nomark _))
      (pss_one (ps_set (i := 6) sc_law_gap_round.nd rfl (Or.inl rfl) pe_non))
      pss_nil)
      (pss_cons (ps_if (pt_cmpR op_eq (pv 8) pe_int (nomark _))
      (pss_one (ps_set (i := 7) sc_law_gap_round.nd rfl (Or.inl rfl) pe_non))
      pss_nil)
      (pss_one (ps_ret (pe_tup (pa_cons (pv 3) (pa_cons (pv 4) (pa_cons (pv 6) (pa_cons (pv 7) pa_nil)))))))))))))))), ?_⟩
    have hln : (ns.map V.int).length = ns.length := List.length_map _
    have ntb : t ≠ b := ne_of ht hb (fun z => by cases z)
    refine ⟨_, rfl, _, rfl, t, _, rfl, .inr (SqT.of ht), b, u, v, _, rfl, hb, v0, by omega, by omega, by omega, fun x u1 w1 H1 b1 e1 p1 q1 xa xb => ?_⟩
    have t1 := b1 _ _ ht ntb
    refine ⟨_, rfl, _, rfl, t, _, rfl, .inr (SqT.of t1), b, u1, w1, _, rfl, e1, p1, by omega, by omega, by omega, fun y u2 w2 H2 b2 e2 p2 q2 ya yb => ?_⟩
    have hx : inN x ns.length := ⟨xa, by rw [hln] at xb; exact xb⟩
    have hy : inN y ns.length := ⟨ya, by rw [hln] at yb; exact yb⟩
    have t2 := b2 _ _ t1 ntb
    refine ⟨_, rfl, _, rfl, t, _, _, _, rfl, rfl, SqT.of t2, at_int hy.1 hy.2, _, rfl, _, rfl, t, _, _, _, rfl, rfl, SqT.of t2, at_int hx.1 hx.2, _, _, rfl, rfl, ?_⟩
    dsimp only
    generalize ns.getD y.toNat 0 - ns.getD x.toNat 0 = s
    refine ⟨_, rfl, _, rfl, b, u2, w2, 4, rfl, e2, p2, by omega, by decide, by decide, fun z3 u3 w3 H3 b3 e3 p3 q3 _ _ => ⟨_, _, rfl, rfl, _, rfl, _, _, rfl, rfl, ?_⟩⟩
    refine ⟨_, rfl, _, rfl, b, u3, w3, 4, rfl, e3, p3, by omega, by decide, by decide, fun z4 u4 w4 H4 b4 e4 p4 q4 _ _ => ⟨_, _, rfl, rfl, _, rfl, _, _, rfl, rfl, ?_⟩⟩
    dsimp only
    generalize s - z3 - l = lo
    generalize s + z4 + l = hi0
    have b04 := (b1.trans b2).trans (b3.trans b4)
    apply restJ (C := fun H' σ => But b H H' ∧ BagAt H' b (k + 6) ∧ ∃ hi : Int, σ = [some (.ref b), some (.ref t), some (.int l), some (.int x), some (.int y), some (.int s), some (.int lo), some (.int hi), none])
    · intro rest
      refine ⟨_, rfl, b, u4, w4, 5, rfl, e4, p4, by omega, by decide, by decide, fun z5 u5 w5 H5 b5 e5 p5 q5 _ _ => ⟨rfl, _, rfl, ?_⟩⟩
      refine ite2 (fun _ => ?h1) (fun _ => ?h2)
      case h2 =>
        generalize hσ : (List.set _ _ _ : L2.St) = σ'
        exact rest H5 σ' ⟨b04.trans b5, ⟨u5, w5, e5, p5, by omega⟩, hi0, by rw [← hσ]; rfl⟩
      case h1 =>
        refine ⟨_, rfl, _, rfl, _, _, rfl, rfl, ⟨by decide, by decide, by decide⟩, b, u5, w5, _, rfl, e5, p5, by omega, (by show (0 : Int) < 10 ^ 30; decide), (by show (10 ^ 30 : Int) < 10 ^ 100; decide), fun z6 u6 w6 H6 b6 e6 p6 q6 _ _ => ⟨_, _, rfl, rfl, ?_⟩⟩
        exact rest _ _ ⟨b04.trans (b5.trans b6), ⟨u6, w6, e6, p6, by omega⟩, _, rfl⟩
    rintro H6 _ ⟨b06, ⟨u6, w6, e6, p6, q6⟩, hi, rfl⟩
    refine ⟨_, rfl, b, u6, w6, 4, rfl, e6, p6, by omega, by decide, by decide, fun z7 u7 w7 H7 b7 e7 p7 q7 _ _ => ?_⟩
    have b07 := b06.trans b7
    have fin : ∀ (lo hi : Option Int) (p : Addr), H7 p = none → Q (.ref p) (upd H7 p (.tup [.int x, .int y, ov lo, ov hi])) := fun lo hi p hp => q p (x, y, lo, hi) _ (b07.trans (but_same (same_new hp _))) ⟨u7, w7, same_new hp _ _ _ e7, p7, by omega⟩ (b07.none e7 hp) upd_same hx hy
    refine ⟨_, rfl, rfl, _, rfl, ?_⟩
    refine ite2 (fun c1 => ?_) (fun c1 => ?_)
    all_goals
      refine ⟨_, rfl, rfl, _, rfl, ?_⟩
      refine ite2 (fun c2 => ?_) (fun c2 => ?_)
    all_goals
      refine ⟨_, rfl, _, rfl, _, rfl, _, rfl, (by show 4 ≤ sizeLine; decide), fun p hp => ?_⟩
      first
        | exact fin none none p hp
        | exact fin none (some _) p hp
        | exact fin (some _) none p hp
        | exact fin (some _) (some _) p hp
theorem sc_law_ends : FnScope ["_law_gaps", "_law_ends_here", "_law_name", "_law_a", "_law_b", "_law_low", "_law_high"] ["_law_gaps"] (defScope s_law_ends) := ⟨rfl, rfl, rfl, by decide +kernel, rfl, by decide +kernel, by decide +kernel⟩
theorem ok_law_ends {f : Addr} {fd : FuncData} (F : Fun K "_law_ends" "_law_ends" s_law_ends f fd) (T : Txt K mg cl)  : FnOk P w K mg base CX0 1 f fd ["_law_gaps"] (sp_law_ends K) := by
  refine F.ok sc_law_ends (fun vs H Q E h => ?_) (fun cdv A outer s H vs Q E hr h => ?_)
  · obtain ⟨d, kvs, gs, rfl, hd, G, hnd, hl, q⟩ := h
    rfl
  · obtain ⟨d, kvs, gs, rfl, hd, G, hnd, hl, q⟩ := h
    refine ⟨_, (pss_cons (ps_set (i := 1) sc_law_ends.nd rfl (Or.inl rfl) pe_dnewT)
      (pss_cons (ps_forD PassesOwn.never rfl (pi_keys (pv 0)) (pg_name (i := 2) sc_law_ends.nd rfl (Or.inl rfl))
      (pss_cons (ps_asg (pe_dget (hu1 hr) (pv 0) (pv 2) (fun _ _ => rfl)) (pg_tup rfl (pgs_cons (pg_name (i := 3) sc_law_ends.nd rfl (Or.inl rfl)) (pgs_cons (pg_name (i := 4) sc_law_ends.nd rfl (Or.inl rfl)) (pgs_cons (pg_name (i := 5) sc_law_ends.nd rfl (Or.inl rfl)) (pgs_cons (pg_name (i := 6) sc_law_ends.nd rfl (Or.inl rfl)) pgs_nil))))))
      (pss_cons (ps_if (pt_cmpR op_notN (pv 6) pe_non (nomark _))
      (pss_one (ps_dput (hu1 hr) (pv 1) (pe_tup (pa_cons (pv 2) (pa_cons pe_str pa_nil))) (pe_tup (pa_cons (pv 3) (pa_cons (pv 4) (pa_cons (pv 6) pa_nil)))) rfl))
      pss_nil)
      (pss_one (ps_if (pt_cmpR op_notN (pv 5) pe_non (nomark _))
      (pss_one (ps_dput (hu1 hr) (pv 1) (pe_tup (pa_cons (pv 2) (pa_cons pe_str pa_nil))) (pe_tup (pa_cons (pv 4) (pa_cons (pv 3) (pa_cons (pe_un un_neg (pv 5)) pa_nil)))) rfl))
      pss_nil)))))
      (pss_one (ps_ret (pv 1))))), ?_⟩
    have len := G.len
    intro e he0
    have s1 := same_new he0 (.dT [])
    have e1 : (upd H e (.dT [])) e = some (.dT []) := upd_same
    generalize upd H e (.dT []) = H1 at s1 e1 ⊢
    have ne : e ≠ d := Ne.symm (ne_of_none hd he0)
    have hd1 := s1 _ _ hd
    intro NF
    refine ⟨_, rfl, d, kvs, rfl, hd1, fun ob nf => for_dict (NF := NF) (a := d) (ob := ob) (kvs := kvs) (fun i σ H2 => Same (upd H d (.frz ob (.dK kvs))) H2 ∧ (∃ u2 u3 u4 u5 u6, σ = [some (.ref d), some (.ref e), u2, u3, u4, u5, u6]) ∧
      ∃ us, H2 e = some (.dT us) ∧ AreB H2 (us.map (·.2)) (allB (gs.take i)) ∧ us.length ≤ 2 * i ∧ us.map (·.1) = (allN (gs.take i)).map keyN) ?_ ?_ ?_ ?_⟩
    · refine ⟨fun b o h => ?_, ⟨_, _, _, _, _, rfl⟩, [], by rw [upd_ne ne]; exact e1, .nil, Nat.le_refl _, rfl⟩
      by_cases c : b = d
      · subst c; rw [upd_same] at h ⊢; exact h
      · rw [upd_ne c] at h ⊢; exact s1 _ _ h
    · rintro i σ H2 _ ⟨s2, _⟩
      exact s2 _ _ upd_same
    · rintro i k v σ H2 hi ⟨s2, ⟨u2, u3, u4, u5, u6, rfl⟩, us, e2, A2, l2, KE⟩
      have K2 : ∀ key ∈ us.map (·.1), ∃ g z, g ∈ gs.take i ∧ key = [(Sum.inr g.1 : Key), Sum.inr z] := by rw [KE]; exact allN_keys
      obtain ⟨⟨nm, ga, gb, lo, hi'⟩, hg, hk, p, hv, hp⟩ := paired_get G hi
      have hv : v = .ref p := hv
      have hk : k = Sum.inr nm := hk
      subst hv hk
      have hp2 : H2 p = some (.tup [.int ga, .int gb, ov lo, ov hi']) := s2 _ _ (by rw [upd_ne (ne_of hp hd (fun z => by cases z))]; exact hp)
      have hf2 := s2 d _ upd_same
      have hvl := valV_get (G.nodup hnd) hi
      have hlt : i < gs.length := (List.getElem?_eq_some_iff.mp hg).1
      have nog : ∀ g' ∈ gs.take i, g'.1 ≠ nm := fun g' hm => names_ne hnd hg hm
      refine ⟨_, rfl, _, rfl, d, _, rfl, .inl ⟨kvs, Sum.inr nm, .inr ⟨ob, hf2⟩, rfl, hvl.symm⟩, ?_⟩
      refine ⟨p, _, rfl, SqT.of hp2, rfl, _, _, rfl, _, _, rfl, _, _, rfl, _, _, rfl, rfl, ?_⟩
      have hE0 : (upd H d (.frz ob (.dK kvs))) e = none := by rw [upd_ne ne]; exact he0
      have tk := allB_take hg
      have tn : (allN (gs.take (i + 1))).map keyN = ((allN (gs.take i)).map keyN ++ (hiE hi').map fun z => [(Sum.inr nm : Key), Sum.inr z]) ++ (loE lo).map fun z => [(Sum.inr nm : Key), Sum.inr z] := by
        rw [allN_take hg, List.map_append, List.append_assoc]
        show _ ++ List.map keyN (List.map _ (hiE hi' ++ loE lo)) = _
        rw [List.map_map, List.map_append]; rfl
      have mvs : (us.map (·.2)).length = us.length := List.length_map _
      apply restJ (C := fun H3 σ => Same (upd H d (.frz ob (.dK kvs))) H3 ∧ σ = [some (.ref d), some (.ref e), some (.str nm), some (.int ga), some (.int gb), some (ov lo), some (ov hi')] ∧
        ∃ ws, H3 e = some (.dT ws) ∧ AreB H3 (ws.map (·.2)) (allB (gs.take i) ++ hiB ga gb hi') ∧ ws.length ≤ 2 * i + 1 ∧ ws.map (·.1) = (allN (gs.take i)).map keyN ++ (hiE hi').map fun z => [(Sum.inr nm : Key), Sum.inr z])
      · intro rest
        rcases opt_or hi' with hh | ⟨h, hh⟩
        · rw [hh]
          refine ⟨_, rfl, rfl, _, rfl, iteF ?_⟩
          generalize hσ : (List.set _ _ _ : L2.St) = σ'
          generalize hH : H2 = Hx
          exact rest Hx σ' (by
            rw [← hH]
            exact ⟨s2, by rw [← hσ, hh]; rfl, us, e2, by rw [hh, show hiB ga gb none = [] from rfl, List.append_nil]; exact A2, by omega, by rw [hh, KE]; show _ = _ ++ []; rw [List.append_nil]⟩)
        · rw [hh]
          refine ⟨_, rfl, rfl, _, rfl, iteT ?_⟩
          refine ⟨_, rfl, _, rfl, _, rfl, (by show 3 ≤ sizeLine; decide), fun p1 hp1 => ⟨_, rfl, _, rfl, (by show 2 ≤ sizeLine; decide), fun p2 hp2 => ?_⟩⟩
          have nv : valV us [(Sum.inr nm : Key), Sum.inr "high"] = none := ends_put (H := H2) (fun k hk => .inl (K2 k hk)) nog
          obtain ⟨t1, t2⟩ := ends_step (o2 := .tup [.str nm, .str "high"]) (key := [Sum.inr nm, Sum.inr "high"]) s2 hE0 e2 A2 hp1 hp2
          have e4 := same_new hp2 (.tup [.str nm, .str "high"]) _ _ (same_new hp1 (.tup [.int ga, .int gb, .int h]) _ _ e2)
          refine ⟨e, _, rfl, DPut.t (k := [Sum.inr nm, Sum.inr "high"]) e4 upd_same (small1000 (by omega)), ?_⟩
          rw [putK_new _ nv]
          exact rest _ _ ⟨t1, by rw [hh]; rfl, _, upd_same, by rw [hh]; exact t2, by rw [List.length_append]; show _ + 1 ≤ _; omega, by rw [hh, List.map_append, KE]; rfl⟩
      rintro H3 _ ⟨s3, rfl, ws, e3, A3, l3, KW⟩
      have tk' : allB (gs.take (i + 1)) = (allB (gs.take i) ++ hiB ga gb hi') ++ loB ga gb lo := by rw [tk, List.append_assoc]; rfl
      cases lo with
      | none =>
        refine ⟨_, rfl, rfl, _, rfl, iteF ⟨s3, ⟨_, _, _, _, _, rfl⟩, ws, e3, by rw [tk', show loB ga gb none = [] from rfl, List.append_nil]; exact A3, by omega, by rw [tn, KW]; show _ = _ ++ []; rw [List.append_nil]⟩⟩
      | some l =>
        refine ⟨_, rfl, rfl, _, rfl, iteT ?_⟩
        refine ⟨_, rfl, _, rfl, _, rfl, _, rfl, (by show 3 ≤ sizeLine; decide), fun p1 hp1 => ⟨_, rfl, _, rfl, (by show 2 ≤ sizeLine; decide), fun p2 hp2 => ?_⟩⟩
        have K3 : ∀ key ∈ ws.map (·.1), (∃ g z, g ∈ gs.take i ∧ key = [(Sum.inr g.1 : Key), Sum.inr z]) ∨ ∃ y : Str, y ≠ "low" ∧ key = [Sum.inr nm, Sum.inr y] := fun k hk => by
          rw [KW] at hk
          rcases List.mem_append.mp hk with hk | hk
          · exact .inl (allN_keys k hk)
          · obtain ⟨y, hy, rfl⟩ := List.mem_map.mp hk
            refine .inr ⟨y, ?_, rfl⟩
            cases hi' with
            | none => cases hy
            | some h => rw [List.mem_singleton.mp hy]; exact hl_ne
        have nv : valV ws [(Sum.inr nm : Key), Sum.inr "low"] = none := ends_put (H := H3) K3 nog
        obtain ⟨t1, t2⟩ := ends_step (o2 := .tup [.str nm, .str "low"]) (key := [Sum.inr nm, Sum.inr "low"]) s3 hE0 e3 A3 hp1 hp2
        have e4 := same_new hp2 (.tup [.str nm, .str "low"]) _ _ (same_new hp1 (.tup [.int gb, .int ga, .int (-l)]) _ _ e3)
        refine ⟨e, _, rfl, DPut.t (k := [Sum.inr nm, Sum.inr "low"]) e4 upd_same (small1000 (by omega)), ?_⟩
        rw [putK_new _ nv]
        refine ⟨t1, ⟨_, _, _, _, _, rfl⟩, _, upd_same, by rw [tk']; exact t2, by rw [List.length_append]; show _ + 1 ≤ _; omega, by rw [tn, List.map_append, KW]; rfl⟩
    · rintro σ H2 ⟨s2, ⟨u2, u3, u4, u5, u6, rfl⟩, us, e2, A2, _, KE⟩
      rw [len, List.take_length] at A2 KE
      have hf := s2 d _ upd_same
      refine ⟨d, ob, kvs, nf, hf, _, rfl, q e _ us he0 (fun b o h => ?_) (by rw [upd_ne ne]; exact e2) (A2.tups fun c xs h => by rw [upd_ne (ne_of h hf (fun z => by cases z))]; exact h) KE⟩
      by_cases c : b = d
      · subst c; rw [upd_same, ← hd]; exact h
      · rw [upd_ne c]; exact s2 _ _ (by rw [upd_ne c]; exact h)
theorem sc_law_due : FnScope ["_law_count", "_law_bounds", "_law_table", "_law_a", "_law_b", "_law_number", "_law_p", "_law_some"] ["_law_count", "_law_bounds"] (defScope s_law_due) := ⟨rfl, rfl, rfl, by decide +kernel, rfl, by decide +kernel, by decide +kernel⟩
theorem ok_law_due {f : Addr} {fd : FuncData} (F : Fun K "_law_due" "_law_due" s_law_due f fd) (T : Txt K mg cl)  : FnOk P w K mg base CX0 1 f fd ["_law_count", "_law_bounds"] (sp_law_due K) := by
  refine F.ok sc_law_due (fun vs H Q E h => ?_) (fun cdv A outer s H vs Q E hr h => ?_)
  · obtain ⟨n, r, qs, bs, rfl, hL, hA, n1, n8, hw, hb, q⟩ := h
    rfl
  · obtain ⟨n, r, qs, bs, rfl, hL, hA, n1, n8, hw, hb, q⟩ := h
    refine ⟨_, (pss_cons (ps_setComp (j := 2) ["_law_count"] [0] sc_law_due.nd rfl rfl rfl (pi_range1 rfl T.z_range (pa_cons (pv 0) pa_nil)) (fun _ _ _ => pts_nil) (fun _ _ _ => (pe_compS [] [] rfl (pi_range1 rfl T.z_range (pa_cons (pv 1) pa_nil)) (fun _ _ _ => pts_nil) (fun _ _ _ => pe_non) (hk := by kernel_rfl))) (hk := by kernel_rfl))
      (pss_cons (ps_for PassesOwn.never rfl (pi_range1 rfl T.z_range (pa_cons (pv 0) pa_nil)) (pg_name (i := 3) sc_law_due.nd rfl (Or.inl rfl))
      (pss_one (ps_asg pe_int (pg_sub (pe_ix ix_list (pv 2) (pv 3) (fun _ _ => rfl)) (pv 3) set_list))))
      (pss_cons (ps_for PassesOwn.never rfl (pi_list (pv 1)) (pg_tup rfl (pgs_cons (pg_name (i := 3) sc_law_due.nd rfl (Or.inl rfl)) (pgs_cons (pg_name (i := 4) sc_law_due.nd rfl (Or.inl rfl)) (pgs_cons (pg_name (i := 5) sc_law_due.nd rfl (Or.inl rfl)) pgs_nil))))
      (pss_one (ps_if (PW.pt (pw_or (pt_cmpR op_isN (pe_ix ix_list (pe_ix ix_list (pv 2) (pv 3) (fun _ _ => rfl)) (pv 4) (fun _ _ => rfl)) pe_non (nomark _)) (pw_or1 (pt_cmpR op_lt (pv 5) (pe_ix ix_list (pe_ix ix_list (pv 2) (pv 3) (fun _ _ => rfl)) (pv 4) (fun _ _ => rfl)) (nomark _)))))
      (pss_one (ps_asg (pv 5) (pg_sub (pe_ix ix_list (pv 2) (pv 3) (fun _ _ => rfl)) (pv 4) set_list)))
      pss_nil)))
      (pss_cons (ps_for PassesOwn.never rfl (pi_range1 rfl T.z_range (pa_cons (pv 0) pa_nil)) (pg_name (i := 6) sc_law_due.nd rfl (Or.inl rfl))
      (pss_one (ps_for PassesOwn.never rfl (pi_range1 rfl T.z_range (pa_cons (pv 0) pa_nil)) (pg_name (i := 3) sc_law_due.nd rfl (Or.inl rfl))
      (pss_one (ps_if (pt_cmpR op_notN (pe_ix ix_list (pe_ix ix_list (pv 2) (pv 3) (fun _ _ => rfl)) (pv 6) (fun _ _ => rfl)) pe_non (nomark _))
      (pss_one (ps_for PassesOwn.never rfl (pi_range1 rfl T.z_range (pa_cons (pv 0) pa_nil)) (pg_name (i := 4) sc_law_due.nd rfl (Or.inl rfl))
      (pss_one (ps_if (pt_cmpR op_notN (pe_ix ix_list (pe_ix ix_list (pv 2) (pv 6) (fun _ _ => rfl)) (pv 4) (fun _ _ => rfl)) pe_non (nomark _))
      (pss_cons (ps_set (i := 7) sc_law_due.nd rfl (Or.inl rfl) (pe_op op_add (pe_ix ix_list (pe_ix ix_list (pv 2) (pv 3) (fun _ _ => rfl)) (pv 6) (fun _ _ => rfl)) (pe_ix ix_list (pe_ix ix_list (pv 2) (pv 6) (fun _ _ => rfl)) (pv 4) (fun _ _ => rfl))))
      (pss_one (ps_if (PW.pt (pw_or (pt_cmpR op_isN (pe_ix ix_list (pe_ix ix_list (pv 2) (pv 3) (fun _ _ => rfl)) (pv 4) (fun _ _ => rfl)) pe_non (nomark _)) (pw_or1 (pt_cmpR op_lt (pv 7) (pe_ix ix_list (pe_ix ix_list (pv 2) (pv 3) (fun _ _ => rfl)) (pv 4) (fun _ _ => rfl)) (nomark _)))))
      (pss_one (ps_asg (pv 7) (pg_sub (pe_ix ix_list (pv 2) (pv 3) (fun _ _ => rfl)) (pv 4) set_list)))
      pss_nil)))
      pss_nil))))
      pss_nil)))))
      (pss_cons (ps_for PassesOwn.never rfl (pi_range1 rfl T.z_range (pa_cons (pv 0) pa_nil)) (pg_name (i := 3) sc_law_due.nd rfl (Or.inl rfl))
      (pss_one (ps_if (pt_cmpR op_lt (pe_ix ix_list (pe_ix ix_list (pv 2) (pv 3) (fun _ _ => rfl)) (pv 3) (fun _ _ => rfl)) pe_int (nomark _))
      (pss_one (ps_ret pe_non))
      pss_nil)))
      (pss_one (ps_ret (pv 2)))))))), ?_⟩
    have hlen := hA.len
    refine ⟨_, rfl, ((n : Nat) : Int), rfl, by omega, by omega, comp_rows (n := ((n : Nat) : Int).toNat) (fun _ => (List.range n).map fun _ => (none : Option Int)) (small (by omega)) ?_ ?_⟩
    · intro i H1 hi s1 R kR
      refine ⟨_, rfl, ((n : Nat) : Int), rfl, by omega, by omega, comp_vals (n := ((n : Nat) : Int).toNat) (fun _ => V.non) (small (by omega)) (fun i hi R kR => kR) ?_⟩
      intro p' hp'
      refine kR p' _ hp' (same_new hp' _) ?_
      rw [upd_same, List.map_map, Int.toNat_natCast]
      rfl
    intro pc rc H1 N1
    rw [Int.toNat_natCast] at N1
    have S1 := mkT_square n fun _ _ => none
    have N1' : NewT H H1 pc rc (mkT n fun _ _ => none) := N1
    clear N1
    have wr : ∀ {H2 : Hp} {t' : Tab} {x y : Int}, NewT H H2 pc rc t' → Square n t' → (hx : inN x n) → (hy : inN y n) → ∀ z : Int, ∃ (r : Addr) (row : List (Option Int)), atI (rc.map V.ref) x = some (.ref r) ∧ H2 r = some (.lst (row.map ov)) ∧ ixN (row.map ov).length y = some y.toNat ∧ NewT H (upd H2 r (.lst ((row.map ov).set y.toNat (.int z)))) pc rc (setE t' x y (some z)) ∧ Square n (setE t' x y (some z)) := fun N S hx hy z => by
      obtain ⟨r, row, x1, x2, x3, _⟩ := N.tb.rowAt S hx
      exact ⟨r, row, x1, x2, ixN_of hy.1 (by rw [List.length_map, x3]; exact hy.2), N.setE S hx x1 x2 (some z), setE_square S hx _⟩
    -- 0 from each point to itself
    refine ⟨_, rfl, ((n : Nat) : Int), rfl, by omega, by omega, for_range (lo := 0) (n := ((n : Nat) : Int).toNat) (fun i σ H2 => ∃ t', NewT H H2 pc rc t' ∧ Square n t' ∧ Hit n bs t' ∧ (∀ x, inN x n → x < i → Low (ent t' x x) 0) ∧ ∃ u3 u4 u5 u6 u7, σ = [some (.int n), some (.ref r), some (.ref pc), u3, u4, u5, u6, u7])
      ⟨_, N1', S1, fun x y e hx hy h => (by rw [mkT_ent _ hx hy] at h; cases h), fun x hx h => absurd hx.1 (by omega), _, _, _, _, _, rfl⟩ ?_ ?_⟩
    · rintro i σ H2 hi ⟨t', N2, S2, hh, d2, u3, u4, u5, u6, u7, rfl⟩
      have hx : inN (0 + (i : Int)) n := ⟨by omega, by omega⟩
      obtain ⟨r', row', y1, y2, y3, y4, y5⟩ := wr N2 S2 hx hx 0
      refine ⟨_, rfl, _, rfl, pc, _, _, _, rfl, rfl, SqL.of N2.tb.ob, y1, _, rfl, r', _, _, _, rfl, rfl, y2, y3, ?_⟩
      refine ⟨_, y4, y5, set_hit S2 hx hx hh (.nil _), fun x h1 h2 => ?_, _, _, _, _, _, rfl⟩
      rw [setE_ent S2 hx hx h1 h1]
      by_cases c : x = 0 + (i : Int)
      · rw [if_pos ⟨c, c⟩]; exact ⟨0, rfl, Int.le_refl _⟩
      · rw [if_neg (fun h => c h.1)]; exact d2 x h1 (by omega)
    rintro σ H2 ⟨t', N2, S2, hh, d2, u3, u4, u5, u6, u7, rfl⟩
    have dg : ∀ x, inN x n → Low (ent t' x x) 0 := fun x hx => d2 x hx (by have := hx.2; omega)
    -- the bounds themselves
    refine ⟨_, rfl, r, rfl, ⟨_, N2.sm.seq hL⟩, for_list (K := K) (a := r) (xs := qs) (fun i σ H3 => ∃ t', NewT H H3 pc rc t' ∧ Square n t' ∧ Hit n bs t' ∧ (∀ x, inN x n → Low (ent t' x x) 0) ∧ (∀ m ∈ bs.take i, Low (ent t' m.1 m.2.1) m.2.2) ∧ ∃ u3 u4 u5 u6 u7, σ = [some (.int n), some (.ref r), some (.ref pc), u3, u4, u5, u6, u7])
      ⟨t', N2, S2, hh, dg, fun m hm => by simp at hm, _, _, _, _, _, rfl⟩ (fun i σ H3 _ ⟨_, N, _⟩ => N.sm.seq hL) ?_ ?_⟩
    · clear dg d2 hh S2 N2
      rintro i x σ H3 hi ⟨t', N2, S2, hh, dg, lo, u3, u4, u5, u6, u7, rfl⟩
      obtain ⟨pb, m, hm, rfl, hp⟩ := (hA.same N2.sm).get hi
      have hmem := List.mem_of_getElem? hm
      obtain ⟨m1, m2⟩ := hw m hmem
      have tk : bs.take (i + 1) = bs.take i ++ [m] := by rw [List.take_add_one, hm]; rfl
      obtain ⟨r1, row1, x1, x2, x3⟩ := N2.tb.at S2 m1 m2
      obtain ⟨r', row', y1, y2, y3, y4, y5⟩ := wr N2 S2 m1 m2 m.2.2
      have put : (∀ e, ent t' m.1 m.2.1 = some e → m.2.2 ≤ e) → (Hit n bs (setE t' m.1 m.2.1 (some m.2.2)) ∧ (∀ x, inN x n → Low (ent (setE t' m.1 m.2.1 (some m.2.2)) x x) 0) ∧ ∀ m' ∈ bs.take (i + 1), Low (ent (setE t' m.1 m.2.1 (some m.2.2)) m'.1 m'.2.1) m'.2.2) := fun h => by
        refine ⟨set_hit S2 m1 m2 hh (.one hmem), fun x hx => set_low S2 m1 m2 h hx hx (dg x hx), fun m' hm' => ?_⟩
        rw [tk] at hm'
        rcases List.mem_append.mp hm' with h' | h'
        · have w' := hw m' (List.mem_of_mem_take h')
          exact set_low S2 m1 m2 h w'.1 w'.2 (lo m' h')
        · rw [List.mem_singleton.mp h', setE_ent S2 m1 m2 m1 m2, if_pos ⟨rfl, rfl⟩]
          exact ⟨_, rfl, Int.le_refl _⟩
      refine ⟨pb, _, rfl, SqT.of hp, rfl, _, _, rfl, _, _, rfl, _, _, rfl, rfl, ?_⟩
      refine ⟨_, rfl, _, rfl, pc, _, _, _, rfl, rfl, SqL.of N2.tb.ob, x1, _, rfl, r1, _, _, _, rfl, rfl, SqL.of x2, x3, rfl, _, rfl, ?_⟩
      cases e : ent t' m.1 m.2.1 with
      | none =>
        obtain ⟨p1, p2, p3⟩ := put (fun e' h => by rw [e] at h; cases h)
        refine iteT (iteT ⟨_, rfl, _, rfl, _, rfl, pc, _, _, _, rfl, rfl, SqL.of N2.tb.ob, y1, _, rfl, r', _, _, _, rfl, rfl, y2, y3, ?_⟩)
        exact ⟨_, y4, y5, p1, p2, p3, _, _, _, _, _, rfl⟩
      | some z =>
        rw [e] at x3
        refine iteF ⟨_, rfl, _, rfl, _, rfl, pc, _, _, _, rfl, rfl, SqL.of N2.tb.ob, x1, _, rfl, r1, _, _, _, rfl, rfl, SqL.of x2, x3, _, _, rfl, rfl, _, rfl, ?_⟩
        refine ite2 (fun c => ?_) (fun c => ?_)
        · have c' : m.2.2 < z := of_decide_eq_true c
          obtain ⟨p1, p2, p3⟩ := put (fun e' h => by rw [e] at h; cases h; omega)
          refine ⟨_, rfl, _, rfl, _, rfl, pc, _, _, _, rfl, rfl, SqL.of N2.tb.ob, y1, _, rfl, r', _, _, _, rfl, rfl, y2, y3, ?_⟩
          exact ⟨_, y4, y5, p1, p2, p3, _, _, _, _, _, rfl⟩
        · have c' : ¬ m.2.2 < z := of_decide_eq_false (Bool.eq_false_iff.mpr c)
          refine ⟨t', N2, S2, hh, dg, fun m' hm' => ?_, _, _, _, _, _, rfl⟩
          rw [tk] at hm'
          rcases List.mem_append.mp hm' with h' | h'
          · exact lo m' h'
          · rw [List.mem_singleton.mp h']; exact ⟨z, e, by omega⟩
    clear dg d2 hh S2 N2
    rintro σ H3 ⟨t', N2, S2, hh, dg, lo, u3, u4, u5, u6, u7, rfl⟩
    rw [hlen, List.take_length] at lo
    have st0 : Stage n bs 0 t' := fun a b c ha hb p => by
      cases p with
      | self => exact dg a ha
      | edge h => exact lo _ h
    -- all ways by way of p
    refine ⟨_, rfl, ((n : Nat) : Int), rfl, by omega, by omega, for_range (lo := 0) (n := ((n : Nat) : Int).toNat) (fun i σ H4 => ∃ t', NewT H H4 pc rc t' ∧ Square n t' ∧ Hit n bs t' ∧ (∀ x, inN x n → Low (ent t' x x) 0) ∧ Stage n bs i t' ∧ ∃ u3 u4 u5 u6 u7, σ = [some (.int n), some (.ref r), some (.ref pc), u3, u4, u5, u6, u7]) ⟨t', N2, S2, hh, dg, st0, _, _, _, _, _, rfl⟩ ?_ ?_⟩
    · clear st0 lo dg hh S2 N2
      rintro k σ H4 hk ⟨t0, N2, S2, hh, dg, st, u3, u4, u5, u6, u7, rfl⟩
      have hp : inN (0 + (k : Int)) n := ⟨by omega, by omega⟩
      have ek : (0 + (k : Int)) = (k : Int) := Int.zero_add _
      -- all that is left and what the rows up to i have
      refine ⟨_, rfl, ((n : Nat) : Int), rfl, by omega, by omega, for_range (lo := 0) (n := ((n : Nat) : Int).toNat) (fun i σ H5 => ∃ t', NewT H H5 pc rc t' ∧ Square n t' ∧ Hit n bs t' ∧ (∀ x, inN x n → Low (ent t' x x) 0) ∧ Stage n bs k t' ∧ (∀ a b c d, inN a n → inN b n → a < i → SP bs k a (k : Int) c → SP bs k (k : Int) b d → Low (ent t' a b) (c + d)) ∧ ∃ u3 u4 u5 u7, σ = [some (.int n), some (.ref r), some (.ref pc), u3, u4, u5, some (.int (0 + (k : Int))), u7]) ⟨t0, N2, S2, hh, dg, st, fun a b c d ha hb h => absurd ha.1 (by omega), _, _, _, _, rfl⟩ ?_ ?_⟩
      · clear st dg hh S2 N2
        rintro i σ H5 hi ⟨t1, N2, S2, hh, dg, st, rw1, u3', u4', u5', u7', rfl⟩
        have ha : inN (0 + (i : Int)) n := ⟨by omega, by omega⟩
        obtain ⟨r1, row1, x1, x2, x3⟩ := N2.tb.at S2 ha hp
        have done : ∀ {t' : Tab}, (∀ a b c d, inN a n → inN b n → a < i → SP bs k a (k : Int) c → SP bs k (k : Int) b d → Low (ent t' a b) (c + d)) → (∀ b c d, inN b n → SP bs k (0 + (i : Int)) (k : Int) c → SP bs k (k : Int) b d → Low (ent t' (0 + (i : Int)) b) (c + d)) → ∀ a b c d, inN a n → inN b n → a < ((i + 1 : Nat) : Int) → SP bs k a (k : Int) c → SP bs k (k : Int) b d → Low (ent t' a b) (c + d) := fun h1 h2 a b c d hA hB hlt p q => by
          by_cases z : a < i
          · exact h1 a b c d hA hB z p q
          · have : a = 0 + (i : Int) := by omega
            subst this
            exact h2 b c d hB p q
        refine ⟨_, rfl, _, rfl, pc, _, _, _, rfl, rfl, SqL.of N2.tb.ob, x1, _, rfl, r1, _, _, _, rfl, rfl, SqL.of x2, x3, rfl, _, rfl, ?_⟩
        cases e1 : ent t1 (0 + (i : Int)) (0 + (k : Int)) with
        | none =>
          refine iteF ⟨t1, N2, S2, hh, dg, st, done rw1 (fun b c d hB p q => ?_), _, _, _, _, rfl⟩
          obtain ⟨e, h1, _⟩ := st _ _ c ha (by rw [← ek]; exact hp) p
          rw [← ek, e1] at h1; cases h1
        | some w0 =>
          refine iteT ?_
          refine ⟨_, rfl, ((n : Nat) : Int), rfl, by omega, by omega, for_range (lo := 0) (n := ((n : Nat) : Int).toNat) (fun j σ H6 => ∃ t', NewT H H6 pc rc t' ∧ Square n t' ∧ Hit n bs t' ∧ (∀ x, inN x n → Low (ent t' x x) 0) ∧ Stage n bs k t' ∧ (∀ a b c d, inN a n → inN b n → a < i → SP bs k a (k : Int) c → SP bs k (k : Int) b d → Low (ent t' a b) (c + d)) ∧ (∀ b c d, inN b n → b < j → SP bs k (0 + (i : Int)) (k : Int) c → SP bs k (k : Int) b d → Low (ent t' (0 + (i : Int)) b) (c + d)) ∧ (∃ w, ent t' (0 + (i : Int)) (0 + (k : Int)) = some w) ∧ ∃ u4 u5 u7, σ = [some (.int n), some (.ref r), some (.ref pc), some (.int (0 + (i : Int))), u4, u5, some (.int (0 + (k : Int))), u7]) ⟨t1, N2, S2, hh, dg, st, rw1, fun b c d hB h => absurd hB.1 (by omega), ⟨w0, e1⟩, _, _, _, rfl⟩ ?_ ?_⟩
          · clear x1 x2 x3 e1 rw1 st dg hh S2 N2
            rintro j σ H6 hj ⟨t2, N2, S2, hh, dg, st, rw1, rw2, ⟨w1, e1⟩, v4, v5, v7, rfl⟩
            have hB : inN (0 + (j : Int)) n := ⟨by omega, by omega⟩
            obtain ⟨r1, row1, x1, x2, x3⟩ := N2.tb.at S2 ha hp
            obtain ⟨r2, row2, y1, y2, y3⟩ := N2.tb.at S2 hp hB
            obtain ⟨r3, row3, z1, z2, z3⟩ := N2.tb.at S2 ha hB
            rw [e1] at x3
            have next : ∀ {t' : Tab}, (∀ b c d, inN b n → b < j → SP bs k (0 + (i : Int)) (k : Int) c → SP bs k (k : Int) b d → Low (ent t' (0 + (i : Int)) b) (c + d)) → (∀ c d, SP bs k (0 + (i : Int)) (k : Int) c → SP bs k (k : Int) (0 + (j : Int)) d → Low (ent t' (0 + (i : Int)) (0 + (j : Int))) (c + d)) → ∀ b c d, inN b n → b < ((j + 1 : Nat) : Int) → SP bs k (0 + (i : Int)) (k : Int) c → SP bs k (k : Int) b d → Low (ent t' (0 + (i : Int)) b) (c + d) := fun h1 h2 b c d hb' hlt p q => by
              by_cases z : b < j
              · exact h1 b c d hb' z p q
              · have : b = 0 + (j : Int) := by omega
                subst this
                exact h2 c d p q
            refine ⟨_, rfl, _, rfl, pc, _, _, _, rfl, rfl, SqL.of N2.tb.ob, y1, _, rfl, r2, _, _, _, rfl, rfl, SqL.of y2, y3, rfl, _, rfl, ?_⟩
            cases e2 : ent t2 (0 + (k : Int)) (0 + (j : Int)) with
            | none =>
              refine iteF ⟨t2, N2, S2, hh, dg, st, rw1, next rw2 (fun c d p q => ?_), ⟨w1, e1⟩, _, _, _, rfl⟩
              obtain ⟨e, h1, _⟩ := st _ _ d (by rw [← ek]; exact hp) hB q
              rw [← ek, e2] at h1; cases h1
            | some w2 =>
              rw [e2] at y3
              refine iteT ⟨_, rfl, _, rfl, pc, _, _, _, rfl, rfl, SqL.of N2.tb.ob, x1, _, rfl, r1, _, _, _, rfl, rfl, SqL.of x2, x3, _, rfl, _, rfl, pc, _, _, _, rfl, rfl, SqL.of N2.tb.ob, y1, _, rfl, r2, _, _, _, rfl, rfl, SqL.of y2, y3, _, _, rfl, rfl, ?_⟩
              dsimp only
              have sum : ∀ c d, SP bs k (0 + (i : Int)) (k : Int) c → SP bs k (k : Int) (0 + (j : Int)) d → w1 + w2 ≤ c + d := fun c d p q => by
                obtain ⟨f1, h1, h2⟩ := st _ _ c ha (by rw [← ek]; exact hp) p
                obtain ⟨f2, h3, h4⟩ := st _ _ d (by rw [← ek]; exact hp) hB q
                rw [← ek, e1] at h1; rw [← ek, e2] at h3
                cases h1; cases h3
                omega
              obtain ⟨r', row', s1, s2, s3, s4, s5⟩ := wr N2 S2 ha hB (w1 + w2)
              have put : (∀ e, ent t2 (0 + (i : Int)) (0 + (j : Int)) = some e → w1 + w2 ≤ e) → ∃ t', NewT H (upd H6 r' (.lst ((row'.map ov).set (0 + (j : Int)).toNat (.int (w1 + w2))))) pc rc t' ∧ Square n t' ∧ Hit n bs t' ∧ (∀ x, inN x n → Low (ent t' x x) 0) ∧ Stage n bs k t' ∧ (∀ a b c d, inN a n → inN b n → a < i → SP bs k a (k : Int) c → SP bs k (k : Int) b d → Low (ent t' a b) (c + d)) ∧ (∀ b c d, inN b n → b < ((j + 1 : Nat) : Int) → SP bs k (0 + (i : Int)) (k : Int) c → SP bs k (k : Int) b d → Low (ent t' (0 + (i : Int)) b) (c + d)) ∧ (∃ w, ent t' (0 + (i : Int)) (0 + (k : Int)) = some w) := fun h => by
                refine ⟨_, s4, s5, set_hit S2 ha hB hh ((hh _ _ _ ha hp e1).trans (hh _ _ _ hp hB e2)), fun x hx => set_low S2 ha hB h hx hx (dg x hx), fun a b c hA hb' p => set_low S2 ha hB h hA hb' (st a b c hA hb' p), fun a b c d hA hb' hlt p q => set_low S2 ha hB h hA hb' (rw1 a b c d hA hb' hlt p q), next (fun b c d hb' hlt p q => set_low S2 ha hB h ha hb' (rw2 b c d hb' hlt p q)) (fun c d p q => ?_), ?_⟩
                · rw [setE_ent S2 ha hB ha hB, if_pos ⟨rfl, rfl⟩]
                  exact ⟨_, rfl, sum c d p q⟩
                · obtain ⟨w, g1, _⟩ := set_low S2 ha hB h ha hp ⟨w1, e1, Int.le_refl _⟩
                  exact ⟨w, g1⟩
              refine ⟨_, rfl, _, rfl, pc, _, _, _, rfl, rfl, SqL.of N2.tb.ob, z1, _, rfl, r3, _, _, _, rfl, rfl, SqL.of z2, z3, rfl, _, rfl, ?_⟩
              cases e3 : ent t2 (0 + (i : Int)) (0 + (j : Int)) with
              | none =>
                obtain ⟨t', g1, g2, g3, g4, g5, g6, g7, g8⟩ := put (fun e h => by rw [e3] at h; cases h)
                refine iteT (iteT ⟨_, rfl, _, rfl, _, rfl, pc, _, _, _, rfl, rfl, SqL.of N2.tb.ob, s1, _, rfl, r', _, _, _, rfl, rfl, s2, s3, ?_⟩)
                exact ⟨t', g1, g2, g3, g4, g5, g6, g7, g8, _, _, _, rfl⟩
              | some w3 =>
                rw [e3] at z3
                refine iteF ⟨_, rfl, _, rfl, _, rfl, pc, _, _, _, rfl, rfl, SqL.of N2.tb.ob, z1, _, rfl, r3, _, _, _, rfl, rfl, SqL.of z2, z3, _, _, rfl, rfl, _, rfl, ?_⟩
                refine ite2 (fun c => ?_) (fun c => ?_)
                · have c' : w1 + w2 < w3 := of_decide_eq_true c
                  obtain ⟨t', g1, g2, g3, g4, g5, g6, g7, g8⟩ := put (fun e h => by rw [e3] at h; cases h; omega)
                  refine ⟨_, rfl, _, rfl, _, rfl, pc, _, _, _, rfl, rfl, SqL.of N2.tb.ob, s1, _, rfl, r', _, _, _, rfl, rfl, s2, s3, ?_⟩
                  exact ⟨t', g1, g2, g3, g4, g5, g6, g7, g8, _, _, _, rfl⟩
                · have c' : ¬ w1 + w2 < w3 := of_decide_eq_false (Bool.eq_false_iff.mpr c)
                  refine ⟨t2, N2, S2, hh, dg, st, rw1, next rw2 (fun c d p q => ?_), ⟨w1, e1⟩, _, _, _, rfl⟩
                  have := sum c d p q
                  exact ⟨w3, e3, by omega⟩
          · clear x1 x2 x3 e1 rw1 st dg hh S2 N2
            rintro σ H6 ⟨t2, N2, S2, hh, dg, st, rw1, rw2, _, v4, v5, v7, rfl⟩
            exact ⟨t2, N2, S2, hh, dg, st, done rw1 (fun b c d hB p q => rw2 b c d hB (by have := hB.2; omega) p q), _, _, _, _, rfl⟩
      · clear st dg hh S2 N2
        rintro σ H5 ⟨t1, N2, S2, hh, dg, st, rw1, u3', u4', u5', u7', rfl⟩
        refine ⟨t1, N2, S2, hh, dg, fun a b c ha hB p => ?_, _, _, _, _, _, rfl⟩
        rcases p.cases with p | ⟨c1, c2, p1, p2, rfl⟩
        · exact st a b c ha hB p
        · exact rw1 a b c1 c2 ha hB (by have := ha.2; omega) p1 p2
    clear st0 lo dg hh S2 N2
    rintro σ H4 ⟨t0, N2, S2, hh, dg, st, u3, u4, u5, u6, u7, rfl⟩
    rw [Int.toNat_natCast] at st
    refine ⟨_, rfl, ((n : Nat) : Int), rfl, by omega, by omega, for_range (lo := 0) (n := ((n : Nat) : Int).toNat) (fun i σ H5 => H5 = H4 ∧ (∀ x e, inN x n → x < i → ent t0 x x = some e → 0 ≤ e) ∧ ∃ u3 u4 u5 u6 u7, σ = [some (.int n), some (.ref r), some (.ref pc), u3, u4, u5, u6, u7]) ⟨rfl, fun x e hx h => absurd hx.1 (by omega), _, _, _, _, _, rfl⟩ ?_ ?_⟩
    · rintro i σ H5 hi ⟨rfl, nn, v3, v4, v5, v6, v7, rfl⟩
      have ha : inN (0 + (i : Int)) n := ⟨by omega, by omega⟩
      obtain ⟨r1, row1, x1, x2, x3⟩ := N2.tb.at S2 ha ha
      obtain ⟨z, e, _⟩ := dg _ ha
      rw [e] at x3
      refine ⟨_, rfl, _, rfl, pc, _, _, _, rfl, rfl, SqL.of N2.tb.ob, x1, _, rfl, r1, _, _, _, rfl, rfl, SqL.of x2, x3, _, _, rfl, rfl, _, rfl, ?_⟩
      refine ite2 (fun c => ?_) (fun c => ⟨rfl, fun x e' hx hlt h => ?_, _, _, _, _, _, rfl⟩)
      · have c' : z < 0 := of_decide_eq_true c
        exact q _ H5 N2.sm (.inl ⟨rfl, stage_neg hh ha e c'⟩)
      · have c' : ¬ z < 0 := of_decide_eq_false (Bool.eq_false_iff.mpr c)
        by_cases d : x < i
        · exact nn x e' hx d h
        · have : x = 0 + (i : Int) := by omega
          subst this
          rw [e] at h
          cases h
          omega
    · rintro σ H5 ⟨rfl, nn, v3, v4, v5, v6, v7, rfl⟩
      have R := stage_end hw S2 hh st fun x e hx h => nn x e hx (by have := hx.2; omega) h
      exact ⟨_, rfl, q _ H5 N2.sm (.inr ⟨pc, rc, t0, rfl, N2.tb, R⟩)⟩
theorem sc_law_walked : FnScope ["_law_found", "_law_gaps", "_law_point", "_law_ends_here", "_law_some", "_law_mark"] ["_law_found", "_law_gaps", "_law_point"] (defScope s_law_walked) := ⟨rfl, rfl, rfl, by decide +kernel, rfl, by decide +kernel, by decide +kernel⟩
theorem ok_law_walked {f : Addr} {fd : FuncData} (F : Fun K "_law_walked" "_law_walked" s_law_walked f fd) (T : Txt K mg cl) (C_law_ends : Cal P w K mg base 1 "_law_ends" ["_law_gaps"] (sp_law_ends K)) : FnOk P w K mg base CX0 2 f fd ["_law_found", "_law_gaps", "_law_point"] (sp_law_walked K) := by
  refine F.ok sc_law_walked (fun vs H Q E h => ?_) (fun cdv A outer s H vs Q E hr h => ?_)
  · obtain ⟨l, dg, a, b, en, qs, kvs, gs, ps, rfl, hl, hN, hd, G, nd, h64, wk, q⟩ := h
    rfl
  · obtain ⟨l, dg, a, b, en, qs, kvs, gs, ps, rfl, hl, hN, hd, G, nd, h64, wk, q⟩ := h
    refine ⟨_, (pss_cons (ps_set (i := 3) sc_law_walked.nd rfl (Or.inl rfl) (pec C_law_ends (hr.mono (by decide)) rfl (pa_cons (pv 1) pa_nil)))
      (pss_cons (ps_set (i := 4) sc_law_walked.nd rfl (Or.inl rfl) pe_int)
      (pss_cons (ps_for PassesOwn.never rfl (pi_list (pv 0)) (pg_name (i := 5) sc_law_walked.nd rfl (Or.inl rfl))
      (pss_cons (ps_if (PW.pt (pw_or (pt_cmp (pc_dnotin (hu1 hr) (pv 5) (pv 3))) (pw_or1 (pt_cmpR op_ne (pe_ix ix_tup (pe_dget (hu1 hr) (pv 3) (pv 5) (fun _ _ => rfl)) pe_int (fun _ _ => rfl)) (pv 2) (nomark _)))))
      (pss_one (ps_ret pe_non))
      pss_nil)
      (pss_cons (ps_set (i := 2) sc_law_walked.nd rfl (Or.inl rfl) (pe_ix ix_tup (pe_dget (hu1 hr) (pv 3) (pv 5) (fun _ _ => rfl)) pe_int (fun _ _ => rfl)))
      (pss_one (ps_set (i := 4) sc_law_walked.nd rfl (Or.inl rfl) (pe_op op_add (pv 4) (pe_ix ix_tup (pe_dget (hu1 hr) (pv 3) (pv 5) (fun _ _ => rfl)) pe_int (fun _ _ => rfl))))))))
      (pss_one (ps_ret (pe_tup (pa_cons (pv 2) (pa_cons (pv 4) pa_nil)))))))), ?_⟩
    have lq := hN.len
    have lpm : (ps.map (nmAt gs)).length = ps.length := List.length_map _
    refine ⟨_, rfl, dg, kvs, gs, rfl, hd, G, nd, h64, fun e H1 us he0 s1 e1 A1 K1 => ?_⟩
    have l1 := s1 _ _ hl
    have N1 := hN.same s1
    refine ⟨_, rfl, l, rfl, ⟨_, SqL.of l1⟩, for_list (K := K) (a := l) (xs := qs) (fun i σ H2 => H2 = H1 ∧ ∃ (x s : Int) (u5 : Option V), Walk (allB gs) (ps.drop i) x b (en - s) ∧ σ = [some (.ref l), some (.ref dg), some (.int x), some (.ref e), some (.int s), u5]) ⟨rfl, a, 0, _, by rw [Int.sub_zero]; exact wk, rfl⟩ (fun i σ H2 _ ⟨e, _⟩ => by rw [e]; exact SqL.of l1) ?_ ?_⟩
    · rintro i y σ H2 hi ⟨rfl, x, s', u5, w', rfl⟩
      have hlt : i < ps.length := by
        have := (List.getElem?_eq_some_iff.mp hi).1
        omega
      obtain ⟨m0, hm0, pm, rfl, hpm⟩ := paired_get N1 hi
      have hget : ps[i]? = some (ps.getD i 0) := by rw [List.getD_eq_getElem?_getD, List.getElem?_eq_getElem hlt]; rfl
      rw [List.getElem?_map, hget] at hm0
      have hm0 : nmAt gs (ps.getD i 0) = m0 := Option.some.inj hm0
      have hdr : ps.drop i = ps.getD i 0 :: ps.drop (i + 1) := by
        rw [List.drop_eq_getElem_cons hlt, List.getD_eq_getElem?_getD, List.getElem?_eq_getElem hlt]; rfl
      rw [hdr] at w'
      generalize ps.getD i 0 = k at w' hm0
      subst hm0
      generalize hE : en - s' = E' at w'
      cases w' with
      | @cons _ _ m _ d h0 hm r' =>
        obtain ⟨pb, hval, hpb⟩ := ends_at K1 A1 nd h0 hm
        refine ⟨_, rfl, _, rfl, e, _, rfl, DGet.t (k := keyN (nmAt gs k)) e1 hpm, _, rfl, ?_⟩
        rw [hval]
        refine iteF ?_
        refine ⟨_, rfl, _, rfl, e, _, rfl, .inr ⟨us, keyN (nmAt gs k), pm, .inl e1, rfl, hpm, hval.symm⟩, pb, _, 0, _, rfl, rfl, SqT.of hpb, rfl, _, rfl, rfl, _, rfl, iteNS rfl ?_⟩
        refine ⟨_, rfl, _, rfl, e, _, rfl, .inr ⟨us, keyN (nmAt gs k), pm, .inl e1, rfl, hpm, hval.symm⟩, pb, _, 1, _, rfl, rfl, SqT.of hpb, rfl, ?_⟩
        refine ⟨_, rfl, _, rfl, _, rfl, e, _, rfl, .inr ⟨us, keyN (nmAt gs k), pm, .inl e1, rfl, hpm, hval.symm⟩, pb, _, 2, _, rfl, rfl, SqT.of hpb, rfl, _, _, rfl, rfl, ?_⟩
        refine ⟨rfl, m.2.1, s' + m.2.2, _, ?_, rfl⟩
        have : en - (s' + m.2.2) = d := by omega
        rw [this]
        exact r'
    · rintro σ H2 ⟨rfl, x, s', u5, w', rfl⟩
      rw [show qs.length = ps.length by omega, List.drop_length] at w'
      generalize hE : en - s' = E' at w'
      cases w' with
      | nil =>
        have es : s' = en := by omega
        subst es
        exact ⟨_, rfl, _, rfl, (by show 2 ≤ sizeLine; decide), fun p hp => q p _ (s1.trans (same_new hp _)) upd_same⟩
theorem sc_law_tries : FnScope ["_law_times_here", "_law_bag_here", "_law_some"] ["_law_times_here", "_law_bag_here"] (defScope s_law_tries) := ⟨rfl, rfl, rfl, by decide +kernel, rfl, by decide +kernel, by decide +kernel⟩
theorem ok_law_tries {f : Addr} {fd : FuncData} (F : Fun K "_law_tries" "_law_tries" s_law_tries f fd) (T : Txt K mg cl) (C_law_take : Cal P w K mg base 1 "_law_take" ["_law_bag_here", "_law_many_here"] (sp_law_take K)) : FnOk P w K mg base CX0 2 f fd ["_law_times_here", "_law_bag_here"] (sp_law_tries K) := by
  refine F.ok sc_law_tries (fun vs H Q E h => ?_) (fun cdv A outer s H vs Q E hr h => ?_)
  · obtain ⟨t, b, n, c, ts, rfl, ht, lt, n1, n8, ⟨u, v, hb, v0, v1⟩, hc, q⟩ := h
    rfl
  · obtain ⟨t, b, n, c, ts, rfl, ht, lt, n1, n8, ⟨u, v, hb, v0, v1⟩, hc, q⟩ := h
    refine ⟨_, (pss_cons (ps_set (i := 2) sc_law_tries.nd rfl (Or.inl rfl) (pe_callTy call_list_of rfl T.z_list boot_list (pa_cons (pv 0) pa_nil)))
      (pss_cons (ps_augS (pv 2) (pec C_law_take (hr.mono (by decide)) rfl (pa_cons (pv 1) (pa_cons (pe_callB call_len_seq rfl T.z_len PySem.boot_len (pa_cons (pv 0) pa_nil)) pa_nil))) get_list (pe_op op_sub (pec C_law_take (hr.mono (by decide)) rfl (pa_cons (pv 1) (pa_cons pe_int pa_nil))) pe_int) ip_add set_list)
      (pss_one (ps_ret (pe_lst (pa_cons (pv 0) (pa_cons (pe_callTy call_tuple_of rfl T.z_tuple boot_tuple (pa_cons (pe_compS [] [] rfl (pi_tup (pv 0)) (fun _ _ _ => pts_nil) (fun _ _ _ => (pe_op op_add (pv 0) pe_int)) (hk := by kernel_rfl)) pa_nil)) (pa_cons (pe_callTy call_tuple_of rfl T.z_tuple boot_tuple (pa_cons (pv 2) pa_nil)) pa_nil)))))))), ?_⟩
    have hln : (ts.map V.int).length = ts.length := List.length_map _
    have ntb : t ≠ b := ne_of ht hb (fun z => by cases z)
    refine ⟨_, rfl, t, _, rfl, .inr (SqT.of ht), fun l hl => ?_⟩
    have s1 := same_new hl (.lst (ts.map V.int))
    have l1 : (upd H l (.lst (ts.map V.int))) l = some (.lst (ts.map V.int)) := upd_same
    generalize upd H l (.lst (ts.map V.int)) = H1 at s1 l1 ⊢
    have nlb : l ≠ b := Ne.symm (ne_of_none hb hl)
    have t1 := s1 _ _ ht
    refine ⟨_, rfl, _, rfl, _, rfl, t, _, rfl, .inr (SqT.of t1), b, u, v, _, rfl, s1 _ _ hb, v0, by omega, by omega, by omega, fun i u2 w2 H2 b2 e2 p2 q2 i0 i1 => ?_⟩
    have l2 := b2 _ _ l1 nlb
    rw [hln] at i1
    refine ⟨l, _, _, _, rfl, rfl, SqL.of l2, i0, at_int i0 i1, ?_⟩
    refine ⟨_, rfl, b, u2, w2, 9, rfl, e2, p2, by omega, by decide, by decide, fun z u3 w3 H3 b3 e3 p3 q3 _ _ => ⟨_, _, rfl, rfl, _, _, rfl, rfl, ?_⟩⟩
    have l3 := b3 _ _ l2 nlb
    refine ⟨l, _, _, _, rfl, rfl, l3, ixN_of i0 (by rw [hln]; exact i1), ?_⟩
    dsimp only
    rw [← List.map_set]
    generalize hts' : ts.set i.toNat _ = ts'
    have lt' : ts'.length = n := by rw [← hts', List.length_set]; exact lt
    have b4 : But b H (upd H3 l (.lst (ts'.map V.int))) := fun c o h nb => by
      rw [upd_ne (ne_of_none h hl)]
      exact b3 _ _ (b2 _ _ (s1 _ _ h) nb) nb
    have l4 : (upd H3 l (.lst (ts'.map V.int))) l = some (.lst (ts'.map V.int)) := upd_same
    have e4 : (upd H3 l (.lst (ts'.map V.int))) b = some (.lst [.int u3, .int w3]) := by rw [upd_ne (Ne.symm nlb)]; exact e3
    generalize upd H3 l (.lst (ts'.map V.int)) = H4 at b4 l4 e4 ⊢
    have t4 := b4 _ _ ht ntb
    refine ⟨_, rfl, _, rfl, t, rfl, ⟨_, SqT.of t4⟩, comp_tup (K := K) (a := t) (xs := ts.map V.int) (fun i acc Hx => Hx = H4 ∧ ∃ ms : List Int, ms.length = i ∧ acc = ms.map V.int) (by rw [hln]; exact small (by omega)) ⟨rfl, [], rfl, rfl⟩ (fun i acc Hx ⟨_, ms, e1, e2⟩ => by rw [e2, List.length_map, e1]) (fun i acc Hx h => by rw [h.1]; exact SqT.of t4) ?_ ?_⟩
    · rintro j acc Hx y hy ⟨rfl, ms, g1, g2⟩ R kR
      rw [List.getElem?_map] at hy
      obtain ⟨w, _, rfl⟩ := Option.map_eq_some_iff.mp hy
      exact ⟨_, rfl, _, _, rfl, rfl, kR _ _ ⟨rfl, ms ++ [w + 7], by rw [List.length_append, g1]; rfl, ints_snoc g2 _⟩⟩
    rintro acc Hx ⟨rfl, ms, g1, rfl⟩ p hp
    have s5 := same_new hp (.lst (ms.map V.int))
    have p5 : (upd Hx p (.lst (ms.map V.int))) p = some (.lst (ms.map V.int)) := upd_same
    generalize upd Hx p (.lst (ms.map V.int)) = H5 at s5 p5 ⊢
    refine ⟨p, _, rfl, .inl ⟨SqL.of p5, fun t6 ht6 => ?_⟩⟩
    have s6 := same_new ht6 (.tup (ms.map V.int))
    have f6 : (upd H5 t6 (.tup (ms.map V.int))) t6 = some (.tup (ms.map V.int)) := upd_same
    generalize upd H5 t6 (.tup (ms.map V.int)) = H6 at s6 f6 ⊢
    refine ⟨_, rfl, l, _, rfl, .inl ⟨SqL.of (s6 _ _ (s5 _ _ l4)), fun t7 ht7 => ?_⟩⟩
    have s7 := same_new ht7 (.tup (ts'.map V.int))
    have f7 : (upd H6 t7 (.tup (ts'.map V.int))) t7 = some (.tup (ts'.map V.int)) := upd_same
    generalize upd H6 t7 (.tup (ts'.map V.int)) = H7 at s7 f7 ⊢
    refine ⟨(by show 3 ≤ sizeLine; decide), fun r hr => ?_⟩
    have s8 := same_new hr (.lst [.ref t, .ref t6, .ref t7])
    have s48 := ((s5.trans s6).trans s7).trans s8
    refine q r _ _ (b4.trans (but_same s48)) ⟨u3, w3, s48 _ _ e4, p3, by omega⟩ (b4.none e4 (none_of ((s5.trans s6).trans s7) hr)) upd_same (fun v hv => ?_) (by show 0 < 3; decide)
    rcases List.mem_cons.mp hv with rfl | hv
    · exact ⟨t, ts, rfl, s48 _ _ t4, lt⟩
    rcases List.mem_cons.mp hv with rfl | hv
    · exact ⟨t6, ms, rfl, s8 _ _ (s7 _ _ f6), by rw [g1, hln, lt]⟩
    · rw [List.mem_singleton.mp hv]
      exact ⟨t7, ts', rfl, s8 _ _ f7, lt'⟩
theorem sc_House___init__ : FnScope ["self", "count"] ["self", "count"] (defScope s_House___init__) := ⟨rfl, rfl, rfl, by decide +kernel, rfl, by decide +kernel, by decide +kernel⟩
theorem ok_House___init__ {f : Addr} {fd : FuncData} (F : Fun K "__init__" "House.__init__" s_House___init__ f fd) (T : Txt K mg cl)  : FnOk P w K mg base CX0 1 f fd ["self", "count"] (sp_House___init__ K cl) := by
  refine F.ok sc_House___init__ (fun vs H Q E h => ?_) (fun cdv A outer s H vs Q E hr h => ?_)
  · obtain ⟨x, dx, n, rfl, hx, q⟩ := h
    rfl
  · obtain ⟨x, dx, n, rfl, hx, q⟩ := h
    refine ⟨_, (pss_cons (ps_fld (pv 0) (pv 1) rfl)
      (pss_one (ps_fld (pv 0) pe_dnewK rfl))), ?_⟩
    refine ⟨_, rfl, _, rfl, x, cl.House, dx, [], rfl, hx, T.cl_House, T.n_House_count, (by show 0 < 1000; decide), fun d hd => ?_⟩
    have b1 : But x H (upd H x (.ins cl.House dx (putF "count" (.int n) []))) := fun b o e h => by rw [upd_ne h]; exact e
    have x1 : (upd H x (.ins cl.House dx (putF "count" (.int n) []))) x = some (.ins cl.House dx (putF "count" (.int n) [])) := upd_same
    generalize upd H x (.ins cl.House dx (putF "count" (.int n) [])) = H1 at b1 x1 hd ⊢
    have s2 := same_new hd (.dK [])
    have e2 : (upd H1 d (.dK [])) d = some (.dK []) := upd_same
    generalize upd H1 d (.dK []) = H2 at s2 e2 ⊢
    have x2 := s2 _ _ x1
    refine ⟨_, rfl, x, cl.House, dx, _, rfl, x2, T.cl_House, T.n_House_gaps, (by show 1 < 1000; decide), ?_⟩
    have nd : d ≠ x := Ne.symm (ne_of_none x1 hd)
    refine q d _ ⟨⟨dx, upd_same⟩, [], by rw [upd_ne nd]; exact e2, .nil⟩ (fun b o e h => by rw [upd_ne h]; exact s2 _ _ (b1 _ _ e h)) ?_
    cases e : H d with
    | none => rfl
    | some o =>
      have := b1 _ _ e nd
      rw [hd] at this; cases this
theorem sc_House_add : FnScope ["self", "name", "a", "b", "low", "high"] ["self", "name", "a", "b", "low", "high"] (defScope s_House_add) := ⟨rfl, rfl, rfl, by decide +kernel, rfl, by decide +kernel, by decide +kernel⟩
theorem ok_House_add {f : Addr} {fd : FuncData} (F : FunD K "add" "House.add" s_House_add f fd) (T : Txt K mg cl)  : FnOk P w K mg base CX0 1 f fd ["self", "name", "a", "b", "low", "high"] (sp_House_add K cl) := by
  refine F.ok sc_House_add (fun vs H Q E h => ?_) (fun cdv A outer s H vs Q E hr h => ?_)
  · obtain ⟨x, d, n, gs, nm, g, rfl, W, hn, hl, q⟩ := h
    rfl
  · obtain ⟨x, d, n, gs, nm, g, rfl, W, hn, hl, q⟩ := h
    refine ⟨_, (pss_cons (ps_if (pt_cmp (pc_din (hu1 hr) (pv 1) (pe_fld (pv 0) rfl)))
      (pss_one ps_never)
      pss_nil)
      (pss_one (ps_dput (hu1 hr) (pe_fld (pv 0) rfl) (pv 1) (pe_tup (pa_cons (pv 2) (pa_cons (pv 3) (pa_cons (pv 4) (pa_cons (pv 5) pa_nil))))) rfl))), ?_⟩
    obtain ⟨dx, hx⟩ := W.ob
    obtain ⟨kvs, hd, G⟩ := W.dc
    have hv := G.val_none hn
    have len := G.len
    refine ⟨_, rfl, _, rfl, x, cl.House, dx, _, _, rfl, hx, T.cl_House, T.n_House_gaps, fldh_gaps _ _, d, _, rfl, DGet.k (k := Sum.inr nm) hd, ?_⟩
    rw [hv]
    refine ⟨_, rfl, iteF ?_⟩
    refine ⟨_, rfl, _, rfl, _, rfl, _, rfl, (by show 4 ≤ sizeLine; decide), fun p hp => ?_⟩
    have s1 := same_new hp (.tup [.int g.1, .int g.2.1, ov g.2.2.1, ov g.2.2.2])
    have e1 : (upd H p (.tup [.int g.1, .int g.2.1, ov g.2.2.1, ov g.2.2.2])) p = some (.tup (gv g)) := upd_same
    generalize upd H p (.tup [.int g.1, .int g.2.1, ov g.2.2.1, ov g.2.2.2]) = H1 at s1 e1 ⊢
    have hx1 := s1 _ _ hx
    have hd1 := s1 _ _ hd
    refine ⟨_, rfl, x, cl.House, dx, _, _, rfl, hx1, T.cl_House, T.n_House_gaps, fldh_gaps _ _, _, rfl, d, _, rfl, DPut.k (k := Sum.inr nm) hd1 (small1000 (by omega)), ?_⟩
    rw [putK_new _ hv]
    have b2 : But d H1 (upd H1 d (.dK (kvs ++ [(Sum.inr nm, .ref p)]))) := fun b o e h => by rw [upd_ne h]; exact e
    refine q _ ⟨⟨dx, b2 _ _ hx1 (ne_of hx1 hd1 (fun z => by cases z))⟩, _, upd_same, ?_⟩ (fun b o e h => b2 _ _ (s1 _ _ e) h)
    exact ((G.same s1).snoc e1).keep fun c xs e => b2 _ _ e (ne_of e hd1 (fun z => by cases z))
theorem sc_House_need : FnScope ["self", "name"] ["self", "name"] (defScope s_House_need) := ⟨rfl, rfl, rfl, by decide +kernel, rfl, by decide +kernel, by decide +kernel⟩
theorem ok_House_need {f : Addr} {fd : FuncData} (F : Fun K "need" "House.need" s_House_need f fd) (T : Txt K mg cl)  : FnOk P w K mg base CX0 1 f fd ["self", "name"] (sp_House_need K cl) := by
  refine F.ok sc_House_need (fun vs H Q E h => ?_) (fun cdv A outer s H vs Q E hr h => ?_)
  · obtain ⟨x, d, n, gs, nm, rfl, W, hn, q⟩ := h
    rfl
  · obtain ⟨x, d, n, gs, nm, rfl, W, hn, q⟩ := h
    refine ⟨_, (pss_one (ps_if (pt_cmp (pc_dnotin (hu1 hr) (pv 1) (pe_fld (pv 0) rfl)))
      (pss_one ps_never)
      pss_nil)), ?_⟩
    obtain ⟨dx, hx⟩ := W.ob
    obtain ⟨kvs, hd, G⟩ := W.dc
    obtain ⟨p, g, _, hv, _⟩ := G.val_some hn
    refine ⟨_, rfl, _, rfl, x, cl.House, dx, _, _, rfl, hx, T.cl_House, T.n_House_gaps, fldh_gaps _ _, d, _, rfl, DGet.k (k := Sum.inr nm) hd, ?_⟩
    rw [hv]
    exact ⟨_, rfl, iteF q⟩
theorem sc_House_names : FnScope ["self"] ["self"] (defScope s_House_names) := ⟨rfl, rfl, rfl, by decide +kernel, rfl, by decide +kernel, by decide +kernel⟩
theorem ok_House_names {f : Addr} {fd : FuncData} (F : Fun K "names" "House.names" s_House_names f fd) (T : Txt K mg cl)  : FnOk P w K mg base CX0 1 f fd ["self"] (sp_House_names K cl) := by
  refine F.ok sc_House_names (fun vs H Q E h => ?_) (fun cdv A outer s H vs Q E hr h => ?_)
  · obtain ⟨x, d, n, gs, rfl, W, q⟩ := h
    rfl
  · obtain ⟨x, d, n, gs, rfl, W, q⟩ := h
    refine ⟨_, (pss_one (ps_ret (pe_callTy (call_listD rfl) rfl T.z_list boot_list (pa_cons (pe_fld (pv 0) rfl) pa_nil)))), ?_⟩
    obtain ⟨dx, hx⟩ := W.ob
    obtain ⟨kvs, hd, G⟩ := W.dc
    exact ⟨_, rfl, x, cl.House, dx, _, _, rfl, hx, T.cl_House, T.n_House_gaps, fldh_gaps _ _, d, kvs, rfl, .inl hd, fun l hl => q l _ hl (same_new hl _) (by rw [upd_same, G.kv])⟩
theorem sc_wide : FnScope ["count"] ["count"] (defScope s_wide) := ⟨rfl, rfl, rfl, by decide +kernel, rfl, by decide +kernel, by decide +kernel⟩
theorem ok_wide {f : Addr} {fd : FuncData} (F : Fun K "wide" "wide" s_wide f fd) (T : Txt K mg cl) (C_wide_row : Cal P w K mg base 1 "wide_row" ["count", "a"] (sp_wide_row K)) : FnOk P w K mg base CX0 2 f fd ["count"] (sp_wide K) := by
  refine F.ok sc_wide (fun vs H Q E h => ?_) (fun cdv A outer s H vs Q E hr h => ?_)
  · obtain ⟨n, rfl, hn, q⟩ := h
    rfl
  · obtain ⟨n, rfl, hn, q⟩ := h
    refine ⟨_, (pss_one (ps_ret (pe_compS ["count"] [0] rfl (pi_range1 rfl T.z_range (pa_cons (pv 0) pa_nil)) (fun _ _ _ => pts_nil) (fun _ _ _ => (pec C_wide_row (hr.mono (by decide)) rfl (pa_cons (pv 1) (pa_cons (pv 0) pa_nil)))) (hk := by kernel_rfl)))), ?_⟩
    refine ⟨_, rfl, (n : Int), rfl, by omega, by omega, comp_rows (n := ((n : Nat) : Int).toNat) (fun i => (List.range n).map fun (j : Nat) => if (i : Int) = (j : Int) then some (0 : Int) else none) (small (by omega)) ?_ ?_⟩
    · intro i H1 hi s1 R kR
      refine ⟨_, rfl, _, rfl, n, _, rfl, hn, fun r hr => ?_⟩
      refine kR r _ hr (same_new hr _) ?_
      rw [upd_same, Int.zero_add]
    · intro p rs H' N
      rw [Int.toNat_natCast] at N
      exact q p rs H' N
theorem sc_held_row : FnScope ["table", "a", "bound", "ahead", "behind"] ["table", "a", "bound"] (defScope s_held_row) := ⟨rfl, rfl, rfl, by decide +kernel, rfl, by decide +kernel, by decide +kernel⟩
theorem ok_held_row {f : Addr} {fd : FuncData} (F : Fun K "held_row" "held_row" s_held_row f fd) (T : Txt K mg cl) (C_total : Cal P w K mg base 1 "total" ["one", "other"] (sp_total K)) (C_lesser : Cal P w K mg base 1 "lesser" ["one", "other"] (sp_lesser K)) : FnOk P w K mg base CX0 2 f fd ["table", "a", "bound"] (sp_held_row K) := by
  refine F.ok sc_held_row (fun vs H Q E h => ?_) (fun cdv A outer s H vs Q E hr h => ?_)
  · obtain ⟨u, p, a, m, rs, t, n, rfl, hB, hT, hS, hn, ha, h1, h2, q⟩ := h
    rfl
  · obtain ⟨u, p, a, m, rs, t, n, rfl, hB, hT, hS, hn, ha, h1, h2, q⟩ := h
    refine ⟨_, (pss_cons (ps_set (i := 3) sc_held_row.nd rfl (Or.inr rfl) (pec C_total (hr.mono (by decide)) rfl (pa_cons (pe_ix ix_list (pe_ix ix_list (pv 0) (pv 1) (fun _ _ => rfl)) (pe_ix ix_tup (pv 2) pe_int (fun _ _ => rfl)) (fun _ _ => rfl)) (pa_cons (pe_ix ix_tup (pv 2) pe_int (fun _ _ => rfl)) pa_nil))))
      (pss_cons (ps_set (i := 4) sc_held_row.nd rfl (Or.inr rfl) (pe_ix ix_list (pv 0) (pe_ix ix_tup (pv 2) pe_int (fun _ _ => rfl)) (fun _ _ => rfl)))
      (pss_one (ps_ret (pe_compS ["ahead", "table", "a", "behind"] [3, 0, 1, 4] rfl (pi_range1 rfl T.z_range (pa_cons (pe_callB call_len_seq rfl T.z_len PySem.boot_len (pa_cons (pv 0) pa_nil)) pa_nil)) (fun _ _ _ => pts_nil) (fun _ _ _ => (pec C_lesser (hr.mono (by decide)) rfl (pa_cons (pe_ix (ix_listK (K := K) rfl) (pe_ix (ix_listK (K := K) rfl) (pv 2) (pv 3) (fun _ _ => rfl)) (pv 0) (fun _ _ => rfl)) (pa_cons (pec C_total (hr.mono (by decide)) rfl (pa_cons (pv 1) (pa_cons (pe_ix (ix_listK (K := K) rfl) (pv 4) (pv 0) (fun _ _ => rfl)) pa_nil))) pa_nil)))) (hk := by kernel_rfl)))))), ?_⟩
    obtain ⟨r, row, g1, g2, g3, g4⟩ := hT.rowAt hS ha
    obtain ⟨r2, row2, k1, k2, k3, k4⟩ := hT.rowAt hS h2
    have hl := hT.len hS
    refine ⟨_, rfl, _, rfl, p, _, _, _, rfl, rfl, SqL.of hT.ob, g1, _, rfl, u, _, 0, _, rfl, rfl, hB, rfl, r, _, _, _, rfl, rfl, SqL.of g2, g4 _ h1, _, rfl, u, _, 2, _, rfl, rfl, hB, rfl, _, some m.2.2, rfl, ?_⟩
    refine ⟨_, rfl, _, rfl, u, _, 1, _, rfl, rfl, hB, rfl, p, _, _, _, rfl, rfl, SqL.of hT.ob, k1, ?_⟩
    refine ⟨_, rfl, p, _, rfl, .inl (SqL.of hT.ob), (n : Int), by rw [hl], by omega, by omega, comp_vals (n := ((n : Nat) : Int).toNat) (fun j => ov (heldF t m a (j : Int))) (small (by omega)) ?_ ?_⟩
    · intro i hi R kR
      have hi' : inN (0 + (i : Int)) n := ⟨by omega, by omega⟩
      have e0 : (0 + (i : Int)) = (i : Int) := Int.zero_add _
      refine ⟨_, rfl, _, rfl, p, _, _, _, rfl, rfl, SqL.of hT.ob, g1, _, rfl, r, _, _, _, rfl, rfl, SqL.of g2, g4 _ hi', _, rfl, _, rfl, _, rfl, r2, _, _, _, rfl, rfl, SqL.of k2, k4 _ hi', _, _, rfl, _, _, rfl, ?_⟩
      rw [e0]
      exact kR
    · intro p' hp
      have := q p' hp
      rw [List.map_map] at this
      rw [Int.toNat_natCast]
      exact this
theorem sc_led : FnScope ["ways", "a", "bound", "place", "changes"] ["ways", "a", "bound", "place", "changes"] (defScope s_led) := ⟨rfl, rfl, rfl, by decide +kernel, rfl, by decide +kernel, by decide +kernel⟩
theorem ok_led {f : Addr} {fd : FuncData} (F : Fun K "led" "led" s_led f fd) (T : Txt K mg cl) (C_by_way : Cal P w K mg base 1 "by_way" ["ways", "a", "b", "bound", "place"] (sp_by_way K)) : FnOk P w K mg base CX0 2 f fd ["ways", "a", "bound", "place", "changes"] (sp_led K) := by
  refine F.ok sc_led (fun vs H Q E h => ?_) (fun cdv A outer s H vs Q E hr h => ?_)
  · obtain ⟨H0, p, u, rc, w, n, m, a, k, ch, rfl, s0, hW, hS, hn, hu, ha, m1, m2, hc, hch, q⟩ := h
    rfl
  · obtain ⟨H0, p, u, rc, w, n, m, a, k, ch, rfl, s0, hW, hS, hn, hu, ha, m1, m2, hc, hch, q⟩ := h
    refine ⟨_, (pss_one (ps_ret (pe_compS ["changes", "ways", "a", "bound", "place"] [4, 0, 1, 2, 3] rfl (pi_range1 rfl T.z_range (pa_cons (pe_callB call_len_seq rfl T.z_len PySem.boot_len (pa_cons (pv 0) pa_nil)) pa_nil)) (fun _ _ _ => pts_nil) (fun _ _ _ => (pe_ifExp (pt_val (pe_ix (ix_listK (K := K) rfl) (pv 1) (pv 0) (fun _ _ => rfl))) (pec C_by_way (hr.mono (by decide)) rfl (pa_consP (pv 2) (pa_consP (pv 3) (pa_consP (pv 0) (pa_consP (pv 4) (pa_consP (pv 5) pa_nil)))))) (pe_ix (ix_listK (K := K) rfl) (pe_ix (ix_listK (K := K) rfl) (pv 2) (pv 3) (fun _ _ => rfl)) (pv 0) (fun _ _ => rfl)))) (hk := by kernel_rfl)))), ?_⟩
    obtain ⟨rs, g1, g2⟩ := hW.len hS
    refine ⟨_, rfl, p, _, rfl, .inl (SqL.of g1), ((n : Nat) : Int), by rw [g2], by omega, by omega, comp_range (lo := 0) (n := ((n : Nat) : Int).toNat) (fun i acc H1 => Same H H1 ∧ Paired (WayV H0 H1) acc ((List.range i).map fun (j : Nat) => if ch j then newW w m k a (j : Int) else went w a (j : Int))) (small (by omega)) ⟨same_refl _, .nil⟩ (fun i acc H1 ⟨_, w⟩ => by rw [Paired.length w]; simp) ?_ ?_⟩
    · rintro i acc H1 hi ⟨s1, wv⟩ R kR
      have hi' : inN (0 + (i : Int)) n := ⟨by omega, by omega⟩
      have ei : (0 + (i : Int)) = (i : Int) := Int.zero_add _
      have atc : atI ((List.range n).map fun j => V.bl (ch j)) (0 + (i : Int)) = some (V.bl (ch i)) := atI_of hi'.1 (n := i) (by omega) (by rw [List.getElem?_map, List.getElem?_range (by omega)]; rfl)
      have add : ∀ {H2 : Hp} {v : V}, Same H1 H2 → WayV H0 H2 v (if ch i then newW w m k a (i : Int) else went w a (i : Int)) → R v H2 := fun s2 hv => kR _ _ ⟨s1.trans s2, by rw [List.range_succ, List.map_append]; exact Paired.snoc (Paired.mapP wv fun _ _ q => q.same s2) hv⟩
      refine ⟨_, rfl, _, rfl, rc, _, _, _, rfl, rfl, SqL.of (s1 _ _ hc), atc, _, rfl, ?_⟩
      cases e : ch i with
      | true =>
        obtain ⟨ps, qs, w1, w2, l1, l2⟩ := hch i (by omega) e
        rw [← ei] at w2
        refine iteT ⟨_, rfl, _, rfl, _, rfl, _, rfl, _, rfl, H0, p, u, w, n, m, a, _, k, ps, qs, rfl, hW.same s1, hS, s1 _ _ hu, ha, hi', m1, m2, w1, w2, l1, l2, fun l H2 s2 n0 e2 => add s2 ?_⟩
        rw [if_pos e]
        unfold newW
        rw [ei] at w2
        rw [w1, w2]
        exact ⟨l, rfl, e2, none_of (s0.trans s1) n0⟩
      | false =>
        obtain ⟨rs', r', vs', v', k1, k2, k3, k4, k5⟩ := (hW.same s1).at hS ha hi'
        refine iteF ⟨_, rfl, _, rfl, p, _, _, _, rfl, rfl, SqL.of k1, k2, _, rfl, r', _, _, _, rfl, rfl, SqL.of k3, k4, add (same_refl _) ?_⟩
        rw [e, ← ei]
        exact k5
    · rintro acc H1 ⟨s1, wv⟩ p' hp'
      rw [Int.toNat_natCast] at wv
      exact q p' _ (s1.trans (same_new hp' _)) ⟨acc, upd_same, Paired.mapP wv fun _ _ q => q.same (same_new hp' _)⟩
theorem sc_all_bound_names : FnScope ["gaps", "found", "name"] ["gaps"] (defScope s_all_bound_names) := ⟨rfl, rfl, rfl, by decide +kernel, rfl, by decide +kernel, by decide +kernel⟩
theorem ok_all_bound_names {f : Addr} {fd : FuncData} (F : Fun K "all_bound_names" "all_bound_names" s_all_bound_names f fd) (T : Txt K mg cl) (C_ends_of : Cal P w K mg base 1 "ends_of" ["gap"] (sp_ends_of K)) : FnOk P w K mg base CX0 2 f fd ["gaps"] (sp_all_bound_names K) := by
  refine F.ok sc_all_bound_names (fun vs H Q E h => ?_) (fun cdv A outer s H vs Q E hr h => ?_)
  · obtain ⟨d, kvs, gs, rfl, hd, G, hnd, hl, q⟩ := h
    rfl
  · obtain ⟨d, kvs, gs, rfl, hd, G, hnd, hl, q⟩ := h
    refine ⟨_, (pss_cons (ps_set (i := 1) sc_all_bound_names.nd rfl (Or.inl rfl) (pe_lst pa_nil))
      (pss_cons (ps_forD PassesOwn.never rfl (pi_keys (pv 0)) (pg_name (i := 2) sc_all_bound_names.nd rfl (Or.inr rfl))
      (pss_one (ps_expr (pe_bm PySem.F.plainAttrs_list PySem.F.slot_list_extend PySem.F.type_list_extend mt_extend (pv 1) (pa_cons (pe_compS ["name"] [2] rfl (pi_list (pec C_ends_of (hr.mono (by decide)) rfl (pa_cons (pe_dget (hu1 hr) (pv 0) (pv 2) (fun _ _ => rfl)) pa_nil))) (fun _ _ _ => pts_nil) (fun _ _ _ => (pe_tup (pa_cons (pv 1) (pa_cons (pv 0) pa_nil)))) (hk := by kernel_rfl)) pa_nil)))))
      (pss_one (ps_ret (pv 1))))), ?_⟩
    have len := G.len
    refine ⟨(by show 0 ≤ sizeLine; decide), fun r hr0 => ?_⟩
    have s1 := same_new hr0 (.lst [])
    have e1 : (upd H r (.lst [])) r = some (.lst []) := upd_same
    generalize upd H r (.lst []) = H1 at s1 e1 ⊢
    have nr : r ≠ d := Ne.symm (ne_of_none hd hr0)
    have hd1 := s1 _ _ hd
    intro NF
    refine ⟨_, rfl, d, kvs, rfl, hd1, fun ob nf => for_dict (NF := NF) (a := d) (ob := ob) (kvs := kvs) (fun i σ H2 => Same (upd H d (.frz ob (.dK kvs))) H2 ∧ (∃ u3, σ = [some (.ref d), some (.ref r), u3]) ∧ ∃ qs, H2 r = some (.lst qs) ∧ AreN H2 qs (allN (gs.take i))) ?_ ?_ ?_ ?_⟩
    · refine ⟨fun b o e => ?_, ⟨_, rfl⟩, [], by rw [upd_ne nr]; exact e1, .nil⟩
      by_cases c : b = d
      · subst c; rw [upd_same] at e ⊢; exact e
      · rw [upd_ne c] at e ⊢; exact s1 _ _ e
    · rintro i σ H2 _ ⟨s2, _⟩
      exact s2 _ _ upd_same
    · rintro i k v σ H2 hi ⟨s2, ⟨u3, rfl⟩, qs, e2, A2⟩
      obtain ⟨⟨nm, g⟩, hg, hk, p, hv, hp⟩ := paired_get G hi
      have hv : v = .ref p := hv
      have hk : k = Sum.inr nm := hk
      subst hv hk
      have hp2 : H2 p = some (.tup (gv g)) := s2 _ _ (by rw [upd_ne (ne_of hp hd (fun z => by cases z))]; exact hp)
      have hf2 := s2 d _ upd_same
      have hvl := valV_get (G.nodup hnd) hi
      have hlt : i < gs.length := (List.getElem?_eq_some_iff.mp hg).1
      have l1 := A2.len
      have l2 := allN_len (gs.take i)
      have l2' := allB_len (gs.take i)
      rw [List.length_take] at l2'
      have l3 := endsL_len g
      have l4 := gbs_len g
      refine ⟨_, rfl, .inl ⟨rfl, _, SqL.of e2⟩, _, rfl, _, rfl, d, _, rfl, .inl ⟨kvs, Sum.inr nm, .inr ⟨ob, hf2⟩, rfl, hvl.symm⟩, p, g, rfl, SqT.of hp2, fun r3 H3 hr3 s3 e3 => ?_⟩
      refine ⟨r3, rfl, ⟨_, SqL.of e3⟩, comp_list (K := K) (a := r3) (xs := (endsL g).map V.str) (fun j acc H4 => Same H3 H4 ∧ acc.length = j ∧ AreN H4 acc (((endsL g).take j).map fun e => (nm, e))) (small (by rw [List.length_map]; omega)) ⟨same_refl _, rfl, .nil⟩ (fun j acc H4 h => h.2.1) (fun j acc H4 h => SqL.of (h.1 _ _ e3)) ?_ ?_⟩
      · rintro j acc H4 y hy ⟨s4, l5, A4⟩ R kR
        rw [List.getElem?_map] at hy
        obtain ⟨z, hz, rfl⟩ := Option.map_eq_some_iff.mp hy
        refine ⟨_, rfl, _, rfl, (by show 2 ≤ sizeLine; decide), fun p4 hp4 => kR _ _ ⟨s4.trans (same_new hp4 _), by rw [List.length_append, l5]; rfl, ?_⟩⟩
        rw [List.take_add_one, hz, Option.toList_some, List.map_append]
        exact (A4.same (same_new hp4 _)).snoc (m := (nm, z)) upd_same
      · rintro acc H4 ⟨s4, l5, A4⟩ r4 hr4
        rw [List.length_map] at l5 A4
        rw [List.take_length] at A4
        have s5 := same_new hr4 (.lst acc)
        have e5 : (upd H4 r4 (.lst acc)) r4 = some (.lst acc) := upd_same
        generalize upd H4 r4 (.lst acc) = H5 at s5 e5 ⊢
        have s25 := (s3.trans s4).trans s5
        have e2' := s25 _ _ e2
        refine ⟨r, r4, qs, acc, rfl, rfl, e2', e5, small (by omega), ?_⟩
        refine ⟨fun b o e => ?_, ⟨_, rfl⟩, _, upd_same, ?_⟩
        · have nb : b ≠ r := fun z => by
            subst z
            rw [upd_ne nr, hr0] at e; cases e
          rw [upd_ne nb]; exact s25 _ _ (s2 _ _ e)
        · rw [allN_take hg]
          exact AreN.tups (AreN.append (A2.same s25) (A4.same s5)) fun c xs e => by rw [upd_ne (ne_of e e2' (fun z => by cases z))]; exact e
    · rintro σ H2 ⟨s2, ⟨u3, rfl⟩, qs, e2, A2⟩
      rw [len, List.take_length] at A2
      have hf := s2 d _ upd_same
      refine ⟨d, ob, kvs, nf, hf, _, rfl, q r _ qs hr0 (fun b o e => ?_) (by rw [upd_ne nr]; exact e2) (A2.tups fun c xs e => by rw [upd_ne (ne_of e hf (fun z => by cases z))]; exact e)⟩
      by_cases c : b = d
      · subst c; rw [upd_same, ← hd]; exact e
      · rw [upd_ne c]; exact s2 _ _ (by rw [upd_ne c]; exact e)
theorem sc_names_at : FnScope ["gaps", "places", "found"] ["gaps", "places"] (defScope s_names_at) := ⟨rfl, rfl, rfl, by decide +kernel, rfl, by decide +kernel, by decide +kernel⟩
theorem ok_names_at {f : Addr} {fd : FuncData} (F : Fun K "names_at" "names_at" s_names_at f fd) (T : Txt K mg cl) (C_all_bound_names : Cal P w K mg base 2 "all_bound_names" ["gaps"] (sp_all_bound_names K)) : FnOk P w K mg base CX0 3 f fd ["gaps", "places"] (sp_names_at K) := by
  refine F.ok sc_names_at (fun vs H Q E h => ?_) (fun cdv A outer s H vs Q E hr h => ?_)
  · obtain ⟨d, kvs, gs, v, rfl, hd, G, hnd, hl, c⟩ := h
    rfl
  · obtain ⟨d, kvs, gs, v, rfl, hd, G, hnd, hl, c⟩ := h
    refine ⟨_, (pss_cons (ps_if (pt_cmpR op_isN (pv 1) pe_non (nomark _))
      (pss_one (ps_ret pe_non))
      pss_nil)
      (pss_cons (ps_set (i := 2) sc_names_at.nd rfl (Or.inr rfl) (pec C_all_bound_names (hr.mono (by decide)) rfl (pa_cons (pv 0) pa_nil)))
      (pss_one (ps_ret (pe_compS ["found"] [2] rfl (pi_list (pv 1)) (fun _ _ _ => pts_nil) (fun _ _ _ => (pe_ix (ix_listK (K := K) rfl) (pv 1) (pv 0) (fun _ _ => rfl))) (hk := by kernel_rfl)))))), ?_⟩
    rcases c with ⟨rfl, q⟩ | ⟨l, ps, rfl, hl', hps, hpl, q⟩
    · exact ⟨_, rfl, rfl, _, rfl, iteT q⟩
    · refine ⟨_, rfl, rfl, _, rfl, iteF ?_⟩
      refine ⟨_, rfl, d, kvs, gs, rfl, hd, G, hnd, hl, fun f H1 qs hf0 s1 e1 A1 => ?_⟩
      refine ⟨_, rfl, l, rfl, ⟨_, SqL.of (s1 _ _ hl')⟩, comp_list (K := K) (a := l) (xs := ps.map V.int) (fun j acc H4 => H4 = H1 ∧ acc.length = j ∧ AreN H4 acc ((ps.take j).map (nmAt gs))) (small (by rw [List.length_map]; omega)) ⟨rfl, rfl, .nil⟩ (fun j acc H4 h => h.2.1) (fun j acc H4 h => by rw [h.1]; exact SqL.of (s1 _ _ hl')) ?_ ?_⟩
      · rintro j acc H4 y hy ⟨rfl, l5, A4⟩ R kR
        rw [List.getElem?_map] at hy
        obtain ⟨k, hk, rfl⟩ := Option.map_eq_some_iff.mp hy
        obtain ⟨k0, k1⟩ := hps k (List.mem_of_getElem? hk)
        obtain ⟨v, hv, p, rfl, hp⟩ := paired_at A1 (nmAt_get k0 k1)
        refine ⟨_, rfl, _, rfl, f, _, _, _, rfl, rfl, SqL.of e1, atI_of k0 rfl hv, kR _ _ ⟨rfl, by rw [List.length_append, l5]; rfl, ?_⟩⟩
        rw [List.take_add_one, hk, Option.toList_some, List.map_append]
        exact A4.snoc hp
      · rintro acc H4 ⟨rfl, l5, A4⟩ r4 hr4
        rw [List.length_map] at A4
        rw [List.take_length] at A4
        have s5 := same_new hr4 (.lst acc)
        exact q r4 _ acc (none_of s1 hr4) (s1.trans s5) upd_same (A4.same s5)
theorem sc_House_drop : FnScope ["self", "name"] ["self", "name"] (defScope s_House_drop) := ⟨rfl, rfl, rfl, by decide +kernel, rfl, by decide +kernel, by decide +kernel⟩
theorem ok_House_drop {f : Addr} {fd : FuncData} (F : Fun K "drop" "House.drop" s_House_drop f fd) (T : Txt K mg cl) (M_House_need : MCal P w K mg base cl.House 1 "need" ["self", "name"] (sp_House_need K cl)) : FnOk P w K mg base CX0 2 f fd ["self", "name"] (sp_House_drop K cl) := by
  refine F.ok sc_House_drop (fun vs H Q E h => ?_) (fun cdv A outer s H vs Q E hr h => ?_)
  · obtain ⟨x, d, n, gs, nm, rfl, W, hn, q⟩ := h
    rfl
  · obtain ⟨x, d, n, gs, nm, rfl, W, hn, q⟩ := h
    refine ⟨_, (pss_cons (ps_expr (pe_meth (pv 0) T.cl_House M_House_need.mt M_House_need.ok (hr.mono (by decide)) M_House_need.b .nil pass0 (pa_cons (pv 1) pa_nil)))
      (pss_one (ps_expr (pe_dpop1 (pe_fld (pv 0) rfl) (pv 1) ⟨rfl, rfl, rfl, rfl⟩)))), ?_⟩
    obtain ⟨dx, hx⟩ := W.ob
    obtain ⟨kvs, hd, G⟩ := W.dc
    obtain ⟨p, g, _, hv, _⟩ := G.val_some hn
    refine ⟨_, rfl, x, dx, _, rfl, hx, fldh_no _ _ (by decide +kernel) (by decide +kernel), _, rfl, x, d, n, gs, nm, rfl, W, hn, ?_⟩
    refine ⟨_, rfl, x, cl.House, dx, _, _, rfl, hx, T.cl_House, T.n_House_gaps, fldh_gaps _ _, d, rfl, .inl ⟨_, .inl hd⟩, _, rfl, kvs, Sum.inr nm, _, hd, rfl, hv, ?_⟩
    have b2 : But d H (upd H d (.dK (dropK kvs (Sum.inr nm)))) := fun b o e h => by rw [upd_ne h]; exact e
    refine q _ ⟨⟨dx, b2 _ _ hx (ne_of hx hd (fun z => by cases z))⟩, _, upd_same, ?_⟩ b2
    exact G.drop.keep fun c xs e => b2 _ _ e (ne_of e hd (fun z => by cases z))
theorem sc_held : FnScope ["table", "bound"] ["table", "bound"] (defScope s_held) := ⟨rfl, rfl, rfl, by decide +kernel, rfl, by decide +kernel, by decide +kernel⟩
theorem ok_held {f : Addr} {fd : FuncData} (F : Fun K "held" "held" s_held f fd) (T : Txt K mg cl) (C_shuts : Cal P w K mg base 1 "shuts" ["bound", "table"] (sp_shuts K)) (C_held_row : Cal P w K mg base 2 "held_row" ["table", "a", "bound"] (sp_held_row K)) : FnOk P w K mg base CX0 3 f fd ["table", "bound"] (sp_held K) := by
  refine F.ok sc_held (fun vs H Q E h => ?_) (fun cdv A outer s H vs Q E hr h => ?_)
  · obtain ⟨u, v, m, rfl, hB, q⟩ := h
    rfl
  · obtain ⟨u, v, m, rfl, hB, q⟩ := h
    refine ⟨_, (pss_cons (ps_if (PW.pt (pw_or (pt_cmpR op_isN (pv 0) pe_non (nomark _)) (pw_or1 (pt_val (pec C_shuts (hr.mono (by decide)) rfl (pa_cons (pv 1) (pa_cons (pv 0) pa_nil)))))))
      (pss_one (ps_ret pe_non))
      pss_nil)
      (pss_one (ps_ret (pe_compS ["table", "bound"] [0, 1] rfl (pi_range1 rfl T.z_range (pa_cons (pe_callB call_len_seq rfl T.z_len PySem.boot_len (pa_cons (pv 0) pa_nil)) pa_nil)) (fun _ _ _ => pts_nil) (fun _ _ _ => (pec C_held_row (hr.mono (by decide)) rfl (pa_cons (pv 1) (pa_cons (pv 0) (pa_cons (pv 2) pa_nil))))) (hk := by kernel_rfl))))), ?_⟩
    rcases q with ⟨rfl, q⟩ | ⟨p, rs, t, n, rfl, hT, hS, hn, h1, h2, q1, q2⟩
    · exact ⟨_, rfl, rfl, _, rfl, iteT (iteT q)⟩
    · have hl := hT.len hS
      refine ⟨_, rfl, rfl, _, rfl, iteF ⟨_, rfl, _, rfl, u, p, m, rs, t, n, rfl, hB, hT, hS, h1, h2, _, rfl, ?_⟩⟩
      cases hs : shutB t m with
      | true => exact iteT (q1 hs)
      | false =>
        refine iteF ⟨_, rfl, p, _, rfl, .inl (SqL.of hT.ob), (n : Int), by rw [hl], by omega, by omega, comp_rows (n := ((n : Nat) : Int).toNat) (fun i => (List.range n).map fun (j : Nat) => heldF t m (i : Int) (j : Int)) (small (by omega)) ?_ ?_⟩
        · intro i H1 hi s1 R kR
          refine ⟨_, rfl, _, rfl, _, rfl, u, p, _, m, rs, t, n, rfl, s1.seqT hB, hT.same s1, hS, hn, ⟨by omega, by omega⟩, h1, h2, fun r hr => ?_⟩
          refine kR r _ hr (same_new hr _) ?_
          rw [upd_same, Int.zero_add]
        · intro p' rs' H' N
          rw [Int.toNat_natCast] at N
          exact q2 hs p' rs' H' N
theorem sc_search : FnScope ["count", "bounds", "table", "ways", "place", "bound", "narrower"] ["count", "bounds"] (defScope s_search) := ⟨rfl, rfl, rfl, by decide +kernel, rfl, by decide +kernel, by decide +kernel⟩
theorem ok_search {f : Addr} {fd : FuncData} (F : Fun K "search" "search" s_search f fd) (T : Txt K mg cl) (C_wide : Cal P w K mg base 2 "wide" ["count"] (sp_wide K)) (C_held : Cal P w K mg base 3 "held" ["table", "bound"] (sp_held K)) (C_first_ways : Cal P w K mg base 1 "first_ways" ["row"] (sp_first_ways K)) (C_narrowed : Cal P w K mg base 1 "narrowed" ["row", "other"] (sp_narrowed K)) (C_led : Cal P w K mg base 2 "led" ["ways", "a", "bound", "place", "changes"] (sp_led K)) : FnOk P w K mg base CX0 4 f fd ["count", "bounds"] (sp_search K) := by
  refine F.ok sc_search (fun vs H Q E h => ?_) (fun cdv A outer s H vs Q E hr h => ?_)
  · obtain ⟨n, r, qs, bs, rfl, hL, hA, n1, n8, hw, hb, qr, qt⟩ := h
    rfl
  · obtain ⟨n, r, qs, bs, rfl, hL, hA, n1, n8, hw, hb, qr, qt⟩ := h
    refine ⟨_, (pss_cons (ps_set (i := 2) sc_search.nd rfl (Or.inr rfl) (pec C_wide (hr.mono (by decide)) rfl (pa_cons (pv 0) pa_nil)))
      (pss_cons (ps_set (i := 3) sc_search.nd rfl (Or.inr rfl) (pe_compS [] [] rfl (pi_list (pv 2)) (fun _ _ _ => pts_nil) (fun _ _ _ => (pec C_first_ways (hr.mono (by decide)) rfl (pa_cons (pv 0) pa_nil))) (hk := by kernel_rfl)))
      (pss_cons (ps_for PassesOwn.never rfl (pi_range1 rfl T.z_range (pa_cons (pe_callB call_len_seq rfl T.z_len PySem.boot_len (pa_cons (pv 1) pa_nil)) pa_nil)) (pg_name (i := 4) sc_search.nd rfl (Or.inr rfl))
      (pss_cons (ps_set (i := 5) sc_search.nd rfl (Or.inr rfl) (pe_ix ix_list (pv 1) (pv 4) (fun _ _ => rfl)))
      (pss_cons (ps_set (i := 6) sc_search.nd rfl (Or.inr rfl) (pec C_held (hr.mono (by decide)) rfl (pa_cons (pv 2) (pa_cons (pv 5) pa_nil))))
      (pss_cons (ps_if (pt_cmpR op_isN (pv 6) pe_non (nomark _))
      (pss_one (ps_ret (pe_tup (pa_cons pe_non (pa_cons (pe_op op_cat (pe_lst (pa_cons (pv 4) pa_nil)) (pe_ix ix_list (pe_ix ix_list (pv 3) (pe_ix ix_tup (pv 5) pe_int (fun _ _ => rfl)) (fun _ _ => rfl)) (pe_ix ix_tup (pv 5) pe_int (fun _ _ => rfl)) (fun _ _ => rfl))) pa_nil)))))
      pss_nil)
      (pss_cons (ps_set (i := 3) sc_search.nd rfl (Or.inr rfl) (pe_compS ["ways", "bound", "place", "table", "narrower"] [3, 5, 4, 2, 6] rfl (pi_range1 rfl T.z_range (pa_cons (pv 0) pa_nil)) (fun _ _ _ => pts_nil) (fun _ _ _ => (pec C_led (hr.mono (by decide)) rfl (pa_consP (pv 1) (pa_consP (pv 0) (pa_consP (pv 2) (pa_consP (pv 3) (pa_consP (pec C_narrowed (hr.mono (by decide)) rfl (pa_cons (pe_ix (ix_listK (K := K) rfl) (pv 4) (pv 0) (fun _ _ => rfl)) (pa_cons (pe_ix (ix_listK (K := K) rfl) (pv 5) (pv 0) (fun _ _ => rfl)) pa_nil))) pa_nil))))))) (hk := by kernel_rfl)))
      (pss_one (ps_set (i := 2) sc_search.nd rfl (Or.inr rfl) (pv 6))))))))
      (pss_one (ps_ret (pe_tup (pa_cons (pv 3) (pa_cons pe_non pa_nil)))))))), ?_⟩
    have hlen := hA.len
    refine ⟨_, rfl, n, rfl, by omega, fun p0 rs0 H0 N0 => ?_⟩
    have Sw := (wide_right n).square
    have lw := N0.tb.len Sw
    refine ⟨_, rfl, p0, rfl, ⟨_, SqL.of N0.tb.ob⟩, comp_list (K := K) (a := p0) (xs := rs0.map V.ref) (fun i acc H1 => i ≤ n ∧ Same H0 H1 ∧ ∃ rs' : List Addr, acc = rs'.map V.ref ∧ Paired (RowW H H1) rs' (((wideT n).take i).map fun row => row.map fun o => o.map fun _ => [])) (by rw [lw]; exact small (by omega)) ⟨Nat.zero_le _, same_refl _, [], rfl, .nil⟩
      (fun i acc H1 ⟨hi, _, rs', e, w⟩ => by rw [e, List.length_map, Paired.length w, List.length_map, List.length_take, Sw.1]; omega) (fun i acc H1 ⟨_, s, _⟩ => SqL.of (s _ _ N0.tb.ob)) ?_ ?_⟩
    · rintro i acc H1 x hx ⟨hi, s1, rs', rfl, w⟩ R kR
      have hx0 := hx
      rw [List.getElem?_map] at hx
      cases e : rs0[i]? with
      | none => rw [e] at hx; cases hx
      | some rr =>
        rw [e] at hx
        have ex : x = .ref rr := (Option.some.inj hx).symm
        subst ex
        obtain ⟨row, g1, g2⟩ := paired_get N0.tb.rows e
        have hr := Sw.2 row (List.mem_of_getElem? g1)
        have hlt : i < n := by have := (List.getElem?_eq_some_iff.mp hx0).1; omega
        refine ⟨_, rfl, rr, row, rfl, s1 _ _ g2, by omega, fun r' H' s' e' => kR _ _ ⟨hlt, s1.trans s', rs' ++ [r'], by simp, ?_⟩⟩
        rw [List.take_add_one, g1, List.map_append]
        obtain ⟨vs, k1, k2⟩ := e'
        exact Paired.snoc (Paired.mapP w fun _ _ q => q.same s') ⟨vs, k1, Paired.mapP k2 fun _ _ q => q.base (N0.sm.trans s1)⟩
    rintro acc H1 ⟨hi, s1, rs', rfl, w1⟩ pw0 hpw0
    rw [lw, List.take_of_length_le (by rw [Sw.1]; exact Nat.le_refl _)] at w1
    have s2 := same_new hpw0 (.lst (rs'.map V.ref))
    have W0 : WaysAt H (upd H1 pw0 (.lst (rs'.map V.ref))) pw0 (mkW n fun a b => if a = b then some [] else none) := by
      refine ⟨rs', upd_same, ?_⟩
      have e : ((wideT n).map fun row => row.map fun o => o.map fun _ => ([] : List Int)) = mkW n fun a b => if a = b then some [] else none := by
        unfold wideT mkT mkW
        rw [List.map_map]
        refine List.map_congr_left fun i _ => ?_
        show List.map _ (List.map _ _) = _
        rw [List.map_map]
        refine List.map_congr_left fun j _ => ?_
        show Option.map _ (if (i : Int) = (j : Int) then some 0 else none) = (if (i : Int) = (j : Int) then some [] else none)
        by_cases c : (i : Int) = (j : Int)
        · rw [if_pos c, if_pos c]; rfl
        · rw [if_neg c, if_neg c]; rfl
      rw [e] at w1
      exact Paired.mapP w1 fun _ _ q => q.same s2
    have s02 := N0.sm.trans (s1.trans s2)
    have T0 := N0.tb.same (s1.trans s2)
    generalize upd H1 pw0 (.lst (rs'.map V.ref)) = H2 at W0 s02 T0 ⊢
    refine ⟨_, rfl, r, _, rfl, .inl (s02.seq hL), ((qs.length : Nat) : Int), rfl, by omega, by omega, for_range (lo := 0) (n := ((qs.length : Nat) : Int).toNat) (fun i σ H3 => Same H H3 ∧ ∃ p rs t pw w, TabAt H3 p rs t ∧ Right n (bs.take i) t ∧ WaysAt H H3 pw w ∧ SqW n w ∧ WayOk n (bs.take i) t w ∧ ∃ u4 u5 u6, σ = [some (.int n), some (.ref r), some (.ref p), some (.ref pw), u4, u5, u6])
      ⟨s02, p0, rs0, _, pw0, _, T0, wide_right n, W0, mkW_sq n _, first_ok n, _, _, _, rfl⟩ ?_ ?_⟩
    · rintro i σ H3 hi ⟨s3, p, rs, t, pw, w, T3, R, W3, Sq, Ok, u4, u5, u6, rfl⟩
      have hi' : i < qs.length := by omega
      obtain ⟨pb, m, hm, ev, hp⟩ := (hA.same s3).get (List.getElem?_eq_getElem hi')
      have hat : atI qs (0 + (i : Int)) = some (.ref pb) := atI_of (n := i) (by omega) (by omega) (by rw [List.getElem?_eq_getElem hi', ev])
      have htake : bs.take (i + 1) = bs.take i ++ [m] := by rw [List.take_add_one, hm]; rfl
      have hmem := List.mem_of_getElem? hm
      obtain ⟨m1, m2⟩ := hw m hmem
      have hw' : Within n (bs.take i ++ [m]) := fun x hx => by
        rcases List.mem_append.mp hx with hx | hx
        · exact hw x (List.mem_of_mem_take hx)
        · rw [List.mem_singleton.mp hx]; exact ⟨m1, m2⟩
      have hwt : Within n (bs.take i) := fun x hx => hw x (List.mem_of_mem_take hx)
      have lt : (bs.take i).length = i := by rw [List.length_take]; omega
      have back : ∀ (k : Nat) x, (bs.take i ++ [m])[k]? = some x → bs[k]? = some x := fun k x h => by
        rw [← htake] at h
        have h1 := (List.getElem?_eq_some_iff.mp h).1
        rw [List.length_take] at h1
        rw [List.getElem?_take_of_lt (by omega)] at h
        exact h
      refine ⟨_, rfl, _, rfl, r, _, _, _, rfl, rfl, s3.seq hL, hat, ?_⟩
      refine ⟨_, rfl, _, rfl, pb, .ref p, m, rfl, SqT.of hp, .inr ⟨p, rs, t, n, rfl, T3, R.square, by omega, m1, m2, fun hs => ?_, fun hs p' rs2 H4 N4 => ?_⟩⟩
      · refine ⟨_, rfl, rfl, _, rfl, iteT ?_⟩
        obtain ⟨ps, g0, ⟨x, c, c0, hx, wk, nd⟩, ll⟩ := shut_ring hw' hs Ok
        rw [lt] at wk nd
        refine ⟨_, rfl, (by show 1 ≤ sizeLine; decide), fun l1 hl1 => ?_⟩
        have q1 := same_new hl1 (.lst [.int (0 + (i : Int))])
        have f1 : (upd H3 l1 (.lst [.int (0 + (i : Int))])) l1 = some (.lst [.int (0 + (i : Int))]) := upd_same
        generalize upd H3 l1 (.lst [.int (0 + (i : Int))]) = H4 at q1 f1 ⊢
        obtain ⟨rw1, rr, vs, v, k1, k2, k3, k4, k5⟩ := (W3.same q1).at Sq m2 m1
        rw [g0] at k5
        obtain ⟨l2, rfl, k6, _⟩ := k5
        refine ⟨_, rfl, _, rfl, pb, _, 1, _, rfl, rfl, SqT.of (q1 _ _ hp), rfl, pw, _, _, _, rfl, rfl, SqL.of k1, k2, _, rfl, pb, _, 0, _, rfl, rfl, SqT.of (q1 _ _ hp), rfl, rr, _, _, _, rfl, rfl, SqL.of k3, k4, l1, l2, _, _, rfl, rfl, f1, k6, small (by rw [List.length_map]; show 1 + _ ≤ 1000; omega), fun l3 hl3 => ?_⟩
        refine ⟨(by show 2 ≤ sizeLine; decide), fun u hu => ?_⟩
        have q3 := same_new hl3 (.lst ([.int (0 + (i : Int))] ++ ps.map V.int))
        have mo := wk.mono (cs := bs) back
        have neg : NegR bs := ⟨x, c, c0, mo.1.path⟩
        refine qr u l3 ((i : Int) :: ps) _ (((s3.trans q1).trans q3).trans (same_new hu _)) upd_same ?_ (none_of (s3.trans q1) hl3) ⟨x, c, c0, hx, mo.1, by rw [mo.2]; exact nd⟩ (by rw [List.length_cons]; omega) neg
        refine same_new hu _ _ _ ?_
        rw [upd_same, Int.zero_add]; rfl
      · refine ⟨_, rfl, rfl, _, rfl, iteF ?_⟩
        have T4 := T3.same N4.sm
        have W4 := W3.same N4.sm
        have s4 := s3.trans N4.sm
        have R' := held_right R hw' hs
        refine ⟨_, rfl, ((n : Nat) : Int), rfl, by omega, by omega, comp_wrows (H0 := H) (n := ((n : Nat) : Int).toNat) (fun (a : Nat) => (List.range n).map fun (j : Nat) => if !decide (ent t (a : Int) (j : Int) = heldF t m (a : Int) (j : Int)) then newW w m (i : Int) (a : Int) (j : Int) else went w (a : Int) (j : Int)) (small (by omega)) ?_ ?_⟩
        · intro a H5 ha s5 R5 kR
          have ha' : inN (0 + (a : Int)) n := ⟨by omega, by omega⟩
          have ea : (0 + (a : Int)) = (a : Int) := Int.zero_add _
          obtain ⟨r1, row1, x1, x2, x3, x4⟩ := (T4.same s5).rowAt R.square ha'
          obtain ⟨r2, row2, y1, y2, y3, y4⟩ := (N4.tb.same s5).rowAt R'.square ha'
          have rows : ∀ j : Nat, j < n → row1.getD j none = ent t (a : Int) (j : Int) ∧ row2.getD j none = heldF t m (a : Int) (j : Int) := fun j hj => by
            have hj' : inN (j : Int) n := ⟨by omega, by omega⟩
            have h1 := x4 _ hj'
            have h2 := y4 _ hj'
            rw [at_ovW hj'.1 (by rw [x3]; exact hj'.2), Int.toNat_natCast] at h1
            rw [at_ovW hj'.1 (by rw [y3]; exact hj'.2), Int.toNat_natCast] at h2
            have e2 : ent (heldT n t m) (0 + (a : Int)) (j : Int) = heldF t m (a : Int) (j : Int) := by unfold heldT; rw [mkT_ent _ ha' hj', ea]
            rw [ea] at h1
            rw [e2] at h2
            exact ⟨ov_inj.mp (Option.some.inj h1), ov_inj.mp (Option.some.inj h2)⟩
          refine ⟨_, rfl, _, rfl, _, rfl, _, rfl, _, rfl, _, rfl, p, _, _, _, rfl, rfl, SqL.of (T4.same s5).ob, x1, _, rfl, _, rfl, p', _, _, _, rfl, rfl, SqL.of (N4.tb.same s5).ob, y1, r1, r2, row1, row2, n, rfl, x2, y2, x3, y3, by omega, fun rc hrc => ?_⟩
          have sr := same_new hrc (.lst ((List.range n).map fun j => V.bl (!decide (row1.getD j none = row2.getD j none))))
          have er : (upd H5 rc (.lst ((List.range n).map fun j => V.bl (!decide (row1.getD j none = row2.getD j none))))) rc = some (.lst ((List.range n).map fun (j : Nat) => V.bl (!decide (ent t (a : Int) (j : Int) = heldF t m (a : Int) (j : Int))))) := by
            rw [upd_same]
            congr 2
            refine List.map_congr_left fun j hj => ?_
            obtain ⟨z1, z2⟩ := rows j (List.mem_range.mp hj)
            rw [z1, z2]
          generalize (upd H5 rc (.lst ((List.range n).map fun j => V.bl (!decide (row1.getD j none = row2.getD j none))))) = H6 at sr er ⊢
          have s56 := s5.trans sr
          refine ⟨H, pw, pb, rc, w, n, m, _, _, fun j => !decide (ent t (a : Int) (j : Int) = heldF t m (a : Int) (j : Int)), rfl, s4.trans s56, W4.same s56, Sq, by omega, s56 _ _ (N4.sm _ _ hp), ha', m1, m2, er, fun j hj hc => ?_, fun r' H7 s7 e7 => ?_⟩
          · have hj' : inN (j : Int) n := ⟨by omega, by omega⟩
            have hne : ent t (a : Int) (j : Int) ≠ heldF t m (a : Int) (j : Int) := fun h => by
              dsimp only at hc
              rw [decide_eq_true h] at hc; cases hc
            rw [ea] at ha'
            obtain ⟨e, e1, e2, ps, qs', g1, g2, g3, g4, g5, g6, g7, g8, _⟩ := step_new R hw' hs Ok ha' hj' hne
            have v1 := way_len hwt m1 g5 g7
            have v2 := way_len hwt hj' g6 g8
            exact ⟨ps, qs', by rw [ea]; exact g3, g4, by omega, by omega⟩
          · refine kR r' H7 (sr.trans s7) ?_
            rw [ea, Int.zero_add] at e7
            exact e7
        · intro pw' H5 s5 W5
          rw [Int.toNat_natCast] at W5
          have W5' : WaysAt H H5 pw' (stepW n t w m (((bs.take i).length : Nat) : Int)) := by rw [lt]; exact W5
          refine ⟨_, rfl, s4.trans s5, p', rs2, heldT n t m, pw', _, N4.tb.same s5, ?_, W5', mkW_sq n _, ?_, _, _, _, rfl⟩
          · rw [htake]; exact R'
          · rw [htake]; exact step_ok R hw' hs Ok
    · rintro σ H3 ⟨s3, p, rs, t, pw, w, T3, R, W3, Sq, Ok, u4, u5, u6, rfl⟩
      rw [Int.toNat_natCast, hlen, List.take_length] at R Ok
      refine ⟨_, rfl, (by show 2 ≤ sizeLine; decide), fun u hu => ?_⟩
      exact qt u pw w t _ (s3.trans (same_new hu _)) upd_same (W3.same (same_new hu _)) Sq R Ok
theorem sc_law_deed : FnScope ["_law_house", "_law_gaps", "_law_bag_here", "_law_k", "_law_times_here", "_law_name", "_law_loose", "_law_gap"] ["_law_house", "_law_gaps", "_law_bag_here", "_law_k", "_law_times_here"] (defScope s_law_deed) := ⟨rfl, rfl, rfl, by decide +kernel, rfl, by decide +kernel, by decide +kernel⟩
theorem ok_law_deed {f : Addr} {fd : FuncData} (F : Fun K "_law_deed" "_law_deed" s_law_deed f fd) (T : Txt K mg cl) (C_law_take : Cal P w K mg base 1 "_law_take" ["_law_bag_here", "_law_many_here"] (sp_law_take K)) (C_law_gap_round : Cal P w K mg base 2 "_law_gap_round" ["_law_bag_here", "_law_times_here", "_law_loose"] (sp_law_gap_round K)) (M_House_add : MCal P w K mg base cl.House 1 "add" ["self", "name", "a", "b", "low", "high"] (sp_House_add K cl)) (M_House_drop : MCal P w K mg base cl.House 2 "drop" ["self", "name"] (sp_House_drop K cl)) : FnOk P w K mg base CX0 3 f fd ["_law_house", "_law_gaps", "_law_bag_here", "_law_k", "_law_times_here"] (sp_law_deed K cl) := by
  refine F.ok sc_law_deed (fun vs H Q E h => ?_) (fun cdv A outer s H vs Q E hr h => ?_)
  · obtain ⟨x, dh, dg, b, t, k, n, c, gs, ts, rfl, L, ⟨u, v, hb, v0, v1⟩, hc, te, lt, n1, n8, hk, hlen, hnm, q⟩ := h
    rfl
  · obtain ⟨x, dh, dg, b, t, k, n, c, gs, ts, rfl, L, ⟨u, v, hb, v0, v1⟩, hc, te, lt, n1, n8, hk, hlen, hnm, q⟩ := h
    refine ⟨_, (pss_cons (ps_if (PW.pt (pw_and (pt_cmpR op_eq (pec C_law_take (hr.mono (by decide)) rfl (pa_cons (pv 2) (pa_cons pe_int pa_nil))) pe_int (nomark _)) (pw_and1 (pt_cmpR op_gt (pe_callB call_lenD rfl T.z_len PySem.boot_len (pa_cons (pv 1) pa_nil)) pe_int (nomark _)))))
      (pss_cons (ps_set (i := 5) sc_law_deed.nd rfl (Or.inl rfl) (pe_ix ix_list (pe_callTy (call_listD rfl) rfl T.z_list boot_list (pa_cons (pv 1) pa_nil)) (pec C_law_take (hr.mono (by decide)) rfl (pa_cons (pv 2) (pa_cons (pe_callB call_lenD rfl T.z_len PySem.boot_len (pa_cons (pv 1) pa_nil)) pa_nil))) (fun _ _ => rfl)))
      (pss_cons (ps_expr (pe_dpop1 (pv 1) (pv 5) ⟨rfl, rfl, rfl, rfl⟩))
      (pss_cons (ps_expr (pe_meth (pv 0) T.cl_House M_House_drop.mt M_House_drop.ok (hr.mono (by decide)) M_House_drop.b .nil pass0 (pa_cons (pv 5) pa_nil)))
      (pss_one ps_retN))))
      pss_nil)
      (pss_cons (ps_set (i := 6) sc_law_deed.nd rfl (Or.inl rfl) pe_int)
      (pss_cons (ps_if (pt_cmpR op_eq (pec C_law_take (hr.mono (by decide)) rfl (pa_cons (pv 2) (pa_cons pe_int pa_nil))) pe_int (nomark _))
      (pss_one (ps_set (i := 6) sc_law_deed.nd rfl (Or.inl rfl) (pe_un un_neg pe_int)))
      pss_nil)
      (pss_cons (ps_set (i := 7) sc_law_deed.nd rfl (Or.inl rfl) (pec C_law_gap_round (hr.mono (by decide)) rfl (pa_cons (pv 2) (pa_cons (pv 4) (pa_cons (pv 6) pa_nil)))))
      (pss_cons (ps_if (pt_cmpR op_eq (pec C_law_take (hr.mono (by decide)) rfl (pa_cons (pv 2) (pa_cons pe_int pa_nil))) pe_int (nomark _))
      (pss_one (ps_set (i := 7) sc_law_deed.nd rfl (Or.inl rfl) (pe_op op_catT (pe_slice sl_tup (pv 7) po_none (po_some pe_int)) (pe_tup (pa_cons pe_non (pa_cons pe_non pa_nil))))))
      pss_nil)
      (pss_cons (ps_set (i := 5) sc_law_deed.nd rfl (Or.inl rfl) (pe_op op_add_str (pe_op op_mul_str pe_str (pe_op op_add pe_int (pec C_law_take (hr.mono (by decide)) rfl (pa_cons (pv 2) (pa_cons pe_int pa_nil))))) (pe_callTy call_str_int rfl T.z_str boot_str (pa_cons (pv 3) pa_nil))))
      (pss_cons (ps_dput (hu1 hr) (pv 1) (pv 5) (pv 7) rfl)
      (pss_one (ps_expr (pe_meth (pv 0) T.cl_House M_House_add.mt M_House_add.ok (hr.mono (by decide)) M_House_add.b .nil pass0 (pa_consP (pv 5) (pa_consP (pe_ix ix_tup (pv 7) pe_int (fun _ _ => rfl)) (pa_consP (pe_ix ix_tup (pv 7) pe_int (fun _ _ => rfl)) (pa_consP (pe_ix ix_tup (pv 7) pe_int (fun _ _ => rfl)) (pa_consP (pe_ix ix_tup (pv 7) pe_int (fun _ _ => rfl)) pa_nil))))))))))))))), ?_⟩
    refine ⟨_, rfl, b, u, v, 4, rfl, hb, v0, by omega, by decide, by decide, fun z1 u1 w1 H1 b1 e1 p1 q1 _ _ => ⟨rfl, _, rfl, ?_⟩⟩
    have L1 := L.but b1 hb
    obtain ⟨kvs, hd1, G1⟩ := L1.D
    have glen := G1.len
    have t1 := b1 _ _ te (ne_of te hb (fun z => by cases z))
    refine ite2 (fun c1 => ?h1) (fun c1 => ?h2)
    case' h1 =>
      refine ⟨_, rfl, dg, kvs, rfl, .inl hd1, _, _, rfl, rfl, _, rfl, ?_⟩
      refine ite2 (fun c2 => ?g1) (fun c2 => ?g2)
      case g1 =>
        have c2' : 0 < ((kvs.length : Nat) : Int) := of_decide_eq_true c2
        refine ⟨_, rfl, dg, kvs, rfl, .inl hd1, fun l hl => ?_⟩
        have s2 := same_new hl (.lst (kvs.map fun p => kV p.1))
        have e2 : (upd H1 l (.lst (kvs.map fun p => kV p.1))) l = some (.lst (kvs.map fun p => kV p.1)) := upd_same
        have nlb : l ≠ b := Ne.symm (ne_of_none e1 hl)
        generalize upd H1 l (.lst (kvs.map fun p => kV p.1)) = H2 at s2 e2 ⊢
        have hd2 := s2 _ _ hd1
        refine ⟨_, rfl, _, rfl, dg, kvs, rfl, .inl hd2, b, u1, w1, _, rfl, s2 _ _ e1, p1, by omega, c2', by omega, fun j u3 w3 H3 b3 e3 p3 q3 j0 j1 => ?_⟩
        obtain ⟨⟨ky, vl⟩, hkv⟩ : ∃ p, kvs[j.toNat]? = some p := ⟨_, List.getElem?_eq_getElem (by omega)⟩
        obtain ⟨⟨nm, g⟩, hg, hky, p, hv, hp⟩ := paired_get G1 hkv
        have hv : vl = .ref p := hv
        have hky : ky = Sum.inr nm := hky
        subst hv hky
        have hvl := valV_get (G1.nodup L1.nd) hkv
        have hmem : nm ∈ gnames gs := List.mem_map_of_mem (f := fun x : Str × Gp => x.1) (List.mem_of_getElem? hg)
        have L3 := (L1.same s2).but b3 (s2 _ _ e1)
        have b03 : But b H H3 := b1.trans ((but_same s2).trans b3)
        have hd3 := b3 _ _ hd2 (ne_of hd2 (s2 _ _ e1) (fun z => by cases z))
        have G3 := (G1.same s2).keep fun p xs h => b3 _ _ h (ne_of h (s2 _ _ e1) (fun z => by cases z))
        refine ⟨l, _, _, _, rfl, rfl, SqL.of (b3 _ _ e2 nlb), atI_of (v := V.str nm) j0 rfl (by rw [List.getElem?_map, hkv]; rfl), ?_⟩
        refine ⟨_, rfl, dg, rfl, .inl ⟨_, .inl hd3⟩, _, rfl, kvs, Sum.inr nm, _, hd3, rfl, hvl, ?_⟩
        generalize e4 : upd H3 dg (.dK (dropK kvs (Sum.inr nm))) = H4
        have b4 : But dg H3 H4 := fun b o h nb => by rw [← e4, upd_ne nb]; exact h
        have W4 := L3.W.but b4 hd3 (Ne.symm L.ne)
        obtain ⟨dx4, hx4⟩ := W4.ob
        refine ⟨_, rfl, x, dx4, _, rfl, hx4, fldh_no _ _ (by decide +kernel) (by decide +kernel), _, rfl, x, dh, n, gs, nm, rfl, W4, hmem, fun H5 W5 b5 => ?_⟩
        have b35 : But2h dg dh H3 H5 := fun b o h na nb => b5 _ _ (b4 _ _ h na) nb
        have dl := gdrop_len nm gs
        refine q H5 _ (L3.drop G3 (b5 _ _ (by rw [← e4]; exact upd_same) L.ne) b35 W5) ⟨u3, w3, L3.lst b35 _ _ e3, p3, by omega⟩ (fun c o h n1 n2 n3 => b35 _ _ (b03 _ _ h n3) n1 n2) (by omega) (fun g hg => hnm.mono g (gdrop_mem hg))
    case' h2 => refine iteF ?_
    all_goals
      apply restJ (C := fun H' σ => But b H1 H' ∧ BagAt H' b (c + 2) ∧ ∃ l : Int, σ = [some (.ref x), some (.ref dg), some (.ref b), some (.int (0 + ((k : Nat) : Int))), some (.ref t), none, some (.int l), none])
      · intro rest
        refine ⟨_, rfl, b, u1, w1, 6, rfl, e1, p1, by omega, by decide, by decide, fun z2 u2 w2 H2 b2 e2 p2 q2 _ _ => ⟨rfl, _, rfl, ?_⟩⟩
        refine ite2 (fun _ => ?k1) (fun _ => ?k2)
        case k2 =>
          generalize hσ : (List.set _ _ _ : L2.St) = σ'
          exact rest H2 σ' ⟨b2, ⟨u2, w2, e2, p2, by omega⟩, 0, by rw [← hσ]; rfl⟩
        case k1 => exact ⟨_, rfl, rest _ _ ⟨b2, ⟨u2, w2, e2, p2, by omega⟩, _, rfl⟩⟩
      rintro H2 _ ⟨b2, B2, l, rfl⟩
      have t2 := b2 _ _ t1 (ne_of t1 e1 (fun z => by cases z))
      refine ⟨_, rfl, _, rfl, _, rfl, b, t, c + 2, l, ts, rfl, B2, by omega, t2, by omega, by omega, fun p3 g3 H3 b3 B3 hp3 e3 ha hb' => ?_⟩
      rw [lt] at ha hb'
      apply restJ (C := fun H' σ => ∃ (p : Addr) (g : Gp), But b H3 H' ∧ BagAt H' b (c + 10) ∧ H' p = some (.tup (gv g)) ∧ inN g.1 n ∧ inN g.2.1 n ∧ σ = [some (.ref x), some (.ref dg), some (.ref b), some (.int (0 + ((k : Nat) : Int))), some (.ref t), none, some (.int l), some (.ref p)])
      · intro rest
        obtain ⟨u3, w3, f3, p3', q3⟩ := id B3
        refine ⟨_, rfl, b, u3, w3, 8, rfl, f3, p3', by omega, by decide, by decide, fun z4 u4 w4 H4 b4 e4 p4 q4 _ _ => ⟨rfl, _, rfl, ?_⟩⟩
        have g4 := b4 _ _ e3 (ne_of e3 f3 (fun z => by cases z))
        refine ite2 (fun _ => ?k1) (fun _ => ?k2)
        case k2 =>
          generalize hσ : (List.set _ _ _ : L2.St) = σ'
          exact rest H4 σ' ⟨p3, g3, b4, ⟨u4, w4, e4, p4, by omega⟩, g4, ha, hb', by rw [← hσ]; rfl⟩
        case k1 =>
          have g4' : H4 p3 = some (.tup [.int g3.1, .int g3.2.1, ov g3.2.2.1, ov g3.2.2.2]) := g4
          refine ⟨_, rfl, _, rfl, p3, _, rfl, SqT.of g4', (by show ¬ (HT.sIx 4 0 none = 0 ∧ HT.sIx 4 4 (some 2) = 4); decide), fun p5 hp5 => ⟨(by show 2 ≤ sizeLine; decide), fun p6 hp6 => ⟨p5, p6, _, _, rfl, rfl, SqT.of (same_new hp6 _ _ _ upd_same), SqT.of upd_same, (fun h => nomatch h), (by show 4 ≤ sizeLine; decide), (fun h => nomatch h), fun _ p7 hp7 => ?_⟩⟩⟩
          have s5 := same_new hp5 (.tup (cutV [.int g3.1, .int g3.2.1, ov g3.2.2.1, ov g3.2.2.2] none (some 2)))
          have s6 := same_new hp6 (.tup [.non, .non])
          have s7 := s5.trans (s6.trans (same_new hp7 (.tup (cutV [.int g3.1, .int g3.2.1, ov g3.2.2.1, ov g3.2.2.2] none (some 2) ++ [.non, .non]))))
          exact rest _ _ ⟨p7, (g3.1, g3.2.1, none, none), b4.trans (but_same s7), ⟨u4, w4, s7 _ _ e4, p4, by omega⟩, upd_same, ha, hb', rfl⟩
      rintro H4 _ ⟨p4, g4, b4, ⟨u4, w4, e4, r4, r4'⟩, f4, ha4, hb4, rfl⟩
      refine ⟨_, rfl, b, u4, w4, 3, rfl, e4, r4, by omega, by decide, by decide, fun z u5 w5 H5 b5 e5 r5 r5' z0 z1 => ?_⟩
      have b05 : But b H H5 := b1.trans ((b2.trans b3).trans (b4.trans b5))
      have L5 := L.but b05 hb
      obtain ⟨kvs5, hd5, G5⟩ := L5.D
      have glen5 := G5.len
      have f5 := b5 _ _ f4 (ne_of f4 e4 (fun z => by cases z))
      have f5' : H5 p4 = some (.tup [.int g4.1, .int g4.2.1, ov g4.2.2.1, ov g4.2.2.2]) := f5
      have ok := name_ok k hk
      have ok2 : (timesS "gap" (1 + z)).length ≤ 9 := by
        obtain ⟨z', rfl⟩ : ∃ z' : Nat, z = (z' : Int) := ⟨z.toNat, by omega⟩
        exact times_ok z' (by omega)
      have lg : ("gap" : Str).length = 3 := by decide +kernel
      have hnew := hnm.new ⟨z0, z1⟩ hk
      refine ⟨_, _, rfl, rfl, _, _, rfl, rfl, by omega, by omega, by omega, by omega, _, rfl, _, rfl, ok.1, _, _, rfl, rfl, small (by omega), ?_⟩
      refine ⟨_, rfl, _, rfl, _, rfl, dg, _, rfl, DPut.k (k := Sum.inr (nameOf z k)) hd5 (small1000 (by omega)), ?_⟩
      rw [putK_new _ (G5.val_none hnew)]
      generalize e6 : upd H5 dg (.dK (kvs5 ++ [(Sum.inr (nameOf z k), .ref p4)])) = H6
      have b6 : But dg H5 H6 := fun b o h nb => by rw [← e6, upd_ne nb]; exact h
      have W6 := L5.W.but b6 hd5 (Ne.symm L.ne)
      have p6 := b6 _ _ f5' (ne_of f5' hd5 (fun z => by cases z))
      obtain ⟨dx6, hx6⟩ := W6.ob
      refine ⟨_, rfl, x, dx6, _, rfl, hx6, fldh_no _ _ (by decide +kernel) (by decide +kernel), _, rfl, _, rfl, p4, _, 0, _, rfl, rfl, SqT.of p6, rfl, _, rfl, p4, _, 1, _, rfl, rfl, SqT.of p6, rfl, _, rfl, p4, _, 2, _, rfl, rfl, SqT.of p6, rfl, _, rfl, p4, _, 3, _, rfl, rfl, SqT.of p6, rfl,
        x, dh, n, gs, nameOf z k, g4, rfl, W6, hnew, by omega, fun H7 W7 b7 => ?_⟩
      have b57 : But2h dg dh H5 H7 := fun b o h na nb => b7 _ _ (b6 _ _ h na) nb
      exact q H7 _ (L5.add G5 hnew f5 ha4 hb4 (b7 _ _ (by rw [← e6]; exact upd_same) L.ne) b57 W7) ⟨u5, w5, L5.lst b57 _ _ e5, r5, by omega⟩ (fun c o h n1 n2 n3 => b57 _ _ (b05 _ _ h n3) n1 n2) (by rw [List.length_append]; show _ + 1 ≤ _; omega) (fun g' hg => by
        rcases List.mem_append.mp hg with h | h
        · exact hnm.mono g' h
        · rw [List.mem_singleton.mp h]; exact ⟨k, z, by omega, ⟨z0, z1⟩, rfl⟩)
theorem sc_table_of : FnScope ["count", "bounds", "table", "bound"] ["count", "bounds"] (defScope s_table_of) := ⟨rfl, rfl, rfl, by decide +kernel, rfl, by decide +kernel, by decide +kernel⟩
theorem ok_table_of {f : Addr} {fd : FuncData} (F : Fun K "table_of" "table_of" s_table_of f fd) (T : Txt K mg cl) (C_wide : Cal P w K mg base 2 "wide" ["count"] (sp_wide K)) (C_held : Cal P w K mg base 3 "held" ["table", "bound"] (sp_held K)) : FnOk P w K mg base CX0 4 f fd ["count", "bounds"] (sp_table_of K) := by
  refine F.ok sc_table_of (fun vs H Q E h => ?_) (fun cdv A outer s H vs Q E hr h => ?_)
  · obtain ⟨n, r, qs, bs, rfl, hL, hA, n1, n8, hw, hb, qt⟩ := h
    rfl
  · obtain ⟨n, r, qs, bs, rfl, hL, hA, n1, n8, hw, hb, qt⟩ := h
    refine ⟨_, (pss_cons (ps_set (i := 2) sc_table_of.nd rfl (Or.inl rfl) (pec C_wide (hr.mono (by decide)) rfl (pa_cons (pv 0) pa_nil)))
      (pss_cons (ps_for PassesOwn.never rfl (pi_list (pv 1)) (pg_name (i := 3) sc_table_of.nd rfl (Or.inl rfl))
      (pss_one (ps_set (i := 2) sc_table_of.nd rfl (Or.inl rfl) (pec C_held (hr.mono (by decide)) rfl (pa_cons (pv 2) (pa_cons (pv 3) pa_nil))))))
      (pss_one (ps_ret (pv 2))))), ?_⟩
    have hlen := hA.len
    refine ⟨_, rfl, n, rfl, by omega, fun p0 rs0 H0 N0 => ?_⟩
    refine ⟨_, rfl, r, rfl, ⟨_, N0.sm.seq hL⟩, for_list (K := K) (a := r) (xs := qs) (fun i σ H2 => Same H H2 ∧ (∃ v u3, σ = [some (.int n), some (.ref r), some v, u3] ∧ IsTN H H2 v n (bs.take i)))
      ⟨N0.sm, _, _, rfl, .inr ⟨p0, rs0, _, rfl, N0, wide_right n⟩⟩ (fun i σ H2 _ ⟨s, _⟩ => s.seq hL) ?_ ?_⟩
    · rintro i x σ H2 hi ⟨s2, v, u3, rfl, hv⟩
      obtain ⟨pb, m, hm, rfl, hp⟩ := (hA.same s2).get hi
      have htake : bs.take (i + 1) = bs.take i ++ [m] := by rw [List.take_add_one, hm]; rfl
      obtain ⟨m1, m2⟩ := hw m (List.mem_of_getElem? hm)
      refine ⟨_, rfl, _, rfl, pb, v, m, rfl, SqT.of hp, ?_⟩
      rcases hv with ⟨rfl, hn⟩ | ⟨p, rs, t, rfl, N, R⟩
      · refine .inl ⟨rfl, s2, _, _, rfl, .inl ⟨rfl, ?_⟩⟩
        rw [htake]
        exact hn.mono fun x hx => List.mem_append_left _ hx
      · refine .inr ⟨p, rs, t, n, rfl, N.tb, R.square, by omega, m1, m2, fun hs => ?_, fun hs p' rs' H' N' => ?_⟩
        · refine ⟨s2, _, _, rfl, .inl ⟨rfl, ?_⟩⟩
          rw [htake]
          exact shut_neg R m1 m2 hs
        · refine ⟨s2.trans N'.sm, _, _, rfl, .inr ⟨p', rs', _, rfl, N'.since s2, ?_⟩⟩
          rw [htake]
          refine held_right R (fun x hx => ?_) hs
          rcases List.mem_append.mp hx with hx | hx
          · exact hw x (List.mem_of_mem_take hx)
          · rw [List.mem_singleton.mp hx]; exact ⟨m1, m2⟩
    · rintro σ H2 ⟨s2, v, u3, rfl, hv⟩
      rw [hlen, List.take_length] at hv
      exact ⟨_, rfl, qt v H2 s2 hv⟩
theorem sc_ring : FnScope ["count", "bounds"] ["count", "bounds"] (defScope s_ring) := ⟨rfl, rfl, rfl, by decide +kernel, rfl, by decide +kernel, by decide +kernel⟩
theorem ok_ring {f : Addr} {fd : FuncData} (F : Fun K "ring" "ring" s_ring f fd) (T : Txt K mg cl) (C_search : Cal P w K mg base 4 "search" ["count", "bounds"] (sp_search K)) : FnOk P w K mg base CX0 5 f fd ["count", "bounds"] (sp_ring K) := by
  refine F.ok sc_ring (fun vs H Q E h => ?_) (fun cdv A outer s H vs Q E hr h => ?_)
  · obtain ⟨n, r, qs, bs, rfl, hL, hA, n1, n8, hw, hb', q⟩ := h
    rfl
  · obtain ⟨n, r, qs, bs, rfl, hL, hA, n1, n8, hw, hb', q⟩ := h
    refine ⟨_, (pss_one (ps_ret (pe_ix ix_tup (pec C_search (hr.mono (by decide)) rfl (pa_cons (pv 0) (pa_cons (pv 1) pa_nil))) pe_int (fun _ _ => rfl)))), ?_⟩
    refine ⟨_, rfl, _, rfl, n, r, qs, bs, rfl, hL, hA, n1, n8, hw, hb', fun u l ps H' s1 e1 e2 l0 rg ln neg => ?_, fun u p w t H' s1 e1 hW hS R W => ?_⟩
    · exact ⟨u, _, 1, _, rfl, rfl, SqT.of e1, rfl, q _ H' s1 (.inr ⟨l, ps, rfl, e2, l0, rg, ln, neg⟩)⟩
    · exact ⟨u, _, 1, _, rfl, rfl, SqT.of e1, rfl, q _ H' s1 (.inl ⟨rfl, t, R⟩)⟩
theorem sc_chain : FnScope ["count", "bounds", "a", "b", "ways"] ["count", "bounds", "a", "b"] (defScope s_chain) := ⟨rfl, rfl, rfl, by decide +kernel, rfl, by decide +kernel, by decide +kernel⟩
theorem ok_chain {f : Addr} {fd : FuncData} (F : Fun K "chain" "chain" s_chain f fd) (T : Txt K mg cl) (C_search : Cal P w K mg base 4 "search" ["count", "bounds"] (sp_search K)) : FnOk P w K mg base CX0 5 f fd ["count", "bounds", "a", "b"] (sp_chain K) := by
  refine F.ok sc_chain (fun vs H Q E h => ?_) (fun cdv A outer s H vs Q E hr h => ?_)
  · obtain ⟨n, r, qs, bs, a, b, rfl, hL, hA, n1, n8, hw, hb', ha, hb, q⟩ := h
    rfl
  · obtain ⟨n, r, qs, bs, a, b, rfl, hL, hA, n1, n8, hw, hb', ha, hb, q⟩ := h
    refine ⟨_, (pss_cons (ps_set (i := 4) sc_chain.nd rfl (Or.inl rfl) (pe_ix ix_tup (pec C_search (hr.mono (by decide)) rfl (pa_cons (pv 0) (pa_cons (pv 1) pa_nil))) pe_int (fun _ _ => rfl)))
      (pss_cons (ps_if (pt_cmpR op_isN (pv 4) pe_non (nomark _))
      (pss_one (ps_ret pe_non))
      pss_nil)
      (pss_one (ps_ret (pe_ix ix_list (pe_ix ix_list (pv 4) (pv 2) (fun _ _ => rfl)) (pv 3) (fun _ _ => rfl)))))), ?_⟩
    refine ⟨_, rfl, _, rfl, n, r, qs, bs, rfl, hL, hA, n1, n8, hw, hb', fun u l ps H' s1 e1 _ _ _ _ neg => ?_, fun u p w t H' s1 e1 hW hS R W => ?_⟩
    · refine ⟨u, _, 0, _, rfl, rfl, SqT.of e1, rfl, ?_⟩
      exact ⟨_, rfl, rfl, _, rfl, iteT (q _ H' s1 (.inl ⟨rfl, neg⟩))⟩
    · refine ⟨u, _, 0, _, rfl, rfl, SqT.of e1, rfl, ?_⟩
      obtain ⟨rs, r', vs, v, g1, g2, g3, g4, g5⟩ := hW.at hS ha hb
      refine ⟨_, rfl, rfl, _, rfl, iteF ⟨_, rfl, _, rfl, p, _, _, _, rfl, rfl, SqL.of g1, g2, _, rfl, r', _, _, _, rfl, rfl, SqL.of g3, g4, q v H' s1 (.inr ⟨t, R, ?_⟩)⟩⟩
      rcases W a b ha hb with ⟨hn, ho⟩ | ⟨e, ps, he, ho, wk, nd⟩
      · rw [ho] at g5
        exact .inl ⟨g5, hn⟩
      · rw [ho] at g5
        obtain ⟨l, rfl, hl, l0⟩ := g5
        exact .inr ⟨l, ps, e, rfl, hl, l0, he, wk, nd⟩
theorem sc_House_table : FnScope ["self"] ["self"] (defScope s_House_table) := ⟨rfl, rfl, rfl, by decide +kernel, rfl, by decide +kernel, by decide +kernel⟩
theorem ok_House_table {f : Addr} {fd : FuncData} (F : Fun K "table" "House.table" s_House_table f fd) (T : Txt K mg cl) (C_table_of : Cal P w K mg base 4 "table_of" ["count", "bounds"] (sp_table_of K)) (C_all_bounds : Cal P w K mg base 2 "all_bounds" ["gaps"] (sp_all_bounds K)) : FnOk P w K mg base CX0 5 f fd ["self"] (sp_House_table K cl) := by
  refine F.ok sc_House_table (fun vs H Q E h => ?_) (fun cdv A outer s H vs Q E hr h => ?_)
  · obtain ⟨x, d, n, gs, rfl, W, n1, n8, hw, hl, q⟩ := h
    rfl
  · obtain ⟨x, d, n, gs, rfl, W, n1, n8, hw, hl, q⟩ := h
    refine ⟨_, (pss_one (ps_ret (pec C_table_of (hr.mono (by decide)) rfl (pa_cons (pe_fld (pv 0) rfl) (pa_cons (pec C_all_bounds (hr.mono (by decide)) rfl (pa_cons (pe_fld (pv 0) rfl) pa_nil)) pa_nil))))), ?_⟩
    obtain ⟨dx, hx⟩ := W.ob
    obtain ⟨kvs, hd, G⟩ := W.dc
    refine ⟨_, rfl, x, cl.House, dx, _, _, rfl, hx, T.cl_House, T.n_House_count, fldh_count _ _, _, rfl, x, cl.House, dx, _, _, rfl, hx, T.cl_House, T.n_House_gaps, fldh_gaps _ _, d, kvs, gs, rfl, hd, G, hl, fun r H1 qs hr0 s1 e1 A1 => ?_⟩
    have := allB_len gs
    exact ⟨n, r, qs, allB gs, rfl, SqL.of e1, A1, n1, n8, hw, by omega, fun v H2 s2 I2 => q v H2 (s1.trans s2) (I2.since s1)⟩
theorem sc_House_ring : FnScope ["self"] ["self"] (defScope s_House_ring) := ⟨rfl, rfl, rfl, by decide +kernel, rfl, by decide +kernel, by decide +kernel⟩
theorem ok_House_ring {f : Addr} {fd : FuncData} (F : Fun K "ring" "House.ring" s_House_ring f fd) (T : Txt K mg cl) (C_ring_rings : Cal P w K mg base 5 "ring_rings" ["count", "bounds"] (sp_ring K)) (C_all_bounds : Cal P w K mg base 2 "all_bounds" ["gaps"] (sp_all_bounds K)) (C_names_at : Cal P w K mg base 3 "names_at" ["gaps", "places"] (sp_names_at K)) : FnOk P w K mg base CX0 6 f fd ["self"] (sp_House_ring K cl) := by
  refine F.ok sc_House_ring (fun vs H Q E h => ?_) (fun cdv A outer s H vs Q E hr h => ?_)
  · obtain ⟨x, d, n, gs, rfl, W, hnd, n1, n8, hw, hl, q⟩ := h
    rfl
  · obtain ⟨x, d, n, gs, rfl, W, hnd, n1, n8, hw, hl, q⟩ := h
    refine ⟨_, (pss_one (ps_ret (pec C_names_at (hr.mono (by decide)) rfl (pa_cons (pe_fld (pv 0) rfl) (pa_cons (pec C_ring_rings (hr.mono (by decide)) rfl (pa_cons (pe_fld (pv 0) rfl) (pa_cons (pec C_all_bounds (hr.mono (by decide)) rfl (pa_cons (pe_fld (pv 0) rfl) pa_nil)) pa_nil))) pa_nil))))), ?_⟩
    obtain ⟨dx, hx⟩ := W.ob
    obtain ⟨kvs, hd, G⟩ := W.dc
    refine ⟨_, rfl, x, cl.House, dx, _, _, rfl, hx, T.cl_House, T.n_House_gaps, fldh_gaps _ _, ?_⟩
    refine ⟨_, rfl, x, cl.House, dx, _, _, rfl, hx, T.cl_House, T.n_House_count, fldh_count _ _, _, rfl, x, cl.House, dx, _, _, rfl, hx, T.cl_House, T.n_House_gaps, fldh_gaps _ _, d, kvs, gs, rfl, hd, G, hl, fun r H1 qs hr0 s1 e1 A1 => ?_⟩
    have := allB_len gs
    refine ⟨n, r, qs, allB gs, rfl, SqL.of e1, A1, n1, n8, hw, by omega, fun v H2 s2 I2 => ?_⟩
    have s12 := s1.trans s2
    refine ⟨d, kvs, gs, v, rfl, s12 _ _ hd, G.same s12, hnd, hl, ?_⟩
    rcases I2 with ⟨rfl, t, R⟩ | ⟨l, ps, rfl, el, l0, rg, ln, neg⟩
    · exact .inl ⟨rfl, q _ H2 s12 (.inl ⟨rfl, t, R⟩)⟩
    · obtain ⟨_, _, _, _, wk, _⟩ := id rg
      exact .inr ⟨l, ps, rfl, el, wk.places, by omega, fun r3 H3 qs3 hr3 s3 e3 A3 => q _ H3 (s12.trans s3) (.inr ⟨r3, qs3, ps, rfl, e3, none_of s12 hr3, A3, rg, ln, neg⟩)⟩
theorem sc_House_chain : FnScope ["self", "a", "b"] ["self", "a", "b"] (defScope s_House_chain) := ⟨rfl, rfl, rfl, by decide +kernel, rfl, by decide +kernel, by decide +kernel⟩
theorem ok_House_chain {f : Addr} {fd : FuncData} (F : Fun K "chain" "House.chain" s_House_chain f fd) (T : Txt K mg cl) (C_chain_rings : Cal P w K mg base 5 "chain_rings" ["count", "bounds", "a", "b"] (sp_chain K)) (C_all_bounds : Cal P w K mg base 2 "all_bounds" ["gaps"] (sp_all_bounds K)) (C_names_at : Cal P w K mg base 3 "names_at" ["gaps", "places"] (sp_names_at K)) : FnOk P w K mg base CX0 6 f fd ["self", "a", "b"] (sp_House_chain K cl) := by
  refine F.ok sc_House_chain (fun vs H Q E h => ?_) (fun cdv A outer s H vs Q E hr h => ?_)
  · obtain ⟨x, d, n, gs, a, b, rfl, W, hnd, n1, n8, hw, hl, ha, hb, q⟩ := h
    rfl
  · obtain ⟨x, d, n, gs, a, b, rfl, W, hnd, n1, n8, hw, hl, ha, hb, q⟩ := h
    refine ⟨_, (pss_one (ps_ret (pec C_names_at (hr.mono (by decide)) rfl (pa_cons (pe_fld (pv 0) rfl) (pa_cons (pec C_chain_rings (hr.mono (by decide)) rfl (pa_cons (pe_fld (pv 0) rfl) (pa_cons (pec C_all_bounds (hr.mono (by decide)) rfl (pa_cons (pe_fld (pv 0) rfl) pa_nil)) (pa_cons (pv 1) (pa_cons (pv 2) pa_nil))))) pa_nil))))), ?_⟩
    obtain ⟨dx, hx⟩ := W.ob
    obtain ⟨kvs, hd, G⟩ := W.dc
    refine ⟨_, rfl, x, cl.House, dx, _, _, rfl, hx, T.cl_House, T.n_House_gaps, fldh_gaps _ _, ?_⟩
    refine ⟨_, rfl, x, cl.House, dx, _, _, rfl, hx, T.cl_House, T.n_House_count, fldh_count _ _, _, rfl, x, cl.House, dx, _, _, rfl, hx, T.cl_House, T.n_House_gaps, fldh_gaps _ _, d, kvs, gs, rfl, hd, G, hl, fun r H1 qs hr0 s1 e1 A1 => ?_⟩
    have := allB_len gs
    refine ⟨_, rfl, _, rfl, n, r, qs, allB gs, a, b, rfl, SqL.of e1, A1, n1, n8, hw, by omega, ha, hb, fun v H2 s2 I2 => ?_⟩
    have s12 := s1.trans s2
    refine ⟨d, kvs, gs, v, rfl, s12 _ _ hd, G.same s12, hnd, hl, ?_⟩
    rcases I2 with ⟨rfl, neg⟩ | ⟨t, R, ⟨rfl, hn⟩ | ⟨l, ps, e, rfl, el, l0, he, wk, nd⟩⟩
    · exact .inl ⟨rfl, q _ H2 s12 (.inl ⟨rfl, neg⟩)⟩
    · exact .inl ⟨rfl, q _ H2 s12 (.inr ⟨t, R, .inl ⟨rfl, hn⟩⟩)⟩
    · have ll := way_len hw hb wk nd
      exact .inr ⟨l, ps, rfl, el, wk.places, by omega, fun r3 H3 qs3 hr3 s3 e3 A3 => q _ H3 (s12.trans s3) (.inr ⟨t, R, .inr ⟨r3, qs3, ps, e, rfl, e3, none_of s12 hr3, A3, he, wk, nd⟩⟩)⟩
theorem sc_House_idle : FnScope ["self", "name", "others"] ["self", "name"] (defScope s_House_idle) := ⟨rfl, rfl, rfl, by decide +kernel, rfl, by decide +kernel, by decide +kernel⟩
theorem ok_House_idle {f : Addr} {fd : FuncData} (F : Fun K "idle" "House.idle" s_House_idle f fd) (T : Txt K mg cl) (C_table_of : Cal P w K mg base 4 "table_of" ["count", "bounds"] (sp_table_of K)) (C_all_bounds : Cal P w K mg base 2 "all_bounds" ["gaps"] (sp_all_bounds K)) (M_House_need : MCal P w K mg base cl.House 1 "need" ["self", "name"] (sp_House_need K cl)) (M_House_table : MCal P w K mg base cl.House 5 "table" ["self"] (sp_House_table K cl)) : FnOk P w K mg base CX0 6 f fd ["self", "name"] (sp_House_idle K cl) := by
  refine F.ok sc_House_idle (fun vs H Q E h => ?_) (fun cdv A outer s H vs Q E hr h => ?_)
  · obtain ⟨x, d, n, gs, nm, rfl, W, hn, n1, n8, hw, hl, q⟩ := h
    rfl
  · obtain ⟨x, d, n, gs, nm, rfl, W, hn, n1, n8, hw, hl, q⟩ := h
    refine ⟨_, (pss_cons (ps_expr (pe_meth (pv 0) T.cl_House M_House_need.mt M_House_need.ok (hr.mono (by decide)) M_House_need.b .nil pass0 (pa_cons (pv 1) pa_nil)))
      (pss_cons (ps_set (i := 2) sc_House_idle.nd rfl (Or.inl rfl) (pe_callTy call_dictD rfl T.z_dict boot_dict (pa_cons (pe_fld (pv 0) rfl) pa_nil)))
      (pss_cons (ps_expr (pe_dpop1 (pv 2) (pv 1) ⟨rfl, rfl, rfl, rfl⟩))
      (pss_one (ps_ret (pe_cmpR (OpR.or op_eq (OpR.or (op_eqNL (hr.units)) (op_eqTT (hr.units)))) (pec C_table_of (hr.mono (by decide)) rfl (pa_cons (pe_fld (pv 0) rfl) (pa_cons (pec C_all_bounds (hr.mono (by decide)) rfl (pa_cons (pv 2) pa_nil)) pa_nil))) (pe_meth0 (pv 0) T.cl_House M_House_table.mt M_House_table.ok (hr.mono (by decide)) M_House_table.b .nil pass0) (nomark _))))))), ?_⟩
    obtain ⟨dx, hx⟩ := W.ob
    obtain ⟨kvs, hd, G⟩ := W.dc
    obtain ⟨p, g, _, hv, _⟩ := G.val_some hn
    refine ⟨_, rfl, x, dx, _, rfl, hx, fldh_no _ _ (by decide +kernel) (by decide +kernel), _, rfl, x, d, n, gs, nm, rfl, W, hn, ?_⟩
    refine ⟨_, rfl, x, cl.House, dx, _, _, rfl, hx, T.cl_House, T.n_House_gaps, fldh_gaps _ _, d, kvs, rfl, .inl hd, fun o ho => ?_⟩
    have s1 := same_new ho (.dK kvs)
    have e1 : (upd H o (.dK kvs)) o = some (.dK kvs) := upd_same
    generalize upd H o (.dK kvs) = H1 at s1 e1 ⊢
    refine ⟨_, rfl, o, rfl, .inl ⟨_, .inl e1⟩, _, rfl, kvs, Sum.inr nm, _, e1, rfl, hv, ?_⟩
    have s2 : Same H (upd H1 o (.dK (dropK kvs (Sum.inr nm)))) := fun b o' h => by rw [upd_ne (ne_of_none h ho)]; exact s1 _ _ h
    have e2 : (upd H1 o (.dK (dropK kvs (Sum.inr nm)))) o = some (.dK (dropK kvs (Sum.inr nm))) := upd_same
    generalize upd H1 o (.dK (dropK kvs (Sum.inr nm))) = H2 at s2 e2 ⊢
    have dl := gdrop_len nm gs
    have wd := within_drop hw nm
    refine ⟨_, rfl, x, cl.House, dx, _, _, rfl, s2 _ _ hx, T.cl_House, T.n_House_count, fldh_count _ _, _, rfl, o, _, gdrop nm gs, rfl, e2, (G.same s2).drop, by omega, fun r H3 qs hr0 s3 e3 A3 => ?_⟩
    have bl := allB_len (gdrop nm gs)
    refine ⟨n, r, qs, allB (gdrop nm gs), rfl, SqL.of e3, A3, n1, n8, wd, by omega, fun v4 H4 s4 I4 => ?_⟩
    have s24 := (s2.trans s3).trans s4
    refine ⟨_, rfl, x, dx, _, rfl, s24 _ _ hx, fldh_no _ _ (by decide +kernel) (by decide +kernel), x, d, n, gs, rfl, W.same s24, n1, n8, hw, hl, fun v5 H5 s5 I5 => ?_⟩
    have s25 := s24.trans s5
    rcases I4 with ⟨rfl, g4⟩ | ⟨p4, rs4, t4, rfl, N4, R4⟩
    · rcases I5 with ⟨rfl, g5⟩ | ⟨p5, rs5, t5, rfl, N5, R5⟩
      · exact .inl ⟨rfl, q _ H5 s25 ⟨fun _ => .inl ⟨g4, g5⟩, fun _ => decide_eq_true rfl⟩⟩
      · exact .inr (.inl ⟨.inl ⟨rfl, _, _, rfl, SqL.of N5.tb.ob⟩, q false H5 s25 (tsame_no wd hw g4 R5)⟩)
    · have T4 := N4.tb.same s5
      rcases I5 with ⟨rfl, g5⟩ | ⟨p5, rs5, t5, rfl, N5, R5⟩
      · exact .inr (.inl ⟨.inr ⟨rfl, _, _, rfl, SqL.of T4.ob⟩, q false H5 s25 (tsame_no' wd hw R4 g5)⟩)
      · exact .inr (.inr ⟨_, _, _, _, _, _, rfl, rfl, SqL.of T4.ob, SqL.of N5.tb.ob, ovs_rows T4.rows, ovs_rows N5.tb.rows, q _ H5 s25 (tsame_tabs wd R4 R5)⟩)
theorem sc_law_ring_good : FnScope ["_law_house", "_law_gaps", "_law_found", "_law_first", "_law_walked_here"] ["_law_house", "_law_gaps"] (defScope s_law_ring_good) := ⟨rfl, rfl, rfl, by decide +kernel, rfl, by decide +kernel, by decide +kernel⟩
theorem ok_law_ring_good {f : Addr} {fd : FuncData} (F : Fun K "_law_ring_good" "_law_ring_good" s_law_ring_good f fd) (T : Txt K mg cl) (C_law_ends : Cal P w K mg base 1 "_law_ends" ["_law_gaps"] (sp_law_ends K)) (C_law_walked : Cal P w K mg base 2 "_law_walked" ["_law_found", "_law_gaps", "_law_point"] (sp_law_walked K)) (M_House_ring : MCal P w K mg base cl.House 6 "ring" ["self"] (sp_House_ring K cl)) : FnOk P w K mg base CX0 7 f fd ["_law_house", "_law_gaps"] (sp_law_ring_good K cl) := by
  refine F.ok sc_law_ring_good (fun vs H Q E h => ?_) (fun cdv A outer s H vs Q E hr h => ?_)
  · obtain ⟨x, dh, dg, n, gs, rfl, L, neg, n1, n8, h64, q⟩ := h
    rfl
  · obtain ⟨x, dh, dg, n, gs, rfl, L, neg, n1, n8, h64, q⟩ := h
    refine ⟨_, (pss_cons (ps_set (i := 2) sc_law_ring_good.nd rfl (Or.inl rfl) (pe_meth0 (pv 0) T.cl_House M_House_ring.mt M_House_ring.ok (hr.mono (by decide)) M_House_ring.b .nil pass0))
      (pss_cons (ps_if (PW.pt (pw_or (pt_not (pt_val (pe_callB call_isi rfl T.z_isinstance boot_isinstance (pa_cons (pv 2) (pa_cons (pe_bltn (v := .ty "list") rfl T.z_list boot_list rfl) pa_nil))))) (pw_or (pt_cmpR op_eq (pe_callB call_len_seq rfl T.z_len PySem.boot_len (pa_cons (pv 2) pa_nil)) pe_int (nomark _)) (pw_or1 (pt_cmp (pc_dnotin (hu1 hr) (pe_ix ix_list (pv 2) pe_int (fun _ _ => rfl)) (pec C_law_ends (hr.mono (by decide)) rfl (pa_cons (pv 1) pa_nil))))))))
      (pss_one (ps_ret pe_bl))
      pss_nil)
      (pss_cons (ps_set (i := 3) sc_law_ring_good.nd rfl (Or.inl rfl) (pe_ix ix_tup (pe_dget (hu1 hr) (pec C_law_ends (hr.mono (by decide)) rfl (pa_cons (pv 1) pa_nil)) (pe_ix ix_list (pv 2) pe_int (fun _ _ => rfl)) (fun _ _ => rfl)) pe_int (fun _ _ => rfl)))
      (pss_cons (ps_set (i := 4) sc_law_ring_good.nd rfl (Or.inl rfl) (pec C_law_walked (hr.mono (by decide)) rfl (pa_cons (pv 2) (pa_cons (pv 1) (pa_cons (pv 3) pa_nil)))))
      (pss_one (ps_ret (pe_and (pe_cmpR op_notN (pv 4) pe_non (nomark _)) (pe_and (pe_cmpR op_eq (pe_ix ix_tup (pv 4) pe_int (fun _ _ => rfl)) (pv 3) (nomark _)) (pe_one (pe_cmpR op_lt (pe_ix ix_tup (pv 4) pe_int (fun _ _ => rfl)) pe_int (nomark _))))))))))), ?_⟩
    obtain ⟨dx, hx⟩ := L.W.ob
    refine ⟨_, rfl, x, dx, _, rfl, hx, fldh_no _ _ (by decide +kernel) (by decide +kernel), x, dh, n, gs, rfl, L.W, L.nd, n1, n8, L.within, h64, fun v1 H1 s1 I1 => ?_⟩
    rcases I1 with ⟨rfl, tb, R⟩ | ⟨l, qs, ps, rfl, el, l0, A, ⟨x0, c, c0, hx0, wk, _⟩, ln, _⟩
    · exact (R.noneg L.within neg).elim
    obtain ⟨k, ps', m, eps, k0, hm, em⟩ := wk.first c0
    subst eps
    have lq := A.len
    rw [List.map_cons] at A lq
    obtain ⟨v0, qs', rfl⟩ : ∃ v0 qs', qs = v0 :: qs' := by
      cases qs with
      | nil => cases lq
      | cons v0 qs' => exact ⟨v0, qs', rfl⟩
    obtain ⟨_, e0, pm, ev, hpm⟩ := paired_get (i := 0) A rfl
    cases e0
    have ev : v0 = .ref pm := ev
    subst ev
    have L1 := L.same s1
    obtain ⟨kvs, hd, G⟩ := L1.D
    refine ⟨_, rfl, _, _, _, _, rfl, .lst el, kit_same, _, rfl, iteF ?_⟩
    refine ⟨_, rfl, l, _, rfl, .inl (SqL.of el), rfl, _, rfl, ?_⟩
    refine ite2 (fun c => absurd (V.int.inj (of_decide_eq_true c)) (by show ¬ (((qs'.length + 1 : Nat) : Int) = 0); omega)) (fun _ => ?_)
    refine ⟨_, rfl, l, _, 0, _, rfl, rfl, SqL.of el, atI_of (Int.le_refl _) rfl rfl, _, rfl, dg, kvs, gs, rfl, hd, G, L.nd, h64, fun e H2 us he0 s2 e2 A2 K2 => ?_⟩
    obtain ⟨pb2, hval2, hpb2⟩ := ends_at K2 A2 L.nd k0 hm
    refine ⟨e, _, rfl, DGet.t (k := keyN (nmAt gs k)) e2 (s2 _ _ hpm), ?_⟩
    rw [hval2]
    refine ⟨_, rfl, iteF ?_⟩
    refine ⟨_, rfl, dg, kvs, gs, rfl, s2 _ _ hd, G.same s2, L.nd, h64, fun e3 H3 us3 _ s3 f3 A3 K3 => ?_⟩
    have s23 := s2.trans s3
    obtain ⟨pb3, hval3, hpb3⟩ := ends_at K3 A3 L.nd k0 hm
    refine ⟨_, rfl, l, _, 0, _, rfl, rfl, SqL.of (s23 _ _ el), atI_of (Int.le_refl _) rfl rfl, e3, _, rfl, .inr ⟨us3, keyN (nmAt gs k), pm, .inl f3, rfl, s23 _ _ hpm, hval3.symm⟩, pb3, _, 0, _, rfl, rfl, SqT.of hpb3, rfl, ?_⟩
    refine ⟨_, rfl, _, rfl, _, rfl, l, dg, m.1, x0, c, _, kvs, gs, k :: ps', rfl, s23 _ _ el, A.same s23, s23 _ _ hd, G.same s23, L.nd, h64, em ▸ wk, fun pw H4 s4 e4 => ?_⟩
    have qq : Q (.bl (decide (c < 0))) H4 := by
      rw [decide_eq_true c0]
      exact q H4 ((s1.trans s23).trans s4)
    exact ⟨_, rfl, rfl, _, rfl, iteT ⟨_, rfl, pw, _, 0, _, rfl, rfl, SqT.of e4, rfl, _, rfl, rfl, _, rfl, iteS' (congrArg V.int em.symm) ⟨_, rfl, pw, _, 1, _, rfl, rfl, SqT.of e4, rfl, _, _, rfl, rfl, qq⟩⟩⟩
theorem sc_law_pair_good : FnScope ["_law_house", "_law_gaps", "_law_pair", "_law_entry", "_law_tries_here", "_law_found", "_law_bounds", "_law_times_here"] ["_law_house", "_law_gaps", "_law_pair", "_law_entry", "_law_tries_here"] (defScope s_law_pair_good) := ⟨rfl, rfl, rfl, by decide +kernel, rfl, by decide +kernel, by decide +kernel⟩
theorem ok_law_pair_good {f : Addr} {fd : FuncData} (F : Fun K "_law_pair_good" "_law_pair_good" s_law_pair_good f fd) (T : Txt K mg cl) (C_law_kept : Cal P w K mg base 1 "_law_kept" ["_law_times_here", "_law_bounds"] (sp_law_kept K)) (C_law_ends : Cal P w K mg base 1 "_law_ends" ["_law_gaps"] (sp_law_ends K)) (C_law_walked : Cal P w K mg base 2 "_law_walked" ["_law_found", "_law_gaps", "_law_point"] (sp_law_walked K)) (M_House_chain : MCal P w K mg base cl.House 6 "chain" ["self", "a", "b"] (sp_House_chain K cl)) : FnOk P w K mg base CX0 7 f fd ["_law_house", "_law_gaps", "_law_pair", "_law_entry", "_law_tries_here"] (sp_law_pair_good K cl) := by
  refine F.ok sc_law_pair_good (fun vs H Q E h => ?_) (fun cdv A outer s H vs Q E hr h => ?_)
  · obtain ⟨x, dh, dg, pp, rt, n, gs, a, b, o, ws, rfl, L, hpp, ha, hb, ⟨t, R, ho⟩, hrt, hT, n1, n8, h64, q⟩ := h
    rfl
  · obtain ⟨x, dh, dg, pp, rt, n, gs, a, b, o, ws, rfl, L, hpp, ha, hb, ⟨t, R, ho⟩, hrt, hT, n1, n8, h64, q⟩ := h
    refine ⟨_, (pss_cons (ps_set (i := 5) sc_law_pair_good.nd rfl (Or.inl rfl) (pe_meth (pv 0) T.cl_House M_House_chain.mt M_House_chain.ok (hr.mono (by decide)) M_House_chain.b .nil pass0 (pa_cons (pe_ix ix_tup (pv 2) pe_int (fun _ _ => rfl)) (pa_cons (pe_ix ix_tup (pv 2) pe_int (fun _ _ => rfl)) pa_nil))))
      (pss_cons (ps_if (pt_cmpR op_isN (pv 3) pe_non (nomark _))
      (pss_one (ps_ret (pe_cmpR op_isN (pv 5) pe_non (nomark _))))
      pss_nil)
      (pss_cons (ps_if (PW.pt (pw_or (pt_not (pt_val (pe_callB call_isi rfl T.z_isinstance boot_isinstance (pa_cons (pv 5) (pa_cons (pe_bltn (v := .ty "list") rfl T.z_list boot_list rfl) pa_nil))))) (pw_or1 (pt_cmpR (op_neT (hr.units)) (pec C_law_walked (hr.mono (by decide)) rfl (pa_cons (pv 5) (pa_cons (pv 1) (pa_cons (pe_ix ix_tup (pv 2) pe_int (fun _ _ => rfl)) pa_nil)))) (pe_tup (pa_cons (pe_ix ix_tup (pv 2) pe_int (fun _ _ => rfl)) (pa_cons (pv 3) pa_nil))) (nomark _)))))
      (pss_one (ps_ret pe_bl))
      pss_nil)
      (pss_cons (ps_set (i := 6) sc_law_pair_good.nd rfl (Or.inl rfl) (pe_listVals rfl rfl T.z_list (pec C_law_ends (hr.mono (by decide)) rfl (pa_cons (pv 1) pa_nil))))
      (pss_cons (ps_for PassesOwn.never rfl (pi_list (pv 4)) (pg_name (i := 7) sc_law_pair_good.nd rfl (Or.inl rfl))
      (pss_one (ps_if (PW.pt (pw_and (pt_val (pec C_law_kept (hr.mono (by decide)) rfl (pa_cons (pv 7) (pa_cons (pv 6) pa_nil)))) (pw_and1 (pt_cmpR op_gt (pe_op op_sub (pe_ix ix_tup (pv 7) (pe_ix ix_tup (pv 2) pe_int (fun _ _ => rfl)) (fun _ _ => rfl)) (pe_ix ix_tup (pv 7) (pe_ix ix_tup (pv 2) pe_int (fun _ _ => rfl)) (fun _ _ => rfl))) (pv 3) (nomark _)))))
      (pss_one (ps_ret pe_bl))
      pss_nil)))
      (pss_one (ps_ret pe_bl))))))), ?_⟩
    obtain ⟨dx, hx⟩ := L.W.ob
    refine ⟨_, rfl, x, dx, _, rfl, hx, fldh_no _ _ (by decide +kernel) (by decide +kernel), _, rfl, pp, _, 0, _, rfl, rfl, SqT.of hpp, rfl, _, rfl, pp, _, 1, _, rfl, rfl, SqT.of hpp, rfl, x, dh, n, gs, a, b, rfl, L.W, L.nd, n1, n8, L.within, h64, ha, hb, fun v1 H1 s1 I1 => ?_⟩
    refine ⟨_, rfl, rfl, _, rfl, ?_⟩
    rcases I1 with ⟨rfl, neg⟩ | ⟨t', R', ⟨rfl, hn⟩ | ⟨l, qs, ps, en, rfl, hl1, l0, AN, hen, wk, _⟩⟩
    · exact (R.noneg L.within neg).elim
    · have et := R'.uniq R
      subst et
      rw [hn] at ho
      subst ho
      exact iteT ⟨_, rfl, rfl, q H1 s1⟩
    have et := R'.uniq R
    subst et
    rw [hen] at ho
    subst ho
    refine iteF ?_
    have L1 := L.same s1
    obtain ⟨kvs, hd, G⟩ := L1.D
    refine ⟨_, rfl, _, _, _, _, rfl, .lst hl1, kit_same, _, rfl, iteF ?_⟩
    refine ⟨_, rfl, _, rfl, _, rfl, pp, _, 0, _, rfl, rfl, SqT.of (s1 _ _ hpp), rfl, l, dg, a, b, en, qs, kvs, gs, ps, rfl, hl1, AN, hd, G, L.nd, h64, wk, fun pw H2 s2 e2 => ?_⟩
    have s12 := s1.trans s2
    refine ⟨_, rfl, pp, _, 1, _, rfl, rfl, SqT.of (s12 _ _ hpp), rfl, _, rfl, (by show 2 ≤ sizeLine; decide), fun p3 hp3 => ?_⟩
    have s3 := same_new hp3 (.tup [.int b, ov (some en)])
    have e3 : (upd H2 p3 (.tup [.int b, ov (some en)])) p3 = some (.tup ([b, en].map V.int)) := upd_same
    refine ⟨⟨0, pw, p3, _, _, [b, en].map Dt.int, by decide, rfl, rfl, SqT.of (s3 _ _ e2), SqT.of e3, told_ints [b, en], told_ints [b, en]⟩, _, rfl, iteF ?_⟩
    have s13 := s12.trans s3
    generalize upd H2 p3 (.tup [.int b, ov (some en)]) = H3 at s13 s3 ⊢
    have s23 := s2.trans s3
    refine ⟨_, rfl, dg, kvs, gs, rfl, s23 _ _ hd, G.same s23, L.nd, h64, fun e H4 us he0 s4 e4 A4 K4 => ⟨e, _, rfl, .inr ⟨us, .inl e4, rfl⟩, fun r hr => ?_⟩⟩
    have s5 := same_new hr (.lst (us.map (·.2)))
    have e5 : (upd H4 r (.lst (us.map (·.2)))) r = some (.lst (us.map (·.2))) := upd_same
    generalize upd H4 r (.lst (us.map (·.2))) = H5 at s5 e5 ⊢
    have s15 := s13.trans (s4.trans s5)
    have r5 := s15 _ _ hrt
    have pp5 := s15 _ _ hpp
    have T5 := hT.same s15
    have A5 := A4.same s5
    refine ⟨_, rfl, rt, rfl, ⟨_, SqL.of r5⟩, for_list (K := K) (a := rt) (xs := ws) (fun _ σ Hx => Hx = H5 ∧ ∃ u7, σ = [some (.ref x), some (.ref dg), some (.ref pp), some (.int en), some (.ref rt), some (.ref l), some (.ref r), u7]) ⟨rfl, _, rfl⟩ (fun i σ Hx _ ⟨e, _⟩ => by rw [e]; exact SqL.of r5) ?_ (fun σ Hx ⟨e, u7, eσ⟩ => by rw [e]; exact q H5 s15)⟩
    rintro i y σ Hx hi ⟨rfl, u7, rfl⟩
    obtain ⟨pt, ts, rfl, hpt, lts⟩ := T5 y (List.mem_of_getElem? hi)
    subst lts
    refine ⟨_, rfl, _, rfl, pt, r, ts, _, allB gs, rfl, .inr (SqT.of hpt), SqL.of e5, A5, L.within, ?_⟩
    cases hk : (allB gs).all (bKept ts) with
    | false => exact ⟨_, rfl, iteF (iteF ⟨rfl, _, rfl⟩)⟩
    | true =>
      have kp := wk.path.keep (List.all_eq_true.mp hk)
      refine ⟨_, rfl, iteT ?_⟩
      refine ⟨_, rfl, _, rfl, pp, _, 1, _, rfl, rfl, SqT.of pp5, rfl, pt, _, _, _, rfl, rfl, SqT.of hpt, at_int hb.1 hb.2, _, rfl, _, rfl, pp, _, 0, _, rfl, rfl, SqT.of pp5, rfl, pt, _, _, _, rfl, rfl, SqT.of hpt, at_int ha.1 ha.2, _, _, rfl, rfl, _, rfl, _, _, rfl, rfl, _, rfl, ?_⟩
      refine ite2 (fun c => absurd (of_decide_eq_true c) (by unfold tm at kp; omega)) (fun _ => ⟨rfl, _, rfl⟩)
theorem sc_law_idle_good : FnScope ["_law_house", "_law_gaps", "_law_bag_here", "_law_count", "_law_name", "_law_others", "_law_with_it", "_law_without"] ["_law_house", "_law_gaps", "_law_bag_here", "_law_count"] (defScope s_law_idle_good) := ⟨rfl, rfl, rfl, by decide +kernel, rfl, by decide +kernel, by decide +kernel⟩
theorem ok_law_idle_good {f : Addr} {fd : FuncData} (F : Fun K "_law_idle_good" "_law_idle_good" s_law_idle_good f fd) (T : Txt K mg cl) (C_law_take : Cal P w K mg base 1 "_law_take" ["_law_bag_here", "_law_many_here"] (sp_law_take K)) (C_law_truth : Cal P w K mg base 1 "_law_truth" ["_law_found", "_law_due_here"] (sp_law_truth K)) (C_law_ends : Cal P w K mg base 1 "_law_ends" ["_law_gaps"] (sp_law_ends K)) (C_law_due : Cal P w K mg base 1 "_law_due" ["_law_count", "_law_bounds"] (sp_law_due K)) (M_House_idle : MCal P w K mg base cl.House 6 "idle" ["self", "name"] (sp_House_idle K cl)) : FnOk P w K mg base CX0 7 f fd ["_law_house", "_law_gaps", "_law_bag_here", "_law_count"] (sp_law_idle_good K cl) := by
  refine F.ok sc_law_idle_good (fun vs H Q E h => ?_) (fun cdv A outer s H vs Q E hr h => ?_)
  · obtain ⟨x, dh, dg, b, n, c, gs, rfl, L, ⟨u, v, hb, v0, v1⟩, hc, g0, h64, n1, n8, q⟩ := h
    rfl
  · obtain ⟨x, dh, dg, b, n, c, gs, rfl, L, ⟨u, v, hb, v0, v1⟩, hc, g0, h64, n1, n8, q⟩ := h
    refine ⟨_, (pss_cons (ps_set (i := 4) sc_law_idle_good.nd rfl (Or.inl rfl) (pe_ix ix_list (pe_callTy (call_listD rfl) rfl T.z_list boot_list (pa_cons (pv 1) pa_nil)) (pec C_law_take (hr.mono (by decide)) rfl (pa_cons (pv 2) (pa_cons (pe_callB call_lenD rfl T.z_len PySem.boot_len (pa_cons (pv 1) pa_nil)) pa_nil))) (fun _ _ => rfl)))
      (pss_cons (ps_set (i := 5) sc_law_idle_good.nd rfl (Or.inl rfl) (pe_callTy call_dictD rfl T.z_dict boot_dict (pa_cons (pv 1) pa_nil)))
      (pss_cons (ps_expr (pe_dpop1 (pv 5) (pv 4) ⟨rfl, rfl, rfl, rfl⟩))
      (pss_cons (ps_set (i := 6) sc_law_idle_good.nd rfl (Or.inl rfl) (pec C_law_due (hr.mono (by decide)) rfl (pa_cons (pv 3) (pa_cons (pe_listVals rfl rfl T.z_list (pec C_law_ends (hr.mono (by decide)) rfl (pa_cons (pv 1) pa_nil))) pa_nil))))
      (pss_cons (ps_set (i := 7) sc_law_idle_good.nd rfl (Or.inl rfl) (pec C_law_due (hr.mono (by decide)) rfl (pa_cons (pv 3) (pa_cons (pe_listVals rfl rfl T.z_list (pec C_law_ends (hr.mono (by decide)) rfl (pa_cons (pv 5) pa_nil))) pa_nil))))
      (pss_one (ps_ret (pec C_law_truth (hr.mono (by decide)) rfl (pa_cons (pe_meth (pv 0) T.cl_House M_House_idle.mt M_House_idle.ok (hr.mono (by decide)) M_House_idle.b .nil pass0 (pa_cons (pv 4) pa_nil)) (pa_cons (pe_cmpR (OpR.or op_eq (OpR.or (op_eqNL (hr.units)) (op_eqTT (hr.units)))) (pv 6) (pv 7) (nomark _)) pa_nil)))))))))), ?_⟩
    obtain ⟨kvs, hd, G⟩ := L.D
    have glen := G.len
    refine ⟨_, rfl, dg, kvs, rfl, .inl hd, fun l hl => ?_⟩
    have s1 := same_new hl (.lst (kvs.map fun p => kV p.1))
    have e1 : (upd H l (.lst (kvs.map fun p => kV p.1))) l = some (.lst (kvs.map fun p => kV p.1)) := upd_same
    have nlb : l ≠ b := Ne.symm (ne_of_none hb hl)
    generalize upd H l (.lst (kvs.map fun p => kV p.1)) = H1 at s1 e1 ⊢
    have hd1 := s1 _ _ hd
    have hb1 := s1 _ _ hb
    refine ⟨_, rfl, _, rfl, dg, kvs, rfl, .inl hd1, b, u, v, _, rfl, hb1, v0, by omega, by omega, by omega, fun j u2 w2 H2 b2 e2 p2 q2 j0 j1 => ?_⟩
    obtain ⟨⟨ky, vl⟩, hkv⟩ : ∃ p, kvs[j.toNat]? = some p := ⟨_, List.getElem?_eq_getElem (by omega)⟩
    obtain ⟨⟨nm, g⟩, hg, hky, p, hv, hp⟩ := paired_get G hkv
    have hv : vl = .ref p := hv
    have hky : ky = Sum.inr nm := hky
    subst hv hky
    have hvl := valV_get (G.nodup L.nd) hkv
    have hmem : nm ∈ gnames gs := List.mem_map_of_mem (f := fun x : Str × Gp => x.1) (List.mem_of_getElem? hg)
    have L2 := (L.same s1).but b2 hb1
    have b02 : But b H H2 := (but_same s1).trans b2
    have hd2 := b2 _ _ hd1 (ne_of hd1 hb1 (fun z => by cases z))
    have G2 := (G.same s1).keep fun p xs h => b2 _ _ h (ne_of h hb1 (fun z => by cases z))
    refine ⟨l, _, _, _, rfl, rfl, SqL.of (b2 _ _ e1 nlb), atI_of (v := V.str nm) j0 rfl (by rw [List.getElem?_map, hkv]; rfl), ?_⟩
    refine ⟨_, rfl, dg, kvs, rfl, .inl hd2, fun o ho => ?_⟩
    have s3 := same_new ho (.dK kvs)
    have e3 : (upd H2 o (.dK kvs)) o = some (.dK kvs) := upd_same
    generalize upd H2 o (.dK kvs) = H3 at s3 e3 ⊢
    refine ⟨_, rfl, o, rfl, .inl ⟨_, .inl e3⟩, _, rfl, kvs, Sum.inr nm, _, e3, rfl, hvl, ?_⟩
    have s4 : Same H2 (upd H3 o (.dK (dropK kvs (Sum.inr nm)))) := fun b o' h => by rw [upd_ne (ne_of_none h ho)]; exact s3 _ _ h
    have e4 : (upd H3 o (.dK (dropK kvs (Sum.inr nm)))) o = some (.dK (dropK kvs (Sum.inr nm))) := upd_same
    generalize upd H3 o (.dK (dropK kvs (Sum.inr nm))) = H4 at s4 e4 ⊢
    have G4 := G2.same s4
    have bl := allB_len gs
    have bl' := allB_len (gdrop nm gs)
    have dl := gdrop_len nm gs
    have wd := within_drop L.within nm
    have ndd : (gnames (gdrop nm gs)).Nodup := (List.filter_sublist.map _).nodup L.nd
    refine ⟨_, rfl, _, rfl, dg, kvs, gs, rfl, s4 _ _ hd2, G4, L.nd, h64, fun e H5 us he0 s5 e5 A5 _ => ⟨e, _, rfl, .inr ⟨us, .inl e5, rfl⟩, fun r hr => ?_⟩⟩
    have s6 := same_new hr (.lst (us.map (·.2)))
    have e6 : (upd H5 r (.lst (us.map (·.2)))) r = some (.lst (us.map (·.2))) := upd_same
    generalize upd H5 r (.lst (us.map (·.2))) = H6 at s6 e6 ⊢
    refine ⟨n, r, _, allB gs, rfl, SqL.of e6, A5.same s6, n1, n8, L.within, by omega, fun v7 H7 s7 I7 => ?_⟩
    have s47 := (s5.trans s6).trans s7
    refine ⟨_, rfl, _, rfl, o, _, gdrop nm gs, rfl, s47 _ _ e4, (G4.drop).same s47, ndd, by omega, fun e8 H8 us8 he8 s8 f8 A8 _ => ⟨e8, _, rfl, .inr ⟨us8, .inl f8, rfl⟩, fun r9 hr9 => ?_⟩⟩
    have s9 := same_new hr9 (.lst (us8.map (·.2)))
    have e9 : (upd H8 r9 (.lst (us8.map (·.2)))) r9 = some (.lst (us8.map (·.2))) := upd_same
    generalize upd H8 r9 (.lst (us8.map (·.2))) = H9 at s9 e9 ⊢
    refine ⟨n, r9, _, allB (gdrop nm gs), rfl, SqL.of e9, A8.same s9, n1, n8, wd, by omega, fun v10 H10 s10 I10 => ?_⟩
    have s710 := (s8.trans s9).trans s10
    have s210 := s4.trans (s47.trans s710)
    have L10 := L2.same s210
    obtain ⟨dx, hx⟩ := L10.W.ob
    refine ⟨_, rfl, x, dx, _, rfl, hx, fldh_no _ _ (by decide +kernel) (by decide +kernel), _, rfl, x, dh, n, gs, nm, rfl, L10.W, hmem, n1, n8, L.within, h64, fun b1 H11 s11 hb1' => ?_⟩
    have fin : But b H H11 := b02.trans (but_same (s210.trans s11))
    have eb : ∀ b2 : Bool, (b2 = true ↔ TSame n (allB gs) (allB (gdrop nm gs))) → [V.bl b1, V.bl b2] = [V.bl b1, V.bl b1] := fun b2 h => by
      have : b2 = b1 := by
        rw [Bool.eq_iff_iff, h, hb1']
        exact ⟨TSame.comm, TSame.comm⟩
      rw [this]
    refine ⟨_, rfl, _, rfl, ?_⟩
    rcases I7 with ⟨rfl, g7⟩ | ⟨p7, rs7, t7, rfl, T7, R7⟩
    · rcases I10 with ⟨rfl, g10⟩ | ⟨p10, rs10, t10, rfl, T10, R10⟩
      · exact .inl ⟨rfl, b1, eb _ ⟨fun _ => .inl ⟨g7, g10⟩, fun _ => decide_eq_true rfl⟩, q H11 fin⟩
      · exact .inr (.inl ⟨.inl ⟨rfl, _, _, rfl, SqL.of (s11 _ _ T10.ob)⟩, b1, eb _ (tsame_no L.within wd g7 R10), q H11 fin⟩)
    · have T7' := T7.same (s710.trans s11)
      rcases I10 with ⟨rfl, g10⟩ | ⟨p10, rs10, t10, rfl, T10, R10⟩
      · exact .inr (.inl ⟨.inr ⟨rfl, _, _, rfl, SqL.of T7'.ob⟩, b1, eb _ (tsame_no' L.within wd R7 g10), q H11 fin⟩)
      · have T10' := T10.same s11
        exact .inr (.inr ⟨_, _, _, _, _, _, rfl, rfl, SqL.of T7'.ob, SqL.of T10'.ob, ovs_rows T7'.rows, ovs_rows T10'.rows, b1, eb _ (tsame_tabs L.within R7 R10), q H11 fin⟩)
theorem sc_law_told : FnScope ["_law_house", "_law_gaps", "_law_bag_here", "_law_tries_here", "_law_count", "_law_table", "_law_bounds", "_law_times_here", "_law_lies_there", "_law_pair"] ["_law_house", "_law_gaps", "_law_bag_here", "_law_tries_here"] (defScope s_law_told) := ⟨rfl, rfl, rfl, by decide +kernel, rfl, by decide +kernel, by decide +kernel⟩
theorem ok_law_told {f : Addr} {fd : FuncData} (F : Fun K "_law_told" "_law_told" s_law_told f fd) (T : Txt K mg cl) (C_law_take : Cal P w K mg base 1 "_law_take" ["_law_bag_here", "_law_many_here"] (sp_law_take K)) (C_law_lies : Cal P w K mg base 1 "_law_lies" ["_law_table", "_law_times_here"] (sp_law_lies K)) (C_law_kept : Cal P w K mg base 1 "_law_kept" ["_law_times_here", "_law_bounds"] (sp_law_kept K)) (C_law_ends : Cal P w K mg base 1 "_law_ends" ["_law_gaps"] (sp_law_ends K)) (C_law_ring_good : Cal P w K mg base 7 "_law_ring_good" ["_law_house", "_law_gaps"] (sp_law_ring_good K cl)) (C_law_pair_good : Cal P w K mg base 7 "_law_pair_good" ["_law_house", "_law_gaps", "_law_pair", "_law_entry", "_law_tries_here"] (sp_law_pair_good K cl)) (C_law_idle_good : Cal P w K mg base 7 "_law_idle_good" ["_law_house", "_law_gaps", "_law_bag_here", "_law_count"] (sp_law_idle_good K cl)) (M_House_table : MCal P w K mg base cl.House 5 "table" ["self"] (sp_House_table K cl)) : FnOk P w K mg base CX0 8 f fd ["_law_house", "_law_gaps", "_law_bag_here", "_law_tries_here"] (sp_law_told K cl) := by
  refine F.ok sc_law_told (fun vs H Q E h => ?_) (fun cdv A outer s H vs Q E hr h => ?_)
  · obtain ⟨x, dh, dg, b, rt, n, c, gs, ws, rfl, L, B, hc, hrt, nrt, hT, w0, h64, n1, n8, q⟩ := h
    rfl
  · obtain ⟨x, dh, dg, b, rt, n, c, gs, ws, rfl, L, B, hc, hrt, nrt, hT, w0, h64, n1, n8, q⟩ := h
    refine ⟨_, (pss_cons (ps_set (i := 4) sc_law_told.nd rfl (Or.inl rfl) (pe_callB call_len_seq rfl T.z_len PySem.boot_len (pa_cons (pe_ix ix_list (pv 3) pe_int (fun _ _ => rfl)) pa_nil)))
      (pss_cons (ps_set (i := 5) sc_law_told.nd rfl (Or.inl rfl) (pe_meth0 (pv 0) T.cl_House M_House_table.mt M_House_table.ok (hr.mono (by decide)) M_House_table.b .nil pass0))
      (pss_cons (ps_set (i := 6) sc_law_told.nd rfl (Or.inl rfl) (pe_listVals rfl rfl T.z_list (pec C_law_ends (hr.mono (by decide)) rfl (pa_cons (pv 1) pa_nil))))
      (pss_cons (ps_for PassesOwn.never rfl (pi_list (pv 3)) (pg_name (i := 7) sc_law_told.nd rfl (Or.inl rfl))
      (pss_cons (ps_set (i := 8) sc_law_told.nd rfl (Or.inl rfl) (pe_and (pe_cmpR op_notN (pv 5) pe_non (nomark _)) (pe_one (pec C_law_lies (hr.mono (by decide)) rfl (pa_cons (pv 5) (pa_cons (pv 7) pa_nil))))))
      (pss_one (ps_if (pt_cmpR op_ne (pv 8) (pec C_law_kept (hr.mono (by decide)) rfl (pa_cons (pv 7) (pa_cons (pv 6) pa_nil))) (nomark _))
      (pss_one (ps_ret pe_bl))
      pss_nil))))
      (pss_cons (ps_set (i := 9) sc_law_told.nd rfl (Or.inl rfl) (pe_tup (pa_cons (pec C_law_take (hr.mono (by decide)) rfl (pa_cons (pv 2) (pa_cons (pv 4) pa_nil))) (pa_cons (pec C_law_take (hr.mono (by decide)) rfl (pa_cons (pv 2) (pa_cons (pv 4) pa_nil))) pa_nil))))
      (pss_cons (ps_if (pt_cmpR op_isN (pv 5) pe_non (nomark _))
      (pss_one (ps_if (pt_not (pt_val (pec C_law_ring_good (hr.mono (by decide)) rfl (pa_cons (pv 0) (pa_cons (pv 1) pa_nil)))))
      (pss_one (ps_ret pe_bl))
      pss_nil))
      (pss_one (ps_if (pt_not (pt_val (pec C_law_pair_good (hr.mono (by decide)) rfl (pa_consP (pv 0) (pa_consP (pv 1) (pa_consP (pv 9) (pa_consP (pe_ix ix_list (pe_ix ix_list (pv 5) (pe_ix ix_tup (pv 9) pe_int (fun _ _ => rfl)) (fun _ _ => rfl)) (pe_ix ix_tup (pv 9) pe_int (fun _ _ => rfl)) (fun _ _ => rfl)) (pa_consP (pv 3) pa_nil))))))))
      (pss_one (ps_ret pe_bl))
      pss_nil)))
      (pss_one (ps_ret (pe_or (pe_cmpR op_eq (pe_callB call_lenD rfl T.z_len PySem.boot_len (pa_cons (pv 1) pa_nil)) pe_int (nomark _)) (pe_one (pec C_law_idle_good (hr.mono (by decide)) rfl (pa_cons (pv 0) (pa_cons (pv 1) (pa_cons (pv 2) (pa_cons (pv 4) pa_nil))))))))))))))), ?_⟩
    obtain ⟨dx, hx⟩ := L.W.ob
    obtain ⟨v0, ws', rfl⟩ : ∃ v0 ws', ws = v0 :: ws' := by
      cases ws with
      | nil => exact absurd w0 (by decide)
      | cons v0 ws' => exact ⟨v0, ws', rfl⟩
    obtain ⟨p0, ts0, ev, hp0, lt0⟩ := hT v0 (List.mem_cons_self ..)
    subst ev
    have hl0 : (ts0.map V.int).length = n := by rw [List.length_map]; exact lt0
    refine ⟨_, rfl, rt, _, 0, _, rfl, rfl, SqL.of hrt, atI_of (Int.le_refl _) rfl rfl, p0, _, rfl, .inr (SqT.of hp0), ?_⟩
    rw [hl0]
    refine ⟨_, rfl, x, dx, _, rfl, hx, fldh_no _ _ (by decide +kernel) (by decide +kernel), x, dh, n, gs, rfl, L.W, n1, n8, L.within, h64, fun v1 H1 s1 I1 => ?_⟩
    have L1 := L.same s1
    obtain ⟨kvs, hd, G⟩ := L1.D
    refine ⟨_, rfl, dg, kvs, gs, rfl, hd, G, L.nd, h64, fun e H2 us he0 s2 e2 A2 _ => ⟨e, _, rfl, .inr ⟨us, .inl e2, rfl⟩, fun r hr => ?_⟩⟩
    have s3 := same_new hr (.lst (us.map (·.2)))
    have e3 : (upd H2 r (.lst (us.map (·.2)))) r = some (.lst (us.map (·.2))) := upd_same
    generalize upd H2 r (.lst (us.map (·.2))) = H3 at s3 e3 ⊢
    have s23 := s2.trans s3
    have s13 := s1.trans s23
    have A3 := A2.same s3
    have r3 := s13 _ _ hrt
    have T3 := hT.same s13
    have I3 : IsT H3 v1 n (allB gs) := I1.imp id fun ⟨p, rs, t, e, N, R⟩ => ⟨p, rs, t, e, N.tb.same s23, R⟩
    refine ⟨_, rfl, rt, rfl, ⟨_, SqL.of r3⟩, for_list (K := K) (a := rt) (xs := .ref p0 :: ws') (fun _ σ Hx => Hx = H3 ∧ ∃ u7 u8 u9, σ = [some (.ref x), some (.ref dg), some (.ref b), some (.ref rt), some (.int n), some v1, some (.ref r), u7, u8, u9]) ⟨rfl, _, _, _, rfl⟩ (fun i σ Hx _ ⟨e, _⟩ => by rw [e]; exact SqL.of r3) ?_ ?_⟩
    · rintro i y σ Hx hi ⟨rfl, u7, u8, u9, rfl⟩
      obtain ⟨pt, ts, rfl, hpt, lts⟩ := T3 y (List.mem_of_getElem? hi)
      subst lts
      rcases I3 with ⟨rfl, g3⟩ | ⟨p, rs, t, rfl, Tb, R⟩
      · have hk : (allB gs).all (bKept ts) = false := by
          cases h : (allB gs).all (bKept ts) with
          | false => rfl
          | true => exact absurd g3 (noneg_kept (List.all_eq_true.mp h))
        refine ⟨_, rfl, rfl, _, rfl, iteF ?_⟩
        refine ⟨_, rfl, _, rfl, _, rfl, pt, r, ts, _, allB gs, rfl, .inr (SqT.of hpt), SqL.of e3, A3, L.within, ?_⟩
        rw [hk]
        exact ⟨rfl, _, rfl, iteNS rfl ⟨rfl, _, _, _, rfl⟩⟩
      · refine ⟨_, rfl, rfl, _, rfl, iteT ⟨_, rfl, _, rfl, p, pt, rs, t, ts.length, ts, rfl, Tb, R.square, by omega, .inr (SqT.of hpt), rfl, fun bl hbl => ?_⟩⟩
        have hk : (allB gs).all (bKept ts) = bl := by
          rw [Bool.eq_iff_iff, hbl]
          exact (R.lies_iff L.within).symm
        refine ⟨_, rfl, _, rfl, _, rfl, pt, r, ts, _, allB gs, rfl, .inr (SqT.of hpt), SqL.of e3, A3, L.within, ?_⟩
        rw [hk]
        exact ⟨rfl, _, rfl, iteNS rfl ⟨rfl, _, _, _, rfl⟩⟩
    rintro σ Hx ⟨rfl, u7, u8, u9, rfl⟩
    have B3 := B.same s13
    obtain ⟨u3, w3, f3, p3, q3⟩ := id B3
    have L3 := L.same s13
    refine ⟨_, rfl, _, rfl, b, u3, w3, _, rfl, f3, p3, by omega, by omega, by omega, fun y u4 w4 H4 b4 e4 p4 q4 ya yb => ?_⟩
    refine ⟨_, rfl, _, rfl, b, u4, w4, _, rfl, e4, p4, by omega, by omega, by omega, fun z u5 w5 H5 b5 e5 p5 q5 za zb => ⟨(by show 2 ≤ sizeLine; decide), fun pp hpp => ?_⟩⟩
    have s6 := same_new hpp (.tup [.int y, .int z])
    have e6 : (upd H5 pp (.tup [.int y, .int z])) pp = some (.tup [.int y, .int z]) := upd_same
    generalize upd H5 pp (.tup [.int y, .int z]) = H6 at s6 e6 ⊢
    have b36 : But b Hx H6 := (b4.trans b5).trans (but_same s6)
    have b06 : But b H H6 := (but_same s13).trans b36
    have L6 := L3.but b36 f3
    apply restJ (C := fun H' σ => Same H6 H' ∧ ∃ u7 u8, σ = [some (.ref x), some (.ref dg), some (.ref b), some (.ref rt), some (.int n), some v1, some (.ref r), u7, u8, some (.ref pp)])
    · intro rest
      rcases id I1 with ⟨ev, g3⟩ | ⟨p, rs, t, ev, N, R⟩
      · rw [ev]
        refine ⟨_, rfl, rfl, _, rfl, iteT ?_⟩
        refine ⟨_, rfl, _, rfl, x, dh, dg, n, gs, rfl, L6, g3, n1, n8, h64, fun H7 s7 => ⟨_, rfl, iteF ?_⟩⟩
        generalize hσ : (List.set _ _ _ : L2.St) = σ'
        exact rest H7 σ' ⟨s7, _, _, by rw [← hσ, ev]; rfl⟩
      · rw [ev]
        refine ⟨_, rfl, rfl, _, rfl, iteF ?_⟩
        have hy : inN y n := ⟨ya, yb⟩
        have hz : inN z n := ⟨za, zb⟩
        have Tr6 := T3.tups fun p xs h => b36 _ _ h (ne_of h f3 (fun z => by cases z))
        have r6 := b36 _ _ r3 nrt
        have nb : ∀ q, H q = none → q ≠ b := fun q h1 z => by
          obtain ⟨_, _, g, _⟩ := id B
          rw [z, g] at h1; cases h1
        have T6 := b36.tab (N.tb.same s23) (nb _ N.p0) (fun r hr => nb _ (N.r0 r hr))
        obtain ⟨rr, row, g1, g2, g3⟩ := T6.at R.square hy hz
        refine ⟨_, rfl, _, rfl, _, rfl, _, rfl, _, rfl, pp, _, 0, _, rfl, rfl, SqT.of e6, rfl, p, _, _, _, rfl, rfl, SqL.of T6.ob, g1, _, rfl, pp, _, 1, _, rfl, rfl, SqT.of e6, rfl, rr, _, _, _, rfl, rfl, SqL.of g2, g3, _, rfl, x, dh, dg, pp, rt, n, gs, y, z, _, .ref p0 :: ws', rfl, L6, e6, hy, hz, ⟨t, R, rfl⟩, r6, Tr6, n1, n8, h64, fun H7 s7 => ⟨_, rfl, iteF ?_⟩⟩
        exact rest _ _ ⟨s7, _, _, by rw [ev]; rfl⟩
    rintro H7 _ ⟨s7, u7', u8', rfl⟩
    have L7 := L6.same s7
    have b07 : But b H H7 := b06.trans (but_same s7)
    obtain ⟨kvs7, hd7, G7⟩ := L7.D
    have gl := G7.len
    refine ⟨_, rfl, dg, kvs7, rfl, .inl hd7, rfl, _, rfl, ?_⟩
    refine ite2 (fun _ => ?_) (fun c9 => ?_)
    · exact q H7 b07
    · have g0 : 0 < gs.length := by
        rcases Nat.eq_zero_or_pos gs.length with h | h
        · exact absurd (decide_eq_true (show V.int ((kvs7.length : Nat) : Int) = V.int 0 by rw [gl, h]; rfl)) c9
        · exact h
      exact ⟨_, rfl, _, rfl, _, rfl, _, rfl, x, dh, dg, b, n, c + 2, gs, rfl, L7, ⟨u5, w5, s7 _ _ (s6 _ _ e5), p5, by omega⟩, by omega, g0, h64, n1, n8, fun H8 b8 => q H8 (b07.trans b8)⟩
theorem sc_law : FnScope ["_law_script", "_law_count", "_law_one", "_law_bag_here", "_law_other", "_law_schedules", "_law_houses", "_law_gaps", "_law_k", "_law_which", "_law_tries_here"] ["_law_script"] (defScope s_law) := ⟨rfl, rfl, rfl, by decide +kernel, rfl, by decide +kernel, by decide +kernel⟩
theorem ok_law {f : Addr} {fd : FuncData} (F : Fun K "law" "law" s_law f fd) (T : Txt K mg cl) (C_law_cell : Cal P w K mg base 1 "_law_cell" ["_law_script", "_law_k"] (sp_law_cell K)) (C_law_times : Cal P w K mg base 2 "_law_times" ["_law_script", "_law_at", "_law_count"] (sp_law_times K)) (C_law_bag : Cal P w K mg base 2 "_law_bag" ["_law_script", "_law_at"] (sp_law_bag K)) (C_law_take : Cal P w K mg base 1 "_law_take" ["_law_bag_here", "_law_many_here"] (sp_law_take K)) (C_law_many : Cal P w K mg base 2 "_law_many" ["_law_script", "_law_at", "_law_most"] (sp_law_many K)) (C_law_deed : Cal P w K mg base 3 "_law_deed" ["_law_house", "_law_gaps", "_law_bag_here", "_law_k", "_law_times_here"] (sp_law_deed K cl)) (C_law_told : Cal P w K mg base 8 "_law_told" ["_law_house", "_law_gaps", "_law_bag_here", "_law_tries_here"] (sp_law_told K cl)) (C_law_tries : Cal P w K mg base 2 "_law_tries" ["_law_times_here", "_law_bag_here"] (sp_law_tries K)) (MK_House : MkCal P w K mg base cl.House 1 "House" ["self", "count"] (sp_House___init__ K cl)) (M_House_names : MCal P w K mg base cl.House 1 "names" ["self"] (sp_House_names K cl)) : FnOk P w K mg base CX0 9 f fd ["_law_script"] (sp_law K) := by
  refine F.ok sc_law (fun vs H Q E h => ?_) (fun cdv A outer s H vs Q E hr h => ?_)
  · obtain ⟨a, ns, rfl, hS, h63, q⟩ := h
    rfl
  · obtain ⟨a, ns, rfl, hS, h63, q⟩ := h
    refine ⟨_, (pss_cons (ps_set (i := 1) sc_law.nd rfl (Or.inl rfl) (pe_op op_add pe_int (pe_op op_mod (pec C_law_cell (hr.mono (by decide)) rfl (pa_cons (pv 0) (pa_cons pe_int pa_nil))) pe_int)))
      (pss_cons (ps_set (i := 2) sc_law.nd rfl (Or.inl rfl) (pec C_law_times (hr.mono (by decide)) rfl (pa_cons (pv 0) (pa_cons pe_int (pa_cons (pv 1) pa_nil)))))
      (pss_cons (ps_set (i := 3) sc_law.nd rfl (Or.inr rfl) (pec C_law_bag (hr.mono (by decide)) rfl (pa_cons (pv 0) (pa_cons pe_int pa_nil))))
      (pss_cons (ps_set (i := 4) sc_law.nd rfl (Or.inl rfl) (pe_callTy call_tuple_of rfl T.z_tuple boot_tuple (pa_cons (pe_compS ["_law_bag_here"] [3] rfl (pi_tup (pv 2)) (fun _ _ _ => pts_nil) (fun _ _ _ => (pe_op op_sub (pv 0) (pec C_law_take (hr.mono (by decide)) rfl (pa_cons (pv 1) (pa_cons pe_int pa_nil))))) (hk := by kernel_rfl)) pa_nil)))
      (pss_cons (ps_set (i := 5) sc_law.nd rfl (Or.inl rfl) (pe_lst (pa_cons (pv 2) (pa_cons (pv 4) pa_nil))))
      (pss_cons (ps_set (i := 6) sc_law.nd rfl (Or.inl rfl) (pe_lst (pa_cons (pe_make MK_House.mkd MK_House.ok (hr.mono (by decide)) rfl MK_House.mg MK_House.b .nil pass0 (pa_cons (pv 1) pa_nil)) (pa_cons (pe_make MK_House.mkd MK_House.ok (hr.mono (by decide)) rfl MK_House.mg MK_House.b .nil pass0 (pa_cons (pv 1) pa_nil)) pa_nil))))
      (pss_cons (ps_set (i := 7) sc_law.nd rfl (Or.inl rfl) (pe_lst (pa_cons pe_dnewK (pa_cons pe_dnewK pa_nil))))
      (pss_cons (ps_for PassesOwn.never rfl (pi_range1 rfl T.z_range (pa_cons (pec C_law_many (hr.mono (by decide)) rfl (pa_cons (pv 0) (pa_cons pe_int (pa_cons pe_int pa_nil)))) pa_nil)) (pg_name (i := 8) sc_law.nd rfl (Or.inl rfl))
      (pss_cons (ps_set (i := 3) sc_law.nd rfl (Or.inr rfl) (pec C_law_bag (hr.mono (by decide)) rfl (pa_cons (pv 0) (pa_cons (pe_op op_add pe_int (pv 8)) pa_nil))))
      (pss_cons (ps_set (i := 9) sc_law.nd rfl (Or.inl rfl) (pec C_law_take (hr.mono (by decide)) rfl (pa_cons (pv 3) (pa_cons pe_int pa_nil))))
      (pss_cons (ps_expr (pec C_law_deed (hr.mono (by decide)) rfl (pa_consP (pe_ix ix_list (pv 6) (pv 9) (fun _ _ => rfl)) (pa_consP (pe_ix ix_list (pv 7) (pv 9) (fun _ _ => rfl)) (pa_consP (pv 3) (pa_consP (pv 8) (pa_consP (pe_ix ix_list (pv 5) (pv 9) (fun _ _ => rfl)) pa_nil)))))))
      (pss_cons (ps_set (i := 10) sc_law.nd rfl (Or.inl rfl) (pec C_law_tries (hr.mono (by decide)) rfl (pa_cons (pe_ix ix_list (pv 5) (pv 9) (fun _ _ => rfl)) (pa_cons (pv 3) pa_nil))))
      (pss_one (ps_if (pt_not (pt_val (pec C_law_told (hr.mono (by decide)) rfl (pa_cons (pe_ix ix_list (pv 6) (pv 9) (fun _ _ => rfl)) (pa_cons (pe_ix ix_list (pv 7) (pv 9) (fun _ _ => rfl)) (pa_cons (pv 3) (pa_cons (pv 10) pa_nil)))))))
      (pss_one (ps_ret pe_bl))
      pss_nil)))))))
      (pss_one (ps_ret (pe_cmpR (op_eqL (hr.units)) (pe_compS [] [] rfl (pi_list (pv 6)) (fun _ _ _ => pts_nil) (fun _ _ _ => (pe_meth0 (pv 0) T.cl_House M_House_names.mt M_House_names.ok (hr.mono (by decide)) M_House_names.b .nil pass0)) (hk := by kernel_rfl)) (pe_compS [] [] rfl (pi_list (pv 7)) (fun _ _ _ => pts_nil) (fun _ _ _ => (pe_callTy (call_listD rfl) rfl T.z_list boot_list (pa_cons (pv 0) pa_nil))) (hk := by kernel_rfl)) (nomark _)))))))))))), ?_⟩
    refine ⟨_, rfl, a, ns, 0, rfl, hS, h63, by decide, by decide, fun c0 => ⟨_, _, rfl, rfl, (by show (0 : Int) < 5; decide), _, _, rfl, rfl, ?_⟩⟩
    dsimp only
    obtain ⟨n, en, n1, n8⟩ : ∃ n : Nat, 1 + c0 % 5 = (n : Int) ∧ 1 ≤ n ∧ n ≤ 8 := ⟨(1 + c0 % 5).toNat, by omega, by omega, by omega⟩
    rw [en]
    refine ⟨_, rfl, _, rfl, a, ns, 2, n, rfl, hS, h63, by decide, by decide, by omega, by omega, fun t0 H1 ts0 s1 l1 e1 => ?_⟩
    have ln0 : ts0.length = n := by omega
    have hln : (ts0.map V.int).length = ts0.length := List.length_map _
    refine ⟨_, rfl, a, ns, 9, rfl, s1.seq hS, h63, by decide, by decide, fun b H2 s2 hb0 B2 => ?_⟩
    have t2 := s2 _ _ e1
    refine ⟨_, rfl, t0, rfl, ⟨_, SqT.of t2⟩, comp_tup (K := K) (a := t0) (xs := ts0.map V.int) (fun i acc Hx => But b H2 Hx ∧ BagAt Hx b (100 + (i : Int)) ∧ i ≤ 8 ∧ ∃ ms : List Int, ms.length = i ∧ acc = ms.map V.int) (by rw [hln]; exact small (by omega)) ⟨fun c o h _ => h, by simpa using B2, by decide, [], rfl, rfl⟩ (fun i acc Hx ⟨_, _, _, ms, g1, g2⟩ => by rw [g2, List.length_map, g1]) (fun i acc Hx h => SqT.of (B2.tup h.1 t2)) ?_ ?_⟩
    · rintro j acc Hx y hy ⟨bx, ⟨ux, wx, ex, px, qx⟩, j8, ms, g1, g2⟩ R kR
      have hj := (List.getElem?_eq_some_iff.mp hy).1
      rw [hln] at hj
      rw [List.getElem?_map] at hy
      obtain ⟨w, _, rfl⟩ := Option.map_eq_some_iff.mp hy
      refine ⟨_, rfl, _, rfl, b, ux, wx, 9, rfl, ex, px, by omega, by decide, by decide, fun z uy wy Hy by' ey py qy _ _ => ⟨_, _, rfl, rfl, kR _ _ ⟨bx.trans by', ⟨uy, wy, ey, py, by omega⟩, by omega, ms ++ [w - z], by rw [List.length_append, g1]; rfl, ints_snoc g2 _⟩⟩⟩
    rintro acc H3 ⟨b3, B3, _, ts1, g1, rfl⟩ p hp
    have s4 := same_new hp (.lst (ts1.map V.int))
    have p4 : (upd H3 p (.lst (ts1.map V.int))) p = some (.lst (ts1.map V.int)) := upd_same
    generalize upd H3 p (.lst (ts1.map V.int)) = H4 at s4 p4 ⊢
    refine ⟨p, _, rfl, .inl ⟨SqL.of p4, fun t1 ht1 => ?_⟩⟩
    have s5 := same_new ht1 (.tup (ts1.map V.int))
    have f5 : (upd H4 t1 (.tup (ts1.map V.int))) t1 = some (.tup (ts1.map V.int)) := upd_same
    generalize upd H4 t1 (.tup (ts1.map V.int)) = H5 at s5 f5 ⊢
    have ln1 : ts1.length = n := by rw [g1, hln, ln0]
    have t5 := (s4.trans s5) _ _ (B2.tup b3 t2)
    have s05 : Same H H5 := fun c o h => (s4.trans s5) _ _ (b3 _ _ (s2 _ _ (s1 _ _ h)) (ne_of_none (s1 _ _ h) hb0))
    refine ⟨_, rfl, _, rfl, (by show 2 ≤ sizeLine; decide), fun rs hrs => ?_⟩
    have s6 := same_new hrs (.lst [.ref t0, .ref t1])
    have f6 : (upd H5 rs (.lst [.ref t0, .ref t1])) rs = some (.lst [.ref t0, .ref t1]) := upd_same
    generalize upd H5 rs (.lst [.ref t0, .ref t1]) = H6 at s6 f6 ⊢
    refine ⟨_, rfl, fun x0 dx0 nx0 ndx0 ne0 => ⟨x0, dx0, n, rfl, upd_same, fun dh0 H7 W7 b7 hdn7 => ⟨rfl, ?_⟩⟩⟩
    have s7 : Same H6 H7 := fun b o h => b7 _ _ (by rw [upd_ne (ne_of_none h nx0), upd_ne (ne_of_none h ndx0)]; exact h) (ne_of_none h nx0)
    refine ⟨_, rfl, fun x1 dx1 nx1 ndx1 ne1 => ⟨x1, dx1, n, rfl, upd_same, fun dh1 H8 W8 b8 hdn8 => ⟨rfl, (by show 2 ≤ sizeLine; decide), fun rh hrh => ?_⟩⟩⟩
    have m8 : Same H7 (upd (upd H7 dx1 (.own x1)) x1 (.ins cl.House dx1 [])) := fun b o h => by rw [upd_ne (ne_of_none h nx1), upd_ne (ne_of_none h ndx1)]; exact h
    have s8 : Same H7 H8 := fun b o h => b8 _ _ (m8 _ _ h) (ne_of_none h nx1)
    have nd01 : dh0 ≠ dh1 := by
      obtain ⟨kv, h, _⟩ := W7.dc
      exact ne_of_none (m8 _ _ h) hdn8
    have s9 := same_new hrh (.lst [.ref x0, .ref x1])
    have f9 : (upd H8 rh (.lst [.ref x0, .ref x1])) rh = some (.lst [.ref x0, .ref x1]) := upd_same
    generalize upd H8 rh (.lst [.ref x0, .ref x1]) = H9 at s9 f9 ⊢
    have W09 := (W7.same s8).same s9
    have W19 := W8.same s9
    intro dg0 hdg0
    have s10 := same_new hdg0 (.dK [])
    have f10 : (upd H9 dg0 (.dK [])) dg0 = some (.dK []) := upd_same
    have nA : dg0 ≠ dh0 := by
      obtain ⟨kv, h, _⟩ := W09.dc
      exact Ne.symm (ne_of_none h hdg0)
    have nB : dg0 ≠ dh1 := by
      obtain ⟨kv, h, _⟩ := W19.dc
      exact Ne.symm (ne_of_none h hdg0)
    generalize upd H9 dg0 (.dK []) = H10 at s10 f10 ⊢
    intro dg1 hdg1
    have s11 := same_new hdg1 (.dK [])
    have f11 : (upd H10 dg1 (.dK [])) dg1 = some (.dK []) := upd_same
    have nC : dg1 ≠ dh0 := by
      obtain ⟨kv, h, _⟩ := (W09.same s10).dc
      exact Ne.symm (ne_of_none h hdg1)
    have nD : dg1 ≠ dh1 := by
      obtain ⟨kv, h, _⟩ := (W19.same s10).dc
      exact Ne.symm (ne_of_none h hdg1)
    have nE : dg0 ≠ dg1 := ne_of_none f10 hdg1
    generalize upd H10 dg1 (.dK []) = H11 at s11 f11 ⊢
    refine ⟨(by show 2 ≤ sizeLine; decide), fun rg hrg => ?_⟩
    have s12 := same_new hrg (.lst [.ref dg0, .ref dg1])
    have f12 : (upd H11 rg (.lst [.ref dg0, .ref dg1])) rg = some (.lst [.ref dg0, .ref dg1]) := upd_same
    generalize upd H11 rg (.lst [.ref dg0, .ref dg1]) = H12 at s12 f12 ⊢
    have s912 := (s10.trans s11).trans s12
    have s612 := ((s7.trans s8).trans s9).trans s912
    have s06 := s05.trans s6
    have s09 := s06.trans ((s7.trans s8).trans s9)
    have m7 : Same H6 (upd (upd H6 dx0 (.own x0)) x0 (.ins cl.House dx0 [])) := fun b o h => by rw [upd_ne (ne_of_none h nx0), upd_ne (ne_of_none h ndx0)]; exact h
    have LW0 : LW H cl H12 0 n a rs rh rg (fun j => bif j then x1 else x0) (fun j => bif j then dh1 else dh0) (fun j => bif j then dg1 else dg0) (fun j => bif j then t1 else t0) (fun _ => []) (fun j => bif j then ts1 else ts0) := by
      refine ⟨fun j => ?_, fun j => ?_, fun j => Nat.le_refl _, fun j g h => (nomatch h), fun j => ?_, fun j => ?_, s612 _ _ f6, s912 _ _ f9, f12, fun o h => (s06.trans s612) _ _ h, fun j => ?_⟩
      · cases j
        · exact ⟨W09.same s912, ⟨[], (s11.trans s12) _ _ f10, .nil⟩, nA, .nil, fun g h => (nomatch h)⟩
        · exact ⟨W19.same s912, ⟨[], s12 _ _ f11, .nil⟩, nD, .nil, fun g h => (nomatch h)⟩
      · cases j
        · exact ⟨nE, nB, nd01, Ne.symm nC⟩
        · exact ⟨Ne.symm nE, nC, Ne.symm nd01, Ne.symm nB⟩
      · cases j
        · exact (s6.trans s612) _ _ t5
        · exact (s6.trans s612) _ _ f5
      · cases j
        · exact ln0
        · exact ln1
      · cases j
        · exact ⟨none_of s09 hdg0, none_of (s06.trans m7) hdn7⟩
        · exact ⟨none_of (s09.trans s10) hdg1, none_of ((s06.trans s7).trans m8) hdn8⟩
    refine ⟨_, rfl, a, ns, 10, 20, rfl, LW0.sq hS, h63, by decide, by decide, by decide, by decide, fun m H13 s13 m0 m20 => ?_⟩
    have LW1 := LW0.same s13
    clear LW0
    generalize hX : (fun j => bif j then x1 else x0) = X at LW1
    generalize hDH : (fun j => bif j then dh1 else dh0) = DH at LW1
    generalize hDG : (fun j => bif j then dg1 else dg0) = DG at LW1
    generalize hTT : (fun j => bif j then t1 else t0) = TT at LW1
    generalize hTS : (fun j => bif j then ts1 else ts0) = TS at LW1
    refine ⟨m, rfl, by omega, by omega, for_range (lo := 0) (n := m.toNat) (fun i σ Hx => (∃ GS, LW H cl Hx i n a rs rh rg X DH DG TT GS TS) ∧ ∃ u3 u8 u9 u10, σ = [some (.ref a), some (.int n), some (.ref t0), u3, some (.ref t1), some (.ref rs), some (.ref rh), some (.ref rg), u8, u9, u10])
      ⟨⟨_, LW1⟩, _, _, _, _, rfl⟩ ?_ ?_⟩
    · rintro i σ Hx hi ⟨⟨GS, W⟩, u3, u8, u9, u10, rfl⟩
      have i20 : i < 20 := by omega
      refine ⟨_, rfl, _, rfl, _, _, rfl, rfl, a, ns, _, rfl, W.sq hS, h63, by omega, by omega, fun b' Hy sy hb' By => ?_⟩
      obtain ⟨uy, wy, ey, py, qy⟩ := By
      refine ⟨_, rfl, b', uy, wy, 2, rfl, ey, py, by omega, by decide, by decide, fun w uz wz Hz bz ez pz qz w0 w1 => ?_⟩
      have Wz := W.but hb' sy ey bz
      obtain ⟨j, hj⟩ : ∃ j : Bool, w = if j then 1 else 0 := by
        rcases (show w = 0 ∨ w = 1 by omega) with h | h
        · exact ⟨false, h⟩
        · exact ⟨true, h⟩
      have nrs : rs ≠ b' := ne_of_none W.rs hb'
      have nrh : rh ≠ b' := ne_of_none W.rh hb'
      have nrg : rg ≠ b' := ne_of_none W.rg hb'
      have nsc : ∀ o, H a = some o → a ≠ b' := fun o h => ne_of_none (W.sc o h) hb'
      refine ⟨_, rfl, _, rfl, rh, _, _, _, rfl, rfl, SqL.of Wz.rh, two_at X hj, _, rfl, _, rfl, rg, _, _, _, rfl, rfl, SqL.of Wz.rg, two_at DG hj, _, rfl, _, rfl, _, rfl, _, rfl, rs, _, _, _, rfl, rfl, SqL.of Wz.rs, two_at TT hj,
        X j, DH j, DG j, b', TT j, i, n, 101, GS j, TS j, rfl, Wz.hg j, ⟨uz, wz, ez, pz, by omega⟩, by decide, Wz.ts j, Wz.ln j, n1, n8, i20, Wz.len j, Wz.nm j, fun Hd gs' Ld Bd' bd ld nmd => ?_⟩
      have Wd := Wz.deed ez nrs nrh nrg nsc Ld bd ld nmd
      refine ⟨_, rfl, _, rfl, rs, _, _, _, rfl, rfl, SqL.of Wd.rs, two_at TT hj, _, rfl, TT j, b', n, 113, TS j, rfl, Wd.ts j, Wd.ln j, n1, n8, Bd', by decide, fun rt ws He be Be hrt ert Te w0' => ?_⟩
      obtain ⟨ud, vd, ed, pd, qd⟩ := id Bd'
      have kp : ∀ {p : Addr} {o : HO}, Hd p = some o → p ≠ b' → He p = some o := fun h n => be _ _ h n
      have We : LW H cl He (i + 1) n a rs rh rg X DH DG TT (setG GS j gs') TS := ⟨fun k => (Wd.hg k).but be ed, Wd.ne, Wd.len, Wd.nm, fun k => be _ _ (Wd.ts k) (ne_of (Wd.ts k) ed (fun z => by cases z)), Wd.ln, be _ _ Wd.rs nrs, be _ _ Wd.rh nrh, be _ _ Wd.rg nrg, fun o h => be _ _ (Wd.sc o h) (nsc o h), Wd.dn⟩
      have Lj := (Ld.but be ed)
      obtain ⟨ue, ve, ee, pe', qe⟩ := id Be
      refine ⟨_, rfl, _, rfl, rh, _, _, _, rfl, rfl, SqL.of We.rh, two_at X hj, _, rfl, _, rfl, rg, _, _, _, rfl, rfl, SqL.of We.rg, two_at DG hj, _, rfl, _, rfl, X j, DH j, DG j, b', rt, n, 115, gs', ws, rfl, Lj, Be, by decide, ert, Ne.symm (ne_of_none ed hrt), Te, w0', by omega, n1, n8, fun Hf bf => ⟨_, rfl, iteF ?_⟩⟩
      refine ⟨⟨setG GS j gs', fun k => (We.hg k).but bf ee, We.ne, We.len, We.nm, fun k => bf _ _ (We.ts k) (ne_of (We.ts k) ee (fun z => by cases z)), We.ln, bf _ _ We.rs nrs, bf _ _ We.rh nrh, bf _ _ We.rg nrg, fun o h => bf _ _ (We.sc o h) (nsc o h), We.dn⟩, _, _, _, _, rfl⟩
    · rintro σ Hx ⟨⟨GS, W⟩, u3, u8, u9, u10, rfl⟩
      have hxs : ∀ {k : Nat} {y : V} {f : Bool → Addr}, [V.ref (f false), V.ref (f true)][k]? = some y → ∃ j : Bool, y = .ref (f j) ∧ ∀ g : Bool → List Str, [g false, g true][k]? = some (g j) := fun {k y f} h => by
        rcases k with _ | _ | k
        · cases h; exact ⟨false, rfl, fun _ => rfl⟩
        · cases h; exact ⟨true, rfl, fun _ => rfl⟩
        · cases h
      refine ⟨_, rfl, rh, rfl, ⟨_, SqL.of W.rh⟩, comp_list (K := K) (a := rh) (xs := [.ref (X false), .ref (X true)]) (fun i acc Hy => Same Hx Hy ∧ acc.length = i ∧ AreT Hy acc ([gnames (GS false), gnames (GS true)].take i)) (by show 2 ≤ sizeLine; decide) ⟨same_refl _, rfl, .nil⟩ (fun i acc Hy h => h.2.1) (fun i acc Hy h => SqL.of (h.1 _ _ W.rh)) ?_ ?_⟩
      · rintro k acc Hy y hy ⟨sy, ly, Ay⟩ R kR
        obtain ⟨j, rfl, hg⟩ := hxs hy
        have Wj := (W.hg j).W.same sy
        obtain ⟨dx, hx⟩ := Wj.ob
        refine ⟨_, rfl, X j, dx, _, rfl, hx, fldh_no _ _ (by decide +kernel) (by decide +kernel), X j, DH j, n, GS j, rfl, Wj, fun r Hz hr sz ez => kR _ _ ⟨sy.trans sz, by rw [List.length_append, ly]; rfl, ?_⟩⟩
        rw [List.take_add_one, hg fun j => gnames (GS j), Option.toList_some]
        exact Paired.snoc (Ay.same sz) ⟨r, rfl, ez⟩
      rintro acc Hy ⟨sy, ly, Ay⟩ p hp
      have s14 := same_new hp (.lst acc)
      have e14 : (upd Hy p (.lst acc)) p = some (.lst acc) := upd_same
      generalize upd Hy p (.lst acc) = H14 at s14 e14 ⊢
      have A14 := Ay.same s14
      have W14 := W.same (sy.trans s14)
      refine ⟨_, rfl, rg, rfl, ⟨_, SqL.of W14.rg⟩, comp_list (K := K) (a := rg) (xs := [.ref (DG false), .ref (DG true)]) (fun i acc Hy => Same H14 Hy ∧ acc.length = i ∧ AreT Hy acc ([gnames (GS false), gnames (GS true)].take i)) (by show 2 ≤ sizeLine; decide) ⟨same_refl _, rfl, .nil⟩ (fun i acc Hy h => h.2.1) (fun i acc Hy h => SqL.of (h.1 _ _ W14.rg)) ?_ ?_⟩
      · rintro k acc Hy y hy ⟨sy, ly, Ay⟩ R kR
        obtain ⟨j, rfl, hg⟩ := hxs hy
        obtain ⟨kvs, hd, G⟩ := ((W14.hg j).same sy).D
        refine ⟨_, rfl, DG j, kvs, rfl, .inl hd, fun r hr => kR _ _ ⟨sy.trans (same_new hr _), by rw [List.length_append, ly]; rfl, ?_⟩⟩
        rw [List.take_add_one, hg fun j => gnames (GS j), Option.toList_some]
        exact Paired.snoc (Ay.same (same_new hr _)) ⟨r, rfl, by rw [upd_same, G.kv]⟩
      rintro acc2 Hz ⟨sz, lz, Az⟩ p2 hp2
      have s16 := sz.trans (same_new hp2 (.lst acc2))
      exact ⟨⟨1, p, p2, _, _, _, by decide, rfl, rfl, SqL.of (s16 _ _ e14), SqL.of upd_same, told_lists (A14.same s16), told_lists (Az.same (same_new hp2 _))⟩, q _⟩
end
theorem all_mk {l : PySem.W.OpenLaw} {w : World} {K : PySem.W.Frag} {h : Heap} {mg : Str → Option Value} {fa : Addr} (X : K.In h) (G : h.Ns mainGlobals mg) (hfa : mg "law" = some (.ref fa))
    {f1 : Addr} {od1 an1 : Option Addr} {sl1 : Array (Option Value)} {oc1 kV1 dc1 pm1 cd1 ct1 : Value}
    {f2 : Addr} {od2 an2 : Option Addr} {sl2 : Array (Option Value)} {oc2 kV2 dc2 pm2 cd2 ct2 : Value}
    {f3 : Addr} {od3 an3 : Option Addr} {sl3 : Array (Option Value)} {oc3 kV3 dc3 pm3 cd3 ct3 : Value}
    {f4 : Addr} {od4 an4 : Option Addr} {sl4 : Array (Option Value)} {oc4 kV4 dc4 pm4 cd4 ct4 : Value}
    {f5 : Addr} {od5 an5 : Option Addr} {sl5 : Array (Option Value)} {oc5 kV5 dc5 pm5 cd5 ct5 : Value}
    {f6 : Addr} {od6 an6 : Option Addr} {sl6 : Array (Option Value)} {oc6 kV6 dc6 pm6 cd6 ct6 : Value}
    {f7 : Addr} {od7 an7 : Option Addr} {sl7 : Array (Option Value)} {oc7 kV7 dc7 pm7 cd7 ct7 : Value}
    {f8 : Addr} {od8 an8 : Option Addr} {sl8 : Array (Option Value)} {oc8 kV8 dc8 pm8 cd8 ct8 : Value}
    {f9 : Addr} {od9 an9 : Option Addr} {sl9 : Array (Option Value)} {oc9 kV9 dc9 pm9 cd9 ct9 : Value}
    {f10 : Addr} {od10 an10 : Option Addr} {sl10 : Array (Option Value)} {oc10 kV10 dc10 pm10 cd10 ct10 : Value}
    {f11 : Addr} {od11 an11 : Option Addr} {sl11 : Array (Option Value)} {oc11 kV11 dc11 pm11 cd11 ct11 : Value}
    {f12 : Addr} {od12 an12 : Option Addr} {sl12 : Array (Option Value)} {oc12 kV12 dc12 pm12 cd12 ct12 : Value}
    {f13 : Addr} {od13 an13 : Option Addr} {sl13 : Array (Option Value)} {oc13 kV13 dc13 pm13 cd13 ct13 : Value}
    {f14 : Addr} {od14 an14 : Option Addr} {sl14 : Array (Option Value)} {oc14 kV14 dc14 pm14 cd14 ct14 : Value}
    {f15 : Addr} {od15 an15 : Option Addr} {sl15 : Array (Option Value)} {oc15 kV15 dc15 pm15 cd15 ct15 : Value}
    {f16 : Addr} {od16 an16 : Option Addr} {sl16 : Array (Option Value)} {oc16 kV16 dc16 pm16 cd16 ct16 : Value}
    {f17 : Addr} {od17 an17 : Option Addr} {sl17 : Array (Option Value)} {oc17 kV17 dc17 pm17 cd17 ct17 : Value}
    {f18 : Addr} {od18 an18 : Option Addr} {sl18 : Array (Option Value)} {oc18 kV18 dc18 pm18 cd18 ct18 : Value}
    {f19 : Addr} {od19 an19 : Option Addr} {sl19 : Array (Option Value)} {oc19 kV19 dc19 pm19 cd19 ct19 : Value}
    {f20 : Addr} {od20 an20 : Option Addr} {sl20 : Array (Option Value)} {oc20 kV20 dc20 pm20 cd20 ct20 : Value}
    {f21 : Addr} {od21 an21 : Option Addr} {sl21 : Array (Option Value)} {oc21 kV21 dc21 pm21 cd21 ct21 : Value}
    {f22 : Addr} {od22 an22 : Option Addr} {sl22 : Array (Option Value)} {oc22 kV22 dc22 pm22 cd22 ct22 : Value}
    {f23 : Addr} {od23 an23 : Option Addr} {sl23 : Array (Option Value)} {oc23 kV23 dc23 pm23 cd23 ct23 : Value}
    {f24 : Addr} {od24 an24 : Option Addr} {sl24 : Array (Option Value)} {oc24 kV24 dc24 pm24 cd24 ct24 : Value}
    {f25 : Addr} {od25 an25 : Option Addr} {sl25 : Array (Option Value)} {oc25 kV25 dc25 pm25 cd25 ct25 : Value}
    {f26 : Addr} {od26 an26 : Option Addr} {sl26 : Array (Option Value)} {oc26 kV26 dc26 pm26 cd26 ct26 : Value}
    {f27 : Addr} {od27 an27 : Option Addr} {sl27 : Array (Option Value)} {oc27 kV27 dc27 pm27 cd27 ct27 : Value}
    {f28 : Addr} {od28 an28 : Option Addr} {sl28 : Array (Option Value)} {oc28 kV28 dc28 pm28 cd28 ct28 : Value}
    {f29 : Addr} {od29 an29 : Option Addr} {sl29 : Array (Option Value)} {oc29 kV29 dc29 pm29 cd29 ct29 : Value}
    {f30 : Addr} {od30 an30 : Option Addr} {sl30 : Array (Option Value)} {oc30 kV30 dc30 pm30 cd30 ct30 : Value}
    {f31 : Addr} {od31 an31 : Option Addr} {sl31 : Array (Option Value)} {oc31 kV31 dc31 pm31 cd31 ct31 : Value}
    {f32 : Addr} {od32 an32 : Option Addr} {sl32 : Array (Option Value)} {oc32 kV32 dc32 pm32 cd32 ct32 : Value}
    {f33 : Addr} {od33 an33 : Option Addr} {sl33 : Array (Option Value)} {oc33 kV33 dc33 pm33 cd33 ct33 : Value}
    {f34 : Addr} {od34 an34 : Option Addr} {sl34 : Array (Option Value)} {oc34 kV34 dc34 pm34 cd34 ct34 : Value}
    {f35 : Addr} {od35 an35 : Option Addr} {sl35 : Array (Option Value)} {oc35 kV35 dc35 pm35 cd35 ct35 : Value}
    {f36 : Addr} {od36 an36 : Option Addr} {sl36 : Array (Option Value)} {oc36 kV36 dc36 pm36 cd36 ct36 : Value}
    {f37 : Addr} {od37 an37 : Option Addr} {sl37 : Array (Option Value)} {oc37 kV37 dc37 pm37 cd37 ct37 : Value}
    {f38 : Addr} {od38 an38 : Option Addr} {sl38 : Array (Option Value)} {oc38 kV38 dc38 pm38 cd38 ct38 : Value}
    {f39 : Addr} {od39 an39 : Option Addr} {sl39 : Array (Option Value)} {oc39 kV39 dc39 pm39 cd39 ct39 : Value}
    {f40 : Addr} {od40 an40 : Option Addr} {sl40 : Array (Option Value)} {oc40 kV40 dc40 pm40 cd40 ct40 : Value}
    {f41 : Addr} {od41 an41 : Option Addr} {sl41 : Array (Option Value)} {oc41 kV41 dc41 pm41 cd41 ct41 : Value}
    {f42 : Addr} {od42 an42 : Option Addr} {sl42 : Array (Option Value)} {oc42 kV42 dc42 pm42 cd42 ct42 : Value} {T42 : Addr} {ot42 : Value} {odt42 : Option Addr} {nt42 : Nat} {slt42 : Array (Option Value)}
    {f43 : Addr} {od43 an43 : Option Addr} {sl43 : Array (Option Value)} {oc43 kV43 dc43 pm43 cd43 ct43 : Value}
    {f44 : Addr} {od44 an44 : Option Addr} {sl44 : Array (Option Value)} {oc44 kV44 dc44 pm44 cd44 ct44 : Value}
    {f45 : Addr} {od45 an45 : Option Addr} {sl45 : Array (Option Value)} {oc45 kV45 dc45 pm45 cd45 ct45 : Value}
    {f46 : Addr} {od46 an46 : Option Addr} {sl46 : Array (Option Value)} {oc46 kV46 dc46 pm46 cd46 ct46 : Value}
    {f47 : Addr} {od47 an47 : Option Addr} {sl47 : Array (Option Value)} {oc47 kV47 dc47 pm47 cd47 ct47 : Value}
    {f48 : Addr} {od48 an48 : Option Addr} {sl48 : Array (Option Value)} {oc48 kV48 dc48 pm48 cd48 ct48 : Value}
    {f49 : Addr} {od49 an49 : Option Addr} {sl49 : Array (Option Value)} {oc49 kV49 dc49 pm49 cd49 ct49 : Value}
    {ca1 : Addr} (g1 : PySem.W.nsIn K mainGlobals "WaitError" = some (some (.ref ca1)))
    {ca2 : Addr} (g2 : PySem.W.nsIn K mainGlobals "NoName" = some (some (.ref ca2)))
    {ca3 : Addr} (g3 : PySem.W.nsIn K mainGlobals "House" = some (some (.ref ca3)))
    (a1 : PySem.W.nsIn K mainGlobals "bounds_of" = some (some (.ref f1))) (l1 : K.lookup f1 = some ⟨oc1, od1, .func (PySem.W.fnOf "bounds_of" "bounds_of" (defArgs s_bounds_of) (defBody s_bounds_of) (defScope s_bounds_of) .none kV1 dc1 pm1 an1 cd1 ct1), sl1⟩) (c1 : PySem.W.codeIn K cd1 "bounds_of" = true) (k1 : PySem.W.keepIn K (.ref f1) = true)
    (a2 : PySem.W.nsIn K mainGlobals "wide" = some (some (.ref f2))) (l2 : K.lookup f2 = some ⟨oc2, od2, .func (PySem.W.fnOf "wide" "wide" (defArgs s_wide) (defBody s_wide) (defScope s_wide) .none kV2 dc2 pm2 an2 cd2 ct2), sl2⟩) (c2 : PySem.W.codeIn K cd2 "wide" = true) (k2 : PySem.W.keepIn K (.ref f2) = true)
    (a3 : PySem.W.nsIn K mainGlobals "wide_row" = some (some (.ref f3))) (l3 : K.lookup f3 = some ⟨oc3, od3, .func (PySem.W.fnOf "wide_row" "wide_row" (defArgs s_wide_row) (defBody s_wide_row) (defScope s_wide_row) .none kV3 dc3 pm3 an3 cd3 ct3), sl3⟩) (c3 : PySem.W.codeIn K cd3 "wide_row" = true) (k3 : PySem.W.keepIn K (.ref f3) = true)
    (a4 : PySem.W.nsIn K mainGlobals "table_of" = some (some (.ref f4))) (l4 : K.lookup f4 = some ⟨oc4, od4, .func (PySem.W.fnOf "table_of" "table_of" (defArgs s_table_of) (defBody s_table_of) (defScope s_table_of) .none kV4 dc4 pm4 an4 cd4 ct4), sl4⟩) (c4 : PySem.W.codeIn K cd4 "table_of" = true) (k4 : PySem.W.keepIn K (.ref f4) = true)
    (a5 : PySem.W.nsIn K mainGlobals "held" = some (some (.ref f5))) (l5 : K.lookup f5 = some ⟨oc5, od5, .func (PySem.W.fnOf "held" "held" (defArgs s_held) (defBody s_held) (defScope s_held) .none kV5 dc5 pm5 an5 cd5 ct5), sl5⟩) (c5 : PySem.W.codeIn K cd5 "held" = true) (k5 : PySem.W.keepIn K (.ref f5) = true)
    (a6 : PySem.W.nsIn K mainGlobals "shuts" = some (some (.ref f6))) (l6 : K.lookup f6 = some ⟨oc6, od6, .func (PySem.W.fnOf "shuts" "shuts" (defArgs s_shuts) (defBody s_shuts) (defScope s_shuts) .none kV6 dc6 pm6 an6 cd6 ct6), sl6⟩) (c6 : PySem.W.codeIn K cd6 "shuts" = true) (k6 : PySem.W.keepIn K (.ref f6) = true)
    (a7 : PySem.W.nsIn K mainGlobals "held_row" = some (some (.ref f7))) (l7 : K.lookup f7 = some ⟨oc7, od7, .func (PySem.W.fnOf "held_row" "held_row" (defArgs s_held_row) (defBody s_held_row) (defScope s_held_row) .none kV7 dc7 pm7 an7 cd7 ct7), sl7⟩) (c7 : PySem.W.codeIn K cd7 "held_row" = true) (k7 : PySem.W.keepIn K (.ref f7) = true)
    (a8 : PySem.W.nsIn K mainGlobals "total" = some (some (.ref f8))) (l8 : K.lookup f8 = some ⟨oc8, od8, .func (PySem.W.fnOf "total" "total" (defArgs s_total) (defBody s_total) (defScope s_total) .none kV8 dc8 pm8 an8 cd8 ct8), sl8⟩) (c8 : PySem.W.codeIn K cd8 "total" = true) (k8 : PySem.W.keepIn K (.ref f8) = true)
    (a9 : PySem.W.nsIn K mainGlobals "lesser" = some (some (.ref f9))) (l9 : K.lookup f9 = some ⟨oc9, od9, .func (PySem.W.fnOf "lesser" "lesser" (defArgs s_lesser) (defBody s_lesser) (defScope s_lesser) .none kV9 dc9 pm9 an9 cd9 ct9), sl9⟩) (c9 : PySem.W.codeIn K cd9 "lesser" = true) (k9 : PySem.W.keepIn K (.ref f9) = true)
    (a10 : PySem.W.nsIn K mainGlobals "ring" = some (some (.ref f10))) (l10 : K.lookup f10 = some ⟨oc10, od10, .func (PySem.W.fnOf "ring" "ring" (defArgs s_ring) (defBody s_ring) (defScope s_ring) .none kV10 dc10 pm10 an10 cd10 ct10), sl10⟩) (c10 : PySem.W.codeIn K cd10 "ring" = true) (k10 : PySem.W.keepIn K (.ref f10) = true)
    (a11 : PySem.W.nsIn K mainGlobals "chain" = some (some (.ref f11))) (l11 : K.lookup f11 = some ⟨oc11, od11, .func (PySem.W.fnOf "chain" "chain" (defArgs s_chain) (defBody s_chain) (defScope s_chain) .none kV11 dc11 pm11 an11 cd11 ct11), sl11⟩) (c11 : PySem.W.codeIn K cd11 "chain" = true) (k11 : PySem.W.keepIn K (.ref f11) = true)
    (a12 : PySem.W.nsIn K mainGlobals "search" = some (some (.ref f12))) (l12 : K.lookup f12 = some ⟨oc12, od12, .func (PySem.W.fnOf "search" "search" (defArgs s_search) (defBody s_search) (defScope s_search) .none kV12 dc12 pm12 an12 cd12 ct12), sl12⟩) (c12 : PySem.W.codeIn K cd12 "search" = true) (k12 : PySem.W.keepIn K (.ref f12) = true)
    (a13 : PySem.W.nsIn K mainGlobals "first_ways" = some (some (.ref f13))) (l13 : K.lookup f13 = some ⟨oc13, od13, .func (PySem.W.fnOf "first_ways" "first_ways" (defArgs s_first_ways) (defBody s_first_ways) (defScope s_first_ways) .none kV13 dc13 pm13 an13 cd13 ct13), sl13⟩) (c13 : PySem.W.codeIn K cd13 "first_ways" = true) (k13 : PySem.W.keepIn K (.ref f13) = true)
    (a14 : PySem.W.nsIn K mainGlobals "narrowed" = some (some (.ref f14))) (l14 : K.lookup f14 = some ⟨oc14, od14, .func (PySem.W.fnOf "narrowed" "narrowed" (defArgs s_narrowed) (defBody s_narrowed) (defScope s_narrowed) .none kV14 dc14 pm14 an14 cd14 ct14), sl14⟩) (c14 : PySem.W.codeIn K cd14 "narrowed" = true) (k14 : PySem.W.keepIn K (.ref f14) = true)
    (a15 : PySem.W.nsIn K mainGlobals "led" = some (some (.ref f15))) (l15 : K.lookup f15 = some ⟨oc15, od15, .func (PySem.W.fnOf "led" "led" (defArgs s_led) (defBody s_led) (defScope s_led) .none kV15 dc15 pm15 an15 cd15 ct15), sl15⟩) (c15 : PySem.W.codeIn K cd15 "led" = true) (k15 : PySem.W.keepIn K (.ref f15) = true)
    (a16 : PySem.W.nsIn K mainGlobals "by_way" = some (some (.ref f16))) (l16 : K.lookup f16 = some ⟨oc16, od16, .func (PySem.W.fnOf "by_way" "by_way" (defArgs s_by_way) (defBody s_by_way) (defScope s_by_way) .none kV16 dc16 pm16 an16 cd16 ct16), sl16⟩) (c16 : PySem.W.codeIn K cd16 "by_way" = true) (k16 : PySem.W.keepIn K (.ref f16) = true)
    (a17 : PySem.W.nsIn K mainGlobals "all_bounds" = some (some (.ref f17))) (l17 : K.lookup f17 = some ⟨oc17, od17, .func (PySem.W.fnOf "all_bounds" "all_bounds" (defArgs s_all_bounds) (defBody s_all_bounds) (defScope s_all_bounds) .none kV17 dc17 pm17 an17 cd17 ct17), sl17⟩) (c17 : PySem.W.codeIn K cd17 "all_bounds" = true) (k17 : PySem.W.keepIn K (.ref f17) = true)
    (a18 : PySem.W.nsIn K mainGlobals "all_bound_names" = some (some (.ref f18))) (l18 : K.lookup f18 = some ⟨oc18, od18, .func (PySem.W.fnOf "all_bound_names" "all_bound_names" (defArgs s_all_bound_names) (defBody s_all_bound_names) (defScope s_all_bound_names) .none kV18 dc18 pm18 an18 cd18 ct18), sl18⟩) (c18 : PySem.W.codeIn K cd18 "all_bound_names" = true) (k18 : PySem.W.keepIn K (.ref f18) = true)
    (a19 : PySem.W.nsIn K mainGlobals "ends_of" = some (some (.ref f19))) (l19 : K.lookup f19 = some ⟨oc19, od19, .func (PySem.W.fnOf "ends_of" "ends_of" (defArgs s_ends_of) (defBody s_ends_of) (defScope s_ends_of) .none kV19 dc19 pm19 an19 cd19 ct19), sl19⟩) (c19 : PySem.W.codeIn K cd19 "ends_of" = true) (k19 : PySem.W.keepIn K (.ref f19) = true)
    (a20 : PySem.W.nsIn K mainGlobals "names_at" = some (some (.ref f20))) (l20 : K.lookup f20 = some ⟨oc20, od20, .func (PySem.W.fnOf "names_at" "names_at" (defArgs s_names_at) (defBody s_names_at) (defScope s_names_at) .none kV20 dc20 pm20 an20 cd20 ct20), sl20⟩) (c20 : PySem.W.codeIn K cd20 "names_at" = true) (k20 : PySem.W.keepIn K (.ref f20) = true)
    (a21 : PySem.W.nsIn K mainGlobals "_law_cell" = some (some (.ref f21))) (l21 : K.lookup f21 = some ⟨oc21, od21, .func (PySem.W.fnOf "_law_cell" "_law_cell" (defArgs s_law_cell) (defBody s_law_cell) (defScope s_law_cell) .none kV21 dc21 pm21 an21 cd21 ct21), sl21⟩) (c21 : PySem.W.codeIn K cd21 "_law_cell" = true) (k21 : PySem.W.keepIn K (.ref f21) = true)
    (a22 : PySem.W.nsIn K mainGlobals "_law_big" = some (some (.ref f22))) (l22 : K.lookup f22 = some ⟨oc22, od22, .func (PySem.W.fnOf "_law_big" "_law_big" (defArgs s_law_big) (defBody s_law_big) (defScope s_law_big) .none kV22 dc22 pm22 an22 cd22 ct22), sl22⟩) (c22 : PySem.W.codeIn K cd22 "_law_big" = true) (k22 : PySem.W.keepIn K (.ref f22) = true)
    (a23 : PySem.W.nsIn K mainGlobals "_law_times" = some (some (.ref f23))) (l23 : K.lookup f23 = some ⟨oc23, od23, .func (PySem.W.fnOf "_law_times" "_law_times" (defArgs s_law_times) (defBody s_law_times) (defScope s_law_times) .none kV23 dc23 pm23 an23 cd23 ct23), sl23⟩) (c23 : PySem.W.codeIn K cd23 "_law_times" = true) (k23 : PySem.W.keepIn K (.ref f23) = true)
    (a24 : PySem.W.nsIn K mainGlobals "_law_bag" = some (some (.ref f24))) (l24 : K.lookup f24 = some ⟨oc24, od24, .func (PySem.W.fnOf "_law_bag" "_law_bag" (defArgs s_law_bag) (defBody s_law_bag) (defScope s_law_bag) .none kV24 dc24 pm24 an24 cd24 ct24), sl24⟩) (c24 : PySem.W.codeIn K cd24 "_law_bag" = true) (k24 : PySem.W.keepIn K (.ref f24) = true)
    (a25 : PySem.W.nsIn K mainGlobals "_law_take" = some (some (.ref f25))) (l25 : K.lookup f25 = some ⟨oc25, od25, .func (PySem.W.fnOf "_law_take" "_law_take" (defArgs s_law_take) (defBody s_law_take) (defScope s_law_take) .none kV25 dc25 pm25 an25 cd25 ct25), sl25⟩) (c25 : PySem.W.codeIn K cd25 "_law_take" = true) (k25 : PySem.W.keepIn K (.ref f25) = true)
    (a26 : PySem.W.nsIn K mainGlobals "_law_many" = some (some (.ref f26))) (l26 : K.lookup f26 = some ⟨oc26, od26, .func (PySem.W.fnOf "_law_many" "_law_many" (defArgs s_law_many) (defBody s_law_many) (defScope s_law_many) .none kV26 dc26 pm26 an26 cd26 ct26), sl26⟩) (c26 : PySem.W.codeIn K cd26 "_law_many" = true) (k26 : PySem.W.keepIn K (.ref f26) = true)
    (a27 : PySem.W.nsIn K mainGlobals "_law_lies" = some (some (.ref f27))) (l27 : K.lookup f27 = some ⟨oc27, od27, .func (PySem.W.fnOf "_law_lies" "_law_lies" (defArgs s_law_lies) (defBody s_law_lies) (defScope s_law_lies) .none kV27 dc27 pm27 an27 cd27 ct27), sl27⟩) (c27 : PySem.W.codeIn K cd27 "_law_lies" = true) (k27 : PySem.W.keepIn K (.ref f27) = true)
    (a28 : PySem.W.nsIn K mainGlobals "_law_kept" = some (some (.ref f28))) (l28 : K.lookup f28 = some ⟨oc28, od28, .func (PySem.W.fnOf "_law_kept" "_law_kept" (defArgs s_law_kept) (defBody s_law_kept) (defScope s_law_kept) .none kV28 dc28 pm28 an28 cd28 ct28), sl28⟩) (c28 : PySem.W.codeIn K cd28 "_law_kept" = true) (k28 : PySem.W.keepIn K (.ref f28) = true)
    (a29 : PySem.W.nsIn K mainGlobals "_law_truth" = some (some (.ref f29))) (l29 : K.lookup f29 = some ⟨oc29, od29, .func (PySem.W.fnOf "_law_truth" "_law_truth" (defArgs s_law_truth) (defBody s_law_truth) (defScope s_law_truth) .none kV29 dc29 pm29 an29 cd29 ct29), sl29⟩) (c29 : PySem.W.codeIn K cd29 "_law_truth" = true) (k29 : PySem.W.keepIn K (.ref f29) = true)
    (a30 : PySem.W.nsIn K mainGlobals "_law_gap_round" = some (some (.ref f30))) (l30 : K.lookup f30 = some ⟨oc30, od30, .func (PySem.W.fnOf "_law_gap_round" "_law_gap_round" (defArgs s_law_gap_round) (defBody s_law_gap_round) (defScope s_law_gap_round) .none kV30 dc30 pm30 an30 cd30 ct30), sl30⟩) (c30 : PySem.W.codeIn K cd30 "_law_gap_round" = true) (k30 : PySem.W.keepIn K (.ref f30) = true)
    (a31 : PySem.W.nsIn K mainGlobals "_law_ends" = some (some (.ref f31))) (l31 : K.lookup f31 = some ⟨oc31, od31, .func (PySem.W.fnOf "_law_ends" "_law_ends" (defArgs s_law_ends) (defBody s_law_ends) (defScope s_law_ends) .none kV31 dc31 pm31 an31 cd31 ct31), sl31⟩) (c31 : PySem.W.codeIn K cd31 "_law_ends" = true) (k31 : PySem.W.keepIn K (.ref f31) = true)
    (a32 : PySem.W.nsIn K mainGlobals "_law_due" = some (some (.ref f32))) (l32 : K.lookup f32 = some ⟨oc32, od32, .func (PySem.W.fnOf "_law_due" "_law_due" (defArgs s_law_due) (defBody s_law_due) (defScope s_law_due) .none kV32 dc32 pm32 an32 cd32 ct32), sl32⟩) (c32 : PySem.W.codeIn K cd32 "_law_due" = true) (k32 : PySem.W.keepIn K (.ref f32) = true)
    (a33 : PySem.W.nsIn K mainGlobals "_law_deed" = some (some (.ref f33))) (l33 : K.lookup f33 = some ⟨oc33, od33, .func (PySem.W.fnOf "_law_deed" "_law_deed" (defArgs s_law_deed) (defBody s_law_deed) (defScope s_law_deed) .none kV33 dc33 pm33 an33 cd33 ct33), sl33⟩) (c33 : PySem.W.codeIn K cd33 "_law_deed" = true) (k33 : PySem.W.keepIn K (.ref f33) = true)
    (a34 : PySem.W.nsIn K mainGlobals "_law_walked" = some (some (.ref f34))) (l34 : K.lookup f34 = some ⟨oc34, od34, .func (PySem.W.fnOf "_law_walked" "_law_walked" (defArgs s_law_walked) (defBody s_law_walked) (defScope s_law_walked) .none kV34 dc34 pm34 an34 cd34 ct34), sl34⟩) (c34 : PySem.W.codeIn K cd34 "_law_walked" = true) (k34 : PySem.W.keepIn K (.ref f34) = true)
    (a35 : PySem.W.nsIn K mainGlobals "_law_ring_good" = some (some (.ref f35))) (l35 : K.lookup f35 = some ⟨oc35, od35, .func (PySem.W.fnOf "_law_ring_good" "_law_ring_good" (defArgs s_law_ring_good) (defBody s_law_ring_good) (defScope s_law_ring_good) .none kV35 dc35 pm35 an35 cd35 ct35), sl35⟩) (c35 : PySem.W.codeIn K cd35 "_law_ring_good" = true) (k35 : PySem.W.keepIn K (.ref f35) = true)
    (a36 : PySem.W.nsIn K mainGlobals "_law_pair_good" = some (some (.ref f36))) (l36 : K.lookup f36 = some ⟨oc36, od36, .func (PySem.W.fnOf "_law_pair_good" "_law_pair_good" (defArgs s_law_pair_good) (defBody s_law_pair_good) (defScope s_law_pair_good) .none kV36 dc36 pm36 an36 cd36 ct36), sl36⟩) (c36 : PySem.W.codeIn K cd36 "_law_pair_good" = true) (k36 : PySem.W.keepIn K (.ref f36) = true)
    (a37 : PySem.W.nsIn K mainGlobals "_law_idle_good" = some (some (.ref f37))) (l37 : K.lookup f37 = some ⟨oc37, od37, .func (PySem.W.fnOf "_law_idle_good" "_law_idle_good" (defArgs s_law_idle_good) (defBody s_law_idle_good) (defScope s_law_idle_good) .none kV37 dc37 pm37 an37 cd37 ct37), sl37⟩) (c37 : PySem.W.codeIn K cd37 "_law_idle_good" = true) (k37 : PySem.W.keepIn K (.ref f37) = true)
    (a38 : PySem.W.nsIn K mainGlobals "_law_told" = some (some (.ref f38))) (l38 : K.lookup f38 = some ⟨oc38, od38, .func (PySem.W.fnOf "_law_told" "_law_told" (defArgs s_law_told) (defBody s_law_told) (defScope s_law_told) .none kV38 dc38 pm38 an38 cd38 ct38), sl38⟩) (c38 : PySem.W.codeIn K cd38 "_law_told" = true) (k38 : PySem.W.keepIn K (.ref f38) = true)
    (a39 : PySem.W.nsIn K mainGlobals "_law_tries" = some (some (.ref f39))) (l39 : K.lookup f39 = some ⟨oc39, od39, .func (PySem.W.fnOf "_law_tries" "_law_tries" (defArgs s_law_tries) (defBody s_law_tries) (defScope s_law_tries) .none kV39 dc39 pm39 an39 cd39 ct39), sl39⟩) (c39 : PySem.W.codeIn K cd39 "_law_tries" = true) (k39 : PySem.W.keepIn K (.ref f39) = true)
    (a40 : PySem.W.nsIn K mainGlobals "law" = some (some (.ref f40))) (l40 : K.lookup f40 = some ⟨oc40, od40, .func (PySem.W.fnOf "law" "law" (defArgs s_law) (defBody s_law) (defScope s_law) .none kV40 dc40 pm40 an40 cd40 ct40), sl40⟩) (c40 : PySem.W.codeIn K cd40 "law" = true) (k40 : PySem.W.keepIn K (.ref f40) = true)
    (a41 : PySem.W.findIn K (.ref ca3) "__init__" = some (some (.ref f41))) (i41 : PySem.W.isFn K (.ref f41) = true) (l41 : K.lookup f41 = some ⟨oc41, od41, .func (PySem.W.fnOf "__init__" "House.__init__" (defArgs s_House___init__) (defBody s_House___init__) (defScope s_House___init__) .none kV41 dc41 pm41 an41 cd41 ct41), sl41⟩) (c41 : PySem.W.codeIn K cd41 "House.__init__" = true) (k41 : PySem.W.keepIn K (.ref f41) = true)
    (a42 : PySem.W.findIn K (.ref ca3) "add" = some (some (.ref f42))) (i42 : PySem.W.isFn K (.ref f42) = true) (l42 : K.lookup f42 = some ⟨oc42, od42, .func (PySem.W.fnOf "add" "House.add" (defArgs s_House_add) (defBody s_House_add) (defScope s_House_add) (.ref T42) kV42 dc42 pm42 an42 cd42 ct42), sl42⟩) (c42 : PySem.W.codeIn K cd42 "House.add" = true) (k42 : PySem.W.keepIn K (.ref f42) = true) (t42 : K.lookup T42 = some ⟨ot42, odt42, .seq #[.none, .none] nt42, slt42⟩)
    (a43 : PySem.W.findIn K (.ref ca3) "drop" = some (some (.ref f43))) (i43 : PySem.W.isFn K (.ref f43) = true) (l43 : K.lookup f43 = some ⟨oc43, od43, .func (PySem.W.fnOf "drop" "House.drop" (defArgs s_House_drop) (defBody s_House_drop) (defScope s_House_drop) .none kV43 dc43 pm43 an43 cd43 ct43), sl43⟩) (c43 : PySem.W.codeIn K cd43 "House.drop" = true) (k43 : PySem.W.keepIn K (.ref f43) = true)
    (a44 : PySem.W.findIn K (.ref ca3) "need" = some (some (.ref f44))) (i44 : PySem.W.isFn K (.ref f44) = true) (l44 : K.lookup f44 = some ⟨oc44, od44, .func (PySem.W.fnOf "need" "House.need" (defArgs s_House_need) (defBody s_House_need) (defScope s_House_need) .none kV44 dc44 pm44 an44 cd44 ct44), sl44⟩) (c44 : PySem.W.codeIn K cd44 "House.need" = true) (k44 : PySem.W.keepIn K (.ref f44) = true)
    (a45 : PySem.W.findIn K (.ref ca3) "names" = some (some (.ref f45))) (i45 : PySem.W.isFn K (.ref f45) = true) (l45 : K.lookup f45 = some ⟨oc45, od45, .func (PySem.W.fnOf "names" "House.names" (defArgs s_House_names) (defBody s_House_names) (defScope s_House_names) .none kV45 dc45 pm45 an45 cd45 ct45), sl45⟩) (c45 : PySem.W.codeIn K cd45 "House.names" = true) (k45 : PySem.W.keepIn K (.ref f45) = true)
    (a46 : PySem.W.findIn K (.ref ca3) "table" = some (some (.ref f46))) (i46 : PySem.W.isFn K (.ref f46) = true) (l46 : K.lookup f46 = some ⟨oc46, od46, .func (PySem.W.fnOf "table" "House.table" (defArgs s_House_table) (defBody s_House_table) (defScope s_House_table) .none kV46 dc46 pm46 an46 cd46 ct46), sl46⟩) (c46 : PySem.W.codeIn K cd46 "House.table" = true) (k46 : PySem.W.keepIn K (.ref f46) = true)
    (a47 : PySem.W.findIn K (.ref ca3) "ring" = some (some (.ref f47))) (i47 : PySem.W.isFn K (.ref f47) = true) (l47 : K.lookup f47 = some ⟨oc47, od47, .func (PySem.W.fnOf "ring" "House.ring" (defArgs s_House_ring) (defBody s_House_ring) (defScope s_House_ring) .none kV47 dc47 pm47 an47 cd47 ct47), sl47⟩) (c47 : PySem.W.codeIn K cd47 "House.ring" = true) (k47 : PySem.W.keepIn K (.ref f47) = true)
    (a48 : PySem.W.findIn K (.ref ca3) "chain" = some (some (.ref f48))) (i48 : PySem.W.isFn K (.ref f48) = true) (l48 : K.lookup f48 = some ⟨oc48, od48, .func (PySem.W.fnOf "chain" "House.chain" (defArgs s_House_chain) (defBody s_House_chain) (defScope s_House_chain) .none kV48 dc48 pm48 an48 cd48 ct48), sl48⟩) (c48 : PySem.W.codeIn K cd48 "House.chain" = true) (k48 : PySem.W.keepIn K (.ref f48) = true)
    (a49 : PySem.W.findIn K (.ref ca3) "idle" = some (some (.ref f49))) (i49 : PySem.W.isFn K (.ref f49) = true) (l49 : K.lookup f49 = some ⟨oc49, od49, .func (PySem.W.fnOf "idle" "House.idle" (defArgs s_House_idle) (defBody s_House_idle) (defScope s_House_idle) .none kV49 dc49 pm49 an49 cd49 ct49), sl49⟩) (c49 : PySem.W.codeIn K cd49 "House.idle" = true) (k49 : PySem.W.keepIn K (.ref f49) = true)
    (al_chain_rings : PySem.W.nsIn K mainGlobals "chain_rings" = some (some (.ref f11)))
    (al_ring_rings : PySem.W.nsIn K mainGlobals "ring_rings" = some (some (.ref f10)))
    (pg_House : PySem.W.plainGet K ca3 Str.empty = true)
    (hd_House : PySem.W.hasDictIn K ca3 = true)
    (po_House : PySem.W.plainOver K ca3 = true)
    (sa_House : PySem.W.findIn K (.ref ca3) "__setattr__" = some (some (.builtin "object.__setattr__")))
    (mk_House : PySem.W.makesIn K ca3 = true)
    (kc_House : PySem.W.keepIn K (.ref ca3) = true)
    (n_House_count : PySem.W.findIn K (.ref ca3) "count" = some none)
    (n_House_gaps : PySem.W.findIn K (.ref ca3) "gaps" = some none)
    (z1 : PySem.W.nsIn K mainGlobals "dict" = some none)
    (z2 : PySem.W.nsIn K mainGlobals "isinstance" = some none)
    (z3 : PySem.W.nsIn K mainGlobals "len" = some none)
    (z4 : PySem.W.nsIn K mainGlobals "list" = some none)
    (z5 : PySem.W.nsIn K mainGlobals "min" = some none)
    (z6 : PySem.W.nsIn K mainGlobals "range" = some none)
    (z7 : PySem.W.nsIn K mainGlobals "str" = some none)
    (z8 : PySem.W.nsIn K mainGlobals "tuple" = some none)
    : ∃ fd : FuncData, (∀ (s : Shared) (v : Value), BindsTo s fd ⟨[v], []⟩ [("_law_script", v)]) ∧ ∀ base : Heap, K.In base → base.Ns mainGlobals mg → FnOk l.prog w K mg base CX0 9 fa fd ["_law_script"] (sp_law K) := by
  have e := hfa.symm.trans (PySem.W.mg_of X G a40)
  cases e
  let cl : Cl := ⟨ca1, ca2, ca3⟩
  have T : Txt K mg cl := ⟨PySem.W.mg_none_of X G z1, PySem.W.mg_none_of X G z2, PySem.W.mg_none_of X G z3, PySem.W.mg_none_of X G z4, PySem.W.mg_none_of X G z5, PySem.W.mg_none_of X G z6, PySem.W.mg_none_of X G z7, PySem.W.mg_none_of X G z8, PySem.W.mg_of X G g1, PySem.W.mg_of X G g2, PySem.W.mg_of X G g3, ⟨pg_House, hd_House, po_House, sa_House⟩, n_House_count, n_House_gaps⟩
  have F1 := fun_mk (st := s_bounds_of) l1 c1 k1
  have b1 := F1.binds (ps := ["gap"]) fun _ _ _ _ _ _ us hl => by obtain ⟨_, rfl⟩ := lenE1 hl; rfl
  have F2 := fun_mk (st := s_wide) l2 c2 k2
  have b2 := F2.binds (ps := ["count"]) fun _ _ _ _ _ _ us hl => by obtain ⟨_, rfl⟩ := lenE1 hl; rfl
  have F3 := fun_mk (st := s_wide_row) l3 c3 k3
  have b3 := F3.binds (ps := ["count", "a"]) fun _ _ _ _ _ _ us hl => by obtain ⟨_, _, rfl⟩ := lenE2 hl; rfl
  have F4 := fun_mk (st := s_table_of) l4 c4 k4
  have b4 := F4.binds (ps := ["count", "bounds"]) fun _ _ _ _ _ _ us hl => by obtain ⟨_, _, rfl⟩ := lenE2 hl; rfl
  have F5 := fun_mk (st := s_held) l5 c5 k5
  have b5 := F5.binds (ps := ["table", "bound"]) fun _ _ _ _ _ _ us hl => by obtain ⟨_, _, rfl⟩ := lenE2 hl; rfl
  have F6 := fun_mk (st := s_shuts) l6 c6 k6
  have b6 := F6.binds (ps := ["bound", "table"]) fun _ _ _ _ _ _ us hl => by obtain ⟨_, _, rfl⟩ := lenE2 hl; rfl
  have F7 := fun_mk (st := s_held_row) l7 c7 k7
  have b7 := F7.binds (ps := ["table", "a", "bound"]) fun _ _ _ _ _ _ us hl => by obtain ⟨_, _, _, rfl⟩ := lenE3 hl; rfl
  have F8 := fun_mk (st := s_total) l8 c8 k8
  have b8 := F8.binds (ps := ["one", "other"]) fun _ _ _ _ _ _ us hl => by obtain ⟨_, _, rfl⟩ := lenE2 hl; rfl
  have F9 := fun_mk (st := s_lesser) l9 c9 k9
  have b9 := F9.binds (ps := ["one", "other"]) fun _ _ _ _ _ _ us hl => by obtain ⟨_, _, rfl⟩ := lenE2 hl; rfl
  have F10 := fun_mk (st := s_ring) l10 c10 k10
  have b10 := F10.binds (ps := ["count", "bounds"]) fun _ _ _ _ _ _ us hl => by obtain ⟨_, _, rfl⟩ := lenE2 hl; rfl
  have F11 := fun_mk (st := s_chain) l11 c11 k11
  have b11 := F11.binds (ps := ["count", "bounds", "a", "b"]) fun _ _ _ _ _ _ us hl => by obtain ⟨_, _, _, _, rfl⟩ := lenE4 hl; rfl
  have F12 := fun_mk (st := s_search) l12 c12 k12
  have b12 := F12.binds (ps := ["count", "bounds"]) fun _ _ _ _ _ _ us hl => by obtain ⟨_, _, rfl⟩ := lenE2 hl; rfl
  have F13 := fun_mk (st := s_first_ways) l13 c13 k13
  have b13 := F13.binds (ps := ["row"]) fun _ _ _ _ _ _ us hl => by obtain ⟨_, rfl⟩ := lenE1 hl; rfl
  have F14 := fun_mk (st := s_narrowed) l14 c14 k14
  have b14 := F14.binds (ps := ["row", "other"]) fun _ _ _ _ _ _ us hl => by obtain ⟨_, _, rfl⟩ := lenE2 hl; rfl
  have F15 := fun_mk (st := s_led) l15 c15 k15
  have b15 := F15.binds (ps := ["ways", "a", "bound", "place", "changes"]) fun _ _ _ _ _ _ us hl => by obtain ⟨_, _, _, _, _, rfl⟩ := lenE5 hl; rfl
  have F16 := fun_mk (st := s_by_way) l16 c16 k16
  have b16 := F16.binds (ps := ["ways", "a", "b", "bound", "place"]) fun _ _ _ _ _ _ us hl => by obtain ⟨_, _, _, _, _, rfl⟩ := lenE5 hl; rfl
  have F17 := fun_mk (st := s_all_bounds) l17 c17 k17
  have b17 := F17.binds (ps := ["gaps"]) fun _ _ _ _ _ _ us hl => by obtain ⟨_, rfl⟩ := lenE1 hl; rfl
  have F18 := fun_mk (st := s_all_bound_names) l18 c18 k18
  have b18 := F18.binds (ps := ["gaps"]) fun _ _ _ _ _ _ us hl => by obtain ⟨_, rfl⟩ := lenE1 hl; rfl
  have F19 := fun_mk (st := s_ends_of) l19 c19 k19
  have b19 := F19.binds (ps := ["gap"]) fun _ _ _ _ _ _ us hl => by obtain ⟨_, rfl⟩ := lenE1 hl; rfl
  have F20 := fun_mk (st := s_names_at) l20 c20 k20
  have b20 := F20.binds (ps := ["gaps", "places"]) fun _ _ _ _ _ _ us hl => by obtain ⟨_, _, rfl⟩ := lenE2 hl; rfl
  have F21 := fun_mk (st := s_law_cell) l21 c21 k21
  have b21 := F21.binds (ps := ["_law_script", "_law_k"]) fun _ _ _ _ _ _ us hl => by obtain ⟨_, _, rfl⟩ := lenE2 hl; rfl
  have F22 := fun_mk (st := s_law_big) l22 c22 k22
  have b22 := F22.binds (ps := ["_law_cell_here"]) fun _ _ _ _ _ _ us hl => by obtain ⟨_, rfl⟩ := lenE1 hl; rfl
  have F23 := fun_mk (st := s_law_times) l23 c23 k23
  have b23 := F23.binds (ps := ["_law_script", "_law_at", "_law_count"]) fun _ _ _ _ _ _ us hl => by obtain ⟨_, _, _, rfl⟩ := lenE3 hl; rfl
  have F24 := fun_mk (st := s_law_bag) l24 c24 k24
  have b24 := F24.binds (ps := ["_law_script", "_law_at"]) fun _ _ _ _ _ _ us hl => by obtain ⟨_, _, rfl⟩ := lenE2 hl; rfl
  have F25 := fun_mk (st := s_law_take) l25 c25 k25
  have b25 := F25.binds (ps := ["_law_bag_here", "_law_many_here"]) fun _ _ _ _ _ _ us hl => by obtain ⟨_, _, rfl⟩ := lenE2 hl; rfl
  have F26 := fun_mk (st := s_law_many) l26 c26 k26
  have b26 := F26.binds (ps := ["_law_script", "_law_at", "_law_most"]) fun _ _ _ _ _ _ us hl => by obtain ⟨_, _, _, rfl⟩ := lenE3 hl; rfl
  have F27 := fun_mk (st := s_law_lies) l27 c27 k27
  have b27 := F27.binds (ps := ["_law_table", "_law_times_here"]) fun _ _ _ _ _ _ us hl => by obtain ⟨_, _, rfl⟩ := lenE2 hl; rfl
  have F28 := fun_mk (st := s_law_kept) l28 c28 k28
  have b28 := F28.binds (ps := ["_law_times_here", "_law_bounds"]) fun _ _ _ _ _ _ us hl => by obtain ⟨_, _, rfl⟩ := lenE2 hl; rfl
  have F29 := fun_mk (st := s_law_truth) l29 c29 k29
  have b29 := F29.binds (ps := ["_law_found", "_law_due_here"]) fun _ _ _ _ _ _ us hl => by obtain ⟨_, _, rfl⟩ := lenE2 hl; rfl
  have F30 := fun_mk (st := s_law_gap_round) l30 c30 k30
  have b30 := F30.binds (ps := ["_law_bag_here", "_law_times_here", "_law_loose"]) fun _ _ _ _ _ _ us hl => by obtain ⟨_, _, _, rfl⟩ := lenE3 hl; rfl
  have F31 := fun_mk (st := s_law_ends) l31 c31 k31
  have b31 := F31.binds (ps := ["_law_gaps"]) fun _ _ _ _ _ _ us hl => by obtain ⟨_, rfl⟩ := lenE1 hl; rfl
  have F32 := fun_mk (st := s_law_due) l32 c32 k32
  have b32 := F32.binds (ps := ["_law_count", "_law_bounds"]) fun _ _ _ _ _ _ us hl => by obtain ⟨_, _, rfl⟩ := lenE2 hl; rfl
  have F33 := fun_mk (st := s_law_deed) l33 c33 k33
  have b33 := F33.binds (ps := ["_law_house", "_law_gaps", "_law_bag_here", "_law_k", "_law_times_here"]) fun _ _ _ _ _ _ us hl => by obtain ⟨_, _, _, _, _, rfl⟩ := lenE5 hl; rfl
  have F34 := fun_mk (st := s_law_walked) l34 c34 k34
  have b34 := F34.binds (ps := ["_law_found", "_law_gaps", "_law_point"]) fun _ _ _ _ _ _ us hl => by obtain ⟨_, _, _, rfl⟩ := lenE3 hl; rfl
  have F35 := fun_mk (st := s_law_ring_good) l35 c35 k35
  have b35 := F35.binds (ps := ["_law_house", "_law_gaps"]) fun _ _ _ _ _ _ us hl => by obtain ⟨_, _, rfl⟩ := lenE2 hl; rfl
  have F36 := fun_mk (st := s_law_pair_good) l36 c36 k36
  have b36 := F36.binds (ps := ["_law_house", "_law_gaps", "_law_pair", "_law_entry", "_law_tries_here"]) fun _ _ _ _ _ _ us hl => by obtain ⟨_, _, _, _, _, rfl⟩ := lenE5 hl; rfl
  have F37 := fun_mk (st := s_law_idle_good) l37 c37 k37
  have b37 := F37.binds (ps := ["_law_house", "_law_gaps", "_law_bag_here", "_law_count"]) fun _ _ _ _ _ _ us hl => by obtain ⟨_, _, _, _, rfl⟩ := lenE4 hl; rfl
  have F38 := fun_mk (st := s_law_told) l38 c38 k38
  have b38 := F38.binds (ps := ["_law_house", "_law_gaps", "_law_bag_here", "_law_tries_here"]) fun _ _ _ _ _ _ us hl => by obtain ⟨_, _, _, _, rfl⟩ := lenE4 hl; rfl
  have F39 := fun_mk (st := s_law_tries) l39 c39 k39
  have b39 := F39.binds (ps := ["_law_times_here", "_law_bag_here"]) fun _ _ _ _ _ _ us hl => by obtain ⟨_, _, rfl⟩ := lenE2 hl; rfl
  have F40 := fun_mk (st := s_law) l40 c40 k40
  have F41 := fun_mk (st := s_House___init__) l41 c41 k41
  have b41 := F41.binds (ps := ["self", "count"]) fun _ _ _ _ _ _ us hl => by obtain ⟨_, _, rfl⟩ := lenE2 hl; rfl
  have F42 := fun_mkD (st := s_House_add) l42 c42 k42
  have b42 := F42.bindsT (ps := ["self", "name", "a", "b", "low", "high"]) t42 rfl rfl fun us hl => by obtain ⟨_, _, _, _, _, _, rfl⟩ := lenE6 hl; exact ⟨_, rfl, rfl⟩
  have F43 := fun_mk (st := s_House_drop) l43 c43 k43
  have b43 := F43.binds (ps := ["self", "name"]) fun _ _ _ _ _ _ us hl => by obtain ⟨_, _, rfl⟩ := lenE2 hl; rfl
  have F44 := fun_mk (st := s_House_need) l44 c44 k44
  have b44 := F44.binds (ps := ["self", "name"]) fun _ _ _ _ _ _ us hl => by obtain ⟨_, _, rfl⟩ := lenE2 hl; rfl
  have F45 := fun_mk (st := s_House_names) l45 c45 k45
  have b45 := F45.binds (ps := ["self"]) fun _ _ _ _ _ _ us hl => by obtain ⟨_, rfl⟩ := lenE1 hl; rfl
  have F46 := fun_mk (st := s_House_table) l46 c46 k46
  have b46 := F46.binds (ps := ["self"]) fun _ _ _ _ _ _ us hl => by obtain ⟨_, rfl⟩ := lenE1 hl; rfl
  have F47 := fun_mk (st := s_House_ring) l47 c47 k47
  have b47 := F47.binds (ps := ["self"]) fun _ _ _ _ _ _ us hl => by obtain ⟨_, rfl⟩ := lenE1 hl; rfl
  have F48 := fun_mk (st := s_House_chain) l48 c48 k48
  have b48 := F48.binds (ps := ["self", "a", "b"]) fun _ _ _ _ _ _ us hl => by obtain ⟨_, _, _, rfl⟩ := lenE3 hl; rfl
  have F49 := fun_mk (st := s_House_idle) l49 c49 k49
  have b49 := F49.binds (ps := ["self", "name"]) fun _ _ _ _ _ _ us hl => by obtain ⟨_, _, rfl⟩ := lenE2 hl; rfl
  refine ⟨PySem.W.fnOf "law" "law" (defArgs s_law) (defBody s_law) (defScope s_law) .none kV40 dc40 pm40 an40 cd40 ct40, fun s v => .of_eq rfl, fun base _ _ => ?_⟩
  have C_bounds_of : Cal l.prog w K mg base 1 "bounds_of" ["gap"] (sp_bounds_of K) := ⟨f1, _, ok_bounds_of F1 T , b1, k1, PySem.W.mg_of X G a1⟩
  have C_wide_row : Cal l.prog w K mg base 1 "wide_row" ["count", "a"] (sp_wide_row K) := ⟨f3, _, ok_wide_row F3 T , b3, k3, PySem.W.mg_of X G a3⟩
  have C_shuts : Cal l.prog w K mg base 1 "shuts" ["bound", "table"] (sp_shuts K) := ⟨f6, _, ok_shuts F6 T , b6, k6, PySem.W.mg_of X G a6⟩
  have C_total : Cal l.prog w K mg base 1 "total" ["one", "other"] (sp_total K) := ⟨f8, _, ok_total F8 T , b8, k8, PySem.W.mg_of X G a8⟩
  have C_lesser : Cal l.prog w K mg base 1 "lesser" ["one", "other"] (sp_lesser K) := ⟨f9, _, ok_lesser F9 T , b9, k9, PySem.W.mg_of X G a9⟩
  have C_first_ways : Cal l.prog w K mg base 1 "first_ways" ["row"] (sp_first_ways K) := ⟨f13, _, ok_first_ways F13 T , b13, k13, PySem.W.mg_of X G a13⟩
  have C_narrowed : Cal l.prog w K mg base 1 "narrowed" ["row", "other"] (sp_narrowed K) := ⟨f14, _, ok_narrowed F14 T , b14, k14, PySem.W.mg_of X G a14⟩
  have C_by_way : Cal l.prog w K mg base 1 "by_way" ["ways", "a", "b", "bound", "place"] (sp_by_way K) := ⟨f16, _, ok_by_way F16 T , b16, k16, PySem.W.mg_of X G a16⟩
  have C_all_bounds : Cal l.prog w K mg base 2 "all_bounds" ["gaps"] (sp_all_bounds K) := ⟨f17, _, ok_all_bounds F17 T C_bounds_of, b17, k17, PySem.W.mg_of X G a17⟩
  have C_ends_of : Cal l.prog w K mg base 1 "ends_of" ["gap"] (sp_ends_of K) := ⟨f19, _, ok_ends_of F19 T , b19, k19, PySem.W.mg_of X G a19⟩
  have C_law_cell : Cal l.prog w K mg base 1 "_law_cell" ["_law_script", "_law_k"] (sp_law_cell K) := ⟨f21, _, ok_law_cell F21 T , b21, k21, PySem.W.mg_of X G a21⟩
  have C_law_big : Cal l.prog w K mg base 1 "_law_big" ["_law_cell_here"] (sp_law_big K) := ⟨f22, _, ok_law_big F22 T , b22, k22, PySem.W.mg_of X G a22⟩
  have C_law_times : Cal l.prog w K mg base 2 "_law_times" ["_law_script", "_law_at", "_law_count"] (sp_law_times K) := ⟨f23, _, ok_law_times F23 T C_law_cell C_law_big, b23, k23, PySem.W.mg_of X G a23⟩
  have C_law_bag : Cal l.prog w K mg base 2 "_law_bag" ["_law_script", "_law_at"] (sp_law_bag K) := ⟨f24, _, ok_law_bag F24 T C_law_cell, b24, k24, PySem.W.mg_of X G a24⟩
  have C_law_take : Cal l.prog w K mg base 1 "_law_take" ["_law_bag_here", "_law_many_here"] (sp_law_take K) := ⟨f25, _, ok_law_take F25 T , b25, k25, PySem.W.mg_of X G a25⟩
  have C_law_many : Cal l.prog w K mg base 2 "_law_many" ["_law_script", "_law_at", "_law_most"] (sp_law_many K) := ⟨f26, _, ok_law_many F26 T C_law_cell, b26, k26, PySem.W.mg_of X G a26⟩
  have C_law_lies : Cal l.prog w K mg base 1 "_law_lies" ["_law_table", "_law_times_here"] (sp_law_lies K) := ⟨f27, _, ok_law_lies F27 T , b27, k27, PySem.W.mg_of X G a27⟩
  have C_law_kept : Cal l.prog w K mg base 1 "_law_kept" ["_law_times_here", "_law_bounds"] (sp_law_kept K) := ⟨f28, _, ok_law_kept F28 T , b28, k28, PySem.W.mg_of X G a28⟩
  have C_law_truth : Cal l.prog w K mg base 1 "_law_truth" ["_law_found", "_law_due_here"] (sp_law_truth K) := ⟨f29, _, ok_law_truth F29 T , b29, k29, PySem.W.mg_of X G a29⟩
  have C_law_gap_round : Cal l.prog w K mg base 2 "_law_gap_round" ["_law_bag_here", "_law_times_here", "_law_loose"] (sp_law_gap_round K) := ⟨f30, _, ok_law_gap_round F30 T C_law_take, b30, k30, PySem.W.mg_of X G a30⟩
  have C_law_ends : Cal l.prog w K mg base 1 "_law_ends" ["_law_gaps"] (sp_law_ends K) := ⟨f31, _, ok_law_ends F31 T , b31, k31, PySem.W.mg_of X G a31⟩
  have C_law_due : Cal l.prog w K mg base 1 "_law_due" ["_law_count", "_law_bounds"] (sp_law_due K) := ⟨f32, _, ok_law_due F32 T , b32, k32, PySem.W.mg_of X G a32⟩
  have C_law_walked : Cal l.prog w K mg base 2 "_law_walked" ["_law_found", "_law_gaps", "_law_point"] (sp_law_walked K) := ⟨f34, _, ok_law_walked F34 T C_law_ends, b34, k34, PySem.W.mg_of X G a34⟩
  have C_law_tries : Cal l.prog w K mg base 2 "_law_tries" ["_law_times_here", "_law_bag_here"] (sp_law_tries K) := ⟨f39, _, ok_law_tries F39 T C_law_take, b39, k39, PySem.W.mg_of X G a39⟩
  have MK_House : MkCal l.prog w K mg base cl.House 1 "House" ["self", "count"] (sp_House___init__ K cl) := ⟨f41, _, ok_House___init__ F41 T , b41, ⟨mk_House, a41, i41, kc_House⟩, T.g_House⟩
  have M_House_add : MCal l.prog w K mg base cl.House 1 "add" ["self", "name", "a", "b", "low", "high"] (sp_House_add K cl) := ⟨f42, _, ok_House_add F42 T , b42, ⟨a42, i42, k42⟩⟩
  have M_House_need : MCal l.prog w K mg base cl.House 1 "need" ["self", "name"] (sp_House_need K cl) := ⟨f44, _, ok_House_need F44 T , b44, ⟨a44, i44, k44⟩⟩
  have M_House_names : MCal l.prog w K mg base cl.House 1 "names" ["self"] (sp_House_names K cl) := ⟨f45, _, ok_House_names F45 T , b45, ⟨a45, i45, k45⟩⟩
  have C_wide : Cal l.prog w K mg base 2 "wide" ["count"] (sp_wide K) := ⟨f2, _, ok_wide F2 T C_wide_row, b2, k2, PySem.W.mg_of X G a2⟩
  have C_held_row : Cal l.prog w K mg base 2 "held_row" ["table", "a", "bound"] (sp_held_row K) := ⟨f7, _, ok_held_row F7 T C_total C_lesser, b7, k7, PySem.W.mg_of X G a7⟩
  have C_led : Cal l.prog w K mg base 2 "led" ["ways", "a", "bound", "place", "changes"] (sp_led K) := ⟨f15, _, ok_led F15 T C_by_way, b15, k15, PySem.W.mg_of X G a15⟩
  have C_all_bound_names : Cal l.prog w K mg base 2 "all_bound_names" ["gaps"] (sp_all_bound_names K) := ⟨f18, _, ok_all_bound_names F18 T C_ends_of, b18, k18, PySem.W.mg_of X G a18⟩
  have C_names_at : Cal l.prog w K mg base 3 "names_at" ["gaps", "places"] (sp_names_at K) := ⟨f20, _, ok_names_at F20 T C_all_bound_names, b20, k20, PySem.W.mg_of X G a20⟩
  have M_House_drop : MCal l.prog w K mg base cl.House 2 "drop" ["self", "name"] (sp_House_drop K cl) := ⟨f43, _, ok_House_drop F43 T M_House_need, b43, ⟨a43, i43, k43⟩⟩
  have C_held : Cal l.prog w K mg base 3 "held" ["table", "bound"] (sp_held K) := ⟨f5, _, ok_held F5 T C_shuts C_held_row, b5, k5, PySem.W.mg_of X G a5⟩
  have C_search : Cal l.prog w K mg base 4 "search" ["count", "bounds"] (sp_search K) := ⟨f12, _, ok_search F12 T C_wide C_held C_first_ways C_narrowed C_led, b12, k12, PySem.W.mg_of X G a12⟩
  have C_law_deed : Cal l.prog w K mg base 3 "_law_deed" ["_law_house", "_law_gaps", "_law_bag_here", "_law_k", "_law_times_here"] (sp_law_deed K cl) := ⟨f33, _, ok_law_deed F33 T C_law_take C_law_gap_round M_House_add M_House_drop, b33, k33, PySem.W.mg_of X G a33⟩
  have C_table_of : Cal l.prog w K mg base 4 "table_of" ["count", "bounds"] (sp_table_of K) := ⟨f4, _, ok_table_of F4 T C_wide C_held, b4, k4, PySem.W.mg_of X G a4⟩
  have C_ring : Cal l.prog w K mg base 5 "ring" ["count", "bounds"] (sp_ring K) := ⟨f10, _, ok_ring F10 T C_search, b10, k10, PySem.W.mg_of X G a10⟩
  have C_ring_rings : Cal l.prog w K mg base 5 "ring_rings" ["count", "bounds"] (sp_ring K) := ⟨f10, _, ok_ring F10 T C_search, b10, k10, PySem.W.mg_of X G al_ring_rings⟩
  have C_chain : Cal l.prog w K mg base 5 "chain" ["count", "bounds", "a", "b"] (sp_chain K) := ⟨f11, _, ok_chain F11 T C_search, b11, k11, PySem.W.mg_of X G a11⟩
  have C_chain_rings : Cal l.prog w K mg base 5 "chain_rings" ["count", "bounds", "a", "b"] (sp_chain K) := ⟨f11, _, ok_chain F11 T C_search, b11, k11, PySem.W.mg_of X G al_chain_rings⟩
  have M_House_table : MCal l.prog w K mg base cl.House 5 "table" ["self"] (sp_House_table K cl) := ⟨f46, _, ok_House_table F46 T C_table_of C_all_bounds, b46, ⟨a46, i46, k46⟩⟩
  have M_House_ring : MCal l.prog w K mg base cl.House 6 "ring" ["self"] (sp_House_ring K cl) := ⟨f47, _, ok_House_ring F47 T C_ring_rings C_all_bounds C_names_at, b47, ⟨a47, i47, k47⟩⟩
  have M_House_chain : MCal l.prog w K mg base cl.House 6 "chain" ["self", "a", "b"] (sp_House_chain K cl) := ⟨f48, _, ok_House_chain F48 T C_chain_rings C_all_bounds C_names_at, b48, ⟨a48, i48, k48⟩⟩
  have M_House_idle : MCal l.prog w K mg base cl.House 6 "idle" ["self", "name"] (sp_House_idle K cl) := ⟨f49, _, ok_House_idle F49 T C_table_of C_all_bounds M_House_need M_House_table, b49, ⟨a49, i49, k49⟩⟩
  have C_law_ring_good : Cal l.prog w K mg base 7 "_law_ring_good" ["_law_house", "_law_gaps"] (sp_law_ring_good K cl) := ⟨f35, _, ok_law_ring_good F35 T C_law_ends C_law_walked M_House_ring, b35, k35, PySem.W.mg_of X G a35⟩
  have C_law_pair_good : Cal l.prog w K mg base 7 "_law_pair_good" ["_law_house", "_law_gaps", "_law_pair", "_law_entry", "_law_tries_here"] (sp_law_pair_good K cl) := ⟨f36, _, ok_law_pair_good F36 T C_law_kept C_law_ends C_law_walked M_House_chain, b36, k36, PySem.W.mg_of X G a36⟩
  have C_law_idle_good : Cal l.prog w K mg base 7 "_law_idle_good" ["_law_house", "_law_gaps", "_law_bag_here", "_law_count"] (sp_law_idle_good K cl) := ⟨f37, _, ok_law_idle_good F37 T C_law_take C_law_truth C_law_ends C_law_due M_House_idle, b37, k37, PySem.W.mg_of X G a37⟩
  have C_law_told : Cal l.prog w K mg base 8 "_law_told" ["_law_house", "_law_gaps", "_law_bag_here", "_law_tries_here"] (sp_law_told K cl) := ⟨f38, _, ok_law_told F38 T C_law_take C_law_lies C_law_kept C_law_ends C_law_ring_good C_law_pair_good C_law_idle_good M_House_table, b38, k38, PySem.W.mg_of X G a38⟩
  exact ok_law F40 T C_law_cell C_law_times C_law_bag C_law_take C_law_many C_law_deed C_law_told C_law_tries MK_House M_House_names
theorem walk {l : PySem.W.OpenLaw} {q : Program} {loose : List Str} {XP : (Str → Option Value) → Heap → Prop} {YP : World → Heap → Prop} {d : DefRec} {K : Params → PySem.W.Frag} (hn : l.most = some 63) (hdf : d.params.defaults = [])
    (hY : ∀ (w : World) (h : Heap), YP w h → (K w.params).In h)
    (F : ∀ (w : World) (mg : Str → Option Value) (fa : Addr) (h : Heap), (K w.params).In h → h.Ns mainGlobals mg → mg d.name = some (.ref fa) →
      ∃ fd : FuncData, (∀ (s : Shared) (u : Value), BindsTo s fd ⟨[u], []⟩ [("_law_script", u)]) ∧ ∀ base : Heap, (K w.params).In base → base.Ns mainGlobals mg → FnOk l.prog w (K w.params) mg base CX0 9 fa fd ["_law_script"] (sp_law (K w.params))) :
    PySem.W.WalkO q loose XP YP l.row.toRowW d [] (fun f vs => PySem.call f vs) :=
  L2.walk_of (n := 63) (k := 9) (x := "_law_script") (CX := fun _ => CX0) (sp := fun w => sp_law (K w.params)) hn (by decide) hdf ⟨rfl, by decide, by decide⟩ hY F (fun _ _ a ns hl _ hS => ⟨a, ns, rfl, hS, hl, fun _ => rfl⟩) fun _ _ _ _ _ z => z
end Toy
open PySem PySem.W PyProof.Rows
set_option maxRecDepth 100000 in
set_option maxHeartbeats 0 in
theorem PySem.Challenge.cw_waithouse_k31_whole_houses_holds : PySem.Challenge.rw_waithouse_k31_whole_houses.Holds := by
  w_on; o_law
  refine holds_open (q := Hd.QV) (loose := ["ring_rings", "chain_rings"]) (Xt := fun s => xlAt Hd.QV [] s && recOk (RowW.records (OpenRow.toRowW (OpenLaw.row PySem.Challenge.rw_waithouse_k31_whole_houses))) s) (XP := XL Hd.QV []) (Yf := Hook.obs (kHook Hd.KF Hd.KA Hd.KA_eq)) (Ya := Hook.val (kHook Hd.KF Hd.KA Hd.KA_eq)) (YP := Hook.says (kHook Hd.KF Hd.KA Hd.KA_eq)) (N := 4582) Hd.left (Hook.of (kHook Hd.KF Hd.KA Hd.KA_eq)) (Hook.keeps (kHook Hd.KF Hd.KA Hd.KA_eq)) (fun s e => xl_of s (Bool.and_eq_true_iff.mp e).1) XL.keeps (by rfl) (by rfl) (by rfl) (fun s e => recFacts_of (Bool.and_eq_true_iff.mp e).2) (by rfl) (by first | assumption | decide +kernel) (by decide +kernel) ⟨rfl, rfl, rfl, rfl, rfl, by decide +kernel⟩ ?hw ?hc
  case hw => w_witness2
  k_fill
  refine Toy.walk (l := PySem.Challenge.rw_waithouse_k31_whole_houses) rfl rfl (fun w h Y => PySem.W.kIn_of Y) ?F
  case F =>
    intro w mg fa h KX G hmg
    refine' Toy.all_mk KX G hmg ?g1 ?g2 ?g3 ?a1 ?l1 ?c1 ?k1 ?a2 ?l2 ?c2 ?k2 ?a3 ?l3 ?c3 ?k3 ?a4 ?l4 ?c4 ?k4 ?a5 ?l5 ?c5 ?k5 ?a6 ?l6 ?c6 ?k6 ?a7 ?l7 ?c7 ?k7 ?a8 ?l8 ?c8 ?k8 ?a9 ?l9 ?c9 ?k9 ?a10 ?l10 ?c10 ?k10 ?a11 ?l11 ?c11 ?k11 ?a12 ?l12 ?c12 ?k12 ?a13 ?l13 ?c13 ?k13 ?a14 ?l14 ?c14 ?k14 ?a15 ?l15 ?c15 ?k15 ?a16 ?l16 ?c16 ?k16 ?a17 ?l17 ?c17 ?k17 ?a18 ?l18 ?c18 ?k18 ?a19 ?l19 ?c19 ?k19 ?a20 ?l20 ?c20 ?k20 ?a21 ?l21 ?c21 ?k21 ?a22 ?l22 ?c22 ?k22 ?a23 ?l23 ?c23 ?k23 ?a24 ?l24 ?c24 ?k24 ?a25 ?l25 ?c25 ?k25 ?a26 ?l26 ?c26 ?k26 ?a27 ?l27 ?c27 ?k27 ?a28 ?l28 ?c28 ?k28 ?a29 ?l29 ?c29 ?k29 ?a30 ?l30 ?c30 ?k30 ?a31 ?l31 ?c31 ?k31 ?a32 ?l32 ?c32 ?k32 ?a33 ?l33 ?c33 ?k33 ?a34 ?l34 ?c34 ?k34 ?a35 ?l35 ?c35 ?k35 ?a36 ?l36 ?c36 ?k36 ?a37 ?l37 ?c37 ?k37 ?a38 ?l38 ?c38 ?k38 ?a39 ?l39 ?c39 ?k39 ?a40 ?l40 ?c40 ?k40 ?a41 ?i41 ?l41 ?c41 ?k41 ?a42 ?i42 ?l42 ?c42 ?k42 ?t42 ?a43 ?i43 ?l43 ?c43 ?k43 ?a44 ?i44 ?l44 ?c44 ?k44 ?a45 ?i45 ?l45 ?c45 ?k45 ?a46 ?i46 ?l46 ?c46 ?k46 ?a47 ?i47 ?l47 ?c47 ?k47 ?a48 ?i48 ?l48 ?c48 ?k48 ?a49 ?i49 ?l49 ?c49 ?k49 ?al_chain_rings ?al_ring_rings ?pg_House ?hd_House ?po_House ?sa_House ?mk_House ?kc_House ?n_House_count ?n_House_gaps ?z1 ?z2 ?z3 ?z4 ?z5 ?z6 ?z7 ?z8
    (case g1 => k_is)
    (case g2 => k_is)
    (case g3 => k_is)
    (case a1 => k_is)
    (case l1 => k_is)
    (case c1 => k_is)
    (case k1 => k_is)
    (case a2 => k_is)
    (case l2 => k_is)
    (case c2 => k_is)
    (case k2 => k_is)
    (case a3 => k_is)
    (case l3 => k_is)
    (case c3 => k_is)
    (case k3 => k_is)
    (case a4 => k_is)
    (case l4 => k_is)
    (case c4 => k_is)
    (case k4 => k_is)
    (case a5 => k_is)
    (case l5 => k_is)
    (case c5 => k_is)
    (case k5 => k_is)
    (case a6 => k_is)
    (case l6 => k_is)
    (case c6 => k_is)
    (case k6 => k_is)
    (case a7 => k_is)
    (case l7 => k_is)
    (case c7 => k_is)
    (case k7 => k_is)
    (case a8 => k_is)
    (case l8 => k_is)
    (case c8 => k_is)
    (case k8 => k_is)
    (case a9 => k_is)
    (case l9 => k_is)
    (case c9 => k_is)
    (case k9 => k_is)
    (case a10 => k_is)
    (case l10 => k_is)
    (case c10 => k_is)
    (case k10 => k_is)
    (case a11 => k_is)
    (case l11 => k_is)
    (case c11 => k_is)
    (case k11 => k_is)
    (case a12 => k_is)
    (case l12 => k_is)
    (case c12 => k_is)
    (case k12 => k_is)
    (case a13 => k_is)
    (case l13 => k_is)
    (case c13 => k_is)
    (case k13 => k_is)
    (case a14 => k_is)
    (case l14 => k_is)
    (case c14 => k_is)
    (case k14 => k_is)
    (case a15 => k_is)
    (case l15 => k_is)
    (case c15 => k_is)
    (case k15 => k_is)
    (case a16 => k_is)
    (case l16 => k_is)
    (case c16 => k_is)
    (case k16 => k_is)
    (case a17 => k_is)
    (case l17 => k_is)
    (case c17 => k_is)
    (case k17 => k_is)
    (case a18 => k_is)
    (case l18 => k_is)
    (case c18 => k_is)
    (case k18 => k_is)
    (case a19 => k_is)
    (case l19 => k_is)
    (case c19 => k_is)
    (case k19 => k_is)
    (case a20 => k_is)
    (case l20 => k_is)
    (case c20 => k_is)
    (case k20 => k_is)
    (case a21 => k_is)
    (case l21 => k_is)
    (case c21 => k_is)
    (case k21 => k_is)
    (case a22 => k_is)
    (case l22 => k_is)
    (case c22 => k_is)
    (case k22 => k_is)
    (case a23 => k_is)
    (case l23 => k_is)
    (case c23 => k_is)
    (case k23 => k_is)
    (case a24 => k_is)
    (case l24 => k_is)
    (case c24 => k_is)
    (case k24 => k_is)
    (case a25 => k_is)
    (case l25 => k_is)
    (case c25 => k_is)
    (case k25 => k_is)
    (case a26 => k_is)
    (case l26 => k_is)
    (case c26 => k_is)
    (case k26 => k_is)
    (case a27 => k_is)
    (case l27 => k_is)
    (case c27 => k_is)
    (case k27 => k_is)
    (case a28 => k_is)
    (case l28 => k_is)
    (case c28 => k_is)
    (case k28 => k_is)
    (case a29 => k_is)
    (case l29 => k_is)
    (case c29 => k_is)
    (case k29 => k_is)
    (case a30 => k_is)
    (case l30 => k_is)
    (case c30 => k_is)
    (case k30 => k_is)
    (case a31 => k_is)
    (case l31 => k_is)
    (case c31 => k_is)
    (case k31 => k_is)
    (case a32 => k_is)
    (case l32 => k_is)
    (case c32 => k_is)
    (case k32 => k_is)
    (case a33 => k_is)
    (case l33 => k_is)
    (case c33 => k_is)
    (case k33 => k_is)
    (case a34 => k_is)
    (case l34 => k_is)
    (case c34 => k_is)
    (case k34 => k_is)
    (case a35 => k_is)
    (case l35 => k_is)
    (case c35 => k_is)
    (case k35 => k_is)
    (case a36 => k_is)
    (case l36 => k_is)
    (case c36 => k_is)
    (case k36 => k_is)
    (case a37 => k_is)
    (case l37 => k_is)
    (case c37 => k_is)
    (case k37 => k_is)
    (case a38 => k_is)
    (case l38 => k_is)
    (case c38 => k_is)
    (case k38 => k_is)
    (case a39 => k_is)
    (case l39 => k_is)
    (case c39 => k_is)
    (case k39 => k_is)
    (case a40 => k_is)
    (case l40 => k_is)
    (case c40 => k_is)
    (case k40 => k_is)
    (case a41 => k_is)
    (case i41 => k_is)
    (case l41 => k_is)
    (case c41 => k_is)
    (case k41 => k_is)
    (case a42 => k_is)
    (case i42 => k_is)
    (case l42 => k_is)
    (case c42 => k_is)
    (case k42 => k_is)
    (case t42 => k_is)
    (case a43 => k_is)
    (case i43 => k_is)
    (case l43 => k_is)
    (case c43 => k_is)
    (case k43 => k_is)
    (case a44 => k_is)
    (case i44 => k_is)
    (case l44 => k_is)
    (case c44 => k_is)
    (case k44 => k_is)
    (case a45 => k_is)
    (case i45 => k_is)
    (case l45 => k_is)
    (case c45 => k_is)
    (case k45 => k_is)
    (case a46 => k_is)
    (case i46 => k_is)
    (case l46 => k_is)
    (case c46 => k_is)
    (case k46 => k_is)
    (case a47 => k_is)
    (case i47 => k_is)
    (case l47 => k_is)
    (case c47 => k_is)
    (case k47 => k_is)
    (case a48 => k_is)
    (case i48 => k_is)
    (case l48 => k_is)
    (case c48 => k_is)
    (case k48 => k_is)
    (case a49 => k_is)
    (case i49 => k_is)
    (case l49 => k_is)
    (case c49 => k_is)
    (case k49 => k_is)
    (case al_chain_rings => k_is)
    (case al_ring_rings => k_is)
    (case pg_House => k_is)
    (case hd_House => k_is)
    (case po_House => k_is)
    (case sa_House => k_is)
    (case mk_House => k_is)
    (case kc_House => k_is)
    (case n_House_count => k_is)
    (case n_House_gaps => k_is)
    (case z1 => k_is)
    (case z2 => k_is)
    (case z3 => k_is)
    (case z4 => k_is)
    (case z5 => k_is)
    (case z6 => k_is)
    (case z7 => k_is)
    (case z8 => k_is)

