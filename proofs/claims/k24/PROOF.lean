import PyProof.Rows.All
import Wide.All
import OpenK.AllK
import Wide.FinOn
import KE.KStateDown
import Lean
import HandS.Head0
import HandS.Head1
import HandS.Head2
import HandS.Head3
import HandS.HeadEnd
import HandS.HeadHook1
import HandS.HeadHook2
import HandS.Star
import HandS.Words
import HandS.ForMost
import HandS.Wide
import HandS.WideBits
import HandS.Gcd
import HandS.Defaults
import HandS.Property
import HandS.OwnEq
import HandS.IsInst
import HandS.FStr
import HandS.StrMore
import HandS.RaiseMore
import HandS.EndBits
import HandS.MakeKw
import HandS.ClsMeth
import PyProof.ReprNest
import PyProof.ReprHeads
import PyProof.ReprHeadsEmpty
import PyProof.ReprHeadsTuple
import KE.KFmtOwn
import KE.KCallOwn
import KE.KIsAll
import HandS.SlotsOwn
import PyProof.InstEq
import PyProof.InstNe
import HandS.MakeKwOnly
import HandS.Deep
import KE.KOpsOwn
import HandS.Iter
import KE.GoesMore
import HandS.Style
import HandS.TupAny
import HandS.TupLe
import HandS.Text
import HandS.Comp
import HandS.RevRange
import HandS.RevTup
import HandS.Sort
import HandS.Walk
import HandS.Strs
import HandS.Zip
import PyProof.EqAt
import PySem.Challenge.RW_movecells_k24_what_is_a_name
set_option Elab.async false
set_option Elab.async false
set_option linter.all false
set_option maxRecDepth 100000
set_option maxHeartbeats 4000000
namespace Mc
open PySem PySem.Spec PyProof.Rows L2
open PySem.W (Frag)
/-- a def by a path: where it stands, its names, its statement, its defaults -/
structure DefP where
  at_ : Frag → Addr
  name : Str
  qual : Str
  st : Stmt
  dfl : List V := []
def DefP.val (d : DefP) : He.FnW := some (d.name, d.qual, defArgs d.st, .stmts (defBody d.st), defScope d.st, mainGlobals, [], builtinsNs)
def fnAt (K : Frag) (a : Addr) : He.FnW := match K.lookup a with
  | some ⟨_, _, .func fd, _⟩ => some (fd.name, fd.qualname, fd.params, fd.body, fd.scope, fd.globals, fd.closure, fd.builtins)
  | _ => none
def DefP.ok (K : Frag) (d : DefP) : Bool := PySem.W.keepIn K (.ref (d.at_ K)) && (match K.lookup (d.at_ K) with
  | some ⟨_, _, .func fd, _⟩ => PySem.W.codeIn K fd.code d.qual && He.dflB K fd.defaults d.dfl
  | _ => false)
abbrev AlP : Type := Bool × List He.FnW
def obsP (fs : List (Frag → Bool)) (ds : List DefP) (K : Frag) : AlP := ((fs.all fun f => f K) && ds.all fun d => d.ok K, ds.map fun d => fnAt K (d.at_ K))
def valP (ds : List DefP) : AlP := (true, ds.map DefP.val)
def SaysP (fs : List (Frag → Bool)) (ds : List DefP) (K : Frag) : Prop := obsP fs ds K = valP ds
open He (ga ma eqO eqO_ok ba)
/-- a global def; a class's method; the getter of a property, the def of a static method (T: "property", "staticmethod") -/
def gAt (x : Str) (K : Frag) : Addr := ga K x
def mAt (c m : Str) (K : Frag) : Addr := ma K (ga K c) m
def wAt (T : String) (c m : Str) (K : Frag) : Addr := match PySem.W.recIn K (ma K (ga K c) m) T with
  | some (.ref a :: _) => a
  | _ => 0
def gloB (x : Str) (K : Frag) : Bool := eqO (PySem.W.nsIn K mainGlobals x) (some (some (.ref (ga K x))))
def blB (x : Str) (id : String) (K : Frag) : Bool := eqO (PySem.W.nsIn K mainGlobals x) (some (some (.builtin id)))
def freeB (x : Str) (K : Frag) : Bool := eqO (PySem.W.nsIn K mainGlobals x) (some none)
def intB (x : Str) (i : Int) (K : Frag) : Bool := (match PySem.W.nsIn K mainGlobals x with
  | some (some (.int j _)) => decide (j = i)
  | _ => false)
def clsB (c : Str) (K : Frag) : Bool := PySem.W.plainGet K (ga K c) Str.empty && (PySem.W.hasDictIn K (ga K c) && (PySem.W.plainOver K (ga K c) && eqO (PySem.W.findIn K (.ref (ga K c)) "__setattr__") (some (some (.builtin "object.__setattr__")))))
def noatB (c f : Str) (K : Frag) : Bool := eqO (PySem.W.findIn K (.ref (ga K c)) f) (some none)
def metB (c m : Str) (K : Frag) : Bool := eqO (PySem.W.findIn K (.ref (ga K c)) m) (some (some (.ref (mAt c m K)))) && (PySem.W.isFn K (.ref (mAt c m K)) && PySem.W.keepIn K (.ref (mAt c m K)))
def mkB (c : Str) (K : Frag) : Bool := PySem.W.makesIn K (ga K c) && (eqO (PySem.W.findIn K (.ref (ga K c)) "__init__") (some (some (.ref (mAt c "__init__" K)))) && (PySem.W.isFn K (.ref (mAt c "__init__" K)) && PySem.W.keepIn K (.ref (ga K c))))
def prpB (c m : Str) (K : Frag) : Bool := eqO (PySem.W.findIn K (.ref (ga K c)) m) (some (some (.ref (mAt c m K)))) && (eqO (PySem.W.specialIn K (.ref (mAt c m K)) "__get__") (some (some (.builtin "property.__get__"))) && (decide (PySem.W.takesIn K (.ref (mAt c m K)) = some true) && (match PySem.W.recIn K (mAt c m K) "property" with
  | some (.ref _ :: _) => true
  | _ => false)))
def ownOB (c : Str) (nm : String) (K : Frag) : Bool := (eqO (PySem.W.findIn K (.ref (ga K c)) (PySem.dunder nm)) (some (some (.ref (mAt c (PySem.dunder nm) K)))) && PySem.W.isFn K (.ref (mAt c (PySem.dunder nm) K))) && (PySem.W.selfFirst K (ga K c) && ((match PySem.W.findIn K (.ref (ga K c)) (dunderR nm) with
  | some (some (.ref _)) => true
  | _ => false) && ((PySem.W.findIn K (.type "int") (PySem.dunder nm)).isSome && ((PySem.W.findIn K (.type "int") (dunderR nm)).isSome && decide (PySem.W.subIn K (.type "int") (.ref (ga K c)) = some false)))))
def tupPB (x : Str) (vs : List V) (K : Frag) : Bool := match K.lookup (ga K x) with
  | some ⟨.type c, none, .seq its _, _⟩ => decide (c = "tuple") && (decide (its.size ≤ sizeLine) && He.relAll vs its.toList)
  | _ => false
def cvB (c f : Str) (i : Int) (K : Frag) : Bool := match PySem.W.findCls K (.ref (ga K c)) (.type "type") f with
  | some (.val u) => He.relB (.int i) u
  | _ => false
def crdB (c : Str) (K : Frag) : Bool := PySem.W.readsIn K (ga K c) (.type "type") && eqO (PySem.W.specialIn K (.ref (ga K c)) "__getattribute__") (some (some (.builtin "type.__getattribute__")))
/-- what the top leaves of the built-in names -/
def callB (c : Str) (K : Frag) : Bool := eqO (PySem.W.findIn K (.ref (ga K c)) "__call__") (some (some (.ref (mAt c "__call__" K)))) && (PySem.W.isFn K (.ref (mAt c "__call__" K)) && PySem.W.fnIn K (mAt c "__call__" K))
def tbNames : List Str := ["len", "abs", "max", "min", "int", "str", "bool", "divmod", "range", "all", "any", "repr", "isinstance", "list", "tuple", "enumerate", "zip"]
def tbB (K : Frag) : Bool := tbNames.all fun x => freeB x K
/-- what stands at the addresses that are named -/
def obsL (as : List Addr) (fs : List (Frag → Bool)) (ds : List DefP) (g : Addr → Option Obj) : AlP := obsP fs ds (He.frG g as)
def hookL (as : List Addr) (fs : List (Frag → Bool)) (ds : List DefP) : PySem.W.Hook where
  α := AlP
  obs := fun s => obsL as fs ds s.heap.get?
  val := fun _ => valP ds
  says := fun _ h => ∃ K : Frag, K.In h ∧ SaysP fs ds K
  of := fun _ _ e => ⟨_, He.frG_in, e⟩
  keeps := fun _ _ _ ⟨K, hK, c⟩ k => ⟨K, PySem.W.Frag.In.keeps hK k, c⟩
theorem obsL_eq {as : List Addr} {fs : List (Frag → Bool)} {ds : List DefP} {g : Addr → Option Obj} {s : Shared} (h : ∀ a, g a = s.heap.get? a) : obsL as fs ds g = (hookL as fs ds).obs s := by
  have e : g = s.heap.get? := funext h
  rw [e] <;> rfl
/-- the run, seen by f -/
def RunO {β : Type} (p : Program) (M : Nat) (f : PySem.W.SharedT → β) (b : β) (w : World) : Prop := (HandSHeadRun.wholeF (fun p => HandSHeadRun.stepQ (HandSHeadRun.denQ HandSHeadRun.tabQ) p w) HandSHeadRun.fenceQ M p).map (fun x => f x.2) = some b
/-- two looks at one run -/
theorem run_join {r : PySem.W.OpenRow} {q : Program} {as : List Addr} {fs : List (Frag → Bool)} {ds : List DefP} {M : Nat} {loose : List PySem.Str} {w : World} (h1 : HandSHeadRun.RunEqI r q (hookL as [] []) (fun s => obsL as [] [] (HandSHeadRun.getT s)) M loose w) (h2 : RunO r.prog M (fun s => obsL as fs ds (HandSHeadRun.getT s)) (valP ds) w) :
    HandSHeadRun.RunEqI r q (hookL as fs ds) (fun s => obsL as fs ds (HandSHeadRun.getT s)) M loose w := by
  unfold HandSHeadRun.RunEqI at h1 ⊢
  unfold RunO at h2
  obtain ⟨x, hx, e1⟩ := Option.map_eq_some_iff.mp h1
  obtain ⟨y, hy, e2⟩ := Option.map_eq_some_iff.mp h2
  rw [hx] at hy
  cases hy
  rw [hx]
  obtain ⟨a, b⟩ := Prod.mk.inj e1
  obtain ⟨b, _⟩ := Prod.mk.inj b
  exact congrArg some (Prod.ext a (Prod.ext b e2))
end Mc

namespace Mc
open PySem PySem.Spec PyProof.Rows L2
def top (i : Nat) : Stmt := PySem.Challenge.pw_movecells_k24_what_is_a_name.main.body.getD i (.Pass ⟨0, 0, 0, 0⟩)
abbrev sPot : Stmt := top 57
abbrev sDraw : Stmt := top 58
abbrev sPick : Stmt := top 59
abbrev s_wall : Stmt := top 1
abbrev s_is_int : Stmt := top 17
abbrev s_is_count : Stmt := top 18
abbrev s_is_count_below : Stmt := top 19
abbrev s_is_list : Stmt := top 20
abbrev s_is_tuple_of : Stmt := top 21
abbrev s_check_fineness : Stmt := top 22
abbrev s_Plan___init : Stmt := inClass (top 27) 3
abbrev s_Plan_squares : Stmt := inClass (top 27) 4
abbrev s_Plan_codes : Stmt := inClass (top 27) 5
abbrev s_Plan_rounds : Stmt := inClass (top 27) 6
abbrev s_Plan___len : Stmt := inClass (top 27) 7
abbrev s_Plan_phase : Stmt := inClass (top 27) 8
abbrev s_Plan_signs : Stmt := inClass (top 27) 9
abbrev s_Plan_parts : Stmt := inClass (top 27) 10
abbrev s_Plan_place_of : Stmt := inClass (top 27) 11
abbrev s_Plan_sign_at : Stmt := inClass (top 27) 12
abbrev s_Plan_counts : Stmt := inClass (top 27) 13
abbrev s_Plan_growth : Stmt := inClass (top 27) 14
abbrev s_Plan_turned : Stmt := inClass (top 27) 15
abbrev s_Plan___eq : Stmt := inClass (top 27) 16
abbrev s_Plan___repr : Stmt := inClass (top 27) 17
abbrev s_check_plan : Stmt := top 28
abbrev s_is_axis : Stmt := top 29
abbrev s_counts_at : Stmt := top 30
abbrev s_check_phase : Stmt := top 31
abbrev s_check_pair : Stmt := top 32
abbrev s_is_parts : Stmt := top 33
abbrev s_is_cut : Stmt := top 34
abbrev s_is_cuts : Stmt := top 35
abbrev s_check_rounds : Stmt := top 36
abbrev s_plain_cuts : Stmt := top 37
abbrev s_parts_of : Stmt := top 38
abbrev s_places_of : Stmt := top 39
abbrev s_within : Stmt := top 40
abbrev s_multiplied : Stmt := top 41
abbrev s_power : Stmt := top 42
abbrev s_is_name : Stmt := top 44
abbrev s_name_of : Stmt := top 45
abbrev s_children : Stmt := top 46
abbrev s_check_name : Stmt := top 47
abbrev s_signs_at : Stmt := top 48
abbrev s_name_with : Stmt := top 49
abbrev s_Ratio___init : Stmt := inClass (top 52) 0
abbrev s_Ratio_read : Stmt := inClass (top 52) 1
abbrev s_Ratio_top : Stmt := inClass (top 52) 2
abbrev s_Ratio_bottom : Stmt := inClass (top 52) 3
abbrev s_Ratio_sign : Stmt := inClass (top 52) 4
abbrev s_Ratio___add : Stmt := inClass (top 52) 5
abbrev s_Ratio___radd : Stmt := inClass (top 52) 6
abbrev s_Ratio___sub : Stmt := inClass (top 52) 7
abbrev s_Ratio___rsub : Stmt := inClass (top 52) 8
abbrev s_Ratio___mul : Stmt := inClass (top 52) 9
abbrev s_Ratio___rmul : Stmt := inClass (top 52) 10
abbrev s_Ratio___neg : Stmt := inClass (top 52) 11
abbrev s_Ratio_over : Stmt := inClass (top 52) 12
abbrev s_Ratio_is_below : Stmt := inClass (top 52) 13
abbrev s_Ratio_floor : Stmt := inClass (top 52) 14
abbrev s_Ratio___eq : Stmt := inClass (top 52) 15
abbrev s_Ratio___str : Stmt := inClass (top 52) 16
abbrev s_Ratio___repr : Stmt := inClass (top 52) 17
abbrev s_as_ratio : Stmt := top 53
abbrev s_bottom_of : Stmt := top 54
abbrev s_is_digits : Stmt := top 55
abbrev s_mixed : Stmt := top 60
abbrev s_rounds : Stmt := top 61
abbrev s_real : Stmt := top 62
abbrev s_size : Stmt := top 63
abbrev s_glyphs : Stmt := top 64
abbrev s_is_right : Stmt := top 65
abbrev s_turned : Stmt := top 66
abbrev s_asked : Stmt := top 67
abbrev s_right : Stmt := top 68
abbrev s_law : Stmt := top 69
end Mc
set_option Elab.async false
set_option linter.all false
set_option maxRecDepth 100000
set_option maxHeartbeats 4000000
set_option exponentiation.threshold 20000
namespace Mc
open PySem PySem.Spec PyProof.Rows L2 He
open PySem.W (Frag)
def fcts0 : List (Frag → Bool) := [clsB "Plan", noatB "Plan" "_rounds", noatB "Plan" "_parts", noatB "Plan" "_places", noatB "Plan" "_growth", gloB "Plan", intB "MOST_FINENESS" 1000, intB "LEAST_PARTS" 2, intB "MOST_PARTS" 4, gloB "AXES", tupPB "AXES" [.str "east", .str "north"], crdB "Plan"]
def fcts1 : List (Frag → Bool) := [cvB "Plan" "MOST_ROUNDS" 3, cvB "Plan" "MOST_CUTS" 5, cvB "Plan" "MOST_SIGNS" 32, fun K => (["NoneType", "bool", "int", "str", "list", "tuple", "dict"] : List String).all fun x => decide (PySem.W.kitOne K (.type x) (.ref (ga K "Plan")) = some false), fun K => (["NoneType", "bool", "int", "str", "list", "tuple", "dict"] : List String).all fun x => PySem.W.notFirst K (ga K "Plan") (.type x), fun K => decide (PySem.W.findIn K (.ref (ga K "Plan")) "__class__" = some (some (.builtin "object.__class__"))), fun K => decide (PySem.W.specialIn K (.builtin "object.__class__") "__get__" = some (some (.builtin "getset_descriptor.__get__"))), fun K => decide (PySem.W.takesIn K (.builtin "object.__class__") = some true), fun K => decide (PySem.W.mroIn K (ga K "Plan") (.type "object") = some true), fun K => decide (PySem.W.findIn K (.ref (ga K "Plan")) "__ne__" = some (some (.builtin "object.__ne__"))), fun K => decide (PySem.W.kitOne K (.ref (ga K "Plan")) (.ref (ga K "Plan")) = some true), clsB "Ratio"]
def fcts2 : List (Frag → Bool) := [noatB "Ratio" "_top", noatB "Ratio" "_bottom", gloB "Ratio", blB "gcd" "math.gcd", fun K => decide (PySem.W.findIn K (.ref (ga K "Ratio")) "__class__" = some (some (.builtin "object.__class__"))), fun K => decide (PySem.W.mroIn K (ga K "Ratio") (.type "object") = some true), fun K => decide (PySem.W.findIn K (.ref (ga K "Ratio")) "__ne__" = some (some (.builtin "object.__ne__"))), fun K => decide (PySem.W.kitOne K (.ref (ga K "Ratio")) (.ref (ga K "Ratio")) = some true), fun K => decide (PySem.W.kitOne K (.ref (ga K "Ratio")) (.type "int") = some false), fun K => decide (PySem.W.kitOne K (.type "int") (.ref (ga K "Ratio")) = some false), fun K => decide (PySem.W.notFirst K (ga K "Ratio") (.type "int") = true), fun K => decide (PySem.W.kitOne K (.ref (ga K "Plan")) (.type "tuple") = some false)]
def fcts3 : List (Frag → Bool) := [fun K => decide (PySem.W.kitOne K (.ref (ga K "Ratio")) (.type "tuple") = some false), freeB "reversed", freeB "sorted", freeB "sum", freeB "set", freeB "dict", tbB, gloB "_law_pot", gloB "_law_draw", gloB "_law_pick", gloB "_law_mixed", gloB "_law_rounds"]
def fcts4 : List (Frag → Bool) := [gloB "is_list", gloB "is_tuple_of", gloB "is_axis", gloB "is_int", gloB "_is_parts", gloB "_is_cut", gloB "_is_cuts", gloB "_within", gloB "_places_of", gloB "_parts_of", gloB "_multiplied", gloB "_check_rounds"]
def fcts5 : List (Frag → Bool) := [gloB "_plain_cuts", mkB "Plan", gloB "_law_real", gloB "_law_size", gloB "_law_glyphs", mkB "Ratio", gloB "_law_turned", gloB "_law_is_right", gloB "check_plan", gloB "is_count", gloB "is_count_below", metB "Plan" "__len__"]
def fcts6 : List (Frag → Bool) := [gloB "check_phase", metB "Plan" "signs", gloB "signs_at", gloB "is_name", metB "Ratio" "__repr__", metB "Plan" "__repr__", gloB "_law_asked", gloB "check_name", gloB "children", gloB "check_fineness", gloB "check_pair", metB "Plan" "parts"]
def fcts7 : List (Frag → Bool) := [prpB "Plan" "growth", gloB "_power", gloB "counts_at", metB "Plan" "sign_at", gloB "name_with", gloB "name_of", gloB "_law_right", gloB "law"]
def fcts : List (Frag → Bool) := fcts0 ++ fcts1 ++ fcts2 ++ fcts3 ++ fcts4 ++ fcts5 ++ fcts6 ++ fcts7
def dfs0 : List (DefP) := [⟨gAt "_law_pot", "_law_pot", "_law_pot", sPot, []⟩, ⟨gAt "_law_draw", "_law_draw", "_law_draw", sDraw, []⟩, ⟨gAt "_law_pick", "_law_pick", "_law_pick", sPick, []⟩, ⟨gAt "_law_mixed", "_law_mixed", "_law_mixed", s_mixed, []⟩, ⟨gAt "_law_rounds", "_law_rounds", "_law_rounds", s_rounds, []⟩, ⟨gAt "is_list", "is_list", "is_list", s_is_list, []⟩, ⟨gAt "is_tuple_of", "is_tuple_of", "is_tuple_of", s_is_tuple_of, []⟩, ⟨gAt "is_axis", "is_axis", "is_axis", s_is_axis, []⟩, ⟨gAt "is_int", "is_int", "is_int", s_is_int, []⟩, ⟨gAt "_is_parts", "_is_parts", "_is_parts", s_is_parts, []⟩, ⟨gAt "_is_cut", "_is_cut", "_is_cut", s_is_cut, []⟩, ⟨gAt "_is_cuts", "_is_cuts", "_is_cuts", s_is_cuts, []⟩]
def dfs1 : List (DefP) := [⟨gAt "_within", "_within", "_within", s_within, []⟩, ⟨gAt "_places_of", "_places_of", "_places_of", s_places_of, []⟩, ⟨gAt "_parts_of", "_parts_of", "_parts_of", s_parts_of, []⟩, ⟨gAt "_multiplied", "_multiplied", "_multiplied", s_multiplied, []⟩, ⟨gAt "_check_rounds", "_check_rounds", "_check_rounds", s_check_rounds, []⟩, ⟨gAt "_plain_cuts", "_plain_cuts", "_plain_cuts", s_plain_cuts, []⟩, ⟨mAt "Plan" "__init__", "__init__", "Plan.__init__", s_Plan___init, []⟩, ⟨gAt "_law_real", "_law_real", "_law_real", s_real, []⟩, ⟨gAt "_law_size", "_law_size", "_law_size", s_size, []⟩, ⟨gAt "_law_glyphs", "_law_glyphs", "_law_glyphs", s_glyphs, []⟩, ⟨mAt "Ratio" "__init__", "__init__", "Ratio.__init__", s_Ratio___init, [.int 1]⟩, ⟨gAt "_law_turned", "_law_turned", "_law_turned", s_turned, []⟩]
def dfs2 : List (DefP) := [⟨gAt "_law_is_right", "_law_is_right", "_law_is_right", s_is_right, []⟩, ⟨gAt "check_plan", "check_plan", "check_plan", s_check_plan, []⟩, ⟨gAt "is_count", "is_count", "is_count", s_is_count, []⟩, ⟨gAt "is_count_below", "is_count_below", "is_count_below", s_is_count_below, []⟩, ⟨mAt "Plan" "__len__", "__len__", "Plan.__len__", s_Plan___len, []⟩, ⟨gAt "check_phase", "check_phase", "check_phase", s_check_phase, []⟩, ⟨mAt "Plan" "signs", "signs", "Plan.signs", s_Plan_signs, []⟩, ⟨gAt "signs_at", "signs_at", "signs_at", s_signs_at, []⟩, ⟨gAt "is_name", "is_name", "is_name", s_is_name, []⟩, ⟨mAt "Ratio" "__repr__", "__repr__", "Ratio.__repr__", s_Ratio___repr, []⟩, ⟨mAt "Plan" "__repr__", "__repr__", "Plan.__repr__", s_Plan___repr, []⟩, ⟨gAt "_law_asked", "_law_asked", "_law_asked", s_asked, []⟩]
def dfs3 : List (DefP) := [⟨gAt "check_name", "check_name", "check_name", s_check_name, []⟩, ⟨gAt "children", "children", "children", s_children, []⟩, ⟨gAt "check_fineness", "check_fineness", "check_fineness", s_check_fineness, []⟩, ⟨gAt "check_pair", "check_pair", "check_pair", s_check_pair, []⟩, ⟨mAt "Plan" "parts", "parts", "Plan.parts", s_Plan_parts, []⟩, ⟨wAt "property" "Plan" "growth", "growth", "Plan.growth", s_Plan_growth, []⟩, ⟨gAt "_power", "_power", "_power", s_power, []⟩, ⟨gAt "counts_at", "counts_at", "counts_at", s_counts_at, []⟩, ⟨mAt "Plan" "sign_at", "sign_at", "Plan.sign_at", s_Plan_sign_at, []⟩, ⟨gAt "name_with", "name_with", "name_with", s_name_with, []⟩, ⟨gAt "name_of", "name_of", "name_of", s_name_of, []⟩, ⟨gAt "_law_right", "_law_right", "_law_right", s_right, []⟩]
def dfs4 : List (DefP) := [⟨gAt "law", "law", "law", s_law, []⟩]
def dfs : List (DefP) := dfs0 ++ dfs1 ++ dfs2 ++ dfs3 ++ dfs4

end Mc

set_option Elab.async false
set_option linter.all false
set_option maxRecDepth 100000
set_option maxHeartbeats 0
namespace Mc
open PySem PySem.W PySem.Calls PyProof.Rows
def hn0 : List PySem.Str := ["gcd", "_wall", "CellError", "InvalidNumber", "InvalidRounds", "InvalidPhase", "InvalidPair", "InvalidName", "InvalidPlan", "InvalidText", "StateError", "NotBalanced", "LimitError", "TooMany", "MOST_FINENESS", "is_int"]
def hn1 : List PySem.Str := ["is_count", "is_count_below", "is_list", "is_tuple_of", "check_fineness", "AXES", "LEAST_PARTS", "MOST_PARTS", "Plan", "check_plan", "is_axis", "counts_at", "check_phase", "check_pair", "_is_parts", "_is_cut"]
def hn2 : List PySem.Str := ["_is_cuts", "_check_rounds", "_plain_cuts", "_parts_of", "_places_of", "_within", "_multiplied", "_power", "is_name", "name_of", "children", "check_name", "signs_at", "name_with", "MOST_DIGITS", "Ratio"]
def hn3 : List PySem.Str := ["as_ratio", "_bottom_of", "_is_digits", "_law_pot", "_law_draw", "_law_pick", "_law_mixed", "_law_rounds", "_law_real", "_law_size", "_law_glyphs", "_law_is_right", "_law_turned", "_law_asked", "_law_right"]
def hnames : List PySem.Str := hn0 ++ hn1 ++ hn2 ++ hn3
abbrev hR : OpenRow := OpenLaw.row PySem.Challenge.rw_movecells_k24_what_is_a_name
def la0 : List Addr := [3, 266, 273, 280, 287, 294, 301, 302, 418, 429, 436, 441, 448, 453, 460, 467, 472, 477, 482, 489, 494, 501, 508, 515, 520, 527, 532, 539, 546, 553, 696, 728, 735, 742, 749, 754, 759, 766, 773, 780]
def la1 : List Addr := [787, 794, 799, 804, 265, 272, 279, 286, 293, 300, 417, 428, 435, 440, 447, 452, 459, 466, 471, 476, 481, 488, 493, 500, 507, 514, 519, 526, 531, 538, 545, 552, 695, 727, 734, 741, 748, 753, 758, 765]
def la2 : List Addr := [772, 779, 786, 793, 798, 803, 314, 346, 360, 367, 381, 396, 415, 568, 693, 313, 345, 359, 366, 380, 395, 414, 567, 561, 692, 394, 2]
def las : List Addr := la0 ++ la1 ++ la2
abbrev hkk : Hook := hookL las fcts dfs
def hob (s : SharedT) : AlP := obsL las fcts dfs (HandSHeadRun.getT s)
theorem hob_eq (s : SharedT) : hob s = hkk.obs s.abs := obsL_eq (HandSHeadRun.getT_eq s)
theorem hrun1 (w : World) : HandSHeadRun.RunEqI hR (view hR.prog [0, 69]) (hookL [] [] []) (fun s => obsL [] [] [] (HandSHeadRun.getT s)) 12000 hnames w := by
  delta HandSHeadRun.RunEqI
  kernel_rfl
theorem hrun2 (w : World) : RunO hR.prog 12000 (fun s => obsL las fcts dfs (HandSHeadRun.getT s)) (valP dfs) w := by
  delta RunO
  kernel_rfl
theorem hrun (w : World) : HandSHeadRun.RunEqI hR (view hR.prog [0, 69]) hkk hob 12000 hnames w := run_join (hrun1 w) (hrun2 w)
end Mc

set_option Elab.async false
set_option linter.all false
set_option maxRecDepth 100000
set_option maxHeartbeats 4000000
/-! a layer of my own over HandS: frames, deep data, pots -/
namespace Mc
open PySem PySem.Spec PyProof.Rows L2

/-! ### frames -/
/-- what was tracked is as it was, but at M -/
def Frm (M : List Addr) (H H' : Hp) : Prop := ∀ a o, H a = some o → a ∉ M → H' a = some o
theorem Frm.refl (M : List Addr) (H : Hp) : Frm M H H := fun _ _ h _ => h
theorem Frm.trans {M : List Addr} {H H1 H2 : Hp} (a : Frm M H H1) (b : Frm M H1 H2) : Frm M H H2 := fun x o h n => b x o (a x o h n) n
theorem Frm.more {M M' : List Addr} {H H1 : Hp} (a : Frm M H H1) (s : ∀ x ∈ M, x ∈ M') : Frm M' H H1 := fun x o h n => a x o h fun z => n (s x z)
theorem Frm.new {M : List Addr} {H : Hp} {p : Addr} {o : HO} (h : H p = none) : Frm M H (upd H p o) := fun a u e _ => by
  rw [upd_ne (ne_of_none e h)]
  exact e
theorem Frm.put {M : List Addr} {H : Hp} {p : Addr} {o : HO} (h : p ∈ M) : Frm M H (upd H p o) := fun a u e n => by
  have : a ≠ p := fun z => n (z ▸ h)
  rw [upd_ne this]
  exact e
theorem Frm.ext {M : List Addr} {H H1 : Hp} (e : Ext H H1) : Frm M H H1 := fun a o h _ => e a o h
theorem Frm.free {M : List Addr} {H H' : Hp} (e : Frm M H H') {l : Addr} (h : H' l = none) (n : l ∉ M) : H l = none := by
  cases q : H l with
  | none => rfl
  | some o =>
    rw [e l o q n] at h
    cases h

/-! ### a pot: two numbers -/
def PotOk (a b : Int) : Prop := 0 ≤ a ∧ 0 ≤ b ∧ b < 2147483587
def Pot (H : Hp) (p : Addr) : Prop := ∃ a b : Int, H p = some (.lst [.int a, .int b]) ∧ PotOk a b
theorem Pot.frm {M : List Addr} {H H' : Hp} {p : Addr} (h : Pot H p) (f : Frm M H H') (n : p ∉ M) : Pot H' p := by
  obtain ⟨a, b, e, o⟩ := h
  exact ⟨a, b, f _ _ e n, o⟩
/-- divisors that go by the plain way, whatever is divided -/
theorem plain_div (i : Int) {j : Int} (h : 0 < j) (hb : j.natAbs.log2 < 9000) : CDivP i j := ⟨h, PyProof.noPylong_of_log2 hb⟩
theorem log2_lt {j : Int} {n : Nat} (h0 : 0 < n) (h : j.natAbs < 2 ^ n) : j.natAbs.log2 < n := PySem.Flt.log2_lt_of h0 h

theorem small_log {j : Int} {n : Nat} (h : j.natAbs < 2 ^ n) (h0 : 0 < n) (h1 : n ≤ 9000) : j.natAbs.log2 < 9000 := Nat.lt_of_lt_of_le (PySem.Flt.log2_lt_of h0 h) h1
theorem len_log {n : Nat} (h : n ≤ 1000) : ((n : Nat) : Int).natAbs.log2 < 9000 := small_log (n := 10) (by omega) (by decide) (by decide)
/-! ### a def of the module, with its promise -/
structure Gd (P : Program) (w : World) (K : PySem.W.Frag) (mg : Str → Option Value) (base : Heap) (x : Str) (k : Nat) (ps : List Str) (sp : Sp) (f : Addr) (fd : FuncData) : Prop where
  g : mg x = some (.ref f)
  kp : PySem.W.keepIn K (.ref f) = true
  b : Binds K fd ps []
  ok : FnOk P w K mg base CX0 k f fd ps sp
theorem Gd.mono {P : Program} {w : World} {K : PySem.W.Frag} {mg : Str → Option Value} {base : Heap} {x : Str} {k n : Nat} {ps : List Str} {sp : Sp} {f : Addr} {fd : FuncData} (D : Gd P w K mg base x k ps sp f fd) (h : k ≤ n) : Gd P w K mg base x n ps sp f fd := ⟨D.g, D.kp, D.b, D.ok.mono h⟩
section
variable {X : Cx} {x : Str} {k n : Nat} {ps : List Str} {sp : Sp} {f : Addr} {fd : FuncData} {p pos : Pos} {e : Expr} {es : List Expr} {t : TA}
theorem pe_gd (D : Gd X.prog X.w X.K X.mg X.base x k ps sp f fd) (hr : Room n X.A) (hk : k ≤ n) (hg : Gl X x) (ha : PA X (e :: es) t) (hdb : (x == ("__debug__" : Str)) = false := by decide) (he : starEach (e :: es) X.env = (false, eval e X.env) :: starEach es X.env := by rfl) (hpl : (backTo pos (starEach es X.env)).any (·.1) = false := by rfl) :
    PE X (.Call (.Name x p) (e :: es) [] pos) (tCall sp [] E0 t) := pe_call D.ok (hr.mono hk) hg D.g D.kp D.b .nil pass0 ha hdb he hpl
end

/-- the built-in names that the module leaves as they are -/
structure TB (mg : Str → Option Value) : Prop where
  len : mg "len" = none
  abs : mg "abs" = none
  max : mg "max" = none
  min : mg "min" = none
  int : mg "int" = none
  str : mg "str" = none
  bool : mg "bool" = none
  divmod : mg "divmod" = none
  range : mg "range" = none
  all : mg "all" = none
  any : mg "any" = none
  repr : mg "repr" = none
  isinstance : mg "isinstance" = none
  list : mg "list" = none
  tuple : mg "tuple" = none
  enumerate : mg "enumerate" = none
  zip : mg "zip" = none

/-- // by any divisor but 0 of at most some thousand digits -/
def CDivX (_ j : Int) : Prop := j ≠ 0 ∧ j.natAbs.log2 < 9000
section
variable {X : Cx}
theorem op_fdivX : OpR X (binaryOp .FloorDiv) (rI CDivX fun i j => .int (i.fdiv j)) := opI fun _ _ _ _ _ _ _ hc q => floordiv_int hc.1 q (.inl (PyProof.noPylong_of_log2 hc.2))
end
theorem mulW {i j : Int} {a b : Nat} (ha : i.natAbs < 2 ^ a) (hb : j.natAbs < 2 ^ b) (h0 : 0 < a := by decide) (h1 : 0 < b := by decide) (h : a + b ≤ 1000000 := by decide) : CMulW i j := wide_mul ha hb h0 h1 h

theorem pick_int {ns : List Int} {C : Int → Prop} (hC : ∀ n ∈ ns, C n) {i : Nat} {x : V} (h : (ns.map V.int)[i]? = some x) : ∃ n, x = .int n ∧ C n := by
  have hm := List.mem_of_getElem? h
  obtain ⟨n, hn, rfl⟩ := List.mem_map.mp hm
  exact ⟨n, rfl, hC n hn⟩
theorem Pot.ne {H : Hp} {p l : Addr} (h : Pot H p) (hl : H l = none) : l ≠ p := by
  obtain ⟨a, b, e, _⟩ := h
  exact fun z => by rw [z, e] at hl; cases hl
theorem Pot.new {H : Hp} {p l : Addr} {o : HO} (h : Pot H p) (hl : H l = none) : Pot (upd H l o) p := h.frm (M := []) (Frm.new hl) (fun z => nomatch z)
/-- a pot is no tuple -/
theorem Pot.ne_tup {H : Hp} {p t : Addr} {xs : List V} (h : Pot H p) (ht : H t = some (.tup xs)) : t ∉ [p] := by
  obtain ⟨a, b, e, _⟩ := h
  intro z
  rw [List.mem_singleton.mp z, e] at ht
  cases ht
theorem Frm.tup {H H' : Hp} {p t : Addr} {xs : List V} (f : Frm [p] H H') (h : Pot H p) (ht : H t = some (.tup xs)) : H' t = some (.tup xs) := f _ _ ht (h.ne_tup ht)
/-- plain steps of a reading -/
local macro_rules | `(tactic| walk_at "rd1") => `(tactic| first
  | with_reducible refine ⟨_, rfl, ?_⟩
  | refine ⟨_, rfl, ?_⟩)
end Mc

set_option Elab.async false
set_option linter.all false
set_option maxRecDepth 100000
set_option maxHeartbeats 4000000
namespace Mc
open PySem PySem.Spec PyProof.Rows L2
open PySem.Builtin PySem.Builtin.List

/-! ### repr of what holds objects of one's own -/
structure SubG (X : Cx) (n : Nat) (A : Around) (g : List Code) : Prop where
  room : Room n A
  fr : A.frames = X.A.frames
  gs : A.guards = some g
theorem SubG.mono {X : Cx} {n m : Nat} {A : Around} {g : List Code} (s : SubG X n A g) (h : m ≤ n) : SubG X m A g := ⟨s.room.mono h, s.fr, s.gs⟩
theorem depth_loop (A : Around) (args : Args) : (A.under (.builtin "list.__repr__.loop" args)).depth = A.depth + 1 := by
  simp [Around.under, Code.weight, Code.isCreation, Code.isGuard, Code.isCaller, Code.frames, Code.isFrame, guardIds]
theorem frames_loop (A : Around) (args : Args) : (A.under (.builtin "list.__repr__.loop" args)).frames = A.frames := by
  simp [Around.under, Code.envs, Code.isFrame, pushEnvs]
theorem SubG.loop {X : Cx} {n : Nat} {A : Around} {g : List Code} (s : SubG X (n + 1) A g) (args : Args) : SubG X n (A.under (.builtin "list.__repr__.loop" args)) (.builtin "list.__repr__.loop" args :: g) :=
  ⟨⟨s.room.hd, by have := s.room.dp; rw [depth_loop]; omega, by have := s.room.un; rw [units_under_list_loop]; omega⟩, (frames_loop A args).trans s.fr, guards_under_guard (isGuard_list_loop _) s.gs⟩

/-- repr of x is t, wherever H₀ stands -/
def RpG (X : Cx) (n : Nat) (as : List Addr) (x : V) (t : Str) (H0 : Hp) : Prop :=
  ∀ (A : Around) (g : List Code) (pins : List (Addr × Obj)) (s : Shared) (σ : L2.St) (H : Hp) (u : Value) (b : Nat), SubG X n A g → (∀ c ∈ as, Clear g c) → Inv X pins σ H s → Ext H0 H → RelV x u → b + t.length ≤ sizeLine →
    wpAny (model X.prog X.w) A (pyReprUnder b u) (fun r s' => r = t ∧ ∃ H', Inv X pins σ H' s' ∧ Ext H H') X.xe s
section
variable {X : Cx} {n m : Nat} {as as' : List Addr} {x : V} {t : Str} {H0 H1 : Hp}
theorem RpG.mono (h : RpG X n as x t H0) (hn : n ≤ m) (ha : ∀ c ∈ as, c ∈ as') (e : Ext H0 H1) : RpG X m as' x t H1 := fun A g pins s σ H u b sg hc I e' rx hb =>
  h A g pins s σ H u b (sg.mono hn) (fun c hm => hc c (ha c hm)) I (e.trans e') rx hb
theorem rpG_is (h : ∀ u, RelV x u → ReprIs X.prog X.w u t) : RpG X 0 [] x t H0 := fun A g pins s σ H u b sg hc I e rx hb =>
  h u rx b hb A X.xe s _ fun tk => ⟨rfl, H, I.tok _, Ext.rfl'⟩
theorem rpG_int {i : Int} (h : i.natAbs.log2 < 1920) : RpG X 0 [] (.int i) (toString i) H0 := rpG_is fun u ⟨t, e⟩ => by subst e; exact ReprIs.int t h
theorem rpG_bl {b : Bool} : RpG X 0 [] (.bl b) (if b then "True" else "False") H0 := rpG_is fun u e => by cases (show u = Value.bool b from e); exact ReprIs.bool b
theorem rpG_non : RpG X 0 [] .non "None" H0 := rpG_is fun u e => by cases (show u = Value.none from e); exact ReprIs.none
theorem rpG_str {y : Str} (h : (reprText y).length ≤ sizeLine) : RpG X 0 [] (.str y) (reprText y) H0 := rpG_is fun u ⟨t, e⟩ => by subst e; exact ReprIs.str y t h
end

/-- an untracked thing of ours has turned: the pin with it -/
theorem Inv.repin {X : Cx} {pins : List (Addr × Obj)} {σ : L2.St} {H : Hp} {s : Shared} {h' : Heap} {t' : Nat} {P : Addr} {o o' : Obj} (I : Inv X ((P, o) :: pins) σ H s) (hf : FpOk X pins H P) (k : ∀ b u, b ≠ P → s.heap.get? b = some u → h'.get? b = some u)
    (hn : h'.get? P = some o') (hc : ∀ v, o'.data ≠ .cell v) : Inv X ((P, o') :: pins) σ H { s with heap := h', toks := t' } := by
  have J : Inv X pins σ H s := ⟨I.ok, I.os, I.bare, I.base, I.loc, I.cell, I.free, I.freeC, fun p hp => I.pin p (by
    rcases List.mem_append.mp hp with z | z
    · exact List.mem_append.mpr (.inl z)
    · exact List.mem_append.mpr (.inr (List.mem_cons_of_mem _ z))), I.hok, I.len⟩
  have J2 := Inv.turned (h' := h') (t' := t') (it := P) J k hf.1 hf.2.1 hf.2.2.2.1 hf.2.2.2.2.1 hf.2.2.2.2.2
  refine ⟨J2.ok, J2.os, J2.bare, J2.base, J2.loc, J2.cell, J2.free, J2.freeC, fun p hp => ?_, J2.hok, J2.len⟩
  rcases List.mem_append.mp hp with z | z
  · exact J2.pin p (List.mem_append.mpr (.inl z))
  · rcases List.mem_cons.mp z with z | z
    · subst z
      exact ⟨hn, hf.1, hf.2.1, hf.2.2.1, hc⟩
    · exact J2.pin p (List.mem_append.mpr (.inr z))
theorem Inv.unpin {X : Cx} {pins : List (Addr × Obj)} {σ : L2.St} {H : Hp} {s : Shared} {p : Addr × Obj} (I : Inv X (p :: pins) σ H s) : Inv X pins σ H s :=
  ⟨I.ok, I.os, I.bare, I.base, I.loc, I.cell, I.free, I.freeC, fun q hq => I.pin q (by
    rcases List.mem_append.mp hq with z | z
    · exact List.mem_append.mpr (.inl z)
    · exact List.mem_append.mpr (.inr (List.mem_cons_of_mem _ z))), I.hok, I.len⟩

section
variable {X : Cx} {R : Result → Shared → Prop} {n : Nat} {as : List Addr} {a P : Addr} {xs : List V} {ts : List Str} {H0 H : Hp} {pins : List (Addr × Obj)} {σ : L2.St} {g : List Code} {A : Around} {b0 : Nat}
abbrev pileO (acc : Array Value) (c : Nat) : Obj := { cls := .type "list", dict := none, data := .seq acc c, slots := #[] }
theorem rp_loop (sg : SubG X (n + 1) A g) (hcl : ∀ c ∈ as, Clear g c) (hna : a ∉ as) (hl : SqL X.K H0 a xs) (hlen : ts.length = xs.length)
    (hT : ∀ (i : Nat) x, xs[i]? = some x → ∃ t, ts[i]? = some t ∧ RpG X n as x t H0) (hsz : b0 + (listText ts).length ≤ sizeLine)
    (hR : ∀ u s' H', Inv X pins σ H' s' → Ext H H' → R (.ok (.ret (.str (listText ts) u))) s') (hE : ∀ e s', X.xe e s' → R (.error e) s') (e0 : Ext H0 H) :
    ∀ (k i : Nat) (s : Shared) (acc : Array Value) (c : Nat) (done : List (Str × Tok)) (H1 : Hp), xs.length - i = k → i ≤ xs.length →
      Inv X ((P, pileO acc c) :: pins) σ H1 s → FpOk X pins H1 P → Ext H H1 → acc.toList = strValues done → done.map (·.1) = ts.take i →
      codeAny (model X.prog X.w) A (.builtin "list.__repr__.loop" ⟨[.ref a, rawInt i, .ref P, rawInt ((b0 + piled (ts.take i) : Nat) : Int)], []⟩) R s := by
  have hX : (listText ts).length = (textFrom 0 "[" ts).length + 1 := by
    show (textFrom 0 "[" ts ++ "]").length = _
    rw [strLen_append] <;> rfl
  have hL := textFrom_len ts 0 "["
  have hz1 : ts.length ≤ sizeLine := by
    have h1 := hL.1
    rw [if_neg (Nat.lt_irrefl 0)] at h1
    omega
  have hz2 : ∀ t ∈ ts, t.length ≤ sizeLine := fun t ht => by
    have h2 := hL.2.1 t ht
    omega
  have hz3 : (listText ts).length ≤ sizeLine := by omega
  have hp3 := piled_le_listText ts
  intro k
  induction k with
  | zero =>
    intro i s acc c done H1 hk hi I hf e1 hacc hdone
    have hin : i = xs.length := by omega
    obtain ⟨its, r, ⟨oa, na, ha, _, _, hda⟩, _⟩ := I.list (hl.ext (e0.trans e1))
    have hP := (I.pin (P, pileO acc c) (List.mem_append.mpr (.inr List.mem_cons_self))).1
    refine codeAny_builtin F.entry_list_repr_loop ?_
    show wpAny _ _ («list.__repr__.loop» ⟨[.ref a, .int i 0, .ref P, .int ((b0 + piled (ts.take i) : Nat) : Int) 0], []⟩) _ _ s
    rw [repr_loop_tree]
    refine wpAny_bind (wpAny_listItems ha hda ?_)
    have hnone : its.toArray[(i : Int).toNat]? = none := by
      have := r.length
      simp
      omega
    simp only [hnone]
    unfold reprEnd
    refine wpAny_bind (wpAny_listItems hP rfl ?_)
    rw [hacc, repr_fold]
    refine wpAny_bind (wpAny_pure ?_)
    have hall : done.map (·.1) = ts := by rw [hdone, hin, ← hlen, List.take_length]
    rw [hall]
    refine wpAny_bind (wpAny_mkStr (wpAny_pure ?_) hz3)
    exact hR _ _ H1 ((Inv.unpin I).tok _) e1
  | succ k ih =>
    intro i s acc c done H1 hk hi I hf e1 hacc hdone
    have hlt : i < xs.length := by omega
    obtain ⟨its, r, ⟨oa, na, ha, _, _, hda⟩, _⟩ := I.list (hl.ext (e0.trans e1))
    have hP := (I.pin (P, pileO acc c) (List.mem_append.mpr (.inr List.mem_cons_self))).1
    obtain ⟨u, hu, ru⟩ := r.get (List.getElem?_eq_getElem hlt)
    obtain ⟨t, ht, hrep⟩ := hT i xs[i] (List.getElem?_eq_getElem hlt)
    have hp1 := piled_take_succ ht
    have hp2 := piled_take_le ts (i + 1)
    refine codeAny_builtin F.entry_list_repr_loop ?_
    show wpAny _ _ («list.__repr__.loop» ⟨[.ref a, .int i 0, .ref P, .int ((b0 + piled (ts.take i) : Nat) : Int) 0], []⟩) _ _ s
    rw [repr_loop_tree]
    refine wpAny_bind (wpAny_listItems ha hda ?_)
    have hsome : its.toArray[(i : Int).toNat]? = some u := by simpa using hu
    simp only [hsome]
    rw [Int.toNat_natCast]
    refine wpAny_bind (wpAny_holding (wpAny_mono (hrep _ _ _ s σ H1 u (b0 + piled (ts.take i) + 1) (sg.loop _) (fun z hz => (hcl z hz).cons (a := a) fun q => hna (q ▸ hz)) I (e0.trans e1) ru (by omega)) (fun q s' hq => ?_) fun e s' z => hE e s' z))
    obtain ⟨rfl, H2, I2, e2⟩ := hq
    have hP2 := (I2.pin (P, pileO acc c) (List.mem_append.mpr (.inr List.mem_cons_self))).1
    have hn2 := (I2.pin (P, pileO acc c) (List.mem_append.mpr (.inr List.mem_cons_self))).2.1
    refine wpAny_bind (wpAny_mkStr ?_ (hz2 _ (List.mem_of_getElem? ht)))
    refine wpAny_bind ?_
    show wpAny _ _ (updateSeq P _) _ _ _
    have hasz : acc.size ≤ sizeLine := by
      have a1 : acc.toList.length = acc.size := by simp
      have a2 : (strValues done).length = done.length := by simp [strValues]
      have a3 : done.length = (ts.take i).length := by rw [← hdone, List.length_map]
      have a4 : (ts.take i).length ≤ i := by rw [List.length_take]; omega
      rw [hacc] at a1
      omega
    refine wpAny_updateSeq hP2 rfl (wpAny_pure ⟨F.quiet_list_repr_loop _, ?_⟩) hasz
    have b1 : ((i : Int) + 1) = ((i + 1 : Nat) : Int) := by omega
    have b2 : b0 + piled (ts.take i) + (q.length + 2) = b0 + piled (ts.take (i + 1)) := by omega
    rw [b1, b2]
    have hf2 : FpOk X pins H2 P := ⟨hn2, hf.2⟩
    refine ih (i + 1) _ (acc.push (.str q s'.toks)) _ (done ++ [(q, s'.toks)]) H2 (by omega) hlt (Inv.repin (o' := pileO (acc.push (.str q s'.toks)) _) (I2.tok _) hf2 (fun b o hb e => (Heap.get?_update_other _ _ (fun h : P = b => hb h.symm)).trans e) (Heap.get?_update_self _ hP2 rfl) (fun v z => by cases z)) hf2 (e1.trans e2) (by simp [hacc, strValues]) (by simp [List.take_add_one, ht, hdone])

theorem Inv.addpin {s : Shared} {o : Obj} (I : Inv X pins σ H s) (hg : s.heap.get? P = some o) (hf : FpOk X pins H P) (hc : ∀ v, o.data ≠ .cell v) : Inv X ((P, o) :: pins) σ H s :=
  ⟨I.ok, I.os, I.bare, I.base, I.loc, I.cell, I.free, I.freeC, fun p hp => by
    rcases List.mem_append.mp hp with z | z
    · exact I.pin p (List.mem_append.mpr (.inl z))
    · rcases List.mem_cons.mp z with z | z
      · subst z
        exact ⟨hg, hf.1, hf.2.1, hf.2.2.1, hc⟩
      · exact I.pin p (List.mem_append.mpr (.inr z)), I.hok, I.len⟩
theorem rp_listAt {s : Shared} (sg : SubG X (n + 1) A g) (hcl : ∀ c ∈ a :: as, Clear g c) (hna : a ∉ as) (hl : SqL X.K H0 a xs) (hx : xs ≠ []) (hlen : ts.length = xs.length)
    (hT : ∀ (i : Nat) x, xs[i]? = some x → ∃ t, ts[i]? = some t ∧ RpG X n as x t H0) (hsz : b0 + (listText ts).length ≤ sizeLine)
    (hR : ∀ u s' H', Inv X pins σ H' s' → Ext H H' → R (.ok (.ret (.str (listText ts) u))) s') (hE : ∀ e s', X.xe e s' → R (.error e) s') (e0 : Ext H0 H) (I : Inv X pins σ H s) :
    wpAny (model X.prog X.w) A.in1 (Builtin.listReprAt b0 ⟨[.ref a], []⟩) (fun fin s' => match fin with | .done f => R (.ok f) s' | .again c' => c'.quiet = true ∧ codeAny (model X.prog X.w) A c' R s') (fun e s' => R (.error e) s') s := by
  have hca : Clear g a := hcl a (.head _)
  obtain ⟨its, r, ⟨oa, na, ha, hc, hd, hda⟩, _⟩ := I.list (hl.ext e0)
  have hP : s.heap.objs.size ≤ s.heap.objs.size := Nat.le_refl _
  cases its with
  | nil =>
    cases r
    exact absurd rfl hx
  | cons y l =>
    refine wpAny_list_repr_head (A := A.in1) sg.gs (fun v rest kw hm => listSameRef_of_ne (hca _ _ _ _ hm)) ha hda ?_
    refine wpAny_bind (m := newList []) (wpAny_newObj_type ?_)
    refine wpAny_pure ⟨F.quiet_list_repr_loop _, ?_⟩
    have hn : H s.heap.objs.size = none := I.hok.fresh hP
    have hf : FpOk X pins H s.heap.objs.size := I.fpOk hP hn
    have I1 := I.kept (h' := s.heap.push { cls := .type "list", data := .seq #[] }) (t' := s.toks) fun b o e => Heap.get?_push_of_some _ e
    have I2 := Inv.addpin (P := s.heap.objs.size) I1 (Heap.get?_push_size _ rfl) hf (fun v z => by cases z)
    exact rp_loop sg (fun z hz => hcl z (.tail _ hz)) hna hl hlen hT hsz hR hE e0 _ 0 _ #[] _ [] H rfl (Nat.zero_le _) I2 hf Ext.rfl' rfl (by simp)
theorem rpG_list (hna : a ∉ as) (hl : SqL X.K H0 a xs) (hlen : ts.length = xs.length) (hT : ∀ (i : Nat) x, xs[i]? = some x → ∃ t, ts[i]? = some t ∧ RpG X n as x t H0) : RpG X (n + 1) (a :: as) (.ref a) (listText ts) H0 := by
  intro A g pins s σ H u b sg hcl I e0 rx hb
  cases (show u = Value.ref a from rx)
  obtain ⟨its, r, ⟨oa, na, ha, hc, hd, hda⟩, _⟩ := I.list (hl.ext e0)
  have hTy : s.TypeIs (.ref a) "list" := ⟨oa, ha, hc⟩
  refine wpAny_pyReprUnder_ref (by omega) ?_
  by_cases hx : xs = []
  · subst hx
    cases r
    have ht : ts = [] := List.length_eq_zero_iff.mp hlen
    subst ht
    exact wpAny_pyReprObjUnder_list_empty hTy sg.room.units0 ha hda ⟨_, _, rfl, rfl, H, I.tok _, Ext.rfl'⟩
  · refine wpAny_pyReprObjUnder_twin (twin := "list.__repr__.under") hTy F.slot_list_repr.toG rfl sg.room.units0 ?_
    exact call_twin_plain F.plain_list_repr_under F.entry_list_repr_under F.check_list_repr_under hTy F.slot_list_repr.toG (F.args_list_repr_1 _)
      (rp_listAt (R := callEnd _ _) sg hcl hna hl hx hlen hT hb (fun u s' H' I' e' => ⟨⟨_, _, rfl⟩, _, _, rfl, rfl, H', I', e'⟩) (fun e s' z => z) e0 I)
end
end Mc

set_option Elab.async false
set_option linter.all false
set_option maxRecDepth 100000
set_option maxHeartbeats 4000000
namespace Mc
open PySem PySem.Spec PyProof.Rows L2

/-! ### defs that are called where no repr is under way -/
structure RoomG (k : Nat) (A : Around) : Prop where
  room : Room k A
  gs : A.guards = some []
theorem RoomG.mono {j k : Nat} {A : Around} (r : RoomG k A) (h : j ≤ k) : RoomG j A := ⟨r.room.mono h, r.gs⟩
structure FnOkG (P : Program) (w : World) (K : PySem.W.Frag) (mg : Str → Option Value) (base : Heap) (CX : CXT) (k : Nat) (f : Addr) (fd : FuncData) (ps : List Str) (sp : Sp) : Prop where
  len : ∀ vs H Q E, sp vs H Q E → vs.length = ps.length
  run : ∀ (B : Around) (ou : List Env) (s : Shared) (H : Hp) (ar : Args) (us : List Value) (vs : List V) (Q : VK) (E : XK),
    RoomG k B → Env0 P w K mg base B ou s H → BindsTo s fd ar (ps.zip us) → Vals vs us → sp vs H Q E → codeAny (model P w) B (.call (.ref f) ar) (CR CX ou P w H s Q E) s
section
variable {P : Program} {w : World} {K : PySem.W.Frag} {mg : Str → Option Value} {base : Heap} {CX : CXT} {j k : Nat} {f : Addr} {fd : FuncData} {ps : List Str} {sp : Sp}
theorem FnOkG.mono (F : FnOkG P w K mg base CX j f fd ps sp) (h : j ≤ k) : FnOkG P w K mg base CX k f fd ps sp :=
  ⟨F.len, fun B ou s H ar us vs Q E r => F.run B ou s H ar us vs Q E (r.mono h)⟩
theorem toG (F : FnOk P w K mg base CX k f fd ps sp) : FnOkG P w K mg base CX k f fd ps sp :=
  ⟨F.len, fun B ou s H ar us vs Q E r => F.run B ou s H ar us vs Q E r.room⟩
/-- the rule for such a def -/
theorem okG {x qual : Str} {pa : Arguments} {bd : List Stmt} {sc : Scope} {dvs : List V} {kws : List (Str × V)} {N : List Str} (F : FunD K x qual pa bd sc dvs kws f fd) (S : FnScope N ps sc) (len : ∀ vs H Q E, sp vs H Q E → vs.length = ps.length)
    (hb : ∀ (c : Value) (B : Around) (ou : List Env) (s : Shared) (H : Hp) (vs : List V) (Q : VK) (E : XK), RoomG k (B.deeper (envOfC qual sc s.heap.objs.size f c)) → sp vs H Q E →
      ∃ t, PSs (cxOf CX P w K mg base N qual sc f c B ou s H E).nox bd t ∧ t { nx := fun _ H' => Q .non H', rt := Q } (start N vs) H) : FnOkG P w K mg base CX (k + 1) f fd ps sp := by
  obtain ⟨oc, od, dV, kV, doc, pm, an, c, ct, osl, rfl, lk, hcd, _, _⟩ := F.ex
  refine ⟨len, fun B ou s H ar us vs Q E hr e0 hbi r hsp => ?_⟩
  have KX : K.In s.heap := e0.mod.kin.keeps fun b o e => (e0.bs b o e).1
  have lim := e0.mod.nolimit.keeps fun b o e => (e0.bs b o e).1
  have hk : ∀ y ∈ ps.zip us, sc.names.lookup y.1 = some .local ∨ (sc.names.lookup y.1 = some .cell ∧ ((cellsFrom (s.heap.objs.size + 1) sc.names []).lookup y.1).isSome = true) := by
    rintro ⟨n, v⟩ hy
    rcases S.par n (List.of_mem_zip hy).1 with z | z
    · exact .inl z
    · exact .inr ⟨z, PySem.W.cellsFrom_some _ _ _ (.inl z)⟩
  refine codeAny_call_function hr.room.depth (KX _ _ lk) rfl S.co S.gen rfl (PySem.W.codeRec_of KX hcd) (hbi _ _ _ _ ?_)
  refine wpAny_newFunctionEnv_cells S.kind hk fun env he s1 x => ?_
  subst he
  refine ⟨lim.keeps x.toInCall.keep, codeAny_func ?_⟩
  obtain ⟨t, ht, hq⟩ := hb c B ou s H vs Q E ⟨hr.room.deeper _, hr.gs⟩ hsp
  have I : Inv (cxOf CX P w K mg base N qual sc f c B ou s H E) [] (start N vs) H s1 := inv_start S hr.room.hd e0 (len _ _ _ _ hsp) r x
  refine wpAny_mono (ht.nox.run [] s1 (start N vs) H _ I hq) (fun fl s' hs => ?_) fun e s' z => z
  cases fl with
  | ret u =>
    obtain ⟨v, σ', H', J, rv, q⟩ := hs
    exact ⟨v, H', J.os, J.bare, J.base, J.hok, rv, q⟩
  | next =>
    obtain ⟨σ', H', J, q⟩ := hs
    exact ⟨V.non, H', J.os, J.bare, J.base, J.hok, rfl, q⟩
  | brk =>
    obtain ⟨_, _, _, z⟩ := hs
    exact z.elim
  | cont =>
    obtain ⟨_, _, _, z⟩ := hs
    exact z.elim
end

/-- a def of the module with its promise, for calls where no repr is under way -/
structure Gg (P : Program) (w : World) (K : PySem.W.Frag) (mg : Str → Option Value) (base : Heap) (x : Str) (k : Nat) (ps : List Str) (sp : Sp) (f : Addr) (fd : FuncData) : Prop where
  g : mg x = some (.ref f)
  kp : PySem.W.keepIn K (.ref f) = true
  b : Binds K fd ps []
  ok : FnOkG P w K mg base CX0 k f fd ps sp
theorem Gd.toG {P : Program} {w : World} {K : PySem.W.Frag} {mg : Str → Option Value} {base : Heap} {x : Str} {k : Nat} {ps : List Str} {sp : Sp} {f : Addr} {fd : FuncData} (D : Gd P w K mg base x k ps sp f fd) : Gg P w K mg base x k ps sp f fd := ⟨D.g, D.kp, D.b, Mc.toG D.ok⟩
section
variable {X : Cx} {x : Str} {k n : Nat} {ps : List Str} {sp : Sp} {f : Addr} {fd : FuncData} {p pos : Pos} {e : Expr} {es : List Expr} {t : TA}
theorem run_gg {pins : List (Addr × Obj)} {σ : L2.St} {H : Hp} {s : Shared} {Q : VK} {us : List Value} {vs : List V} (D : Gg X.prog X.w X.K X.mg X.base x k ps sp f fd) (hr : RoomG k X.A) (I : Inv X pins σ H s) (r : Vals vs us) (h : sp vs H Q E0) :
    wpAny (model X.prog X.w) X.A (call (.ref f) us) (EP X pins σ Q) X.xe s := by
  have hl : (us ++ []).length = ps.length := by rw [List.append_nil, ← r.length]; exact D.ok.len _ _ _ _ h
  have hb := D.b s us I.kIn hl
  rw [List.append_nil] at hb
  refine wpAny_call (codeAny_mono (D.ok.run X.A X.stack s H ⟨us, []⟩ us vs Q E0 hr I.env0 hb r h) fun r s' hq => ?_)
  cases r with
  | error e => exact hq.elim
  | ok fl =>
    cases fl with
    | ret u => exact I.after hq
    | next => exact hq.elim
    | brk => exact hq.elim
    | cont => exact hq.elim
theorem pe_gg (D : Gg X.prog X.w X.K X.mg X.base x k ps sp f fd) (hr : RoomG n X.A) (hk : k ≤ n) (hg : Gl X x) (ha : PA X (e :: es) t) (hdb : (x == ("__debug__" : Str)) = false := by decide)
    (he : starEach (e :: es) X.env = (false, eval e X.env) :: starEach es X.env := by rfl) (hpl : (backTo pos (starEach es X.env)).any (·.1) = false := by rfl) : PE X (.Call (.Name x p) (e :: es) [] pos) (tCall sp [] E0 t) := by
  refine ⟨fun pins s σ H Q I h => ?_⟩
  refine wpAny_Call_Name_kw (ld_glob I hg D.g ?_ hdb)
  refine PySem.W.callWith_K (h₀ := X.base) I.ok.mod.kin D.kp (thn (ha.run pos pins s σ H _ I h) fun us s1 ⟨vs, H1, I1, r, q⟩ => ⟨I1.kIn, ?_⟩) he hpl
  have q2 : sp (vs ++ []) H1 Q E0 := q
  rw [List.append_nil] at q2
  exact run_gg D (hr.mono hk) I1 r q2
end

/-! ### repr, called -/
def rRepr (X : Cx) (n : Nat) : List V → Hp → VK → Prop := fun vs H Q => ∃ (x : V) (as : List Addr) (t : Str), vs = [x] ∧ RpG X n as x t H ∧ t.length ≤ sizeLine ∧ ∀ H', Ext H H' → Q (.str t) H'
section
variable {X : Cx} {n : Nat}
/-- repr of a list -/
theorem call_reprL (hr : RoomG (n + 3) X.A) : CallR X (.builtin "repr") (fun vs H Q => ∃ (a : Addr) (xs : List V) (as : List Addr) (ts : List Str), vs = [.ref a] ∧ SqL X.K H a xs ∧ a ∉ as ∧ ts.length = xs.length ∧
    (∀ (i : Nat) x, xs[i]? = some x → ∃ t, ts[i]? = some t ∧ RpG X n as x t H) ∧ (listText ts).length ≤ sizeLine ∧ ∀ H', Ext H H' → Q (.str (listText ts)) H') := by
  intro pins s σ H vs us Q I r h
  obtain ⟨a, xs, as, ts, rfl, hl, hna, hlen, hT, hz, q⟩ := h
  obtain ⟨u, rfl, ru⟩ := vals1 r
  cases (show u = Value.ref a from ru)
  obtain ⟨its, rv, ⟨oa, na, ha, hc, hd, hda⟩, _⟩ := I.list hl
  have hTy : s.TypeIs (.ref a) "list" := ⟨oa, ha, hc⟩
  have hu : X.A.units + 1 < cLine := hr.room.in1.units0
  refine call_repr_slot hu hTy F.slot_list_repr.toG ?_
  have sg : SubG X (n + 1) X.A.in1 [] := ⟨(hr.room.mono (by omega)).in1, rfl, hr.gs⟩
  by_cases hx : xs = []
  · subst hx
    cases rv
    have ht : ts = [] := List.length_eq_zero_iff.mp hlen
    subst ht
    exact call_list_repr_empty hTy ha hda ⟨_, _, rfl, .str (listText []), H, I.tok _, ⟨_, rfl⟩, q H Ext.rfl'⟩
  · exact wpAny_call (codeAny_call_builtin F.slot_list_repr.plain F.entry_list_repr (F.slot_list_repr.check _ _ _ _ _ _ _ _ hTy (F.args_list_repr_1 _)
      (rp_listAt (b0 := 0) (R := callEnd _ _) sg (fun c _ => Clear.nil c) hna hl hx hlen hT (by omega) (fun u s' H' I' e' => ⟨_, _, rfl, .str (listText ts), H', I', ⟨_, rfl⟩, q H' e'⟩) (fun e s' z => z) Ext.rfl' I)))
end
end Mc

set_option Elab.async false
set_option linter.all false
set_option maxRecDepth 100000
set_option maxHeartbeats 4000000
namespace Mc
open PySem PySem.Spec PyProof.Rows L2
open PySem.Builtin

section
variable {prog : Program} {w : World} {A : Around} {E : Value → Shared → Prop} {s : Shared} {K : PySem.W.Frag} {x C f : Addr} {ox : Obj} {od : Option Obj} {b tb : Value}
/-- a special method that is a built-in's, found in the class -/
theorem ifBoundB {M : Model} {name : Str} {id : String} {args : List Value} {Q : Option Value → Shared → Prop} (X : K.In s.heap) (I : PySem.W.InstAt s.heap x ox C od) (hs : PySem.W.findIn K (.ref C) name = some (some (.builtin id)))
    (hb : ∀ v, bindSpecial (.builtin id) v = pure (.builtin id, [v])) (h : wpAny M A (call (.builtin id) (.ref x :: args)) (fun v => Q (some v)) E s) : wpAny M A (callSpecialIfBound? (.ref x) name args) Q E s := by
  simp only [callSpecialIfBound?, bindSpecialIfBound?]
  refine wpAny_holding (wpAny_bind (wpAny_bind (wpAny_bind (I.type.here ((PySem.W.looks_findIn X hs).here ?_)))))
  refine wpAny_bind (wpAny_askSetting (wpAny_ite ?_))
  have fin : wpAny M A (call (.builtin id) ([.ref x] ++ args) >>= fun v => pure (some v)) Q E s := wpAny_bind (wpAny_mono h (fun v s' z => wpAny_pure z) fun _ _ z => z)
  split
  · exact wpAny_bind ((PySem.W.Looks.of_pure (hb _)).here (wpAny_pure (by exact fin)))
  · exact wpAny_tryCatch (wpAny_bind ((PySem.W.Looks.of_pure (hb _)).here (wpAny_pure (by exact fin))))
/-- x != b, where the class has its own == and the built-in != -/
theorem ne_own {Q : Value → Shared → Prop} (hu : A.units + 1 < cLine) (X : K.In s.heap) (I : PySem.W.InstAt s.heap x ox C od) (hb : PySem.W.Looks (model prog w) s.heap (typeOf b) tb) (hn : PySem.W.notFirst K C tb = true)
    (hne : PySem.W.findIn K (.ref C) "__ne__" = some (some (.builtin "object.__ne__"))) (heq : PySem.W.findIn K (.ref C) "__eq__" = some (some (.ref f))) (hf : PySem.W.isFn K (.ref f) = true) (hm : PySem.W.mroIn K C (.type "object") = some true)
    (h : wpAny (model prog w) A.in1 (call (.ref f) [.ref x, b]) (fun v s' => ∃ c, v = .bool c ∧ Q (.bool (!c)) s') E s) : wpAny (model prog w) A (richCompare .NotEq (.ref x) b) Q E s := by
  have one : wpAny (model prog w) A (tryCompare (.ref x) "__ne__" b) (fun r s' => ∃ v, r = some v ∧ Q v s') E s := by
    unfold tryCompare
    refine wpAny_bind (ifBoundB X I hne F.cmp_object.ne.bind (wpAny_call (codeAny_call_builtin F.cmp_object.ne.plain F.cmpEntry_ne (PySem.W.check_slot F.cmpKind_ne F.cmpSplit_ne (I.type.andThen (PySem.W.looks_mroIn X hm)) (F.cmpArgs_ne _ _) ?_))))
    unfold Builtin.«object.__ne__»
    repeat (first
      | with_reducible refine wpAny_cRoomFor (show A.in1.units < cLine from hu) ?_
      | (refine wpAny_bind (m := callSpecialIfBound? (.ref x) (Str.ofString "__eq__") [b]) (PySem.W.ifBound_K X I heq hf (wpAny_mono h (fun r s' hr => by
          obtain ⟨c, rfl, hq⟩ := hr
          repeat (first | exact ⟨_, rfl, hq⟩ | exact wpAny_pure ⟨_, rfl, hq⟩ | (refine wpAny_bind (m := truthy (.bool _)) (wpAny_truthy_bool ?_)) | wp_step)) fun _ _ e => e)))
      | wp_step)
  unfold richCompare
  simp only [oneThing_ref]
  refine wpAny_holding (wpAny_bind (wpAny_cRoomFor (Nat.lt_of_succ_lt hu) ?_))
  refine wpAny_bind (I.type.here (wpAny_bind (hb.here ?_)))
  split
  · rename_i q
    have e : PySem.W.subIn K tb (.ref C) = some false := by
      rcases Bool.or_eq_true_iff.mp hn with e | e
      · rw [beq_iff_eq.mp e] at q; simp at q
      · exact beq_iff_eq.mp e
    refine wpAny_bind ((PySem.W.looks_subIn X e).here ?_)
    simp only [Bool.false_eq_true, if_false]
    refine wpAny_bind (wpAny_mono one (fun r s' z => ?_) fun _ _ z => z)
    obtain ⟨v, rfl, hq⟩ := z
    exact wpAny_pure hq
  · refine wpAny_bind (wpAny_pure ?_)
    simp only [Bool.false_eq_true, if_false]
    refine wpAny_bind (wpAny_mono one (fun r s' z => ?_) fun _ _ z => z)
    obtain ⟨v, rfl, hq⟩ := z
    exact wpAny_pure hq
end

/-! ### == and != of instances with an own == -/
section
variable {X : Cx} {C f : Addr} {k : Nat} {fd : FuncData} {ps : List Str} {sp : Sp}
theorem run_own {A : Around} {pins : List (Addr × Obj)} {σ : L2.St} {H : Hp} {s : Shared} {Q : VK} {us : List Value} {vs : List V} (F : FnOk X.prog X.w X.K X.mg X.base CX0 k f fd ps sp) (hb : Binds X.K fd ps []) (hr : Room k A) (hf : A.frames = X.A.frames)
    (I : Inv X pins σ H s) (r : Vals vs us) (h : sp vs H Q E0) : wpAny (model X.prog X.w) A (call (.ref f) us) (EP X pins σ Q) X.xe s := by
  have hl : (us ++ []).length = ps.length := by rw [List.append_nil, ← r.length]; exact F.len _ _ _ _ h
  have hbi := hb s us I.kIn hl
  rw [List.append_nil] at hbi
  have e := I.env0
  have e0 : Env0 X.prog X.w X.K X.mg X.base A X.stack s H := ⟨by rw [hf]; exact e.frames, e.mod, e.bs, e.bsz, e.funs, e.frf, e.hok, e.bare⟩
  refine wpAny_call (codeAny_mono (F.run A X.stack s H ⟨us, []⟩ us vs Q E0 hr e0 hbi r h) fun r s' hq => ?_)
  cases r with
  | error e => exact hq.elim
  | ok fl =>
    cases fl with
    | ret u => exact I.after hq
    | next => exact hq.elim
    | brk => exact hq.elim
    | cont => exact hq.elim
/-- the other one's type -/
def rOwnC (K : PySem.W.Frag) (C : Addr) (sp : Sp) (ng : Bool) : R2 := fun x y H Q => ∃ a dx fs t, x = .ref a ∧ H a = some (.ins C dx fs) ∧ TyX K H y t ∧ PySem.W.notFirst K C t = true ∧ sp [x, y] H (fun v H' => ∃ c, v = .bl c ∧ Q (.bl (if ng then !c else c)) H') E0
theorem op_eqO (m : Meth X.K C "__eq__" f) (F : FnOk X.prog X.w X.K X.mg X.base CX0 k f fd ps sp) (hb : Binds X.K fd ps []) (hr : Room k X.A) : OpR X (compareOp .Eq) (rOwnC X.K C sp false) := by
  intro pins s σ H x y v u Q I rx ry h
  obtain ⟨a, dx, fs, t, rfl, ha, ty, hn, q⟩ := h
  cases (show v = Value.ref a from rx)
  obtain ⟨mA, J, _⟩ := ins_get I.hok ha
  obtain ⟨od, J, _⟩ := J.look
  obtain ⟨Pr, kx, hP, _⟩ := kit_of I ry ty
  obtain ⟨mm, hF⟩ := I.fr
  show wpAny (model X.prog X.w) X.A (richCompare .Eq (.ref a) u) (EP X pins σ Q) X.xe s
  refine PySem.W.cmp_K (op := .Eq) hr.units0 hF I.ok.mod.kin J (kx.ty _ _ I.kIn hP) hn m.at_ m.fn ?_
  refine wpAny_mono (run_own (vs := [V.ref a, y]) (us := [Value.ref a, u]) F hb hr rfl I (.cons rfl (.cons ry .nil)) q) (fun z s' hz => ?_) fun _ _ z => z
  obtain ⟨v', H', I', r', c, rfl, q'⟩ := hz
  cases (show z = Value.bool c from r')
  exact ⟨.bl c, H', I', rfl, q'⟩
theorem op_neO (m : Meth X.K C "__eq__" f) (hne : PySem.W.findIn X.K (.ref C) "__ne__" = some (some (.builtin "object.__ne__"))) (hm : PySem.W.mroIn X.K C (.type "object") = some true) (F : FnOk X.prog X.w X.K X.mg X.base CX0 k f fd ps sp) (hb : Binds X.K fd ps []) (hr : Room (k + 1) X.A) :
    OpR X (compareOp .NotEq) (rOwnC X.K C sp true) := by
  intro pins s σ H x y v u Q I rx ry h
  obtain ⟨a, dx, fs, t, rfl, ha, ty, hn, q⟩ := h
  cases (show v = Value.ref a from rx)
  obtain ⟨mA, J, _⟩ := ins_get I.hok ha
  obtain ⟨od, J, _⟩ := J.look
  obtain ⟨Pr, kx, hP, _⟩ := kit_of I ry ty
  show wpAny (model X.prog X.w) X.A (richCompare .NotEq (.ref a) u) (EP X pins σ Q) X.xe s
  refine ne_own hr.in1.units0 I.kIn J (kx.ty _ _ I.kIn hP) hn hne m.at_ m.fn hm ?_
  refine wpAny_mono (run_own (vs := [V.ref a, y]) (us := [Value.ref a, u]) F hb hr.in1 rfl I (.cons rfl (.cons ry .nil)) q) (fun z s' hz => ?_) fun _ _ z => z
  obtain ⟨v', H', I', r', c, rfl, q'⟩ := hz
  cases (show z = Value.bool c from r')
  exact ⟨c, rfl, .bl (!c), H', I', rfl, q'⟩
/-- str of such an instance -/
def rStrO (C : Addr) (sp : Sp) : List V → Hp → VK → Prop := fun vs H Q => ∃ a dx fs, vs = [.ref a] ∧ H a = some (.ins C dx fs) ∧ sp vs H (fun v H' => ∃ t, v = .str t ∧ Q (.str t) H') E0
theorem call_strO (m : Meth X.K C "__str__" f) (F : FnOk X.prog X.w X.K X.mg X.base CX0 k f fd ps sp) (hb : Binds X.K fd ps []) (hr : Room (k + 2) X.A) : CallR X (.type "str") (rStrO C sp) := by
  intro pins s σ H vs us Q I r h
  obtain ⟨a, dx, fs, rfl, ha, q⟩ := h
  obtain ⟨u, rfl, ru⟩ := vals1 r
  cases (show u = Value.ref a from ru)
  obtain ⟨mA, J, _⟩ := ins_get I.hok ha
  obtain ⟨od, J, _⟩ := J.look
  refine PySem.W.kso_call hr.in1.in1.units0 I.kIn J m.at_ m.fn ?_
  refine wpAny_mono (run_own (vs := [V.ref a]) (us := [Value.ref a]) F hb hr.in1.in1 rfl I (.cons rfl .nil) q) (fun z s' hz => ?_) fun _ _ z => z
  obtain ⟨v', H', I', r', t, rfl, q'⟩ := hz
  obtain ⟨tk, rfl⟩ := (show ∃ tk, z = Value.str t tk from r')
  exact ⟨.str t, H', I', ⟨tk, rfl⟩, q'⟩
/-- repr of such an instance -/
theorem call_reprO (m : Meth X.K C "__repr__" f) (F : FnOk X.prog X.w X.K X.mg X.base CX0 k f fd ps sp) (hb : Binds X.K fd ps []) (hr : Room (k + 1) X.A) : CallR X (.builtin "repr") (rStrO C sp) := by
  intro pins s σ H vs us Q I r h
  obtain ⟨a, dx, fs, rfl, ha, q⟩ := h
  obtain ⟨u, rfl, ru⟩ := vals1 r
  cases (show u = Value.ref a from ru)
  obtain ⟨mA, J, _⟩ := ins_get I.hok ha
  obtain ⟨od, J, _⟩ := J.look
  obtain ⟨mm, hF⟩ := I.fr
  refine PySem.W.repr_K hr.in1.units0 hF I.ok.mod.kin J m.at_ m.fn ?_
  refine wpAny_mono (run_own (vs := [V.ref a]) (us := [Value.ref a]) F hb hr.in1 rfl I (.cons rfl .nil) q) (fun z s' hz => ?_) fun _ _ z => z
  obtain ⟨v', H', I', r', t, rfl, q'⟩ := hz
  obtain ⟨tk, rfl⟩ := (show ∃ tk, z = Value.str t tk from r')
  exact ⟨.str t, H', I', ⟨tk, rfl⟩, q'⟩
/-- .. within a list -/
theorem rpG_own {a dx : Addr} {fs : List (Str × V)} {t : Str} {H0 : Hp} (m : Meth X.K C "__repr__" f) (F : FnOk X.prog X.w X.K X.mg X.base CX0 k f fd ps sp) (hb : Binds X.K fd ps [])
    (ha : H0 a = some (.ins C dx fs)) (hsp : ∀ H Q, Ext H0 H → (∀ H', Ext H H' → Q (.str t) H') → sp [.ref a] H Q E0) : RpG X k [] (.ref a) t H0 := by
  intro A g pins s σ H u b sg hcl I e0 rx hz
  cases (show u = Value.ref a from rx)
  obtain ⟨mA, J, _⟩ := ins_get I.hok (e0 _ _ ha)
  obtain ⟨od, J, _⟩ := J.look
  refine wpAny_pyReprUnder_ref (by omega) ?_
  unfold pyReprObjUnder pyReprObjBy
  refine wpAny_bind (wpAny_cRoomFor sg.room.units0 ?_)
  refine wpAny_bind (wpAny_bind (J.type.here ((PySem.W.looks_findIn I.kIn m.at_).here ?_)))
  show wpAny _ _ (if (some (Value.ref f)).isNone = true then _ else _) _ _ _
  rw [if_neg (by simp)]
  have run := run_own (A := A) (vs := [V.ref a]) (us := [Value.ref a]) (Q := fun v H' => v = .str t ∧ Ext H H') F hb sg.room sg.fr I (.cons rfl .nil) (hsp H _ e0 fun H' e => ⟨rfl, e⟩)
  have fin : wpAny (model X.prog X.w) A (call (.ref f) [.ref a]) (fun v s' => (∃ tk, v = Value.str t tk) ∧ ∃ H', Inv X pins σ H' s' ∧ Ext H H') X.xe s := wpAny_mono run (fun z s' hz => by
    obtain ⟨v', H', I', r', rfl, e⟩ := hz
    exact ⟨r', H', I', e⟩) fun _ _ z => z
  dsimp only
  have fin2 : ∀ (R : Option Value → Shared → Prop), (∀ v s', ((∃ tk, v = Value.str t tk) ∧ ∃ H', Inv X pins σ H' s' ∧ Ext H H') → R (some v) s') → wpAny (model X.prog X.w) A (call (.ref f) ([.ref a] ++ []) >>= fun v => pure (some v)) R X.xe s := fun R hR =>
    wpAny_bind (wpAny_mono fin (fun v s' z => wpAny_pure (hR v s' z)) fun _ _ z => z)
  refine wpAny_bind ?_
  simp only [callSpecialIfBoundBy?, bindSpecialIfBound?]
  refine wpAny_holding (wpAny_bind (wpAny_bind (wpAny_bind (J.type.here ((PySem.W.looks_findIn I.kIn m.at_).here ?_)))))
  have done : ∀ v s', ((∃ tk, v = Value.str t tk) ∧ ∃ H', Inv X pins σ H' s' ∧ Ext H H') → wpAny (model X.prog X.w) A (do
      let b ← isInstance v (Value.type "str")
      if b = true then pure v else do
        let n ← typeNameOf v
        raiseErrorMade "TypeError" (toString "__repr__ returned non-string (type " ++ toString n ++ toString ")")) (fun v s' => ∃ x u, v = Value.str x u ∧ x = t ∧ ∃ H', Inv X pins σ H' s' ∧ Ext H H') X.xe s' := by
    rintro v s' ⟨⟨tk, rfl⟩, H', I', e⟩
    refine wpAny_bind (wpAny_isInstance (T := "str") (b := true) rfl isSubtype_str_str ?_)
    rw [if_pos rfl]
    exact wpAny_pure ⟨_, _, rfl, rfl, H', I', e⟩
  refine wpAny_bind (wpAny_askSetting (wpAny_ite ?_))
  split
  · exact wpAny_bind ((PySem.W.bind_fn I.kIn _ (beq_iff_eq.mp m.fn)).here (wpAny_pure (by exact fin2 _ done)))
  · exact wpAny_tryCatch (wpAny_bind ((PySem.W.bind_fn I.kIn _ (beq_iff_eq.mp m.fn)).here (wpAny_pure (by exact fin2 _ done))))
end
end Mc

set_option Elab.async false
set_option linter.all false
set_option maxRecDepth 100000
set_option maxHeartbeats 4000000
namespace Mc
open PySem PySem.Spec PyProof.Rows L2
/-! ### static methods, methods by keywords -/
/-- C.m is a staticmethod: its record at p, its def at f -/
structure SMet (K : PySem.W.Frag) (C : Addr) (mc : Value) (m : Str) (p f : Addr) : Prop where
  at_ : PySem.W.findCls K (.ref C) mc m = some (.get (.builtin "staticmethod.__get__") (.ref p) .none (.ref C))
  rc : ∃ rest, PySem.W.recIn K p "staticmethod" = some (.ref f :: rest)
  kp : PySem.W.keepIn K (.ref f) = true
def tSm (sp : Sp) (C : Addr) (to : TE) (t : TA) : TE := fun σ H Q => to σ H fun x H0 => x = .ref C ∧ t σ H0 fun vs H1 => sp vs H1 Q E0
/-- .. by keywords alone, n values ahead of them -/
def tSmK (sp : Sp) (C : Addr) (m : Nat) (gV : List V → List V → List V) (to : TE) (tk : TA) : TE := fun σ H Q => to σ H fun x H0 => x = .ref C ∧ tk σ H0 fun zs H1 => zs.length = m ∧ sp (gV [] zs) H1 Q E0
def tMethK (sp : Sp) (C : Addr) (nm : Str) (m : Nat) (gV : List V → List V → List V) (to : TE) (tk : TA) : TE := fun σ H Q => to σ H fun x H0 => ∃ a dx fs, x = .ref a ∧ H0 a = some (.ins C dx fs) ∧ fs.lookup nm = none ∧ tk σ H0 fun zs H1 => zs.length = m ∧ sp (gV [x] zs) H1 Q E0
section
variable {X : Cx} {C p f : Addr} {mc : Value} {m : Str} {k n : Nat} {fd : FuncData} {ps ks : List Str} {sp : Sp} {o e : Expr} {es : List Expr} {to : TE} {t tk : TA} {pos apos : Pos} {pl : Sem Bool} {kws : List Keyword} {g : List Value → List Value → List Value} {gV : List V → List V → List V}
theorem getsm {pins : List (Addr × Obj)} {σ : L2.St} {H : Hp} {s : Shared} {Q : Value × List Value → Shared → Prop} {E : Value → Shared → Prop} {A : Around} (I : Inv X pins σ H s) (r : ClX.CRead X.K C mc) (c : SMet X.K C mc m p f) (h : ∀ s', Inv X pins σ H s' → Q (.ref f, []) s') :
    wpAny (model X.prog X.w) A (getMethod (.ref C) m pl) Q E s := by
  obtain ⟨rest, hp⟩ := c.rc
  refine PySem.W.method_cls I.kIn r.ga (PySem.W.cls_bind I.kIn r.rd c.at_ (wpAny_call (PySem.W.sm_get (s := { s with toks := s.toks + 1 }) I.kIn hp (PySem.W.handed_on rfl ?_))))
  exact h _ (I.tok _)
theorem pe_sm (ho : PE X o to) (r : ClX.CRead X.K C mc) (c : SMet X.K C mc m p f) (F : FnOk X.prog X.w X.K X.mg X.base CX0 k f fd ps sp) (hr : Room k X.A) (hb : Binds X.K fd ps []) (ha : PA X (e :: es) t)
    (hst : starEach (e :: es) X.env = (false, eval e X.env) :: starEach es X.env := by rfl) (hpl : (backTo pos (starEach es X.env)).any (·.1) = false := by rfl)
    (ht : eval (.Call (.Attribute o m apos) (e :: es) [] pos) X.env = (do
      let ov ← eval o X.env
      standAt apos.atName
      let (f, first) ← holding [ov] (getMethod ov m pl)
      callWith pos f first (backTo pos (starEach (e :: es) X.env)) (backToKw pos (keywordEach [] X.env))) := by rfl) : PE X (.Call (.Attribute o m apos) (e :: es) [] pos) (tSm sp C to t) := by
  refine ⟨fun pins s σ H Q I h => ?_⟩
  refine PySem.W.methodCall_KW (pl := pl) (thn (ho.run pins s σ H _ I h) fun u s1 ⟨x, H1, I1, rx, ex, q⟩ => ?_) ht
  subst ex
  cases (show u = Value.ref C from rx)
  refine getsm I1 r c fun s2 I2 => ?_
  refine PySem.W.callWith_K (h₀ := X.base) I.ok.mod.kin c.kp (thn (ha.run pos pins s2 σ H1 _ I2 q) fun us s3 ⟨vs, H2, I3, rv, q2⟩ => ⟨I3.kIn, ?_⟩) hst hpl
  exact run_own (us := us) (vs := vs) F hb hr rfl I3 rv q2
theorem pe_smK (ho : PE X o to) (r : ClX.CRead X.K C mc) (c : SMet X.K C mc m p f) (F : FnOk X.prog X.w X.K X.mg X.base CX0 k f fd ps sp) (hr : Room k X.A) (hb : KBn X.K fd ps 0 ks g gV) (hkw : PK X kws tk)
    (hall : (backToKw pos (keywordEach kws X.env)).all (·.1.isSome) = true := by rfl) (hks : (backToKw pos (keywordEach kws X.env)).filterMap (·.1) = ks := by rfl)
    (hpl : ((backTo pos (starEach [] X.env)).any (·.1) || (backToKw pos (keywordEach kws X.env)).any (·.1.isNone)) = false := by rfl)
    (ht : eval (.Call (.Attribute o m apos) [] kws pos) X.env = (do
      let ov ← eval o X.env
      standAt apos.atName
      let (f, first) ← holding [ov] (getMethod ov m pl)
      callWith pos f first (backTo pos (starEach [] X.env)) (backToKw pos (keywordEach kws X.env))) := by rfl) : PE X (.Call (.Attribute o m apos) [] kws pos) (tSmK sp C ks.length gV to tk) := by
  refine ⟨fun pins s σ H Q I h => ?_⟩
  refine PySem.W.methodCall_KW (pl := pl) (thn (ho.run pins s σ H _ I h) fun u s1 ⟨x, H1, I1, rx, ex, q⟩ => ?_) ht
  subst ex
  cases (show u = Value.ref C from rx)
  refine getsm I1 r c fun s2 I2 => ?_
  refine PySem.W.callWith_KW0 (h₀ := X.base) (first := []) I.ok.mod.kin c.kp hall ?_ hpl
  refine thn (hkw.run pos pins s2 σ H1 _ I2 q) fun ws s3 ⟨zs, H2, I3, rz, l2, q2⟩ => ⟨I3.kIn, ?_⟩
  rw [hks]
  exact run_fnN (us := []) (vs := []) F hr hb pass0 I3 .nil rz rfl l2 q2
theorem pe_methK (ho : PE X o to) (c : Cls X.K C) (hm : Meth X.K C m f) (F : FnOk X.prog X.w X.K X.mg X.base CX0 k f fd ps sp) (hr : Room k X.A) (hb : KBn X.K fd ps 1 ks g gV) (hkw : PK X kws tk)
    (hall : (backToKw pos (keywordEach kws X.env)).all (·.1.isSome) = true := by rfl) (hks : (backToKw pos (keywordEach kws X.env)).filterMap (·.1) = ks := by rfl)
    (hpl : ((backTo pos (starEach [] X.env)).any (·.1) || (backToKw pos (keywordEach kws X.env)).any (·.1.isNone)) = false := by rfl)
    (ht : eval (.Call (.Attribute o m apos) [] kws pos) X.env = (do
      let ov ← eval o X.env
      standAt apos.atName
      let (f, first) ← holding [ov] (getMethod ov m pl)
      callWith pos f first (backTo pos (starEach [] X.env)) (backToKw pos (keywordEach kws X.env))) := by rfl) : PE X (.Call (.Attribute o m apos) [] kws pos) (tMethK sp C m ks.length gV to tk) := by
  refine ⟨fun pins s σ H Q I h => ?_⟩
  refine PySem.W.methodCall_KW (pl := pl) (thn (ho.run pins s σ H _ I h) fun u s1 ⟨x, H1, I1, rx, a, dx, fs, ex, ea, l, q⟩ => ?_) ht
  subst ex
  cases (show u = Value.ref a from rx)
  refine getmeth_ok I1 ea c hm l ?_
  refine PySem.W.callWith_KW0 (h₀ := X.base) (first := [.ref a]) I.ok.mod.kin hm.kp hall ?_ hpl
  refine thn (hkw.run pos pins s1 σ H1 _ I1 q) fun ws s3 ⟨zs, H2, I3, rz, l2, q2⟩ => ⟨I3.kIn, ?_⟩
  rw [hks]
  exact run_fnN (us := [.ref a]) (vs := [.ref a]) F hr hb pass0 I3 (.cons rfl .nil) rz rfl l2 q2
end
end Mc

set_option Elab.async false
set_option linter.all false
set_option maxRecDepth 100000
set_option maxHeartbeats 4000000
namespace Mc
open PySem PySem.Spec PyProof.Rows L2
/-! ### repr of lists of plain values -/
def shT : V → Str
  | .non => Str.ofString "None"
  | .bl b => if b = true then Str.ofString "True" else Str.ofString "False"
  | .int i => Str.ofString (toString i)
  | .str y => reprText y
  | _ => Str.empty
def shOk : V → Prop
  | .non => True
  | .bl _ => True
  | .int i => i.natAbs < 2 ^ 1900
  | .str y => (reprText y).length ≤ 2000
  | _ => False
theorem big1920 {i : Int} (h : i.natAbs < 2 ^ 1900) : i.natAbs.log2 < 1920 := Nat.lt_of_lt_of_le (m := 1900) (PySem.Flt.log2_lt_of (by decide) h) (by decide)
theorem shT_len {x : V} (h : shOk x) : (shT x).length ≤ 2000 := by
  cases x with
  | non => exact (by decide +kernel : (Str.ofString "None").length ≤ 2000)
  | bl b => cases b <;> decide +kernel
  | int i => exact Nat.le_trans (int_text_len_1921 (big1920 h)) (by decide)
  | str y => exact h
  | _ => exact h.elim
theorem rpG_flat {X : Cx} {x : V} {H : Hp} (h : shOk x) : RpG X 0 [] x (shT x) H := by
  cases x with
  | non => exact rpG_non
  | bl b => exact rpG_bl
  | int i => exact rpG_int (big1920 h)
  | str y => exact rpG_str (by rw [sizeLine_eq]; exact Nat.le_trans h (by decide))
  | _ => exact h.elim
theorem listText_le : ∀ ts : List Str, (listText ts).length ≤ piled ts + 2
  | [] => by decide +kernel
  | t :: r => by
    have h := textFrom_length_pos r 1 (("[" : Str) ++ (if (0 : Nat) > 0 then ", " else "" : String) ++ t) (Nat.succ_pos 0)
    have e : ((("[" : Str) ++ (if (0 : Nat) > 0 then ", " else "" : String) ++ t)).length = 1 + t.length := by
      rw [strLen_append, strLen_append] <;> rfl
    have hX : (listText (t :: r)).length = (textFrom 0 "[" (t :: r)).length + 1 := by
      show (textFrom 0 "[" (t :: r) ++ "]").length = _
      rw [strLen_append] <;> rfl
    have hY : (textFrom 0 "[" (t :: r)).length = (textFrom 1 (("[" : Str) ++ (if (0 : Nat) > 0 then ", " else "" : String) ++ t) r).length := rfl
    rw [hX, hY, h, e, piled_cons]
    omega
theorem piled_le {c : Nat} : ∀ {ts : List Str}, (∀ t ∈ ts, t.length ≤ c) → piled ts ≤ ts.length * (c + 2)
  | [], _ => by simp [piled]
  | t :: r, h => by
    rw [piled_cons, List.length_cons, Nat.succ_mul]
    have h1 := h t List.mem_cons_self
    have h2 := piled_le (c := c) (ts := r) fun z hz => h z (List.mem_cons_of_mem _ hz)
    omega
section
variable {X : Cx} {n : Nat}
def rReprF (K : PySem.W.Frag) : List V → Hp → VK → Prop := fun vs H Q => ∃ (a : Addr) (xs : List V), vs = [.ref a] ∧ SqL K H a xs ∧ (∀ x ∈ xs, shOk x) ∧ xs.length ≤ 1000 ∧ ∀ H', Ext H H' → Q (.str (listText (xs.map shT))) H'
theorem call_reprF (hr : RoomG 3 X.A) : CallR X (.builtin "repr") (rReprF X.K) := by
  intro pins s σ H vs us Q I r h
  obtain ⟨a, xs, rfl, hl, hf, hn, q⟩ := h
  refine call_reprL (n := 0) hr pins s σ H _ us Q I r ⟨a, xs, [], xs.map shT, rfl, hl, (fun z => nomatch z), List.length_map .., fun i x hx => ⟨shT x, by rw [List.getElem?_map, hx]; rfl, rpG_flat (hf x (List.mem_of_getElem? hx))⟩, ?_, q⟩
  have h1 := listText_le (xs.map shT)
  have h2 := piled_le (c := 2000) (ts := xs.map shT) fun t ht => by
    obtain ⟨x, hx, rfl⟩ := List.mem_map.mp ht
    exact shT_len (hf x hx)
  rw [List.length_map] at h2
  rw [sizeLine_eq]
  omega
end
end Mc

set_option Elab.async false
set_option linter.all false
set_option maxRecDepth 100000
set_option maxHeartbeats 4000000
namespace Mc
open PySem PySem.Spec PyProof.Rows L2
/-! ### walks over a list or a tuple alike -/
/-- J walks xs, as long as S holds -/
structure WalkJ (J : It) (S : Hp → Prop) (xs : List V) : Prop where
  go : ∀ i H, S H → i < xs.length → J.go i H
  stop : ∀ i H, S H → xs.length ≤ i → J.stop i H
  yld : ∀ i H x H', S H → i < xs.length → J.yld i H x H' → H' = H ∧ xs[i]? = some x
def SqA (K : PySem.W.Frag) (H : Hp) (a : Addr) (xs : List V) : Prop := SqL K H a xs ∨ SqT K H a xs
theorem walk_l {K : PySem.W.Frag} {a : Addr} {xs : List V} : WalkJ (Itl K a) (fun H => SqL K H a xs) xs :=
  ⟨fun i H h n => ⟨xs, xs[i], h, List.getElem?_eq_getElem n⟩, fun i H h n => ⟨xs, h, n⟩, fun i H x H' h _ y => ⟨y.1, y.2 xs h⟩⟩
theorem walk_t {K : PySem.W.Frag} {a : Addr} {xs : List V} : WalkJ (Itt K a) (fun H => SqT K H a xs) xs :=
  ⟨fun i H h n => ⟨xs, xs[i], h, List.getElem?_eq_getElem n⟩, fun i H h n => ⟨xs, h, n⟩, fun i H x H' h _ y => ⟨y.1, y.2 xs h⟩⟩
theorem walk_r {lo : Int} {n : Nat} : WalkJ (Itr lo n) (fun _ => True) ((List.range n).map fun k => .int (lo + (k : Nat))) where
  go i H _ h := by simpa [Itr] using h
  stop i H _ h := by simpa [Itr] using h
  yld i H x H' _ h y := by
    obtain ⟨rfl, rfl⟩ := y
    refine ⟨rfl, ?_⟩
    rw [List.length_map, List.length_range] at h
    rw [List.getElem?_map, List.getElem?_range h]
    rfl
theorem walk_a {K : PySem.W.Frag} {H : Hp} {a : Addr} {xs : List V} (h : SqA K H a xs) : ∃ (J : It) (S : Hp → Prop), (J = Itl K a ∨ J = Itt K a) ∧ WalkJ J S xs ∧ ∀ H', Ext H H' → S H' := by
  rcases h with h | h
  · exact ⟨_, _, .inl rfl, walk_l, fun _ e => h.ext e⟩
  · exact ⟨_, _, .inr rfl, walk_t, fun _ e => h.ext e⟩
section
variable {J J1 : It} {S S1 : Hp → Prop} {xs : List V} {g g1 : TG} {tb : TS} {tt tt1 : TT} {te : TE} {vs vs1 : List Nat} {E : Ends} {σ : L2.St} {H H1 : Hp} {D : Addr} {Qd : Hp → Prop}
theorem for_walk (w : WalkJ J S xs) (Pv : Nat → L2.St → Hp → Prop) (h0 : Pv 0 σ H) (hS : ∀ i σ H, Pv i σ H → S H)
    (hs : ∀ i x σ H, xs[i]? = some x → Pv i σ H → g x σ H fun σ2 H2 => tb { E with nx := Pv (i + 1), ct := Pv (i + 1), bk := E.nx } σ2 H2) (hd : ∀ σ H, Pv xs.length σ H → E.nx σ H) : ∃ W : Nat → Nat → L2.St → Hp → Prop, (∃ m, W 0 m σ H) ∧ ∀ i m σ H, W i m σ H →
      (J.stop i H ∧ E.nx σ H) ∨ (J.go i H ∧ ∃ N : L2.St → Hp → Prop, (∀ σ' H', N σ' H' → ∃ m', m' < m ∧ W (i + 1) m' σ' H') ∧ ∀ x H', J.yld i H x H' → g x σ H' fun σ2 H2 => tb { E with nx := N, ct := N, bk := E.nx } σ2 H2) := by
  refine ⟨fun i m σ H => i + m = xs.length ∧ Pv i σ H, ⟨xs.length, Nat.zero_add _, h0⟩, fun i m σ H ⟨hm, p⟩ => ?_⟩
  rcases Nat.eq_zero_or_pos m with z | z
  · have e : i = xs.length := by omega
    exact .inl ⟨w.stop i H (hS i σ H p) (Nat.le_of_eq e.symm), hd σ H (e ▸ p)⟩
  · have lt : i < xs.length := by omega
    refine .inr ⟨w.go i H (hS i σ H p) lt, Pv (i + 1), fun _ _ q => ⟨m - 1, by omega, by omega, q⟩, fun x H' y => ?_⟩
    obtain ⟨rfl, hx⟩ := w.yld i H x H' (hS i σ H p) lt y
    exact hs i x σ _ hx p
theorem lc_walk (w : WalkJ J S xs) (Pv : Nat → Hp → Prop) (h0 : Pv 0 (upd H1 D (.lst []))) (hS : ∀ i H, Pv i H → S H) (hs : ∀ i x H, xs[i]? = some x → Pv i H → g x (wipe σ vs) H fun σ2 H2 => wipe σ2 vs = wipe σ vs ∧ tt σ2 H2 fun b H3 => if b = true then te σ2 H3 fun y H4 => ∃ acc, H4 D = some (.lst acc) ∧ acc.length < sizeLine ∧ Pv (i + 1) (upd H4 D (.lst (acc ++ [y]))) else Pv (i + 1) H3) (hd : ∀ H, Pv xs.length H → Qd H) : ∃ W : Nat → Nat → Hp → Prop, (∃ m, W 0 m (upd H1 D (.lst []))) ∧ ∀ i m H, W i m H → (J.stop i H ∧ Qd H) ∨ (J.go i H ∧ ∃ Nx : Hp → Prop, (∀ H', Nx H' → ∃ m', m' < m ∧ W (i + 1) m' H') ∧ ∀ x H', J.yld i H x H' → g x (wipe σ vs) H' fun σ2 H2 => wipe σ2 vs = wipe σ vs ∧ tt σ2 H2 fun b H3 => if b = true then te σ2 H3 fun y H4 => ∃ acc, H4 D = some (.lst acc) ∧ acc.length < sizeLine ∧ Nx (upd H4 D (.lst (acc ++ [y]))) else Nx H3) := by
  refine ⟨fun i m H => i + m = xs.length ∧ Pv i H, ⟨xs.length, Nat.zero_add _, h0⟩, fun i m H ⟨hm, p⟩ => ?_⟩
  rcases Nat.eq_zero_or_pos m with z | z
  · have e : i = xs.length := by omega
    exact .inl ⟨w.stop i H (hS i H p) (Nat.le_of_eq e.symm), hd H (e ▸ p)⟩
  · have lt : i < xs.length := by omega
    refine .inr ⟨w.go i H (hS i H p) lt, Pv (i + 1), fun _ q => ⟨m - 1, by omega, by omega, q⟩, fun x H' y => ?_⟩
    obtain ⟨rfl, hx⟩ := w.yld i H x H' (hS i H p) lt y
    exact hs i x _ hx p
/-- the inner walk of a comprehension with two sources: from turn i of the outer one to turn i + 1 -/
theorem lc_inner {xs1 : List V} {Nx : Hp → Prop} (w : WalkJ J1 S1 xs1) (Pv : Nat → Hp → Prop) (h0 : Pv 0 H) (hS : ∀ j H, Pv j H → S1 H)
    (hs : ∀ j x H, xs1[j]? = some x → Pv j H → g1 x (wipe σ vs1) H fun σ3 H5 => wipe σ3 vs1 = wipe σ vs1 ∧ tt1 σ3 H5 fun b H6 =>
      if b = true then te σ3 H6 fun y H7 => ∃ acc, H7 D = some (.lst acc) ∧ acc.length < sizeLine ∧ Pv (j + 1) (upd H7 D (.lst (acc ++ [y]))) else Pv (j + 1) H6) (hd : ∀ H, Pv xs1.length H → Nx H) :
    ∃ W1 : Nat → Nat → Hp → Prop, (∃ m, W1 0 m H) ∧ ∀ j k H, W1 j k H →
      (J1.stop j H ∧ Nx H) ∨ (J1.go j H ∧ ∃ Nx1 : Hp → Prop, (∀ H', Nx1 H' → ∃ k', k' < k ∧ W1 (j + 1) k' H') ∧ ∀ x H', J1.yld j H x H' → g1 x (wipe σ vs1) H' fun σ3 H5 => wipe σ3 vs1 = wipe σ vs1 ∧ tt1 σ3 H5 fun b H6 =>
        if b = true then te σ3 H6 fun y H7 => ∃ acc, H7 D = some (.lst acc) ∧ acc.length < sizeLine ∧ Nx1 (upd H7 D (.lst (acc ++ [y]))) else Nx1 H6) := by
  refine ⟨fun i m H => i + m = xs1.length ∧ Pv i H, ⟨xs1.length, Nat.zero_add _, h0⟩, fun i m H ⟨hm, p⟩ => ?_⟩
  rcases Nat.eq_zero_or_pos m with z | z
  · have e : i = xs1.length := by omega
    exact .inl ⟨w.stop i H (hS i H p) (Nat.le_of_eq e.symm), hd H (e ▸ p)⟩
  · have lt : i < xs1.length := by omega
    refine .inr ⟨w.go i H (hS i H p) lt, Pv (i + 1), fun _ q => ⟨m - 1, by omega, by omega, q⟩, fun x H' y => ?_⟩
    obtain ⟨rfl, hx⟩ := w.yld i H x H' (hS i H p) lt y
    exact hs i x _ hx p
/-- .. the whole of it -/
theorem lc2_walk {wi1 : TI} (w : WalkJ J S xs) (Pv : Nat → Hp → Prop) (h0 : Pv 0 (upd H1 D (.lst []))) (hS : ∀ i H, Pv i H → S H) (hs : ∀ i x H, xs[i]? = some x → Pv i H → g x (wipe σ vs) H fun σ2 H2 => wipe σ2 vs = wipe σ vs ∧ tt σ2 H2 fun b H3 => if b = true then wi1 σ2 H3 fun J1 H4 => ∃ W1 : Nat → Nat → Hp → Prop, (∃ m, W1 0 m H4) ∧ ∀ j k H, W1 j k H →
        (J1.stop j H ∧ Pv (i + 1) H) ∨ (J1.go j H ∧ ∃ Nx1 : Hp → Prop, (∀ H', Nx1 H' → ∃ k', k' < k ∧ W1 (j + 1) k' H') ∧ ∀ x H', J1.yld j H x H' → g1 x (wipe σ2 vs1) H' fun σ3 H5 => wipe σ3 vs1 = wipe σ2 vs1 ∧ tt1 σ3 H5 fun b H6 => if b = true then te σ3 H6 fun y H7 => ∃ acc, H7 D = some (.lst acc) ∧ acc.length < sizeLine ∧ Nx1 (upd H7 D (.lst (acc ++ [y]))) else Nx1 H6)
      else Pv (i + 1) H3) (hd : ∀ H, Pv xs.length H → Qd H) : ∃ W : Nat → Nat → Hp → Prop, (∃ m, W 0 m (upd H1 D (.lst []))) ∧ ∀ i m H, W i m H → (J.stop i H ∧ Qd H) ∨ (J.go i H ∧ ∃ Nx : Hp → Prop, (∀ H', Nx H' → ∃ m', m' < m ∧ W (i + 1) m' H') ∧ ∀ x H', J.yld i H x H' → g x (wipe σ vs) H' fun σ2 H2 => wipe σ2 vs = wipe σ vs ∧ tt σ2 H2 fun b H3 => if b = true then wi1 σ2 H3 fun J1 H4 => ∃ W1 : Nat → Nat → Hp → Prop, (∃ m, W1 0 m H4) ∧ ∀ j k H, W1 j k H → (J1.stop j H ∧ Nx H) ∨ (J1.go j H ∧ ∃ Nx1 : Hp → Prop, (∀ H', Nx1 H' → ∃ k', k' < k ∧ W1 (j + 1) k' H') ∧ ∀ x H', J1.yld j H x H' → g1 x (wipe σ2 vs1) H' fun σ3 H5 => wipe σ3 vs1 = wipe σ2 vs1 ∧ tt1 σ3 H5 fun b H6 => if b = true then te σ3 H6 fun y H7 => ∃ acc, H7 D = some (.lst acc) ∧ acc.length < sizeLine ∧ Nx1 (upd H7 D (.lst (acc ++ [y]))) else Nx1 H6)
        else Nx H3) := by
  refine ⟨fun i m H => i + m = xs.length ∧ Pv i H, ⟨xs.length, Nat.zero_add _, h0⟩, fun i m H ⟨hm, p⟩ => ?_⟩
  rcases Nat.eq_zero_or_pos m with z | z
  · have e : i = xs.length := by omega
    exact .inl ⟨w.stop i H (hS i H p) (Nat.le_of_eq e.symm), hd H (e ▸ p)⟩
  · have lt : i < xs.length := by omega
    refine .inr ⟨w.go i H (hS i H p) lt, Pv (i + 1), fun _ q => ⟨m - 1, by omega, by omega, q⟩, fun x H' y => ?_⟩
    obtain ⟨rfl, hx⟩ := w.yld i H x H' (hS i H p) lt y
    exact hs i x _ hx p
end
/-! ### for x in e, e a list or a tuple -/
def iSeq (K : PySem.W.Frag) (tl : TE) : TI := fun σ H R => tl σ H fun x H1 => ∃ a xs, x = .ref a ∧ SqA K H1 a xs ∧ ∀ (J : It) (S : Hp → Prop), WalkJ J S xs → (∀ H', Ext H1 H' → S H') → R J H1
section
variable {X : Cx}
theorem pi_seq {tg l : Expr} {tl : TE} (hl : PE X l tl) : PI X tg l (iSeq X.K tl) := by
  constructor
  intro pins s σ H R I h
  refine thn (hl.run pins s σ H _ I h) ?_
  rintro v s1 ⟨x, H1, J1, r1, a, xs, rfl, hq, q⟩
  cases r1
  have mine : ∀ b ∈ [s1.heap.objs.size], FpOk X pins H1 b := fun b hb => by
    rw [List.mem_singleton.mp hb]
    exact J1.fpOk (Nat.le_refl _) (J1.hok.fresh (Nat.le_refl _))
  rcases hq with hq | hq
  · obtain ⟨its, rv, p, hz⟩ := J1.list hq
    exact wpAny_pyIter_list p.isList ⟨_, _, _, _, H1, rfl, J1.kept (t' := s1.toks) fun b o e => Heap.get?_push_of_some _ e, turn_list a _, ⟨_, Heap.get?_push_size _ rfl, rfl, rfl⟩, mine, q _ _ walk_l fun _ e => hq.ext e⟩
  · obtain ⟨its, rv, p, hz⟩ := J1.tuple hq
    exact wpAny_pyIter_tuple p ⟨_, _, _, _, H1, rfl, J1.kept (t' := s1.toks) fun b o e => Heap.get?_push_of_some _ e, turn_tuple a _, ⟨_, Heap.get?_push_size _ rfl, rfl, rfl⟩, mine, q _ _ walk_t fun _ e => hq.ext e⟩
end
end Mc

set_option Elab.async false
set_option linter.all false
set_option maxRecDepth 100000
set_option maxHeartbeats 4000000
namespace Mc
open PySem PySem.Spec PyProof.Rows L2

section
variable {P : Program} {w : World} {K : PySem.W.Frag} {mg : Str → Option Value} {base : Heap} {f fd' : Addr} {fd : FuncData}

def spDraw : Sp := fun vs H Q _ => ∃ (p : Addr) (n : Int), vs = [.ref p, .int n] ∧ Pot H p ∧ 0 < n ∧ n.natAbs.log2 < 9000 ∧ ∀ (r : Int) H', 0 ≤ r → r < n → Frm [p] H H' → Pot H' p → Q (.int r) H'
abbrev nDraw : List Str := ["_law_pot_here", "_law_many", "_law_digit"]
theorem scDraw : FnScope nDraw ["_law_pot_here", "_law_many"] (defScope sDraw) := ⟨rfl, rfl, rfl, by decide +kernel, rfl, by decide +kernel, by decide +kernel⟩
theorem ok_draw (F : Fun K "_law_draw" "_law_draw" sDraw f fd) (tDm : mg "divmod" = none) (tInt : mg "int" = none) : FnOk P w K mg base CX0 1 f fd ["_law_pot_here", "_law_many"] spDraw := by
  refine F.ok scDraw (fun vs H Q E h => ?_) (fun cdv A outer s H vs Q E hr h => ?_)
  · obtain ⟨p, n, rfl, _⟩ := h
    rfl
  · obtain ⟨p, n, rfl, ⟨a, b, hp, ha, hb, hb'⟩, hn, hn', k⟩ := h
    refine ⟨_, pss_cons (ps_if (pt_cmpR op_gt (pe_ix ix_seq (pv 0) pe_int (fun _ _ => rfl)) pe_int (nomark _))
        (pss_cons (ps_asg (pe_callB call_divmodW (by rfl) tDm (by decide +kernel) (pa_cons (pe_ix ix_seq (pv 0) pe_int (fun _ _ => rfl)) (pa_cons (pv 1) pa_nil))) (pg_tup rfl (pgs_cons (pg_sub (pv 0) pe_int set_list) (pgs_cons (pg_name (i := 2) scDraw.nd rfl (.inl rfl)) pgs_nil))))
        (pss_one (ps_ret (pv 2)))) pss_nil)
      (pss_cons (ps_asg (pe_op op_mod (pe_callTy call_int1 (by rfl) tInt (by decide +kernel) (pa_cons (pe_op op_add (pe_op op_mul (pe_ix ix_seq (pv 0) pe_int (fun _ _ => rfl)) pe_int) pe_int) pa_nil)) pe_int) (pg_sub (pv 0) pe_int set_list))
      (pss_one (ps_ret (pe_op op_mod (pe_callTy call_int1 (by rfl) tInt (by decide +kernel) (pa_cons (pe_op op_fdiv (pe_op op_mod (pe_callTy call_int1 (by rfl) tInt (by decide +kernel) (pa_cons (pe_op op_mul (pe_ix ix_seq (pv 0) pe_int (fun _ _ => rfl)) (pe_ix ix_seq (pv 0) pe_int (fun _ _ => rfl))) pa_nil)) pe_int) pe_int) pa_nil)) (pv 1))))), ?_⟩
    -- pot[0] > 0
    refine ⟨_, rfl, .inl ⟨p, _, 0, _, rfl, rfl, SqL.of hp, rfl, _, _, rfl, rfl, _, rfl, ?_⟩⟩
    refine ite2 (fun h0 => ?_) (fun h0 => ?_)
    · refine ⟨_, rfl, .inl ⟨p, _, 0, _, rfl, rfl, SqL.of hp, rfl, _, rfl, a, n, rfl, plain_div a hn hn', fun t ht => ?_⟩⟩
      have hpt : (upd H t (.tup [.int (a / n), .int (a % n)])) p = some (.lst [.int a, .int b]) := by rw [upd_ne (ne_of_none hp ht)]; exact hp
      refine ⟨t, _, rfl, SqT.of upd_same, rfl, _, _, rfl, _, rfl, p, _, 0, 0, rfl, rfl, hpt, rfl, _, _, rfl, rfl, _, rfl, ?_⟩
      refine k _ _ (Int.emod_nonneg a (by omega)) (Int.emod_lt_of_pos a hn) ((Frm.new ht).trans (Frm.put (List.mem_singleton.mpr rfl))) ⟨a / n, b, upd_same, Int.ediv_nonneg ha (by omega), hb, hb'⟩
    · refine ⟨_, rfl, .inl ⟨p, _, 1, _, rfl, rfl, SqL.of hp, rfl, _, _, rfl, rfl, .inl ⟨by omega, by omega⟩, _, _, rfl, rfl, .inl ⟨_, rfl, _, _, rfl, rfl, (by show (0 : Int) < 2147483587; decide), ?_⟩⟩⟩
      have hc0 : 0 ≤ (b * 48271 + 12161) % 2147483587 := Int.emod_nonneg _ (by decide)
      have hc1 : (b * 48271 + 12161) % 2147483587 < 2147483587 := Int.emod_lt_of_pos _ (by decide)
      refine ⟨_, rfl, p, _, 1, 1, rfl, rfl, hp, rfl, ?_⟩
      refine ⟨_, rfl, .inl ⟨p, _, 1, _, rfl, rfl, SqL.of upd_same, rfl, _, rfl, .inl ⟨p, _, 1, _, rfl, rfl, SqL.of upd_same, rfl, _, _, rfl, rfl, .inl ⟨(by show -(2 ^ 64 : Int) < (b * 48271 + 12161) % 2147483587; omega), (by show (b * 48271 + 12161) % 2147483587 < (2 ^ 64 : Int); omega)⟩, .inl ⟨_, rfl, _, _, rfl, rfl, (by show (0 : Int) < 2147483549; decide), _, _, rfl, rfl, ⟨by decide, by decide⟩, .inl ⟨_, rfl, _, rfl, _, _, rfl, rfl, hn, ?_⟩⟩⟩⟩⟩
      exact k _ _ (Int.emod_nonneg _ (by omega)) (Int.emod_lt_of_pos _ hn) (Frm.put (List.mem_singleton.mpr rfl)) ⟨a, (b * 48271 + 12161) % 2147483587, upd_same, ha, hc0, hc1⟩
/-- pick: one of the items -/
def spPick : Sp := fun vs H Q _ => ∃ (p l : Addr) (xs : List V), vs = [.ref p, .ref l] ∧ Pot H p ∧ H l = some (.lst xs) ∧ l ≠ p ∧ 0 < xs.length ∧ xs.length ≤ 1000 ∧
  ∀ (i : Nat) (x : V) H', xs[i]? = some x → Frm [p] H H' → Pot H' p → Q x H'
abbrev nPick : List Str := ["_law_pot_here", "_law_some"]
theorem scPick : FnScope nPick ["_law_pot_here", "_law_some"] (defScope sPick) := ⟨rfl, rfl, rfl, by decide +kernel, rfl, by decide +kernel, by decide +kernel⟩
theorem ok_pick {fD : Addr} {fdD : FuncData} (F : Fun K "_law_pick" "_law_pick" sPick f fd) (D : Gd P w K mg base "_law_draw" 1 ["_law_pot_here", "_law_many"] spDraw fD fdD) (tLen : mg "len" = none) : FnOk P w K mg base CX0 2 f fd ["_law_pot_here", "_law_some"] spPick := by
  refine F.ok scPick (fun vs H Q E h => ?_) (fun cdv A outer s H vs Q E hr h => ?_)
  · obtain ⟨p, l, xs, rfl, _⟩ := h
    rfl
  · obtain ⟨p, l, xs, rfl, hp, hl, hne, h0, h1, k⟩ := h
    refine ⟨_, pss_one (ps_ret (pe_ix ix_seq (pv 1) (pe_gd D hr (by decide) (by rfl) (pa_cons (pv 0) (pa_cons (pe_callB call_len_seq (by rfl) tLen PySem.boot_len (pa_cons (pv 1) pa_nil)) pa_nil))) (fun _ _ => rfl))), ?_⟩
    refine ⟨_, rfl, _, rfl, _, rfl, l, _, rfl, .inl (SqL.of hl), p, _, rfl, hp, by omega, len_log h1, fun r H1 hr0 hr1 F1 hp1 => ?_⟩
    obtain ⟨i, rfl⟩ := Int.eq_ofNat_of_zero_le hr0
    have hi : i < xs.length := by omega
    exact .inl ⟨l, xs, i, xs[i], rfl, rfl, SqL.of (F1 _ _ hl (by simpa using hne)), atI_nat (List.getElem?_eq_getElem hi), k i _ _ (List.getElem?_eq_getElem hi) F1 hp1⟩
end
end Mc

set_option Elab.async false
set_option linter.all false
set_option maxRecDepth 100000
set_option maxHeartbeats 4000000
namespace Mc
open PySem PySem.Spec PyProof.Rows L2
section
variable {P : Program} {w : World} {K : PySem.W.Frag} {mg : Str → Option Value} {base : Heap} {f : Addr} {fd : FuncData}

def spPot (K : PySem.W.Frag) : Sp := fun vs H Q _ => ∃ (l : Addr) (ns : List Int) (k : Nat), vs = [.ref l, .int k] ∧ SqL K H l (ns.map V.int) ∧ k < 64 ∧ ∀ q H', H q = none → Frm [] H H' → Pot H' q → Q (.ref q) H'
theorem sc_pot : FnScope ["_law_script", "_law_k", "_law_whole"] ["_law_script", "_law_k"] (defScope sPot) := ⟨rfl, rfl, rfl, by decide +kernel, rfl, by decide +kernel, by decide +kernel⟩
theorem pot_ok (G z : Int) : PotOk (if G > 0 then G else 0) (z % 2147483477 + 1) := by
  have h1 := Int.emod_nonneg z (show (2147483477 : Int) ≠ 0 by decide)
  have h2 := Int.emod_lt_of_pos z (show (0 : Int) < 2147483477 by decide)
  refine ⟨?_, by omega, by omega⟩
  split <;> omega
theorem ok_pot (F : Fun K "_law_pot" "_law_pot" sPot f fd) (T : TB mg) : FnOk P w K mg base CX0 1 f fd ["_law_script", "_law_k"] (spPot K) := by
  refine F.ok sc_pot (fun vs H Q E h => ?_) (fun cdv A outer s H vs Q E hr h => ?_)
  · obtain ⟨l, ns, k, rfl, _⟩ := h
    rfl
  · obtain ⟨l, ns, k, rfl, hl, hk, q⟩ := h
    refine ⟨_, pss_cons (ps_set (i := 2) sc_pot.nd rfl (.inl rfl) (pe_op op_add (pe_op op_mul pe_int (pv 1)) pe_int))
      (pss_cons (ps_if (pt_cmpR op_lt (pv 1) (pe_callB call_len_seq (by rfl) T.len PySem.boot_len (pa_cons (pv 0) pa_nil)) (nomark _)) (pss_one (ps_set (i := 2) sc_pot.nd rfl (.inl rfl) (pe_callB call_abs (by rfl) T.abs (by decide +kernel) (pa_cons (pe_ix ix_seq (pv 0) (pv 1) (fun _ _ => rfl)) pa_nil)))) pss_nil)
      (pss_one (ps_ret (pe_lst (pa_cons (pe_callB (call_max2 rfl) (by rfl) T.max (by decide +kernel) (pa_cons pe_int (pa_cons (pe_op op_sub (pv 2) (pe_op op_pow pe_int pe_int)) pa_nil))) (pa_cons (pe_op op_add (pe_op op_mod (pe_op op_mul (pe_callTy call_int1 (by rfl) T.int (by decide +kernel) (pa_cons (pe_op op_add (pe_op op_mod (pe_callTy call_int1 (by rfl) T.int (by decide +kernel) (pa_cons (pv 2) pa_nil)) pe_int) pe_int) pa_nil)) (pe_op op_pow (pe_op op_add (pe_op op_mul pe_int (pv 1)) pe_int) pe_int)) pe_int) pe_int) pa_nil)))))), ?_⟩
    refine ⟨_, rfl, _, _, rfl, rfl, .inl ⟨by decide, by decide⟩, _, _, rfl, rfl, ?_⟩
    refine ⟨_, rfl, _, rfl, l, _, rfl, .inl hl, _, _, rfl, rfl, _, rfl, ?_⟩
    have hk3 : ((2 * (k : Int) + 3) : Int).natAbs < 2 ^ 64 := by omega
    refine ite2 (fun h0 => ?_) (fun h0 => ?_)
    · have hk2 : k < ns.length := by
        have := of_decide_eq_true h0
        rw [List.length_map] at this
        omega
      refine ⟨_, rfl, _, rfl, .inl ⟨l, _, _, V.int ns[k], rfl, rfl, hl, atI_nat (by rw [List.getElem?_map, List.getElem?_eq_getElem hk2]; rfl), _, rfl, ?_⟩⟩
      refine ⟨_, rfl, _, _, rfl, rfl, ⟨by decide, by decide, by decide⟩, _, _, rfl, rfl, _, _, rfl, ?_⟩
      refine ⟨_, rfl, .inl ⟨_, rfl, _, _, rfl, rfl, (by show (0 : Int) < 2147483549; decide), _, _, rfl, rfl, .inl ⟨_, rfl, ?_⟩⟩⟩
      refine ⟨_, rfl, _, _, rfl, rfl, .inl ⟨by decide, by decide⟩, _, _, rfl, rfl, _, _, rfl, rfl, ⟨by decide, by decide, hk3⟩, ?_⟩
      have hF := fun F : Int => (⟨Int.emod_nonneg F (show (2147483549 : Int) ≠ 0 by decide), Int.emod_lt_of_pos F (show (0 : Int) < 2147483549 by decide)⟩ : 0 ≤ F % 2147483549 ∧ F % 2147483549 < 2147483549)
      refine ⟨_, _, rfl, rfl, .inl ⟨?_, ?_⟩, _, _, rfl, rfl, (by show (0 : Int) < 2147483477; decide), _, _, rfl, rfl, (by show 2 ≤ sizeLine; decide), fun p hp => ?_⟩
      · exact Int.lt_of_lt_of_le (by decide) (Int.add_nonneg (hF _).1 (by decide))
      · exact Int.lt_of_lt_of_le (Int.add_lt_add_right (hF _).2 7) (by decide)
      · exact q p _ hp (Frm.new hp) ⟨_, _, upd_same, pot_ok _ _⟩
    · refine ⟨_, rfl, _, _, rfl, rfl, ⟨by decide, by decide, by decide⟩, _, _, rfl, rfl, _, _, rfl, ?_⟩
      refine ⟨_, rfl, .inl ⟨_, rfl, _, _, rfl, rfl, (by show (0 : Int) < 2147483549; decide), _, _, rfl, rfl, .inl ⟨_, rfl, ?_⟩⟩⟩
      refine ⟨_, rfl, _, _, rfl, rfl, .inl ⟨by decide, by decide⟩, _, _, rfl, rfl, _, _, rfl, rfl, ⟨by decide, by decide, hk3⟩, ?_⟩
      have hF := fun F : Int => (⟨Int.emod_nonneg F (show (2147483549 : Int) ≠ 0 by decide), Int.emod_lt_of_pos F (show (0 : Int) < 2147483549 by decide)⟩ : 0 ≤ F % 2147483549 ∧ F % 2147483549 < 2147483549)
      refine ⟨_, _, rfl, rfl, .inl ⟨?_, ?_⟩, _, _, rfl, rfl, (by show (0 : Int) < 2147483477; decide), _, _, rfl, rfl, (by show 2 ≤ sizeLine; decide), fun p hp => ?_⟩
      · exact Int.lt_of_lt_of_le (by decide) (Int.add_nonneg (hF _).1 (by decide))
      · exact Int.lt_of_lt_of_le (Int.add_lt_add_right (hF _).2 7) (by decide)
      · exact q p _ hp (Frm.new hp) ⟨_, _, upd_same, pot_ok _ _⟩
end
end Mc

set_option Elab.async false
set_option linter.all false
set_option maxRecDepth 100000
set_option maxHeartbeats 4000000
set_option exponentiation.threshold 20000
namespace Mc
open PySem PySem.Spec PyProof.Rows L2 ClX StX
/-- an axis by its first sign -/
def axS (b : Bool) : Str := if b then "east" else "north"
abbrev Cut := Bool × Nat
def cutV (c : Cut) : List V := [.str (axS c.1), .int c.2]
def okC (c : Cut) : Prop := 2 ≤ c.2 ∧ c.2 ≤ 4
/-- what the text says of Plan and of the module's constants -/
structure PlanT (K : PySem.W.Frag) (mg : Str → Option Value) (C0 aX : Addr) (mc : Value) : Prop where
  cl : Cls K C0
  nR : NoAttr K C0 "_rounds"
  nP : NoAttr K C0 "_parts"
  nL : NoAttr K C0 "_places"
  nG : NoAttr K C0 "_growth"
  mgP : mg "Plan" = some (.ref C0)
  mF : ∃ t, mg "MOST_FINENESS" = some (.int 1000 t)
  lP : ∃ t, mg "LEAST_PARTS" = some (.int 2 t)
  mP : ∃ t, mg "MOST_PARTS" = some (.int 4 t)
  ax : mg "AXES" = some (.ref aX)
  axK : ∀ H, SqT K H aX [.str "east", .str "north"]
  axT : ∃ o, K.lookup aX = some o ∧ o.cls = .type "tuple" ∧ o.dict = none
  cr : ClX.CRead K C0 mc
  cR : ∃ u, ClX.CVal K C0 mc "MOST_ROUNDS" (.int 3) u
  cC : ∃ u, ClX.CVal K C0 mc "MOST_CUTS" (.int 5) u
  cS : ∃ u, ClX.CVal K C0 mc "MOST_SIGNS" (.int 32) u
section
variable {P : Program} {w : World} {K : PySem.W.Frag} {mg : Str → Option Value} {base : Heap} {f C0 aX : Addr} {mc : Value} {fd : FuncData}
theorem sc_is_int : FnScope ["value"] ["value"] (defScope s_is_int) := ⟨rfl, rfl, rfl, by decide +kernel, rfl, by decide +kernel, by decide +kernel⟩
/-- of ints alone -/
def spIsInt : Sp := fun vs H Q _ => ∃ i : Int, vs = [.int i] ∧ Q (.bl true) H
theorem ok_is_int (F : FunD K "is_int" "is_int" (defArgs s_is_int) (defBody s_is_int) (defScope s_is_int) [] [] f fd) (T : TB mg) : FnOk P w K mg base CX0 1 f fd ["value"] (spIsInt) := by
  refine F.ok sc_is_int (fun vs H Q E h => ?_) (fun cdv A outer s H vs Q E hr h => ?_)
  · obtain ⟨i, rfl, k⟩ := h
    rfl
  · obtain ⟨i, rfl, k⟩ := h
    refine ⟨_, (pss_one (ps_ret (pe_and (pe_callB call_isi (by rfl) T.isinstance (by decide +kernel) (pa_cons (pv 0) (pa_cons (pe_bltn (v := .ty "int") (by rfl) T.int (by decide +kernel) rfl) pa_nil))) (pe_one (pe_not (pe_callB call_isi (by rfl) T.isinstance (by decide +kernel) (pa_cons (pv 0) (pa_cons (pe_bltn (v := .ty "bool") (by rfl) T.bool (by decide +kernel) rfl) pa_nil)))))))), ?_⟩
    refine ⟨_, rfl, .int i, _, _, _, true, rfl, .ty "int", .base (.int i), kit_ty (by decide +kernel), true, rfl, iteT ?_⟩
    exact ⟨_, rfl, .int i, _, _, _, false, rfl, .ty "bool", .base (.int i), kit_ty (by decide +kernel), false, rfl, k⟩
theorem sc_is_count : FnScope ["value"] ["value"] (defScope s_is_count) := ⟨rfl, rfl, rfl, by decide +kernel, rfl, by decide +kernel, by decide +kernel⟩
def spCount : Sp := fun vs H Q _ => ∃ i : Int, vs = [.int i] ∧ Q (.bl (decide (i ≥ 0))) H
theorem ok_is_count (F : FunD K "is_count" "is_count" (defArgs s_is_count) (defBody s_is_count) (defScope s_is_count) [] [] f fd) (T : TB mg) {fis_int : Addr} {fdis_int : FuncData} (Dis_int : Gd P w K mg base "is_int" 1 ["value"] (spIsInt) fis_int fdis_int) : FnOk P w K mg base CX0 2 f fd ["value"] (spCount) := by
  refine F.ok sc_is_count (fun vs H Q E h => ?_) (fun cdv A outer s H vs Q E hr h => ?_)
  · obtain ⟨i, rfl, k⟩ := h
    rfl
  · obtain ⟨i, rfl, k⟩ := h
    refine ⟨_, (pss_one (ps_ret (pe_and (pe_gd Dis_int hr (by decide) (by rfl) (pa_cons (pv 0) pa_nil)) (pe_one (pe_cmpR op_ge (pv 0) pe_int (nomark _)))))), ?_⟩
    refine ⟨_, rfl, i, rfl, true, rfl, iteT ⟨_, rfl, _, _, rfl, rfl, ?_⟩⟩
    exact k
theorem sc_is_count_below : FnScope ["value", "bound"] ["value", "bound"] (defScope s_is_count_below) := ⟨rfl, rfl, rfl, by decide +kernel, rfl, by decide +kernel, by decide +kernel⟩
def spBelow : Sp := fun vs H Q _ => ∃ i b : Int, vs = [.int i, .int b] ∧ i ≥ 0 ∧ i < b ∧ Q (.bl true) H
theorem ok_is_count_below (F : FunD K "is_count_below" "is_count_below" (defArgs s_is_count_below) (defBody s_is_count_below) (defScope s_is_count_below) [] [] f fd) (T : TB mg) {fis_count : Addr} {fdis_count : FuncData} (Dis_count : Gd P w K mg base "is_count" 2 ["value"] (spCount) fis_count fdis_count) : FnOk P w K mg base CX0 3 f fd ["value", "bound"] (spBelow) := by
  refine F.ok sc_is_count_below (fun vs H Q E h => ?_) (fun cdv A outer s H vs Q E hr h => ?_)
  · obtain ⟨i, b, rfl, h0, hb, k⟩ := h
    rfl
  · obtain ⟨i, b, rfl, h0, hb, k⟩ := h
    refine ⟨_, (pss_one (ps_ret (pe_and (pe_gd Dis_count hr (by decide) (by rfl) (pa_cons (pv 0) pa_nil)) (pe_one (pe_cmpR op_lt (pv 0) (pv 1) (nomark _)))))), ?_⟩
    refine ⟨_, rfl, i, rfl, _, rfl, ?_⟩
    rw [decide_eq_true h0]
    refine iteT ⟨_, rfl, _, rfl, _, _, rfl, rfl, ?_⟩
    show Q (.bl (decide (i < b))) H
    rw [decide_eq_true hb]
    exact k
theorem sc_check_fineness : FnScope ["f"] ["f"] (defScope s_check_fineness) := ⟨rfl, rfl, rfl, by decide +kernel, rfl, by decide +kernel, by decide +kernel⟩
def spFine : Sp := fun vs H Q _ => ∃ i : Int, vs = [.int i] ∧ i ≥ 0 ∧ i ≤ 1000 ∧ Q .non H
theorem ok_check_fineness (F : FunD K "check_fineness" "check_fineness" (defArgs s_check_fineness) (defBody s_check_fineness) (defScope s_check_fineness) [] [] f fd) (T : TB mg) (R : PlanT K mg C0 aX mc) {fis_count : Addr} {fdis_count : FuncData} (Dis_count : Gd P w K mg base "is_count" 2 ["value"] (spCount) fis_count fdis_count) : FnOk P w K mg base CX0 3 f fd ["f"] (spFine) := by
  refine F.ok sc_check_fineness (fun vs H Q E h => ?_) (fun cdv A outer s H vs Q E hr h => ?_)
  · obtain ⟨i, rfl, h0, h1, k⟩ := h
    rfl
  · obtain ⟨i, rfl, h0, h1, k⟩ := h
    refine ⟨_, (pss_cons (ps_if (pt_not (pt_val (pe_gd Dis_count hr (by decide) (by rfl) (pa_cons (pv 0) pa_nil)))) (pss_one ps_never) pss_nil)
      (pss_one (ps_if (pt_cmpR op_gt (pv 0) (pe_glob (v := .int 1000) (by rfl) R.mF.choose_spec ⟨_, rfl⟩) (nomark _)) (pss_one ps_never) pss_nil))), ?_⟩
    refine ⟨_, rfl, i, rfl, ?_⟩
    rw [decide_eq_true h0]
    refine ⟨_, rfl, iteF ⟨_, rfl, _, _, rfl, rfl, _, rfl, ?_⟩⟩
    rw [decide_eq_false (by omega)]
    exact iteF k
theorem sc_is_axis : FnScope ["value"] ["value"] (defScope s_is_axis) := ⟨rfl, rfl, rfl, by decide +kernel, rfl, by decide +kernel, by decide +kernel⟩
def spAxis : Sp := fun vs H Q _ => ∃ b : Bool, vs = [.str (axS b)] ∧ Q (.bl true) H
theorem ok_is_axis (F : FunD K "is_axis" "is_axis" (defArgs s_is_axis) (defBody s_is_axis) (defScope s_is_axis) [] [] f fd) (T : TB mg) (R : PlanT K mg C0 aX mc) : FnOk P w K mg base CX0 1 f fd ["value"] (spAxis) := by
  refine F.ok sc_is_axis (fun vs H Q E h => ?_) (fun cdv A outer s H vs Q E hr h => ?_)
  · obtain ⟨b, rfl, k⟩ := h
    rfl
  · obtain ⟨b, rfl, k⟩ := h
    refine ⟨_, (pss_one (ps_ret (pe_and (pe_callB call_isi (by rfl) T.isinstance (by decide +kernel) (pa_cons (pv 0) (pa_cons (pe_bltn (v := .ty "str") (by rfl) T.str (by decide +kernel) rfl) pa_nil))) (pe_one (pe_cmpR op_in_seq (pv 0) (pe_glob (v := .ref aX) (by rfl) R.ax rfl) (by rfl)))))), ?_⟩
    refine ⟨_, rfl, .str _, _, _, _, true, rfl, .ty "str", .base (.str _), kit_ty (by decide +kernel), true, rfl, iteT ?_⟩
    refine ⟨_, rfl, aX, _, rfl, .inr (R.axK H), rfl, rfl, ?_⟩
    have e : inV (.str (axS b)) [.str "east", .str "north"] = true := by cases b <;> decide +kernel
    rw [e]
    exact k
theorem sc_is_parts : FnScope ["value"] ["value"] (defScope s_is_parts) := ⟨rfl, rfl, rfl, by decide +kernel, rfl, by decide +kernel, by decide +kernel⟩
def spParts : Sp := fun vs H Q _ => ∃ n : Int, vs = [.int n] ∧ 2 ≤ n ∧ n ≤ 4 ∧ Q (.bl true) H
theorem ok_is_parts (F : FunD K "_is_parts" "_is_parts" (defArgs s_is_parts) (defBody s_is_parts) (defScope s_is_parts) [] [] f fd) (T : TB mg) (R : PlanT K mg C0 aX mc) {fis_int : Addr} {fdis_int : FuncData} (Dis_int : Gd P w K mg base "is_int" 1 ["value"] (spIsInt) fis_int fdis_int) : FnOk P w K mg base CX0 2 f fd ["value"] (spParts) := by
  refine F.ok sc_is_parts (fun vs H Q E h => ?_) (fun cdv A outer s H vs Q E hr h => ?_)
  · obtain ⟨n, rfl, h2, h4, k⟩ := h
    rfl
  · obtain ⟨n, rfl, h2, h4, k⟩ := h
    refine ⟨_, (pss_one (ps_ret (pe_and (pe_gd Dis_int hr (by decide) (by rfl) (pa_cons (pv 0) pa_nil)) (pe_one (pe_chain op_le op_le (pe_glob (v := .int 2) (by rfl) R.lP.choose_spec ⟨_, rfl⟩) (pv 0) (pe_glob (v := .int 4) (by rfl) R.mP.choose_spec ⟨_, rfl⟩)))))), ?_⟩
    refine ⟨_, rfl, n, rfl, true, rfl, iteT ?_⟩
    refine ⟨_, rfl, _, _, rfl, rfl, _, rfl, ite2 (fun _ => ?_) (fun hz => absurd (decide_eq_true h2) hz)⟩
    refine ⟨_, _, rfl, rfl, ?_⟩
    show Q (.bl (decide (n ≤ 4))) H
    rw [decide_eq_true h4]
    exact k
theorem sc_is_tuple_of : FnScope ["value", "many"] ["value", "many"] (defScope s_is_tuple_of) := ⟨rfl, rfl, rfl, by decide +kernel, rfl, by decide +kernel, by decide +kernel⟩
def spTupOf : Sp := fun vs H Q _ => ∃ (a : Addr) (xs : List V) (n : Int), vs = [.ref a, .int n] ∧ H a = some (.tup xs) ∧ ((xs.length : Nat) : Int) = n ∧ Q (.bl true) H
theorem ok_is_tuple_of (F : FunD K "is_tuple_of" "is_tuple_of" (defArgs s_is_tuple_of) (defBody s_is_tuple_of) (defScope s_is_tuple_of) [] [] f fd) (T : TB mg) : FnOk P w K mg base CX0 1 f fd ["value", "many"] (spTupOf) := by
  refine F.ok sc_is_tuple_of (fun vs H Q E h => ?_) (fun cdv A outer s H vs Q E hr h => ?_)
  · obtain ⟨a, xs, n, rfl, ha, hn, k⟩ := h
    rfl
  · obtain ⟨a, xs, n, rfl, ha, hn, k⟩ := h
    refine ⟨_, (pss_one (ps_ret (pe_and (pe_callB call_isi (by rfl) T.isinstance (by decide +kernel) (pa_cons (pv 0) (pa_cons (pe_bltn (v := .ty "tuple") (by rfl) T.tuple (by decide +kernel) rfl) pa_nil))) (pe_one (pe_cmpR op_eq (pe_callB call_len_seq (by rfl) T.len PySem.boot_len (pa_cons (pv 0) pa_nil)) (pv 1) (nomark _)))))), ?_⟩
    refine ⟨_, rfl, .ref a, _, _, _, true, rfl, .ty "tuple", .base (.tup ha), kit_ty (by decide +kernel), true, rfl, iteT ?_⟩
    refine ⟨_, rfl, a, _, rfl, .inr (SqT.of ha), _, rfl, rfl, ?_⟩
    rw [decide_eq_true (by rw [hn])]
    exact k
theorem sc_is_cut : FnScope ["value"] ["value"] (defScope s_is_cut) := ⟨rfl, rfl, rfl, by decide +kernel, rfl, by decide +kernel, by decide +kernel⟩
def spCut : Sp := fun vs H Q _ => ∃ (a : Addr) (c : Cut), vs = [.ref a] ∧ H a = some (.tup (cutV c)) ∧ okC c ∧ Q (.bl true) H
theorem ok_is_cut (F : FunD K "_is_cut" "_is_cut" (defArgs s_is_cut) (defBody s_is_cut) (defScope s_is_cut) [] [] f fd) (T : TB mg) {fis_tuple_of : Addr} {fdis_tuple_of : FuncData} (Dis_tuple_of : Gd P w K mg base "is_tuple_of" 1 ["value", "many"] (spTupOf) fis_tuple_of fdis_tuple_of) {fis_axis : Addr} {fdis_axis : FuncData} (Dis_axis : Gd P w K mg base "is_axis" 1 ["value"] (spAxis) fis_axis fdis_axis) {fis_parts : Addr} {fdis_parts : FuncData} (Dis_parts : Gd P w K mg base "_is_parts" 2 ["value"] (spParts) fis_parts fdis_parts) : FnOk P w K mg base CX0 3 f fd ["value"] (spCut) := by
  refine F.ok sc_is_cut (fun vs H Q E h => ?_) (fun cdv A outer s H vs Q E hr h => ?_)
  · obtain ⟨a, c, rfl, ha, hc, k⟩ := h
    rfl
  · obtain ⟨a, c, rfl, ha, hc, k⟩ := h
    refine ⟨_, (pss_cons (ps_if (pt_not (pt_val (pe_gd Dis_tuple_of hr (by decide) (by rfl) (pa_cons (pv 0) (pa_cons pe_int pa_nil))))) (pss_one (ps_ret pe_bl)) pss_nil)
      (pss_one (ps_ret (pe_and (pe_gd Dis_axis hr (by decide) (by rfl) (pa_cons (pe_ix ix_seq (pv 0) pe_int (fun _ _ => rfl)) pa_nil)) (pe_one (pe_gd Dis_parts hr (by decide) (by rfl) (pa_cons (pe_ix ix_seq (pv 0) pe_int (fun _ _ => rfl)) pa_nil))))))), ?_⟩
    refine ⟨_, rfl, a, _, 2, rfl, ha, rfl, _, rfl, iteF ?_⟩
    refine ⟨_, rfl, .inr (.inl ⟨a, _, 0, _, rfl, rfl, SqT.of ha, rfl, c.1, rfl, true, rfl, iteT ?_⟩)⟩
    exact ⟨_, rfl, .inr (.inl ⟨a, _, 1, _, rfl, rfl, SqT.of ha, rfl, (c.2 : Int), rfl, by have := hc.1; omega, by have := hc.2; omega, k⟩)⟩
theorem sc_is_list : FnScope ["value"] ["value"] (defScope s_is_list) := ⟨rfl, rfl, rfl, by decide +kernel, rfl, by decide +kernel, by decide +kernel⟩
theorem tyx_seq {K : PySem.W.Frag} {H : Hp} {l : Addr} {xs : List V} (h : SqA K H l xs) : ∃ t, TyX K H (.ref l) (.type t) ∧ (t = "list" ∨ t = "tuple") := by
  rcases h with h | h
  · refine ⟨"list", ?_, .inl rfl⟩
    rcases h with (h | ⟨o, h⟩) | ⟨o, its, n, hk, hc, _⟩
    · exact .base (.lst h)
    · exact .base (.frz h)
    · exact .kList hk hc
  · refine ⟨"tuple", ?_, .inr rfl⟩
    rcases h with (h | ⟨o, h⟩) | ⟨o, its, n, hk, hc, _⟩
    · exact .base (.tup h)
    · exact .fTuple h
    · exact .kTuple hk hc
theorem sq_ext {K : PySem.W.Frag} {H H' : Hp} {l : Addr} {xs : List V} (h : SqA K H l xs) (e : Ext H H') : SqA K H' l xs := by
  rcases h with h | h
  · exact .inl (h.ext e)
  · rcases h with (h | ⟨o, h⟩) | h
    · exact .inr (.inl (.inl (e _ _ h)))
    · exact .inr (.inl (.inr ⟨o, e _ _ h⟩))
    · exact .inr (.inr h)
theorem kit_lt {K : PySem.W.Frag} {t : String} (h : t = "list" ∨ t = "tuple") : PySem.W.kitAny K (.type t) [.type "list", .type "tuple"] = some true := by
  rcases h with rfl | rfl
  · exact kitAny_cons (b := true) (kit_ty (by decide +kernel)) (fun z => nomatch z) (fun _ => rfl)
  · exact kitAny_cons (b := false) (kit_ty (by decide +kernel)) (fun _ => kitAny_cons (b := true) (kit_ty (by decide +kernel)) (fun z => nomatch z) (fun _ => rfl)) (fun z => nomatch z)
theorem ext_put {H H' : Hp} {D : Addr} {o : HO} (e : Ext H H') (h : H D = none) : Ext H (upd H' D o) := fun a u z => by
  rw [upd_ne (ne_of_none z h)]
  exact e _ _ z
theorem rep_put (i : Nat) (x : V) : List.replicate i x ++ [x] = List.replicate (i + 1) x := List.replicate_succ'.symm
theorem all_rep : ∀ n : Nat, (List.replicate n true).all id = true
  | 0 => rfl
  | n + 1 => by rw [List.replicate_succ, List.all_cons, all_rep n]; rfl
theorem lc_yes {σ : L2.St} {H : Hp} {T B : Hp → Prop} (h : T H) : tYes σ H (fun b H3 => if b = true then T H3 else B H3) := by
  show (if true = true then T H else B H)
  rw [if_pos (rfl : true = true)]
  exact h
theorem pd_len {α β : Type} {F : α → β → Prop} : ∀ {l : List α} {m : List β}, Paired F l m → l.length = m.length
  | _, _, .nil => rfl
  | _, _, .cons _ t => by rw [List.length_cons, List.length_cons, pd_len t]
theorem pd_get {α β : Type} {F : α → β → Prop} : ∀ {l : List α} {m : List β}, Paired F l m → ∀ (i : Nat) (a : α), l[i]? = some a → ∃ b, m[i]? = some b ∧ F a b
  | _, _, .nil, i, a, h => by simp at h
  | _, _, .cons r t, 0, a, h => ⟨_, rfl, by cases h; exact r⟩
  | _, _, .cons r t, i + 1, a, h => pd_get t i a h
theorem refs_get {α : Type} {F : Addr → α → Prop} {as : List Addr} {cs : List α} {i : Nat} {x : V} (p : Paired F as cs) (h : (as.map V.ref)[i]? = some x) : ∃ a, x = .ref a ∧ ∃ c, cs[i]? = some c ∧ F a c := by
  rw [List.getElem?_map] at h
  obtain ⟨a, ha, rfl⟩ := Option.map_eq_some_iff.mp h
  obtain ⟨c, h1, h2⟩ := pd_get p i a ha
  exact ⟨a, rfl, c, h1, h2⟩
/-- a round: a list or a tuple of cuts -/
def CutsAt (K : PySem.W.Frag) (H : Hp) (v : V) (cs : List Cut) : Prop := ∃ (l : Addr) (as : List Addr), v = .ref l ∧ SqA K H l (as.map V.ref) ∧ Paired (fun a c => H a = some (.tup (cutV c))) as cs
def spIsList (K : PySem.W.Frag) : Sp := fun vs H Q _ => ∃ (l : Addr) (xs : List V), vs = [.ref l] ∧ SqA K H l xs ∧ ∀ H', Ext H H' → Q (.bl true) H'
theorem ok_is_list (F : FunD K "is_list" "is_list" (defArgs s_is_list) (defBody s_is_list) (defScope s_is_list) [] [] f fd) (T : TB mg) : FnOk P w K mg base CX0 1 f fd ["value"] (spIsList K) := by
  refine F.ok sc_is_list (fun vs H Q E h => ?_) (fun cdv A outer s H vs Q E hr h => ?_)
  · obtain ⟨l, xs, rfl, hl, k⟩ := h
    rfl
  · obtain ⟨l, xs, rfl, hl, k⟩ := h
    refine ⟨_, (pss_one (ps_ret (pe_callB call_isiT (by rfl) T.isinstance (by decide +kernel) (pa_cons (pv 0) (pa_cons (pe_tup (pa_cons (pe_bltn (v := .ty "list") (by rfl) T.list (by decide +kernel) rfl) (pa_cons (pe_bltn (v := .ty "tuple") (by rfl) T.tuple (by decide +kernel) rfl) pa_nil))) pa_nil))))), ?_⟩
    refine ⟨_, rfl, (by show 2 ≤ sizeLine; decide), fun tp htp => ?_⟩
    have e1 : Ext H (upd H tp (.tup [.ty "list", .ty "tuple"])) := Ext.upd htp
    obtain ⟨t, ty, ht⟩ := tyx_seq (sq_ext hl e1)
    exact ⟨.ref l, tp, _, _, _, true, rfl, upd_same, .cons (.ty "list") (.cons (.ty "tuple") .nil), ty, kit_lt ht, k _ e1⟩
theorem sc_is_cuts : FnScope ["value", "cut"] ["value"] (defScope s_is_cuts) := ⟨rfl, rfl, rfl, by decide +kernel, rfl, by decide +kernel, by decide +kernel⟩
def spCuts (K : PySem.W.Frag) : Sp := fun vs H Q _ => ∃ (v : V) (cs : List Cut), vs = [v] ∧ CutsAt K H v cs ∧ 1 ≤ cs.length ∧ cs.length ≤ 5 ∧ (∀ c ∈ cs, okC c) ∧ ∀ H', Ext H H' → Q (.bl true) H'
theorem ok_is_cuts (F : FunD K "_is_cuts" "_is_cuts" (defArgs s_is_cuts) (defBody s_is_cuts) (defScope s_is_cuts) [] [] f fd) (T : TB mg) (R : PlanT K mg C0 aX mc) {fis_list : Addr} {fdis_list : FuncData} (Dis_list : Gd P w K mg base "is_list" 1 ["value"] (spIsList K) fis_list fdis_list) {fis_cut : Addr} {fdis_cut : FuncData} (Dis_cut : Gd P w K mg base "_is_cut" 3 ["value"] (spCut) fis_cut fdis_cut) : FnOk P w K mg base CX0 4 f fd ["value"] (spCuts K) := by
  refine F.ok sc_is_cuts (fun vs H Q E h => ?_) (fun cdv A outer s H vs Q E hr h => ?_)
  · obtain ⟨v, cs, rfl, hv, h1, h5, hc, k⟩ := h
    rfl
  · obtain ⟨v, cs, rfl, hv, h1, h5, hc, k⟩ := h
    refine ⟨_, (pss_cons (ps_if (PW.pt (pw_or (pt_not (pt_val (pe_gd Dis_list hr (by decide) (by rfl) (pa_cons (pv 0) pa_nil)))) (pw_or1 (pt_not (pt_chain op_le op_le pe_int (pe_callB call_len_seq (by rfl) T.len PySem.boot_len (pa_cons (pv 0) pa_nil)) (pe_cval (pe_glob (v := .ref C0) (by rfl) R.mgP rfl))))))) (pss_one (ps_ret pe_bl)) pss_nil)
      (pss_one (ps_ret (pe_callB (cr_all rfl) (by rfl) T.all (by decide +kernel) (pa_cons (pe_lc (own := [("cut", 1)]) (g := gName 1) (tt := tYes) rfl sc_is_cuts.nd (pi_seq (pv 0)) (blkOk_by (own := [("cut", 1)]) (N := ["value", "cut"]) (sc := defScope s_is_cuts) (by decide +kernel)) (fun _ _ _ _ _ => (pg_name (i := 1) sc_is_cuts.nd rfl (.inl rfl))) (fun _ _ _ _ _ => pts_nil) (fun _ _ _ _ _ => (pe_gd Dis_cut hr (by decide) (by rfl) (pa_cons (pv 1) pa_nil)))) pa_nil))))), ?_⟩
    obtain ⟨l, as, rfl, hl, hp⟩ := hv
    have hlen := pd_len hp
    refine ⟨_, rfl, l, _, rfl, hl, fun H1 e1 => ⟨_, rfl, iteF ?_⟩⟩
    have l5 : ((as.map V.ref).length : Int) = (cs.length : Int) := by rw [List.length_map, hlen]
    obtain ⟨uC, hC⟩ := R.cC
    refine ⟨_, rfl, l, _, rfl, sq_ext hl e1, _, _, rfl, rfl, _, rfl, ite2 (fun _ => ?_) (fun hz => absurd (decide_eq_true (by rw [l5]; omega)) hz)⟩
    refine ⟨C0, mc, _, uC, rfl, R.cr, hC, _, _, rfl, rfl, _, rfl, ite2 (fun hz => ?_) (fun _ => ?_)⟩
    · rw [l5] at hz
      have : ¬ ((cs.length : Int) ≤ 5) := by simpa using hz
      omega
    refine ⟨_, rfl, l, _, rfl, sq_ext hl e1, fun J S wj hS D hD => lc_walk wj (fun i H' => H' D = some (.lst (List.replicate i (.bl true))) ∧ Ext H1 H') ⟨upd_same, Ext.upd hD⟩ (fun _ _ p => hS _ p.2) ?_ ?_⟩
    · rintro i x H' hx ⟨hD', e⟩
      obtain ⟨a, ha, c, hci, hac⟩ := refs_get hp hx
      subst ha
      refine ⟨rfl, lc_yes ⟨_, rfl, a, c, rfl, e _ _ (e1 _ _ hac), hc c (List.mem_of_getElem? hci), ?_⟩⟩
      refine ⟨_, hD', ?_, ?_, ext_put e hD⟩
      · rw [List.length_replicate]
        have h6 := (List.getElem?_eq_some_iff.mp hci).1
        exact Nat.lt_of_lt_of_le h6 (Nat.le_trans h5 (by decide))
      · rw [upd_same, rep_put]
    · rintro H' ⟨hD', e⟩
      refine ⟨D, List.replicate cs.length true, rfl, SqL.of ?_, ?_⟩
      · rw [hD', List.map_replicate, List.length_map, hlen]
      · rw [all_rep]
        exact k H' (e1.trans e)
end
end Mc

set_option Elab.async false
set_option linter.all false
set_option maxRecDepth 100000
set_option maxHeartbeats 4000000
set_option exponentiation.threshold 20000
namespace Mc
open PySem PySem.Spec PyProof.Rows L2
/-! ### fractions, as Ratio keeps them -/
def dv (a b : Int) : Int := if b < 0 then -((Nat.gcd a.natAbs b.natAbs : Nat) : Int) else ((Nat.gcd a.natAbs b.natAbs : Nat) : Int)
def redN (a b : Int) : Int := a.fdiv (dv a b)
def redD (a b : Int) : Int := b.fdiv (dv a b)
def fl (n d : Int) : List (Str × V) := [("_top", .int n), ("_bottom", .int d)]
theorem fl_put (n d : Int) : putF "_bottom" (.int d) (putF "_top" (.int n) []) = fl n d := by
  show (if ("_top" : Str) = "_bottom" then _ else (("_top" : Str), V.int n) :: putF "_bottom" (V.int d) []) = fl n d
  rw [if_neg (by decide +kernel)]
  rfl
/-- a number n / d stands at p -/
def RatAt (R0 : Addr) (H : Hp) (p : Addr) (n d : Int) : Prop := ∃ dx, H p = some (.ins R0 dx (fl n d))
theorem RatAt.frm {R0 : Addr} {M : List Addr} {H H' : Hp} {p : Addr} {n d : Int} (h : RatAt R0 H p n d) (f : Frm M H H') (hp : p ∉ M) : RatAt R0 H' p n d := h.elim fun dx e => ⟨dx, f _ _ e hp⟩
theorem RatAt.ext {R0 : Addr} {H H' : Hp} {p : Addr} {n d : Int} (h : RatAt R0 H p n d) (f : Ext H H') : RatAt R0 H' p n d := h.elim fun dx e => ⟨dx, f _ _ e⟩
theorem fl_top (n d : Int) : (fl n d).lookup ("_top" : Str) = some (.int n) := rfl
theorem fl_bottom (n d : Int) : (fl n d).lookup ("_bottom" : Str) = some (.int d) := rfl
theorem dv_ne {a b : Int} (h : b ≠ 0) : dv a b ≠ 0 := by
  have hg0 : Nat.gcd a.natAbs b.natAbs ≠ 0 := fun z => h (by have := Nat.eq_zero_of_gcd_eq_zero_right z; omega)
  unfold dv
  split <;> omega
theorem dv_dvd (a b : Int) : dv a b ∣ a ∧ dv a b ∣ b := by
  have h1 : ((Nat.gcd a.natAbs b.natAbs : Nat) : Int) ∣ a := Int.ofNat_dvd_left.mpr (Nat.gcd_dvd_left _ _)
  have h2 : ((Nat.gcd a.natAbs b.natAbs : Nat) : Int) ∣ b := Int.ofNat_dvd_left.mpr (Nat.gcd_dvd_right _ _)
  unfold dv
  split
  · exact ⟨Int.neg_dvd.mpr h1, Int.neg_dvd.mpr h2⟩
  · exact ⟨h1, h2⟩
theorem red_mul {a b : Int} (h : b ≠ 0) : redN a b * dv a b = a ∧ redD a b * dv a b = b := by
  obtain ⟨h1, h2⟩ := dv_dvd a b
  exact ⟨Int.fdiv_mul_cancel h1, Int.fdiv_mul_cancel h2⟩
theorem dv_sign {a b : Int} (h : b ≠ 0) : (b < 0 ↔ dv a b < 0) := by
  have hg0 : Nat.gcd a.natAbs b.natAbs ≠ 0 := fun z => h (by have := Nat.eq_zero_of_gcd_eq_zero_right z; omega)
  unfold dv
  split <;> omega
theorem dv_pos {a b : Int} (h : 0 < b) : 0 < dv a b := by
  have h1 := dv_sign (a := a) (b := b) (by omega)
  have h2 := dv_ne (a := a) (b := b) (by omega)
  omega
theorem redD_pos {a b : Int} (h : b ≠ 0) : 0 < redD a b := by
  have e := (red_mul (a := a) h).2
  have s := dv_sign (a := a) h
  have n := dv_ne (a := a) h
  by_cases hb : b < 0
  · have hd := s.mp hb
    refine Int.not_le.mp fun z => ?_
    have := Int.mul_nonneg_of_nonpos_of_nonpos z (Int.le_of_lt hd)
    omega
  · have hd : 0 < dv a b := by omega
    refine Int.not_le.mp fun z => ?_
    have := Int.mul_nonpos_of_nonpos_of_nonneg z (Int.le_of_lt hd)
    omega
theorem dv_abs (a b : Int) : (dv a b).natAbs = Nat.gcd a.natAbs b.natAbs := by
  unfold dv
  split <;> omega
theorem red_gcd {a b : Int} (h : b ≠ 0) : Nat.gcd (redN a b).natAbs (redD a b).natAbs = 1 := by
  obtain ⟨e1, e2⟩ := red_mul (a := a) h
  have f1 := congrArg Int.natAbs e1
  have f2 := congrArg Int.natAbs e2
  rw [Int.natAbs_mul, dv_abs] at f1 f2
  have g0 : 0 < Nat.gcd a.natAbs b.natAbs := by
    have := dv_abs a b
    have := dv_ne (a := a) h
    omega
  have e : Nat.gcd ((redN a b).natAbs * Nat.gcd a.natAbs b.natAbs) ((redD a b).natAbs * Nat.gcd a.natAbs b.natAbs) = Nat.gcd a.natAbs b.natAbs := by rw [f1, f2]
  rw [Nat.gcd_mul_right] at e
  exact Nat.eq_of_mul_eq_mul_right g0 (by rw [e, Nat.one_mul])
theorem red_le (a b : Int) : (redN a b).natAbs ≤ a.natAbs ∧ (redD a b).natAbs ≤ b.natAbs := ⟨Int.natAbs_fdiv_le_natAbs _ _, Int.natAbs_fdiv_le_natAbs _ _⟩
/-- a fraction in lowest terms stays as it is -/
theorem red_low {n d : Int} (hd : 0 < d) (hg : Nat.gcd n.natAbs d.natAbs = 1) : redN n d = n ∧ redD n d = d := by
  have e : dv n d = 1 := by
    unfold dv
    rw [if_neg (by omega), hg]
    rfl
  unfold redN redD
  rw [e]
  exact ⟨Int.fdiv_one n, Int.fdiv_one d⟩
theorem red_one (n : Int) : redN n 1 = n ∧ redD n 1 = 1 := red_low (by decide) (by rw [show (1 : Int).natAbs = 1 from rfl, Nat.gcd_one_right])
theorem low_inj {n d n2 d2 : Int} (hd : 0 < d) (hd2 : 0 < d2) (hg : Nat.gcd n.natAbs d.natAbs = 1) (hg2 : Nat.gcd n2.natAbs d2.natAbs = 1) (e : n * d2 = n2 * d) : n = n2 ∧ d = d2 := by
  have en : n.natAbs * d2.natAbs = n2.natAbs * d.natAbs := by rw [← Int.natAbs_mul, ← Int.natAbs_mul, e]
  have h1 : d.natAbs ∣ d2.natAbs := by
    have : d.natAbs ∣ n.natAbs * d2.natAbs := ⟨n2.natAbs, by rw [en, Nat.mul_comm]⟩
    exact Nat.Coprime.dvd_of_dvd_mul_left (show Nat.Coprime d.natAbs n.natAbs from (Nat.gcd_comm _ _).trans hg) this
  have h2 : d2.natAbs ∣ d.natAbs := by
    have : d2.natAbs ∣ n2.natAbs * d.natAbs := ⟨n.natAbs, by rw [← en, Nat.mul_comm]⟩
    exact Nat.Coprime.dvd_of_dvd_mul_left (show Nat.Coprime d2.natAbs n2.natAbs from (Nat.gcd_comm _ _).trans hg2) this
  have h3 : d = d2 := by
    have := Nat.dvd_antisymm h1 h2
    omega
  subst h3
  exact ⟨Int.eq_of_mul_eq_mul_right (by omega) e, rfl⟩
theorem lt_mulp {x y m : Int} (h : 0 < m) : (x * m < y * m ↔ x < y) := ⟨fun z => Int.lt_of_mul_lt_mul_right z (Int.le_of_lt h), fun z => Int.mul_lt_mul_of_pos_right z h⟩
/-- a * d of two fractions, by their lowest terms -/
theorem red_cross {a b c d : Int} (hb : b ≠ 0) (hd : d ≠ 0) : a * d = redN a b * redD c d * (dv a b * dv c d) ∧ c * b = redN c d * redD a b * (dv a b * dv c d) := by
  obtain ⟨e1, e2⟩ := red_mul (a := a) hb
  obtain ⟨e3, e4⟩ := red_mul (a := c) hd
  constructor
  · rw [show a * d = (redN a b * dv a b) * (redD c d * dv c d) by rw [e1, e4]]
    simp only [Int.mul_comm, Int.mul_left_comm, Int.mul_assoc]
  · rw [show c * b = (redN c d * dv c d) * (redD a b * dv a b) by rw [e3, e2]]
    simp only [Int.mul_comm, Int.mul_left_comm, Int.mul_assoc]
theorem red_eq {a b c d : Int} (hb : b ≠ 0) (hd : d ≠ 0) : (redN a b = redN c d ∧ redD a b = redD c d) ↔ a * d = c * b := by
  obtain ⟨x1, x2⟩ := red_cross (a := a) (c := c) hb hd
  constructor
  · rintro ⟨h1, h2⟩
    rw [x1, x2, h1, h2]
  · intro h
    refine low_inj (redD_pos hb) (redD_pos hd) (red_gcd hb) (red_gcd hd) ?_
    refine Int.eq_of_mul_eq_mul_right (Int.mul_ne_zero (dv_ne (a := a) hb) (dv_ne (a := c) hd)) ?_
    rw [← x1, ← x2, h]
theorem red_lt {a b c d : Int} (hb : 0 < b) (hd : 0 < d) : (redN a b * redD c d < redN c d * redD a b) ↔ a * d < c * b := by
  obtain ⟨x1, x2⟩ := red_cross (a := a) (c := c) (b := b) (d := d) (by omega) (by omega)
  rw [x1, x2]
  exact (lt_mulp (Int.mul_pos (dv_pos hb) (dv_pos hd))).symm
theorem red_sgn {a b : Int} (hb : 0 < b) : (redN a b = 0 ↔ a = 0) ∧ (redN a b < 0 ↔ a < 0) := by
  have e := (red_mul (a := a) (b := b) (by omega)).1
  have p := dv_pos (a := a) hb
  constructor
  · constructor
    · intro h; rw [h, Int.zero_mul] at e; exact e.symm
    · intro h
      rw [h] at e ⊢
      rcases Int.mul_eq_zero.mp e with z | z
      · exact z
      · rw [h] at p; omega
  · have h := lt_mulp (x := redN a b) (y := 0) p
    rw [e, Int.zero_mul] at h
    exact h.symm
/-- the same fraction, however it is written -/
theorem red_congr {a b c d : Int} (hb : b ≠ 0) (hd : d ≠ 0) (e : a * d = c * b) : redN a b = redN c d ∧ redD a b = redD c d := (red_eq hb hd).mpr e
theorem red_mulR {a b c d : Int} (hb : 0 < b) (hd : 0 < d) : redN (redN a b * redN c d) (redD a b * redD c d) = redN (a * c) (b * d) ∧ redD (redN a b * redN c d) (redD a b * redD c d) = redD (a * c) (b * d) := by
  obtain ⟨e1, e2⟩ := red_mul (a := a) (b := b) (by omega)
  obtain ⟨e3, e4⟩ := red_mul (a := c) (b := d) (by omega)
  have p1 := redD_pos (a := a) (b := b) (by omega)
  have p2 := redD_pos (a := c) (b := d) (by omega)
  have q1 := Int.mul_pos p1 p2
  have q2 := Int.mul_pos hb hd
  refine red_congr (by omega) (by omega) ?_
  generalize redN a b = N1 at *
  generalize redD a b = D1 at *
  generalize redN c d = N2 at *
  generalize redD c d = D2 at *
  generalize dv a b = g1 at *
  generalize dv c d = g2 at *
  subst e1 e2 e3 e4
  simp only [Int.mul_comm, Int.mul_left_comm, Int.mul_assoc]
theorem red_overR {a b c d : Int} (hb : 0 < b) (hd : 0 < d) (hc : 0 < c) : redN (redN a b * redD c d) (redD a b * redN c d) = redN (a * d) (b * c) ∧ redD (redN a b * redD c d) (redD a b * redN c d) = redD (a * d) (b * c) := by
  obtain ⟨e1, e2⟩ := red_mul (a := a) (b := b) (by omega)
  obtain ⟨e3, e4⟩ := red_mul (a := c) (b := d) (by omega)
  have p1 := redD_pos (a := a) (b := b) (by omega)
  have s := red_sgn (a := c) hd
  have q1 := Int.mul_pos p1 (show 0 < redN c d by have := s.1; have := s.2; omega)
  have q2 := Int.mul_pos hb hc
  refine red_congr (by omega) (by omega) ?_
  generalize redN a b = N1 at *
  generalize redD a b = D1 at *
  generalize redN c d = N2 at *
  generalize redD c d = D2 at *
  generalize dv a b = g1 at *
  generalize dv c d = g2 at *
  subst e1 e2 e3 e4
  simp only [Int.mul_comm, Int.mul_left_comm, Int.mul_assoc]
theorem red_addR {a b c d : Int} (hb : 0 < b) (hd : 0 < d) : redN (redN a b * redD c d + redN c d * redD a b) (redD a b * redD c d) = redN (a * d + c * b) (b * d) ∧ redD (redN a b * redD c d + redN c d * redD a b) (redD a b * redD c d) = redD (a * d + c * b) (b * d) := by
  obtain ⟨e1, e2⟩ := red_mul (a := a) (b := b) (by omega)
  obtain ⟨e3, e4⟩ := red_mul (a := c) (b := d) (by omega)
  have p1 := redD_pos (a := a) (b := b) (by omega)
  have p2 := redD_pos (a := c) (b := d) (by omega)
  have q1 := Int.mul_pos p1 p2
  have q2 := Int.mul_pos hb hd
  refine red_congr (by omega) (by omega) ?_
  generalize redN a b = N1 at *
  generalize redD a b = D1 at *
  generalize redN c d = N2 at *
  generalize redD c d = D2 at *
  generalize dv a b = g1 at *
  generalize dv c d = g2 at *
  subst e1 e2 e3 e4
  simp only [Int.add_mul, Int.mul_add, Int.mul_comm, Int.mul_left_comm, Int.mul_assoc]
theorem red_subR {a b c d : Int} (hb : 0 < b) (hd : 0 < d) : redN (redN a b * redD c d - redN c d * redD a b) (redD a b * redD c d) = redN (a * d - c * b) (b * d) ∧ redD (redN a b * redD c d - redN c d * redD a b) (redD a b * redD c d) = redD (a * d - c * b) (b * d) := by
  obtain ⟨e1, e2⟩ := red_mul (a := a) (b := b) (by omega)
  obtain ⟨e3, e4⟩ := red_mul (a := c) (b := d) (by omega)
  have p1 := redD_pos (a := a) (b := b) (by omega)
  have p2 := redD_pos (a := c) (b := d) (by omega)
  have q1 := Int.mul_pos p1 p2
  have q2 := Int.mul_pos hb hd
  refine red_congr (by omega) (by omega) ?_
  generalize redN a b = N1 at *
  generalize redD a b = D1 at *
  generalize redN c d = N2 at *
  generalize redD c d = D2 at *
  generalize dv a b = g1 at *
  generalize dv c d = g2 at *
  subst e1 e2 e3 e4
  simp only [Int.sub_mul, Int.mul_sub, Int.mul_comm, Int.mul_left_comm, Int.mul_assoc]
/-! ### numbers as values: a / b stands at p -/
def RatV (R0 : Addr) (H : Hp) (p : Addr) (a b : Int) : Prop := 0 < b ∧ RatAt R0 H p (redN a b) (redD a b)
theorem RatV.ext {R0 : Addr} {H H' : Hp} {p : Addr} {a b : Int} (h : RatV R0 H p a b) (f : Ext H H') : RatV R0 H' p a b := ⟨h.1, h.2.ext f⟩
theorem RatV.frm {R0 : Addr} {M : List Addr} {H H' : Hp} {p : Addr} {a b : Int} (h : RatV R0 H p a b) (f : Frm M H H') (n : p ∉ M) : RatV R0 H' p a b := ⟨h.1, h.2.frm f n⟩
theorem RatV.cong {R0 : Addr} {H : Hp} {p : Addr} {a b c d : Int} (h : RatV R0 H p a b) (hd : 0 < d) (e : a * d = c * b) : RatV R0 H p c d := by
  have := red_congr (a := a) (b := b) (c := c) (d := d) (by have := h.1; omega) (by omega) e
  exact ⟨hd, by rw [← this.1, ← this.2]; exact h.2⟩
def NumV (R0 : Addr) (H : Hp) (x : V) (a b : Int) : Prop := (∃ p, x = .ref p ∧ RatV R0 H p a b) ∨ (x = .int a ∧ b = 1)
theorem NumV.ext {R0 : Addr} {H H' : Hp} {x : V} {a b : Int} (h : NumV R0 H x a b) (f : Ext H H') : NumV R0 H' x a b := h.imp (fun ⟨p, e, r⟩ => ⟨p, e, r.ext f⟩) id
theorem NumV.pos {R0 : Addr} {H : Hp} {x : V} {a b : Int} (h : NumV R0 H x a b) : 0 < b := by
  rcases h with ⟨p, e, r⟩ | ⟨_, e⟩
  · exact r.1
  · omega
end Mc

set_option Elab.async false
set_option linter.all false
set_option maxRecDepth 100000
set_option maxHeartbeats 4000000
namespace Mc
open PySem PySem.Spec PyProof.Rows L2
/-! ### operators of instances with own methods -/
/-- what the text says of a class with an own binary operator and its mate -/
structure OwnB (K : PySem.W.Frag) (C : Addr) (nm : String) (f : Addr) : Prop where
  at_ : PySem.W.findIn K (.ref C) (PySem.dunder nm) = some (some (.ref f))
  fn : PySem.W.isFn K (.ref f) = true
  sf : PySem.W.selfFirst K C = true
  r : ∃ g : Addr, PySem.W.findIn K (.ref C) (dunderR nm) = some (some (.ref g))
  i1 : ∃ fo, PySem.W.findIn K (.type "int") (PySem.dunder nm) = some fo
  i2 : ∃ ro, PySem.W.findIn K (.type "int") (dunderR nm) = some ro
  sub : PySem.W.subIn K (.type "int") (.ref C) = some false
section
variable {K : PySem.W.Frag} {C f g : Addr} {nm : String} {fo ro : Option Value}
theorem ownB_mk (a : PySem.W.findIn K (.ref C) (PySem.dunder nm) = some (some (.ref f))) (b : PySem.W.isFn K (.ref f) = true) (c : PySem.W.selfFirst K C = true) (d : PySem.W.findIn K (.ref C) (dunderR nm) = some (some (.ref g))) (e1 : PySem.W.findIn K (.type "int") (PySem.dunder nm) = some fo) (e2 : PySem.W.findIn K (.type "int") (dunderR nm) = some ro) (s : PySem.W.subIn K (.type "int") (.ref C) = some false) : OwnB K C nm f := ⟨a, b, c, ⟨_, d⟩, ⟨_, e1⟩, ⟨_, e2⟩, s⟩
end
section
variable {X : Cx} {C f : Addr} {k : Nat} {fd : FuncData} {ps : List Str} {sp : Sp} {op : Operator}
/-- x op y: x an instance of C, y one or an int -/
def rBinO (C : Addr) (sp : Sp) : R2 := fun x y H Q => ∃ a dx fs, x = .ref a ∧ H a = some (.ins C dx fs) ∧ ((∃ b dy gs, y = .ref b ∧ H b = some (.ins C dy gs)) ∨ ∃ n : Int, y = .int n) ∧ sp [x, y] H (fun v H' => ∃ q, v = .ref q ∧ Q (.ref q) H') E0
theorem op_binO (m : OwnB X.K C op.info.2 f) (F : FnOk X.prog X.w X.K X.mg X.base CX0 k f fd ps sp) (hb : Binds X.K fd ps []) (hr : Room k X.A) : OpR X (binaryOp op) (rBinO C sp) := by
  intro pins s σ H x y v u Q I rx ry h
  obtain ⟨a, dx, fs, rfl, ha, hy, q⟩ := h
  cases (show v = Value.ref a from rx)
  obtain ⟨mA, J, _⟩ := ins_get I.hok ha
  obtain ⟨od, J, _⟩ := J.look
  obtain ⟨mm, hF⟩ := I.fr
  have go : wpAny (model X.prog X.w) X.A (call (.ref f) [.ref a, u]) (PySem.W.CmpBack (EP X pins σ Q)) X.xe s := by
    refine wpAny_mono (run_own (vs := [V.ref a, y]) (us := [Value.ref a, u]) F hb hr rfl I (.cons rfl (.cons ry .nil)) q) (fun z s' hz => ?_) fun _ _ z => z
    obtain ⟨v', H', I', r', q2, rfl, q'⟩ := hz
    cases (show z = Value.ref q2 from r')
    exact ⟨.ref q2, H', I', rfl, q'⟩
  obtain ⟨g, hg⟩ := m.r
  obtain ⟨fo, h1⟩ := m.i1
  obtain ⟨ro, h2⟩ := m.i2
  rcases hy with ⟨b, dy, gs, rfl, hb'⟩ | ⟨n, rfl⟩
  · cases (show u = Value.ref b from ry)
    obtain ⟨mB, J2, _⟩ := ins_get I.hok hb'
    obtain ⟨od2, J2, _⟩ := J2.look
    exact PySem.W.binop_K hF I.ok.mod.kin J J2.type m.sf m.at_ m.fn go
  · obtain ⟨tk, rfl⟩ := (show ∃ tk, u = Value.int n tk from ry)
    exact PySem.W.ksp_binT (T := "int") hF I.ok.mod.kin J rfl m.sf m.at_ m.fn hg (.inr ⟨g, rfl⟩) h1 h2 m.sub go
/-- -x -/
def rNegO (C : Addr) (sp : Sp) : V → Hp → VK → Prop := fun x H Q => ∃ a dx fs, x = .ref a ∧ H a = some (.ins C dx fs) ∧ sp [x] H Q E0
end
end Mc

set_option Elab.async false
set_option linter.all false
set_option maxRecDepth 100000
set_option maxHeartbeats 4000000
namespace Mc
open PySem PySem.Spec PyProof.Rows L2
open AutoSeq1 (wpAny_loadPart')
/-! ### enumerate of a tuple -/
abbrev tupIt (l : Addr) : Obj := { cls := .type "tuple_iterator", data := .fields #[.ref l, .int 0 0] }
abbrev enO (it : Addr) : Obj := { cls := .type "enumerate", data := .fields #[.none, .bool false, .ref it, rawInt 0, .none, .none] }
theorem meets_enumT (l : Addr) (xs : Array Value) (n : Nat) (dd : Option Addr) (sl : Array (Option Value)) :
    Meets (Builtin.«enumerate.__new__» ⟨[.type "enumerate", .ref l], []⟩) (fun _ R s => s.heap.get? l = some { cls := .type "tuple", dict := dd, data := .seq xs n, slots := sl } ∧
      R (.ok (.ret (.ref (s.heap.push (tupIt l)).objs.size))) { s with heap := (s.heap.push (tupIt l)).push (enO s.heap.objs.size) }) :=
  .of_wp fun prog w A R s z => by
    obtain ⟨hp, gg, dr, tk, o2⟩ := s
    obtain ⟨hl, fin⟩ := z
    have sub := sub_enumerate
    have isT : Heap.IsTuple (Shared.heap ⟨hp, gg, dr, tk, o2⟩) l xs := ⟨_, hl, rfl, n, rfl⟩
    wp_walk using wpAny_loadPart' hl
    refine wpAny_stack_any fun st => wpAny_pure ?_
    split
    · rename_i c _ _ _ _ _
      cases (c == Value.type "enumerate") <;> (wp_walk using wpAny_loadPart' hl, wpAny_pyIter_tuple isT; exact ⟨_, rfl, fin⟩)
    · wp_walk using wpAny_loadPart' hl, wpAny_pyIter_tuple isT
      exact ⟨_, rfl, fin⟩
theorem call_enumT {prog : Program} {w : World} {A : Around} {E : Value → Shared → Prop} {s : Shared} {l : Addr} {xs : Array Value} {Q : Value → Shared → Prop} (isT : s.heap.IsTuple l xs)
    (h : ∀ h2, IsEnum h2 (s.heap.objs.size + 1) s.heap.objs.size 0 .none → h2.IsTupleIter s.heap.objs.size l 0 → (∀ b o, s.heap.get? b = some o → h2.get? b = some o) → Q (.ref (s.heap.objs.size + 1)) { s with heap := h2 }) : wpAny (model prog w) A (call (.type "enumerate") [.ref l]) Q E s := by
  obtain ⟨⟨c, dd, dt, sl⟩, hl, rfl, n, rfl⟩ := isT
  have sz : (s.heap.push (tupIt l)).objs.size = s.heap.objs.size + 1 := Heap.size_push ..
  have at2 := Heap.get?_push_size (s.heap.push (tupIt l)) (o := enO s.heap.objs.size) rfl
  rw [sz] at at2
  refine callType_new F.called_enumerate (by decide) (F.typeCall_enumerate_1 _) (F.newCall_enumerate_1 _) (fun obj => F.args_object_init_2 obj _) F.entry_enumerate_new (meets_enumT l xs n dd sl) ⟨hl, ?_⟩
  rw [sz]
  exact ⟨⟨_, at2, rfl⟩, h _ at2 ⟨_, Heap.get?_push_of_some _ (Heap.get?_push_size _ rfl), rfl, rfl⟩ fun b o x => Heap.get?_push_of_some _ (Heap.get?_push_of_some _ x)⟩
/-- the tuple at a, each item in a new pair -/
def IteT (K : PySem.W.Frag) (a : Addr) : It where
  go i H := ∃ (xs : List V) (x : V), SqT K H a xs ∧ xs[i]? = some x
  yld i H v H' := ∃ T x, v = .ref T ∧ H T = none ∧ H' = upd H T (.tup [.int (i : Nat), x]) ∧ ∀ xs, SqT K H a xs → xs[i]? = some x
  stop i H := ∃ xs : List V, SqT K H a xs ∧ xs.length ≤ i
theorem draws_end {prog : Program} {w : World} {A : Around} (hh : A.handled = none) (it t : Addr) (ne : t ≠ it) (xs : Array Value) {i : Nat} (no : xs[i]? = none) : Draws prog w A it [it, t] i (fun _ _ => True) (fun j h => j = i ∧ h.IsTupleIter it t i ∧ h.IsTuple t xs) where
  live j h st := by
    obtain ⟨o, ho, _⟩ := st.2.1
    exact ⟨o, ho⟩
  frame j h h2 st k := ⟨st.1, st.2.1.at fun o e => k it List.mem_cons_self o e, st.2.2.at fun o e => k t (List.mem_cons_of_mem _ List.mem_cons_self) o e⟩
  item j s Q E lt st _ := absurd st.1 (Nat.ne_of_lt lt)
  done s Q E st fin := wpAny_nextOf_tuple_end hh st.2.1 st.2.2 no fin
theorem turn_enumT {P : Program} {w : World} {K : PySem.W.Frag} {elts : List Expr} {kk : Nat} {tpos : Pos} (a e it : Addr) (hai : a ≠ it) (hea : e ≠ a) :
    Turn P w K (.Tuple elts kk tpos) (IteT K a) [e, it] e (fun i h => (∃ old, IsEnum h e it ((i : Nat) : Int) old) ∧ h.IsTupleIter it a i ∧ e ≠ it) where
  mem := List.mem_cons_self
  obj i h st b hb := by
    obtain ⟨⟨old, he⟩, ⟨o, ho, hc, hd⟩, _⟩ := st
    rcases List.mem_cons.mp hb with rfl | hb
    · exact ⟨_, he, fun v q => nomatch q⟩
    · rw [List.mem_singleton.mp hb]
      exact ⟨o, ho, fun v q => by rw [hd] at q; cases q⟩
  keep i h h2 st k := by
    obtain ⟨⟨old, he⟩, hi, ne⟩ := st
    exact ⟨⟨old, k e List.mem_cons_self _ he⟩, hi.at fun o q => k it (List.mem_cons_of_mem _ List.mem_cons_self) o q, ne⟩
  item := by
    intro X hP hw hK hc i pins s σ H E I hf st hg
    subst hP hw hK
    obtain ⟨⟨old, he⟩, hit, ne⟩ := st
    obtain ⟨xs, x, hq, hx⟩ := hg
    obtain ⟨its, rv, p, hz⟩ := I.tuple hq
    obtain ⟨u, hu, ru⟩ := rv.get hx
    have isT : s.heap.IsTuple a its.toArray := p
    have le : e < s.heap.objs.size := Heap.lt_size he
    have li : it < s.heap.objs.size := by
      obtain ⟨_, q, _⟩ := hit
      exact Heap.lt_size q
    have lt : i < its.toArray.size := by
      have := (List.getElem?_eq_some_iff.mp hu).1
      simpa using this
    refine wpAny_pyNext_enum_itemD (Draws.tuple (A := X.A.in1) (I.ok.hd hc) it a hai its.toArray) he ⟨hit, isT⟩ lt ne (by simp [ne, hea]) fun v h2 tk hv ho st2 hT hs2 hk => ?_
    obtain rfl : u = v := by
      have hv' : its[i]? = some v := by simpa using hv
      rw [hu] at hv'
      exact Option.some.inj hv'
    refine ⟨_, rfl, wpAny_letOwnedTupleGo_enum (s := { s with heap := h2, toks := tk + 1 }) ho fun h3 he3 sb => ?_⟩
    have hT3 : h3.get? s.heap.objs.size = some { cls := .type "tuple", data := .seq #[.int i tk, u] } := (sb.2 _ (Nat.ne_of_gt le)).trans hT
    have new : ObjOk X.prog X.w (upd H s.heap.objs.size (.tup [.int (i : Nat), x])) h3 s.heap.objs.size (.tup [.int (i : Nat), x]) :=
      ⟨(by show 2 ≤ sizeLine; decide), [.int i tk, u], .cons ⟨_, rfl⟩ (.cons ru .nil), ⟨_, hT3, rfl, _, rfl⟩⟩
    have J : Inv X pins σ (upd H s.heap.objs.size (.tup [.int (i : Nat), x])) { s with heap := h3, toks := tk + 1 } := I.turnedNew (ch := [e, it]) (fun b ob hb q => (sb.2 b (fun z => hb (by simp [z]))).trans (hk b ob (fun z => hb (by simp [z])) (fun z => hb (by simp [z])) q)) hf (Nat.le_refl _) new
    refine ⟨.ref s.heap.objs.size, _, J, rfl, ⟨_, x, rfl, I.hok.fresh (Nat.le_refl _), rfl, fun ys hy => by rw [I.tuple_inj hy hq]; exact hx⟩, ⟨⟨u, ?_⟩, st2.1.at fun o q => (sb.2 it (Ne.symm ne)).trans q, ne⟩, fun b hb => ?_⟩
    · rw [show ((i + 1 : Nat) : Int) = (i : Int) + 1 by omega]
      exact he3
    · have lb : b < s.heap.objs.size := by
        rcases List.mem_cons.mp hb with rfl | hb2
        · exact le
        · rw [List.mem_singleton.mp hb2]
          exact li
      rw [upd_ne (Nat.ne_of_lt lb)]
      exact (hf b hb).1
  done := by
    intro X hP hw hK hc i pins s σ H E I hf st hg
    subst hP hw hK
    obtain ⟨⟨old, he⟩, hit, ne⟩ := st
    obtain ⟨xs, hq, hx⟩ := hg
    obtain ⟨its, rv, p, hz⟩ := I.tuple hq
    have isT : s.heap.IsTuple a its.toArray := p
    obtain ⟨f0, f1, f2, f3, f4, f5⟩ := hf it (List.mem_cons_of_mem _ List.mem_cons_self)
    have ln := rv.length
    have no : its.toArray[i]? = none := by
      rw [List.getElem?_toArray]
      exact List.getElem?_eq_none (by omega)
    exact wpAny_pyNext_enum_endD (draws_end (A := X.A.in1) (I.ok.hd hc) it a hai its.toArray no) he ⟨rfl, hit, isT⟩ fun h2 eb => ⟨rfl, I.turned (t' := s.toks) (fun b o hb q => eb b o hb q) f0 f1 f3 f4 f5⟩
  self A i s Q E st h := by
    obtain ⟨⟨_, he⟩, _⟩ := st
    exact wpAny_pyIter_enum he h
def iEnumT (K : PySem.W.Frag) (ta : TA) : TI := fun σ H R => ta σ H fun vs H1 => ∃ a xs, vs = [.ref a] ∧ SqT K H1 a xs ∧ R (IteT K a) H1
theorem pi_enumT {X : Cx} {e : Expr} {ta : TA} {p pos tpos : Pos} {elts : List Expr} {kk : Nat} (hg : Gl X "enumerate") (hm : X.mg "enumerate" = none) (ha : PA X [e] ta) (hs : starEach [e] X.env = [(false, eval e X.env)] := by rfl) :
    PI X (.Tuple elts kk tpos) (.Call (.Name "enumerate" p) [e] [] pos) (iEnumT X.K ta) := by
  constructor
  intro pins s σ H R I h
  refine Call_ (ld_blt I hg hm boot_enumerate (PyProof.Rows.callWith_type1 (thn (ha.run pos pins s σ H _ I h) ?_) hs rfl))
  rintro us s1 ⟨vs, H1, I1, r1, a, xs, rfl, hq, q⟩
  rw [Vals.ref1 r1]
  obtain ⟨its, rv, pt, hz⟩ := I1.tuple hq
  have isT : s1.heap.IsTuple a its.toArray := pt
  have la : a < s1.heap.objs.size := by
    obtain ⟨o, ho, _⟩ := isT
    exact Heap.lt_size ho
  refine call_enumT isT fun h2 he hit hk => wpAny_pyIter_enum he ?_
  refine ⟨s1.heap.objs.size + 1, [s1.heap.objs.size + 1, s1.heap.objs.size], _, _, H1, rfl, I1.kept (t' := s1.toks) hk, turn_enumT a (s1.heap.objs.size + 1) s1.heap.objs.size (Nat.ne_of_lt la) (Nat.ne_of_gt (Nat.lt_succ_of_lt la)), ⟨⟨.none, he⟩, hit, Nat.succ_ne_self _⟩, fun b hb => ?_, q⟩
  have le : s1.heap.objs.size ≤ b := by
    rcases List.mem_cons.mp hb with rfl | hb2
    · exact Nat.le_succ _
    · rw [List.mem_singleton.mp hb2]
      exact Nat.le_refl _
  exact I1.fpOk le (I1.hok.fresh le)
/-- the turns of it: x at place i, in a new pair -/
theorem for_enumT {K : PySem.W.Frag} {a : Addr} {xs : List V} {g : TG} {tb : TS} {E : Ends} {σ : L2.St} {H : Hp} (Pv : Nat → L2.St → Hp → Prop) (h0 : Pv 0 σ H) (hS : ∀ i σ H, Pv i σ H → SqT K H a xs)
    (hs : ∀ i x T σ H, xs[i]? = some x → H T = none → Pv i σ H → g (.ref T) σ (upd H T (.tup [.int (i : Nat), x])) fun σ2 H2 => tb { E with nx := Pv (i + 1), ct := Pv (i + 1), bk := E.nx } σ2 H2) (hd : ∀ σ H, Pv xs.length σ H → E.nx σ H) : ∃ W : Nat → Nat → L2.St → Hp → Prop, (∃ m, W 0 m σ H) ∧ ∀ i m σ H, W i m σ H →
      ((IteT K a).stop i H ∧ E.nx σ H) ∨ ((IteT K a).go i H ∧ ∃ N : L2.St → Hp → Prop, (∀ σ' H', N σ' H' → ∃ m', m' < m ∧ W (i + 1) m' σ' H') ∧ ∀ x H', (IteT K a).yld i H x H' → g x σ H' fun σ2 H2 => tb { E with nx := N, ct := N, bk := E.nx } σ2 H2) := by
  refine ⟨fun i m σ H => i + m = xs.length ∧ Pv i σ H, ⟨xs.length, Nat.zero_add _, h0⟩, fun i m σ H ⟨hm, p⟩ => ?_⟩
  rcases Nat.eq_zero_or_pos m with z | z
  · have e : i = xs.length := by omega
    exact .inl ⟨⟨xs, hS i σ H p, Nat.le_of_eq e.symm⟩, hd σ H (e ▸ p)⟩
  · have lt : i < xs.length := by omega
    refine .inr ⟨⟨xs, xs[i], hS i σ H p, List.getElem?_eq_getElem lt⟩, Pv (i + 1), fun _ _ q => ⟨m - 1, by omega, by omega, q⟩, ?_⟩
    rintro v H' ⟨T, x, rfl, hT, rfl, hx⟩
    exact hs i x T σ H (hx xs (hS i σ H p)) hT p
end Mc

set_option Elab.async false
set_option linter.all false
set_option maxRecDepth 100000
set_option maxHeartbeats 4000000
namespace Mc
open PySem PySem.Spec PyProof.Rows L2
/-! ### what the top has made, def by def -/
/-- a def of the text: no default -/
abbrev FD (K : PySem.W.Frag) (x qual : Str) (st : Stmt) (f : Addr) (fd : FuncData) : Prop := FunD K x qual (defArgs st) (defBody st) (defScope st) [] [] f fd
abbrev FD1 (K : PySem.W.Frag) (x qual : Str) (st : Stmt) (f : Addr) (fd : FuncData) : Prop := FunD K x qual (defArgs st) (defBody st) (defScope st) [.int 1] [] f fd
def GloD (K : PySem.W.Frag) (x : Str) (st : Stmt) : Prop := ∃ f fd, PySem.W.nsIn K mainGlobals x = some (some (.ref f)) ∧ FD K x x st f fd
def MetD (K : PySem.W.Frag) (C : Addr) (x qual : Str) (st : Stmt) : Prop := ∃ f fd, Meth K C x f ∧ FD K x qual st f fd
def PrpD (K : PySem.W.Frag) (C : Addr) (x qual : Str) (st : Stmt) : Prop := ∃ p f fd, PropOf K C x p f ∧ FD K x qual st f fd
def StaD (K : PySem.W.Frag) (C : Addr) (mc : Value) (x qual : Str) (st : Stmt) : Prop := ∃ p f fd, SMet K C mc x p f ∧ FD K x qual st f fd
def IniD (K : PySem.W.Frag) (C : Addr) (qual : Str) (st : Stmt) : Prop := ∃ f fd, Mk K C f ∧ FD1 K "__init__" qual st f fd
section
variable {K : PySem.W.Frag} {C f p : Addr} {mc : Value} {x qual : Str} {st : Stmt} {od an : Option Addr} {sl : Array (Option Value)} {oc dV kV dc pm cd ct : Value} {rest : List Value}
theorem fd_mk (l : K.lookup f = some ⟨oc, od, .func (PySem.W.fnOf x qual (defArgs st) (defBody st) (defScope st) .none kV dc pm an cd ct), sl⟩) (c : PySem.W.codeIn K cd qual = true) (k : PySem.W.keepIn K (.ref f) = true) :
    FD K x qual st f (PySem.W.fnOf x qual (defArgs st) (defBody st) (defScope st) .none kV dc pm an cd ct) :=
  ⟨⟨oc, od, .none, kV, dc, pm, an, cd, ct, sl, rfl, l, c, .inl ⟨rfl, rfl⟩, .inl rfl⟩, k⟩
theorem md_mk {mg : Str → Option Value} {t : Tok} {n : Int} {y : Str} (h : mg y = some (.int n t)) : ∃ t, mg y = some (.int n t) := ⟨t, h⟩
theorem glo_mk (a : PySem.W.nsIn K mainGlobals x = some (some (.ref f))) (l : K.lookup f = some ⟨oc, od, .func (PySem.W.fnOf x x (defArgs st) (defBody st) (defScope st) .none kV dc pm an cd ct), sl⟩) (c : PySem.W.codeIn K cd x = true) (k : PySem.W.keepIn K (.ref f) = true) : GloD K x st :=
  ⟨f, _, a, fd_mk l c k⟩
theorem met_mk (a : PySem.W.findIn K (.ref C) x = some (some (.ref f))) (i : PySem.W.isFn K (.ref f) = true) (l : K.lookup f = some ⟨oc, od, .func (PySem.W.fnOf x qual (defArgs st) (defBody st) (defScope st) .none kV dc pm an cd ct), sl⟩) (c : PySem.W.codeIn K cd qual = true) (k : PySem.W.keepIn K (.ref f) = true) : MetD K C x qual st :=
  ⟨f, _, ⟨a, i, k⟩, fd_mk l c k⟩
theorem prp_mk (a : PySem.W.findIn K (.ref C) x = some (some (.ref p))) (g : PySem.W.specialIn K (.ref p) "__get__" = some (some (.builtin "property.__get__"))) (t : PySem.W.takesIn K (.ref p) = some true) (r : PySem.W.recIn K p "property" = some (.ref f :: rest))
    (l : K.lookup f = some ⟨oc, od, .func (PySem.W.fnOf x qual (defArgs st) (defBody st) (defScope st) .none kV dc pm an cd ct), sl⟩) (c : PySem.W.codeIn K cd qual = true) (k : PySem.W.keepIn K (.ref f) = true) : PrpD K C x qual st :=
  ⟨p, f, _, ⟨a, g, t, ⟨_, r⟩⟩, fd_mk l c k⟩
theorem sta_mk (a : PySem.W.findCls K (.ref C) mc x = some (.get (.builtin "staticmethod.__get__") (.ref p) .none (.ref C))) (r : PySem.W.recIn K p "staticmethod" = some (.ref f :: rest))
    (l : K.lookup f = some ⟨oc, od, .func (PySem.W.fnOf x qual (defArgs st) (defBody st) (defScope st) .none kV dc pm an cd ct), sl⟩) (c : PySem.W.codeIn K cd qual = true) (k : PySem.W.keepIn K (.ref f) = true) : StaD K C mc x qual st :=
  ⟨p, f, _, ⟨a, ⟨_, r⟩, k⟩, fd_mk l c k⟩
theorem ini_mk {T : Addr} {to : Obj} {it : Value} {n : Nat} (m : PySem.W.makesIn K C = true) (a : PySem.W.findIn K (.ref C) "__init__" = some (some (.ref f))) (i : PySem.W.isFn K (.ref f) = true) (kc : PySem.W.keepIn K (.ref C) = true)
    (l : K.lookup f = some ⟨oc, od, .func (PySem.W.fnOf "__init__" qual (defArgs st) (defBody st) (defScope st) (.ref T) kV dc pm an cd ct), sl⟩) (lt : K.lookup T = some to) (ht : to.data = .seq #[it] n) (hi : RelV (.int 1) it) (c : PySem.W.codeIn K cd qual = true) (k : PySem.W.keepIn K (.ref f) = true) : IniD K C qual st :=
  ⟨f, _, ⟨m, a, i, kc⟩, ⟨⟨oc, od, .ref T, kV, dc, pm, an, cd, ct, sl, rfl, l, c, .inr ⟨by simp, T, to, [it], n, rfl, lt, ht, .cons hi .nil⟩, .inl rfl⟩, k⟩⟩
end
section
variable {K : PySem.W.Frag} {x qual : Str} {st : Stmt} {f : Addr} {fd : FuncData} {ps : List Str}
theorem FD.fun (F : FD K x qual st f fd) : L2.Fun K x qual st f fd := by
  obtain ⟨oc, od, dV, kV, doc, pm, an, c, ct, osl, e, lk, hc, hD, _⟩ := F.ex
  rcases hD with ⟨_, rfl⟩ | ⟨z, _⟩
  · exact ⟨⟨oc, od, kV, doc, pm, an, c, ct, osl, e, lk, hc⟩, F.kp⟩
  · exact absurd rfl z
theorem FD.kb (F : FD K x qual st f fd) (n : Nat) (ks : List Str) {g : List Value → List Value → List Value} {gV : List V → List V → List V}
    (h : ∀ (kV doc pm : Value) (an : Option Addr) (cdv ct : Value) (us ws : List Value), us.length = n → ws.length = ks.length → bindArgs (PySem.W.fnOf x qual (defArgs st) (defBody st) (defScope st) .none kV doc pm an cdv ct) ⟨us, ks.zip ws⟩ = pure (ps.zip (g us ws)))
    (rel : ∀ {vs : List V} {us : List Value} {zs : List V} {ws : List Value}, Vals vs us → Vals zs ws → Vals (gV vs zs) (g us ws)) : KBn K fd ps n ks g gV := by
  obtain ⟨oc, od, dV, kV, doc, pm, an, c, ct, osl, rfl, lk, hc, hD, _⟩ := F.ex
  rcases hD with ⟨_, rfl⟩ | ⟨z, _⟩
  · exact ⟨fun s us ws _ h1 h2 => .of_eq (h kV doc pm an c ct us ws h1 h2), rel⟩
  · exact absurd rfl z
end
/-! ### len of an instance with its own __len__ -/
section
variable {X : Cx} {C f : Addr} {k : Nat} {fd : FuncData} {ps : List Str} {sp : Sp}
def rLenO (C : Addr) (sp : Sp) : List V → Hp → VK → Prop := fun vs H Q => ∃ a dx fs, vs = [.ref a] ∧ H a = some (.ins C dx fs) ∧ sp vs H (fun v H' => ∃ n : Nat, v = .int n ∧ n < 2 ^ 63 ∧ Q (.int n) H') E0
theorem call_lenO (m : Meth X.K C "__len__" f) (F : FnOk X.prog X.w X.K X.mg X.base CX0 k f fd ps sp) (hb : Binds X.K fd ps []) (hr : Room (k + 1) X.A) : CallR X (.builtin "len") (rLenO C sp) := by
  intro pins s σ H vs us Q I r h
  obtain ⟨a, dx, fs, rfl, ha, q⟩ := h
  rw [Vals.ref1 r]
  obtain ⟨mA, J, _⟩ := ins_get I.hok ha
  obtain ⟨od, J, _⟩ := J.look
  obtain ⟨mm, hF⟩ := I.fr
  refine PySem.W.len_K hF I.ok.mod.kin J m.at_ m.fn ?_
  refine wpAny_mono (run_own (vs := [V.ref a]) (us := [Value.ref a]) F hb hr.in1 rfl I (.cons rfl .nil) q) (fun z s' hz => ?_) fun _ _ z => z
  obtain ⟨v', H', I', r', n, rfl, hn, q'⟩ := hz
  obtain ⟨tk, rfl⟩ := (show ∃ tk, z = Value.int n tk from r')
  exact ⟨⟨by omega, by omega⟩, .int n, H', I'.tok _, ⟨_, rfl⟩, q'⟩
end
end Mc

set_option Elab.async false
set_option linter.all false
set_option maxRecDepth 100000
set_option maxHeartbeats 4000000
namespace Mc
open PySem PySem.Spec PyProof.Rows L2
/-! ### repr of data at any depth (lists, tuples, texts, numbers), where no repr is under way -/
def rReprD (K : PySem.W.Frag) : List V → Hp → VK → Prop := fun vs H Q => ∃ (a : Addr) (d : PyData), vs = [.ref a] ∧ Dp K H (.ref a) d ∧ d.showable = true ∧ d.hasDict = false ∧ d.depth ≤ 64 ∧ d.shown.length ≤ sizeLine ∧ Q (.str d.shown) H
theorem call_reprD {X : Cx} {k : Nat} (hr : RoomG k X.A) : CallR X (.builtin "repr") (rReprD X.K) := by
  intro pins s σ H vs us Q I r h
  obtain ⟨a, d, rfl, hd, hs, hn, h64, hz, q⟩ := h
  obtain ⟨u, rfl, ru⟩ := vals1 r
  cases (show u = Value.ref a from ru)
  obtain ⟨as, rd⟩ := Dp.reads I d _ _ hd rfl
  have un := hr.room.un
  exact repr_of_reads' rd hs (PyData.noDict_hsm hn) hr.gs (by omega) (fun _ _ e => e) (fun h2 u tk hk => ⟨.str d.shown, H, I.kept hk, ⟨u, rfl⟩, q⟩) hz
theorem call_reprDK {X : Cx} {K : PySem.W.Frag} {k : Nat} (hr : RoomG k X.A) (hK : X.K = K) : CallR X (.builtin "repr") (rReprD K) := by
  subst hK
  exact call_reprD hr
end Mc

set_option Elab.async false
set_option linter.all false
set_option maxRecDepth 100000
set_option maxHeartbeats 4000000
namespace Mc
open PySem PySem.Spec PyProof.Rows L2
/-! ### rules with K said apart, keyword calls of plain defs, walks by a step, nested comprehensions -/
theorem call_lenK {X : Cx} {K : PySem.W.Frag} (hK : X.K = K) : CallR X (.builtin "len") (fun xs H Q => ∃ p ys, xs = [.ref p] ∧ (SqL K H p ys ∨ SqT K H p ys) ∧ Q (.int ys.length) H) := by
  subst hK
  exact call_len_seq
theorem pi_listK {X : Cx} {K : PySem.W.Frag} {tg l : Expr} {tl : TE} (hK : X.K = K) (hl : PE X l tl) : PI X tg l (iList K tl) := by
  subst hK
  exact pi_list hl
theorem walk_rc {lo c : Int} {n : Nat} : WalkJ (Itc lo c n) (fun _ => True) ((List.range n).map fun k => .int (lo + (k : Nat) * c)) where
  go i H _ h := by simpa [Itc] using h
  stop i H _ h := by simpa [Itc] using h
  yld i H x H' _ h y := by
    obtain ⟨rfl, rfl⟩ := y
    refine ⟨rfl, ?_⟩
    rw [List.length_map, List.length_range] at h
    rw [List.getElem?_map, List.getElem?_range h]
    rfl
def noFree (sc : Scope) : Bool := sc.names.all fun y => match y.2 with | .free => false | _ => true
theorem blkOk_free {N : List Str} {sc scope : Scope} {own : List (Str × Nat)} (h : (blkC N scope scope own && noFree scope) = true) : BlkOk N sc scope own := by
  obtain ⟨h1, h2⟩ := Bool.and_eq_true_iff.mp h
  have b := blkOk_by h1
  refine ⟨b.kind, b.uniq, b.ix, fun y hy e => ?_, b.own⟩
  have := List.all_eq_true.mp h2 y hy
  rw [e] at this
  cases this
/-- f(a=.., b=..) of a def of the module, no argument by its place -/
def tGdK (sp : Sp) (m : Nat) (gV : List V → List V → List V) (tk : TA) : TE := fun σ H Q => tk σ H fun zs H1 => zs.length = m ∧ sp (gV [] zs) H1 Q E0
section
variable {X : Cx} {x : Str} {k n : Nat} {ps ks : List Str} {sp : Sp} {f : Addr} {fd : FuncData} {p pos : Pos} {kws : List Keyword} {tk : TA} {g : List Value → List Value → List Value} {gV : List V → List V → List V}
theorem pe_gdK (D : Gd X.prog X.w X.K X.mg X.base x k ps sp f fd) (hb : KBn X.K fd ps 0 ks g gV) (hr : Room n X.A) (hk : k ≤ n) (hg : Gl X x) (hkw : PK X kws tk)
    (hall : (backToKw pos (keywordEach kws X.env)).all (·.1.isSome) = true := by rfl) (hks : (backToKw pos (keywordEach kws X.env)).filterMap (·.1) = ks := by rfl) (hdb : (x == ("__debug__" : Str)) = false := by decide)
    (hpl : ((backTo pos (starEach [] X.env)).any (·.1) || (backToKw pos (keywordEach kws X.env)).any (·.1.isNone)) = false := by rfl) : PE X (.Call (.Name x p) [] kws pos) (tGdK sp ks.length gV tk) := by
  refine ⟨fun pins s σ H Q I h => ?_⟩
  refine wpAny_Call_Name_kw (ld_glob I hg D.g ?_ hdb)
  refine PySem.W.callWith_KW0 (h₀ := X.base) (first := []) I.ok.mod.kin D.kp hall ?_ hpl
  refine thn (hkw.run pos pins s σ H _ I h) fun ws s3 ⟨zs, H2, I3, rz, l2, q2⟩ => ⟨I3.kIn, ?_⟩
  rw [hks]
  exact run_fnN (us := []) (vs := []) D.ok (hr.mono hk) hb pass0 I3 .nil rz rfl l2 q2
end
theorem cut_dropU (xs : List V) (n : Nat) : L2.cutV xs (some ((n : Nat) : Int)) Option.none = xs.drop n := by
  unfold L2.cutV
  rw [HT.sIx_none, HT.sIx_nat]
  by_cases h : n ≤ xs.length
  · rw [Nat.min_eq_left h, List.take_of_length_le (by rw [List.length_drop]; omega)]
  · rw [Nat.min_eq_right (by omega), List.drop_eq_nil_of_le (Nat.le_refl _), List.drop_eq_nil_of_le (by omega), List.take_nil]
end Mc
namespace Mc
open PySem PySem.Spec PyProof.Rows L2
/-- arguments by keywords, put into the parameters' order -/
def pm {α : Type} (ix : List Nat) (l : List α) : List α := ix.filterMap fun i => l[i]?
theorem pm_vals {zs : List V} {ws : List Value} (r : Vals zs ws) : ∀ ix : List Nat, Vals (pm ix zs) (pm ix ws)
  | [] => .nil
  | i :: ix => by
    have ih := pm_vals r ix
    unfold pm at ih ⊢
    rw [List.filterMap_cons, List.filterMap_cons]
    have l := r.length
    by_cases h : i < zs.length
    · obtain ⟨u, hu, ru⟩ := r.get (List.getElem?_eq_getElem h)
      rw [List.getElem?_eq_getElem h, hu]
      exact .cons ru ih
    · rw [List.getElem?_eq_none (by omega), List.getElem?_eq_none (by omega)]
      exact ih
end Mc
namespace Mc
open PySem PySem.Spec PyProof.Rows L2
/-- more built-in names that the module leaves as they are -/
structure TB2 (mg : Str → Option Value) : Prop where
  reversed : mg "reversed" = none
  sorted : mg "sorted" = none
  sum : mg "sum" = none
  set : mg "set" = none
  dict : mg "dict" = none
end Mc

set_option Elab.async false
set_option linter.all false
set_option maxRecDepth 100000
set_option maxHeartbeats 4000000
namespace Mc
open PySem PySem.Spec PyProof.Rows L2
def spLaw (K : PySem.W.Frag) : Sp := fun vs H Q _ => ∃ (l : Addr) (ns : List Int), vs = [.ref l] ∧ SqL K H l (ns.map V.int) ∧ ∀ H', Q (.bl true) H'
/-! ### the call of a law whose def asks that no repr is under way -/
section
variable {P : Program} {w : World} {K : PySem.W.Frag} {mg mb : Str → Option Value} {k : Nat} {fa a : Addr} {fd : FuncData} {x : Str} {sp : Sp} {s1 : Shared} {us : List Value} {ns : List Int}
/-- the script's object -/
abbrev scO (us : List Value) : Obj := { cls := .type "list", data := .seq us.toArray }
theorem envG {H : Hp} (KX : K.In s1.heap) (g1 : s1.heap.Ns mainGlobals mg) (g2 : s1.heap.Ns builtinsNs mb) (g3 : ∀ y : Str, y ≠ "__name__" → mb y = bootBuiltins y) (nl : s1.heap.NoLimit) (gn : s1.gens = #[]) (ea : s1.heap.get? a = some (scO us))
    (only : ∀ b, H b ≠ none → b = a ∧ K.lookup a = none) (ok : HOk P w H s1.heap) : K.In (hidT s1.heap H) ∧ (hidT s1.heap H).Ns mainGlobals mg ∧ Env0 P w K mg (hidT s1.heap H) callerA [] s1 H := by
  have seen : ∀ b o, s1.heap.get? b = some o → ¬ b = a → (hidT s1.heap H).get? b = some o := fun b o e n => hidT_get e (Classical.byContradiction fun z => n (only b z).1)
  have dicts : ∀ {b : Addr} {m : Str → Option Value}, s1.heap.Ns b m → (hidT s1.heap H).Ns b m := by
    rintro b m ⟨o, es, ep, e, d, r⟩
    refine ⟨o, es, ep, seen b o e fun z => ?_, d, r⟩
    rw [z, ea] at e
    rw [← Option.some.inj e] at d
    cases (show Data.seq us.toArray _ = Data.dict es ep from d)
  have inK : K.In (hidT s1.heap H) := fun b o e => by
    by_cases z : H b = none
    · exact hidT_get (KX b o e) z
    · obtain ⟨rfl, n⟩ := only b z
      rw [n] at e
      cases e
  obtain ⟨mc, n1, n2⟩ := nl
  exact ⟨inK, dicts g1, rfl, ⟨inK, dicts g1, ⟨mb, dicts g2, g3⟩, mc, dicts n1, n2⟩, fun b o e => of_hidT e, Nat.le_of_eq (hidT_size _ _), trivial, fun b m => (nomatch m), ok, .of_eq gn⟩
theorem callG (KX : K.In s1.heap) (g1 : s1.heap.Ns mainGlobals mg) (g2 : s1.heap.Ns builtinsNs mb) (g3 : ∀ y : Str, y ≠ "__name__" → mb y = bootBuiltins y) (nl : s1.heap.NoLimit) (gn : s1.gens = #[]) (ea : s1.heap.get? a = some (scO us)) (hi : IntsAre us ns) (hz : ns.length ≤ sizeLine) (hr : RoomG k callerA)
    (F : ∀ base : Heap, K.In base → base.Ns mainGlobals mg → FnOkG P w K mg base CX0 k fa fd [x] sp) (hb : ∀ (s : Shared) (u : Value), BindsTo s fd ⟨[u], []⟩ [(x, u)])
    (hsp : ∀ H : Hp, SqL K H a (ns.map V.int) → sp [.ref a] H (fun v _ => v = .bl true) fun _ _ _ => False) :
    codeAny (model P w) callerA (.call (.ref fa) ⟨[.ref a], []⟩) (fun r s' => r = .ok (.ret (.bool true)) ∧ OldK s1.heap s'.heap ∧ s'.os = s1.os ∧ AllBare s'.gens) s1 := by
  have rv : Vals (ns.map V.int) us := vals_ints hi
  have ln : us.length = ns.length := hi.length
  suffices go : ∃ H : Hp, SqL K H a (ns.map V.int) ∧ HOk P w H s1.heap ∧ (∀ b, H b ≠ none → b = a ∧ K.lookup a = none) ∧ ∀ b, H b ≠ none → ∃ o xs, H b = some (.frz o (.lst xs)) by
    obtain ⟨H, hS, ok, only, fz⟩ := go
    obtain ⟨k1, k2, env⟩ := envG KX g1 g2 g3 nl gn ea only ok
    refine codeAny_mono ((F _ k1 k2).run callerA [] s1 H ⟨[.ref a], []⟩ [.ref a] [.ref a] _ _ hr env (hb s1 _) (.cons rfl .nil) (hsp H hS)) fun r s2 e => ?_
    rcases r with e2 | fl
    · exact e.elim
    · cases fl with
      | ret u =>
        obtain ⟨v, H2, os, bare, un, ok2, r2, q⟩ := e
        subst q
        cases (show u = Value.bool true from r2)
        refine ⟨rfl, OldK.of_keep fun b o eo => ?_, os, bare⟩
        by_cases z : H b = none
        · exact un.keep b o eo z (fun m => (nomatch m)) (by simp)
        · obtain ⟨ob, xs, z2⟩ := fz b z
          have t1 := (ok b _ z2).1
          rw [eo] at t1
          rw [Option.some.inj t1]
          exact (ok2 b _ (un.frzs b ob _ z2)).1
      | next => exact e.elim
      | brk => exact e.elim
      | cont => exact e.elim
  by_cases hk : K.lookup a = none
  · have at_ : (fun b => if b = a then some (HO.frz (scO us) (.lst (ns.map V.int))) else none : Hp) a = some (HO.frz (scO us) (.lst (ns.map V.int))) := if_pos rfl
    have no : ∀ b, ¬ b = a → (fun b => if b = a then some (HO.frz (scO us) (.lst (ns.map V.int))) else none : Hp) b = none := fun b n => if_neg n
    generalize (fun b => if b = a then some (HO.frz (scO us) (.lst (ns.map V.int))) else none : Hp) = H at at_ no
    refine ⟨H, .inl (.inr ⟨_, at_⟩), fun b u e => ?_, fun b z => ⟨Classical.byContradiction fun n => z (no b n), hk⟩, fun b z => ?_⟩
    · by_cases n : b = a
      · rw [n, at_] at e
        cases e
        rw [n]
        exact ⟨ea, by rw [List.length_map]; exact hz, us, _, rv, ea⟩
      · rw [no b n] at e
        cases e
    · by_cases n : b = a
      · exact ⟨_, _, by rw [n]; exact at_⟩
      · exact absurd (no b n) z
  · obtain ⟨o, ho⟩ := Option.ne_none_iff_exists'.mp hk
    have e := KX a o ho
    rw [ea] at e
    cases e
    refine ⟨fun _ => none, .inr ⟨_, us.toArray, _, ho, rfl, rfl, rfl, ?_, by simpa using rv⟩, fun b u z => (nomatch z), fun b z => absurd rfl z, fun b z => absurd rfl z⟩
    rw [List.size_toArray, ln]
    exact hz
end
theorem walkG {l : PySem.W.OpenLaw} {n k : Nat} {q : Program} {loose : List Str} {XP : (Str → Option Value) → Heap → Prop} {YP : World → Heap → Prop} {d : DefRec} {K : Params → PySem.W.Frag} {x : Str} (hn : l.most = some n) (hz : n ≤ sizeLine) (hdf : d.params.defaults = []) (hr : RoomG k callerA)
    (hY : ∀ (w : World) (h : Heap), YP w h → (K w.params).In h)
    (F : ∀ (w : World) (mg : Str → Option Value) (fa : Addr) (h : Heap), (K w.params).In h → h.Ns mainGlobals mg → mg d.name = some (.ref fa) →
      ∃ fd : FuncData, (∀ (s : Shared) (u : Value), BindsTo s fd ⟨[u], []⟩ [(x, u)]) ∧ ∀ base : Heap, (K w.params).In base → base.Ns mainGlobals mg → FnOkG l.prog w (K w.params) mg base CX0 k fa fd [x] (spLaw (K w.params))) :
    PySem.W.WalkO q loose XP YP l.row.toRowW d [] (fun f vs => PySem.call f vs) := by
  refine Att.attach_call hn hdf fun w s0 s1 mg mb fa o pm cd doc a us ns G Y ho hd hcd hmg hobj hints hlen hg => ?_
  have KX := hY w _ Y
  obtain ⟨fd, hb, hF⟩ := F w mg fa _ KX G.T.g hmg
  exact callG KX G.T.g G.T.b G.T.builtins G.T.nolimit hg hobj hints (Nat.le_trans hlen hz) hr hF hb fun H hS => ⟨a, ns, rfl, hS, fun _ => rfl⟩

/-! ### facts of the top, as k_is finds them -/
section
variable {K : PySem.W.Frag} {C : Addr} {mc : Value} {a : Addr}
def IniD0 (K : PySem.W.Frag) (C : Addr) (qual : Str) (st : Stmt) : Prop := ∃ f fd, Mk K C f ∧ FD K "__init__" qual st f fd
theorem ini0_mk {f : Addr} {qual : Str} {st : Stmt} {od an : Option Addr} {sl : Array (Option Value)} {oc kV dc pm cd ct : Value} (m : PySem.W.makesIn K C = true) (a : PySem.W.findIn K (.ref C) "__init__" = some (some (.ref f))) (i : PySem.W.isFn K (.ref f) = true) (kc : PySem.W.keepIn K (.ref C) = true)
    (l : K.lookup f = some ⟨oc, od, .func (PySem.W.fnOf "__init__" qual (defArgs st) (defBody st) (defScope st) .none kV dc pm an cd ct), sl⟩) (c : PySem.W.codeIn K cd qual = true) (k : PySem.W.keepIn K (.ref f) = true) : IniD0 K C qual st := ⟨f, _, ⟨m, a, i, kc⟩, fd_mk l c k⟩
theorem cv_mk {f : Str} {n : Int} {t : Tok} (h : PySem.W.findCls K (.ref C) mc f = some (.val (.int n t))) : ∃ u, ClX.CVal K C mc f (.int n) u := ⟨_, h, ⟨_, rfl⟩⟩
theorem ax_mk {its : Array Value} {n : Nat} {sl : Array (Option Value)} {xs : List V} (h : K.lookup a = some ⟨.type "tuple", none, .seq its n, sl⟩) (hz : its.size ≤ sizeLine) (hv : Vals xs its.toList) : ∀ H, SqT K H a xs := fun H => .inr ⟨_, its, n, h, rfl, rfl, hz, hv⟩
theorem axT_mk {d : Data} {sl : Array (Option Value)} (h : K.lookup a = some ⟨.type "tuple", none, d, sl⟩) : ∃ o, K.lookup a = some o ∧ o.cls = .type "tuple" ∧ o.dict = none := ⟨_, h, rfl, rfl⟩
end
end Mc

set_option Elab.async false
set_option linter.all false
set_option maxRecDepth 100000
set_option maxHeartbeats 4000000
namespace Mc
open PySem PySem.Spec PyProof.Rows L2
/-! ### what a pot's turning leaves, and objects that are built beside it -/
/-- an object that is no pot -/
def noPot : HO → Bool
  | .lst [.int _, .int _] => false
  | _ => true
theorem pk {H H' : Hp} {p a : Addr} {o : HO} (f : Frm [p] H H') (hp : Pot H p) (h : H a = some o) (n : noPot o = true := by rfl) : H' a = some o := f _ _ h fun z => by
  obtain ⟨x, y, e, _⟩ := hp
  rw [List.mem_singleton.mp z, e] at h
  cases h
  cases n
theorem noPot_refs (as : List Addr) : noPot (.lst (as.map V.ref)) = true := by
  match as with
  | [] => rfl
  | [_] => rfl
  | [_, _] => rfl
  | _ :: _ :: _ :: _ => rfl
theorem noPot_len {L : List V} (h : L.length ≠ 2) : noPot (.lst L) = true := by
  cases e : noPot (.lst L) with
  | true => rfl
  | false =>
    unfold noPot at e
    split at e
    · rename_i q
      rw [HO.lst.inj q] at h
      exact absurd rfl h
    · cases e
theorem ext_both {B H : Hp} {x : Addr} {o : HO} (e : Ext B H) : Ext (upd B x o) (upd H x o) := fun a u z => by
  by_cases h : a = x
  · subst h
    rw [upd_same] at z ⊢
    exact z
  · rw [upd_ne h] at z ⊢
    exact e _ _ z
theorem none_ext {B H : Hp} {x : Addr} (e : Ext B H) (h : H x = none) : B x = none := by
  cases q : B x with
  | none => rfl
  | some o => rw [e _ _ q] at h; cases h
/-- B: what is built and stays, beside the pot p and what is still turned (N); B0 what stood so at the start H -/
structure Bld (p : Addr) (N : List Addr) (H B0 B Hc : Hp) : Prop where
  E : Ext B Hc
  X : Ext B0 B
  bp : B p = none
  bn : ∀ n ∈ N, B n = none
  hn : ∀ n ∈ N, Hc n ≠ none
  F : Frm [p] H Hc
  hp : Pot Hc p
  n0 : ∀ n ∈ N, H n = none
  pN : p ∉ N
  nw : ∀ a, H a ≠ none → B0 a = none → B a = none
section
variable {p : Addr} {N : List Addr} {H B0 B Hc : Hp}
/-- H without its pot -/
def bare (p : Addr) (H : Hp) : Hp := fun a => if a = p then none else H a
theorem bare_at {a : Addr} {o : HO} (h : H a = some o) (n : a ≠ p) : bare p H a = some o := by
  unfold bare
  rw [if_neg n]
  exact h
theorem bare_pk {a : Addr} {o : HO} (hp : Pot H p) (h : H a = some o) (n : noPot o = true := by rfl) : bare p H a = some o := bare_at h fun z => by
  obtain ⟨x, y, e, _⟩ := hp
  rw [z, e] at h
  cases h
  cases n
theorem bare_ext (p : Addr) (H : Hp) : Ext (bare p H) H := fun a o e => by
  unfold bare at e
  split at e
  · cases e
  · exact e
theorem bare_frm {H' : Hp} (f : Frm [p] H H') : Ext (bare p H) H' := fun a o e => by
  unfold bare at e
  split at e
  · cases e
  · rename_i n
    exact f _ _ e fun z => n (List.mem_singleton.mp z)
theorem Bld.begin (e : Ext B H) (bp : B p = none) (hp : Pot H p) : Bld p [] H B B H := ⟨e, Ext.rfl', bp, fun _ z => (nomatch z), fun _ z => (nomatch z), Frm.refl _ _, hp, fun _ z => (nomatch z), fun z => (nomatch z), fun _ _ z => z⟩
theorem Bld.start (hp : Pot H p) : Bld p [] H (bare p H) (bare p H) H := Bld.begin (bare_ext p H) (if_pos rfl) hp
theorem Bld.here (b : Bld p N H B0 B Hc) : Bld p [] Hc B B Hc := Bld.begin b.E b.bp b.hp
theorem Bld.fresh {x : Addr} (b : Bld p N H B0 B Hc) (hx : Hc x = none) : H x = none := b.F.free hx (fun z => b.hp.ne hx (List.mem_singleton.mp z))
theorem Bld.new {x : Addr} {o : HO} (b : Bld p N H B0 B Hc) (hx : Hc x = none) : Bld p N H B0 (upd B x o) (upd Hc x o) ∧ Ext B (upd B x o) := by
  have xp : x ≠ p := b.hp.ne hx
  have e := Ext.upd (o := o) (none_ext b.E hx)
  refine ⟨⟨ext_both b.E, b.X.trans e, by rw [upd_ne (Ne.symm xp)]; exact b.bp, fun n hn => ?_, fun n hn => ?_, b.F.trans (Frm.new hx), b.hp.new hx, b.n0, b.pN, fun a ha ha0 => ?_⟩, e⟩
  · have : n ≠ x := fun z => b.hn n hn (z ▸ hx)
    rw [upd_ne this]
    exact b.bn n hn
  · by_cases z : n = x
    · rw [z, upd_same]; exact fun w => nomatch w
    · rw [upd_ne z]; exact b.hn n hn
  · have : a ≠ x := fun z => ha (z ▸ b.fresh hx)
    rw [upd_ne this]
    exact b.nw a ha ha0
/-- a new object that will still be turned -/
theorem Bld.own {x : Addr} {o : HO} (b : Bld p N H B0 B Hc) (hx : Hc x = none) : Bld p (x :: N) H B0 B (upd Hc x o) := by
  have xp : x ≠ p := b.hp.ne hx
  have bx := none_ext b.E hx
  have Hx : H x = none := b.fresh hx
  refine ⟨b.E.trans (Ext.upd hx), b.X, b.bp, fun n hn => ?_, fun n hn => ?_, b.F.trans (Frm.new hx), b.hp.new hx, fun n hn => ?_, fun z => ?_, b.nw⟩
  · rcases List.mem_cons.mp hn with rfl | h
    · exact bx
    · exact b.bn n h
  · rcases List.mem_cons.mp hn with rfl | h
    · rw [upd_same]; exact fun w => nomatch w
    · by_cases z : n = x
      · rw [z, upd_same]; exact fun w => nomatch w
      · rw [upd_ne z]; exact b.hn n h
  · rcases List.mem_cons.mp hn with rfl | h
    · exact Hx
    · exact b.n0 n h
  · rcases List.mem_cons.mp z with rfl | h
    · exact xp rfl
    · exact b.pN h
theorem Bld.put {x : Addr} {o : HO} (b : Bld p N H B0 B Hc) (hx : x ∈ N) : Bld p N H B0 B (upd Hc x o) := by
  have xp : p ≠ x := fun z => b.pN (z ▸ hx)
  refine ⟨fun a u z => ?_, b.X, b.bp, b.bn, fun n hn => ?_, fun a u e n => ?_, ?_, b.n0, b.pN, b.nw⟩
  · have : a ≠ x := fun w => by rw [w, b.bn x hx] at z; cases z
    rw [upd_ne this]
    exact b.E _ _ z
  · by_cases z : n = x
    · rw [z, upd_same]; exact fun w => nomatch w
    · rw [upd_ne z]; exact b.hn n hn
  · have : a ≠ x := fun w => by rw [w, b.n0 x hx] at e; cases e
    rw [upd_ne this]
    exact b.F _ _ e n
  · obtain ⟨x1, y1, e, o1⟩ := b.hp
    exact ⟨x1, y1, by rw [upd_ne xp]; exact e, o1⟩
theorem Bld.draw {H' : Hp} (b : Bld p N H B0 B Hc) (f : Frm [p] Hc H') (hp : Pot H' p) : Bld p N H B0 B H' := by
  refine ⟨fun a u z => f _ _ (b.E _ _ z) fun w => ?_, b.X, b.bp, b.bn, fun n hn z => ?_, b.F.trans f, hp, b.n0, b.pN, b.nw⟩
  · rw [List.mem_singleton.mp w, b.bp] at z
    cases z
  · cases q : Hc n with
    | none => exact b.hn n hn q
    | some o =>
      rw [f _ _ q (fun w => b.pN (List.mem_singleton.mp w ▸ hn))] at z
      cases z
/-- a call that builds on: c is what it says -/
theorem Bld.then {B' H' : Hp} (b : Bld p N H B0 B Hc) (c : Bld p [] Hc B B' H') : Bld p N H B0 B' H' := by
  have d := b.draw c.F c.hp
  exact ⟨c.E, b.X.trans c.X, c.bp, fun n hn => c.nw n (b.hn n hn) (b.bn n hn), d.hn, d.F, c.hp, b.n0, b.pN, fun a ha h0 => by
    by_cases z : Hc a = none
    · have ap : a = p := by
        cases q : H a with
        | none => exact absurd q ha
        | some o =>
          by_cases w : a = p
          · exact w
          · rw [b.F _ _ q (fun v => w (List.mem_singleton.mp v))] at z
            cases z
      rw [ap]
      exact c.bp
    · exact c.nw a z (b.nw a ha h0)⟩
/-- what was turned stands now -/
theorem Bld.drop {M : List Addr} (b : Bld p N H B0 B Hc) (s : ∀ x ∈ M, x ∈ N) : Bld p M H B0 B Hc := ⟨b.E, b.X, b.bp, fun n h => b.bn n (s n h), fun n h => b.hn n (s n h), b.F, b.hp, fun n h => b.n0 n (s n h), fun z => b.pN (s _ z), b.nw⟩
theorem Bld.stand {x : Addr} {o : HO} (b : Bld p (x :: N) H B0 B Hc) (h : Hc x = some o) (nx : x ∉ N) : Bld p N H B0 (upd B x o) Hc ∧ Ext B (upd B x o) := by
  have xp : x ≠ p := fun z => b.pN (z ▸ List.mem_cons_self)
  have e := Ext.upd (o := o) (b.bn x List.mem_cons_self)
  refine ⟨⟨fun a u z => ?_, b.X.trans e, by rw [upd_ne (Ne.symm xp)]; exact b.bp, fun n hn => ?_, fun n hn => b.hn n (List.mem_cons_of_mem _ hn), b.F, b.hp, fun n hn => b.n0 n (List.mem_cons_of_mem _ hn), fun z => b.pN (List.mem_cons_of_mem _ z), fun a ha h0 => ?_⟩, e⟩
  · by_cases w : a = x
    · rw [w, upd_same] at z
      rw [w, h, z]
    · rw [upd_ne w] at z
      exact b.E _ _ z
  · have : n ≠ x := fun z => nx (z ▸ hn)
    rw [upd_ne this]
    exact b.bn n (List.mem_cons_of_mem _ hn)
  · have : a ≠ x := fun z => ha (z ▸ b.n0 x List.mem_cons_self)
    rw [upd_ne this]
    exact b.nw a ha h0
theorem Bld.bare (b : Bld p N H B0 B Hc) : Ext B (bare p Hc) := fun a o e => bare_at (b.E _ _ e) fun z => by rw [z, b.bp] at e; cases e
theorem Bld.ne {n : Addr} (b : Bld p N H B0 B Hc) (h : n ∈ N) : n ≠ p := fun z => b.pN (z ▸ h)
/-- what is turned keeps what it holds while a call builds on -/
theorem Bld.kept {n : Addr} {o : HO} {H' : Hp} (b : Bld p N H B0 B Hc) (h : n ∈ N) (e : Hc n = some o) (f : Frm [p] Hc H') : H' n = some o := f _ _ e fun z => b.ne h (List.mem_singleton.mp z)
end
end Mc

set_option Elab.async false
set_option linter.all false
set_option maxRecDepth 100000
set_option maxHeartbeats 4000000
namespace Mc
open PySem PySem.Spec PySem.Calls PyProof.Rows L2
/-! ### an instance with an own __call__, called -/
structure OwnC (K : PySem.W.Frag) (C f : Addr) : Prop where
  at_ : PySem.W.findIn K (.ref C) "__call__" = some (some (.ref f))
  fn : PySem.W.isFn K (.ref f) = true
  fi : PySem.W.fnIn K f = true
section
variable {M : Model} {A : Around} {E : Value → Shared → Prop} {s : Shared} {pos : Pos} {x : Addr} {first : List Value} {Q : Value → Shared → Prop}
theorem coWith_of {args : List (Bool × Sem Value)} {keywords : List (Option Str × Sem Value)} (hplain : (args.any (·.1) || keywords.any (·.1.isNone)) = false)
    (h : wpAny M A (evalArgs (.ref x) true args keywords) (fun a s₁ => (∃ ox C od, PySem.W.InstAt s₁.heap x ox C od ∧ ox.data = .plain) ∧ wpAny M A (call (.ref x) (first ++ a.pos) a.kw) Q E s₁) E s) : wpAny M A (callWith pos (.ref x) first args keywords) Q E s := by
  unfold callWith
  refine wpAny_bind (wpAny_holding (wpAny_mono h (fun a s₁ h₁ => wpAny_bind (wpAny_standAt ?_)) fun _ _ y => y))
  obtain ⟨ox, C, od, I, hd⟩ := h₁.1
  have L := PySem.W.kco_keeper (M := M) I hd
  simp only [hplain]
  refine wpAny_bind (L.here ?_)
  have tail : ∀ {t : Sem Value}, wpAny M A t Q E s₁ → wpAny M A (t >>= fun r => holding [r] point >>= fun _ => pure r) Q E s₁ :=
    fun ht => wpAny_bind (wpAny_mono ht (fun r s₂ hr => wpAny_bind (wpAny_holding (wpAny_point (wpAny_pure hr)))) fun _ _ y => y)
  exact tail (wpAny_operateT h₁.2)
theorem coWith {env : Env} {e : Expr} {rest : List Expr} (h : wpAny M A (spliced (backTo pos (starEach (e :: rest) env))) (fun vs s₁ => (∃ ox C od, PySem.W.InstAt s₁.heap x ox C od ∧ ox.data = .plain) ∧ wpAny M A (call (.ref x) (first ++ vs)) Q E s₁) E s)
    (he : starEach (e :: rest) env = (false, eval e env) :: starEach rest env) (hplain : (backTo pos (starEach rest env)).any (·.1) = false) :
    wpAny M A (callWith pos (.ref x) first (backTo pos (starEach (e :: rest) env)) []) Q E s := by
  rw [he] at h ⊢
  exact coWith_of (by show ((false || (backTo pos (starEach rest env)).any (·.1)) || false) = false; rw [hplain]; rfl) (evalArgs_plain h)
end
/-- x(e, ..) of an instance of the class at C, that still stands once the arguments are there -/
def tCallO (C : Addr) (sp : Sp) (ta : TE) (t : TA) : TE := fun σ H Q => ta σ H fun y H1 => ∃ a, y = .ref a ∧ t σ H1 fun vs H2 => ∃ dx fs, H2 a = some (.ins C dx fs) ∧ sp (.ref a :: vs) H2 Q E0
section
variable {X : Cx} {C f : Addr} {k i : Nat} {fd : FuncData} {ps : List Str} {sp : Sp} {x : Str} {p pos : Pos} {e : Expr} {es : List Expr} {ta : TE} {t : TA}
theorem pe_callO (m : OwnC X.K C f) (F : FnOk X.prog X.w X.K X.mg X.base CX0 k f fd ps sp) (hb : Binds X.K fd ps []) (hr : Room k X.A) (hx : PE X (.Name x p) ta) (ha : PA X (e :: es) t)
    (he : starEach (e :: es) X.env = (false, eval e X.env) :: starEach es X.env := by rfl) (hpl : (backTo pos (starEach es X.env)).any (·.1) = false := by rfl) : PE X (.Call (.Name x p) (e :: es) [] pos) (tCallO C sp ta t) := by
  refine ⟨fun pins s σ H Q I h => ?_⟩
  refine wpAny_Call_Name_kw (thn (hx.run pins s σ H _ I h) fun u s1 ⟨y, H1, I1, r1, a, ey, q1⟩ => ?_)
  subst ey
  obtain rfl : u = Value.ref a := r1
  refine coWith (thn (ha.run pos pins s1 σ H1 _ I1 q1) fun us s2 ⟨vs, H2, I2, r, dx, fs, hH, q⟩ => ?_) he hpl
  obtain ⟨mA, J, _⟩ := ins_get I2.hok hH
  obtain ⟨od, J, _⟩ := J.look
  refine ⟨⟨_, _, _, J, rfl⟩, ?_⟩
  have r2 : Vals (V.ref a :: vs) (Value.ref a :: us) := .cons rfl r
  have hl : ((Value.ref a :: us) ++ []).length = ps.length := by rw [List.append_nil, ← r2.length]; exact F.len _ _ _ _ q
  have hbi := hb s2 (Value.ref a :: us) I2.kIn hl
  rw [List.append_nil] at hbi
  refine wpAny_call (PySem.W.kco_code I2.kIn J rfl m.at_ m.fn m.fi (codeAny_mono (F.run X.A X.stack s2 H2 ⟨.ref a :: us, []⟩ (.ref a :: us) (.ref a :: vs) Q E0 hr I2.env0 hbi r2 q) fun r s' hq => ?_))
  cases r with
  | error e => exact hq.elim
  | ok fl =>
    cases fl with
    | ret u => exact I2.after hq
    | next => exact hq.elim
    | brk => exact hq.elim
    | cont => exact hq.elim
end
/-! ### a range object that a name holds, walked -/
theorem cr_range1 {X : Cx} : CallR X (.type "range") (fun vs H Q => ∃ j, vs = [V.int j] ∧ ∀ p, H p = none → Q (.ref p) (upd H p (.rng 0 j))) := by
  intro pins s σ H vs us Q I r h
  obtain ⟨j, rfl, q⟩ := h
  obtain ⟨u1, rfl, ri⟩ := vals1 r
  obtain ⟨t, rfl⟩ := ri
  refine call_range_1 ⟨.ref s.heap.objs.size, upd H s.heap.objs.size (.rng 0 j), I.laid (t' := _) (fun b o e => Heap.get?_push_of_some _ e) (Nat.le_refl _) ?_, rfl, q _ (I.hok.fresh (Nat.le_refl _))⟩
  exact ⟨_, _, _, Heap.get?_push_size _ rfl⟩
def iRngV (te : TE) : TI := fun σ H R => te σ H fun x H1 => ∃ (p : Addr) (lo hi : Int), x = .ref p ∧ H1 p = some (.rng lo hi) ∧ (-(2 ^ 62) ≤ lo ∧ lo < 2 ^ 62 ∧ -(2 ^ 62) ≤ hi ∧ hi < 2 ^ 62) ∧ R (Itr lo (hi - lo).toNat) H1
theorem pi_rng {X : Cx} {tg e : Expr} {te : TE} (he : PE X e te) : PI X tg e (iRngV te) := by
  refine ⟨fun pins s σ H R I h => ?_⟩
  refine thn (he.run pins s σ H _ I h) fun v s1 ⟨x, H1, I1, r1, q1⟩ => ?_
  obtain ⟨p, lo, hi, rfl, hp, ⟨h1, h2, h3, h4⟩, q⟩ := q1
  obtain rfl : v = Value.ref p := r1
  obtain ⟨t1, t2, t3, ho⟩ := I1.hok p _ hp
  refine wpAny_pyIter_range (a := lo) (b := hi) (c := 1) (show IsRange s1.heap p lo hi 1 t1 t2 t3 from ho) (small_one h1 h2 h3 h4) ?_
  refine ⟨s1.heap.objs.size, [s1.heap.objs.size], _, _, H1, rfl, I1.kept (t' := s1.toks) fun b o e => Heap.get?_push_of_some _ e, turn_range _ lo (hi - lo).toNat, ?_, fun b hb => ?_, q⟩
  · have e1 : lo + ((0 : Nat) : Int) * 1 = lo := by simp
    have e2 : (((hi - lo).toNat : Nat) : Int) - ((0 : Nat) : Int) = Builtin.Range.rangeSize lo hi 1 := by rw [rangeSize_one]; split <;> omega
    show IsRangeIter _ _ (lo + ((0 : Nat) : Int) * 1) ((((hi - lo).toNat : Nat) : Int) - ((0 : Nat) : Int)) 1
    rw [e1, e2]
    exact Heap.get?_push_size _ rfl
  · have e : b = s1.heap.objs.size := by simpa using hb
    subst e
    exact I1.fpOk (Nat.le_refl _) (I1.hok.fresh (Nat.le_refl _))
/-! ### a truth value is (not) the other -/
theorem op_isntB {X : Cx} : OpR X (compareOp .IsNot) (fun x y H Q => ∃ a b : Bool, x = .bl a ∧ y = .bl b ∧ Q (.bl (!(a == b))) H) := by
  intro pins s σ H x y v u Q I rx ry h
  obtain ⟨a, b, rfl, rfl, q⟩ := h
  cases (show v = Value.bool a from rx)
  cases (show u = Value.bool b from ry)
  show wpAny _ _ (do return Value.bool (!(← isSame (Value.bool a) (Value.bool b)))) _ _ s
  have e : isSame (Value.bool a) (Value.bool b) = pure (Value.bool a == Value.bool b) := rfl
  rw [e]
  refine wpAny_bind (wpAny_pure (wpAny_pure ⟨.bl (!(a == b)), H, I, ?_, q⟩))
  cases a <;> cases b <;> rfl
end Mc

set_option Elab.async false
set_option linter.all false
set_option maxRecDepth 100000
set_option maxHeartbeats 4000000
namespace Mc
open PySem PySem.Spec PyProof.Rows L2
open PySem.W (Frag)
/-! ### the head by facts: what the top leaves, read by a Hook of my own -/
theorem DefP.funD {K : Frag} {d : DefP} (e : fnAt K (d.at_ K) = d.val) (c : d.ok K = true) : ∃ fd, FunD K d.name d.qual (defArgs d.st) (defBody d.st) (defScope d.st) d.dfl [] (d.at_ K) fd := by
  obtain ⟨kp, c2⟩ := He.ba c
  unfold fnAt at e
  cases q : K.lookup (d.at_ K) with
  | none =>
    rw [q] at c2
    cases c2
  | some o =>
    obtain ⟨oc, od, dt, osl⟩ := o
    rw [q] at c2 e
    cases dt with
    | func fd =>
      obtain ⟨n1, n2, n3, n4, n5, n6, n7, n8, n9, n10, n11, n12, n13, n14, n15⟩ := fd
      have e2 : (some (n1, n2, n3, n4, n5, n6, n7, n15) : He.FnW) = some (d.name, d.qual, defArgs d.st, .stmts (defBody d.st), defScope d.st, mainGlobals, [], builtinsNs) := e
      simp only [Option.some.injEq, Prod.mk.injEq] at e2
      obtain ⟨h1, h2, h3, h4, h5, h6, h7, h8⟩ := e2
      subst h1 h2 h3 h4 h5 h6 h7 h8
      have c3 : (PySem.W.codeIn K n13 d.qual && He.dflB K n8 d.dfl) = true := c2
      obtain ⟨k1, k2⟩ := He.ba c3
      exact ⟨_, ⟨oc, od, n8, n9, n10, n11, n12, n13, n14, osl, rfl, q, k1, He.dflB_ok k2, .inl rfl⟩, kp⟩
    | _ => cases c2
section
variable {fs : List (Frag → Bool)} {ds : List DefP} {K : Frag}
theorem SaysP.fact (c : SaysP fs ds K) (i : Nat) {f : Frag → Bool} (h : fs[i]? = some f := by rfl) : f K = true := by
  have c1 := (He.ba (show ((fs.all fun f => f K) && ds.all fun d => d.ok K) = true from congrArg (fun z : AlP => z.1) c)).1
  exact List.all_eq_true.mp c1 f (List.mem_of_getElem? h)
theorem SaysP.def_ (c : SaysP fs ds K) (i : Nat) {d : DefP} (h : ds[i]? = some d := by rfl) : ∃ fd, FunD K d.name d.qual (defArgs d.st) (defBody d.st) (defScope d.st) d.dfl [] (d.at_ K) fd := by
  have c2 := (He.ba (show ((fs.all fun f => f K) && ds.all fun d => d.ok K) = true from congrArg (fun z : AlP => z.1) c)).2
  have e : ds.map (fun d => fnAt K (d.at_ K)) = ds.map DefP.val := congrArg (fun z : AlP => z.2) c
  have e2 : (ds.map fun d => fnAt K (d.at_ K))[i]? = (ds.map DefP.val)[i]? := by rw [e]
  rw [List.getElem?_map, List.getElem?_map, h] at e2
  exact DefP.funD (Option.some.inj e2) (List.all_eq_true.mp c2 d (List.mem_of_getElem? h))
end
/-! ### where things stand, and what is asked of them -/
open He (ga ma eqO eqO_ok ba)
section
variable {K : Frag} {h : Heap} {mg : Str → Option Value} {x c m f : Str} {i : Int} {nm : String} {vs : List V}
theorem gloB_ok (X : K.In h) (G : h.Ns mainGlobals mg) (e : gloB x K = true) : mg x = some (.ref (ga K x)) := PySem.W.mg_of X G (eqO_ok e)
theorem blB_ok {id : String} (X : K.In h) (G : h.Ns mainGlobals mg) (e : blB x id K = true) : mg x = some (.builtin id) := PySem.W.mg_of X G (eqO_ok e)
theorem freeB_ok (X : K.In h) (G : h.Ns mainGlobals mg) (e : freeB x K = true) : mg x = none := PySem.W.mg_none_of X G (eqO_ok e)
theorem intB_ok (X : K.In h) (G : h.Ns mainGlobals mg) (e : intB x i K = true) : ∃ t, mg x = some (.int i t) := He.int_ok X G (x := x) (i := i) e
theorem clsB_ok (e : clsB c K = true) : Cls K (ga K c) := He.cls_ok (x := c) e
theorem noatB_ok (e : noatB c f K = true) : NoAttr K (ga K c) f := eqO_ok e
theorem metB_ok (e : metB c m K = true) : Meth K (ga K c) m (mAt c m K) := by
  obtain ⟨c1, c⟩ := ba e
  obtain ⟨c2, c3⟩ := ba c
  exact ⟨eqO_ok c1, c2, c3⟩
theorem mkB_ok (e : mkB c K = true) : Mk K (ga K c) (mAt c "__init__" K) := by
  obtain ⟨c1, c⟩ := ba e
  obtain ⟨c2, c⟩ := ba c
  obtain ⟨c3, c4⟩ := ba c
  exact ⟨c1, eqO_ok c2, c3, c4⟩
theorem prpB_ok (e : prpB c m K = true) : PropOf K (ga K c) m (mAt c m K) (wAt "property" c m K) := by
  obtain ⟨c1, c⟩ := ba e
  obtain ⟨c2, c⟩ := ba c
  obtain ⟨c3, c4⟩ := ba c
  refine ⟨eqO_ok c1, eqO_ok c2, of_decide_eq_true c3, ?_⟩
  unfold wAt
  unfold mAt at *
  generalize PySem.W.recIn K (ma K (ga K _) m) "property" = r at *
  match r, c4 with
  | some (.ref a :: rest), _ => exact ⟨rest, rfl⟩
theorem ownOB_ok (e : ownOB c nm K = true) : OwnB K (ga K c) nm (mAt c (PySem.dunder nm) K) := by
  obtain ⟨c1, c⟩ := ba e
  obtain ⟨c1, c2⟩ := ba c1
  obtain ⟨c3, c⟩ := ba c
  obtain ⟨c4, c⟩ := ba c
  obtain ⟨c5, c⟩ := ba c
  obtain ⟨c6, c7⟩ := ba c
  refine ⟨eqO_ok c1, c2, c3, ?_, Option.isSome_iff_exists.mp c5, Option.isSome_iff_exists.mp c6, of_decide_eq_true c7⟩
  generalize PySem.W.findIn K (.ref (ga K _)) (dunderR nm) = r at *
  match r, c4 with
  | some (some (.ref a)), _ => exact ⟨a, rfl⟩
theorem tupPB_ok (e : tupPB x vs K = true) : (∀ H, SqT K H (ga K x) vs) ∧ ∃ o, K.lookup (ga K x) = some o ∧ o.cls = .type "tuple" ∧ o.dict = none := by
  unfold tupPB at e
  cases q : K.lookup (ga K x) with
  | none =>
    rw [q] at e
    cases e
  | some o =>
    obtain ⟨oc, od, dt, osl⟩ := o
    rw [q] at e
    cases oc with
    | type c =>
      cases od with
      | none =>
        cases dt with
        | seq its n =>
          obtain ⟨h1, h2⟩ := ba (show (decide (c = "tuple") && (decide (its.size ≤ sizeLine) && He.relAll vs its.toList)) = true from e)
          obtain ⟨h3, h4⟩ := ba h2
          have hc : c = "tuple" := of_decide_eq_true h1
          subst hc
          exact ⟨fun H => .inr ⟨_, its, n, q, rfl, rfl, of_decide_eq_true h3, He.relAll_ok h4⟩, _, rfl, rfl, rfl⟩
        | _ => cases e
      | some a => cases dt <;> cases e
    | _ => cases od <;> cases dt <;> cases e
theorem cvB_ok (e : cvB c f i K = true) : ∃ u, ClX.CVal K (ga K c) (.type "type") f (.int i) u := by
  unfold cvB at e
  cases q : PySem.W.findCls K (.ref (ga K c)) (.type "type") f with
  | none => rw [q] at e; cases e
  | some r =>
    rw [q] at e
    cases r with
    | val u => exact ⟨u, q, He.relB_ok e⟩
    | _ => cases e
theorem crdB_ok (e : crdB c K = true) : ClX.CRead K (ga K c) (.type "type") := ⟨(ba e).1, eqO_ok (ba e).2⟩
end
theorem callB_ok {K : Frag} {c : Str} (e : callB c K = true) : OwnC K (ga K c) (mAt c "__call__" K) := by
  obtain ⟨c1, d⟩ := ba e
  obtain ⟨c2, c3⟩ := ba d
  exact ⟨eqO_ok c1, c2, c3⟩
theorem tbB_ok {K : Frag} {h : Heap} {mg : Str → Option Value} (X : K.In h) (G : h.Ns mainGlobals mg) (e : tbB K = true) : TB mg := by
  have k : ∀ x ∈ tbNames, mg x = none := fun x hx => freeB_ok X G (List.all_eq_true.mp e x hx)
  exact ⟨k _ (List.mem_of_getElem? (i := 0) rfl), k _ (List.mem_of_getElem? (i := 1) rfl), k _ (List.mem_of_getElem? (i := 2) rfl), k _ (List.mem_of_getElem? (i := 3) rfl), k _ (List.mem_of_getElem? (i := 4) rfl), k _ (List.mem_of_getElem? (i := 5) rfl), k _ (List.mem_of_getElem? (i := 6) rfl), k _ (List.mem_of_getElem? (i := 7) rfl), k _ (List.mem_of_getElem? (i := 8) rfl), k _ (List.mem_of_getElem? (i := 9) rfl), k _ (List.mem_of_getElem? (i := 10) rfl), k _ (List.mem_of_getElem? (i := 11) rfl), k _ (List.mem_of_getElem? (i := 12) rfl), k _ (List.mem_of_getElem? (i := 13) rfl), k _ (List.mem_of_getElem? (i := 14) rfl), k _ (List.mem_of_getElem? (i := 15) rfl), k _ (List.mem_of_getElem? (i := 16) rfl)⟩
/-! ### the walk of a law over such a head -/
theorem walkGE {l : PySem.W.OpenLaw} {n k : Nat} {q : Program} {loose : List Str} {XP : (Str → Option Value) → Heap → Prop} {YP : World → Heap → Prop} {d : DefRec} {x : Str} (hn : l.most = some n) (hz : n ≤ sizeLine) (hdf : d.params.defaults = []) (hr : RoomG k callerA)
    (F : ∀ (w : World) (mg : Str → Option Value) (fa : Addr) (h : Heap), YP w h → h.Ns mainGlobals mg → mg d.name = some (.ref fa) →
      ∃ (K : Frag) (fd : FuncData), K.In h ∧ (∀ (s : Shared) (u : Value), BindsTo s fd ⟨[u], []⟩ [(x, u)]) ∧ ∀ base : Heap, K.In base → base.Ns mainGlobals mg → FnOkG l.prog w K mg base CX0 k fa fd [x] (spLaw K)) :
    PySem.W.WalkO q loose XP YP l.row.toRowW d [] (fun f vs => PySem.call f vs) := by
  refine Att.attach_call hn hdf fun w s0 s1 mg mb fa o pm cd doc a us ns G Y ho hd hcd hmg hobj hints hlen hg => ?_
  obtain ⟨K, fd, KX, hb, hF⟩ := F w mg fa _ Y G.T.g hmg
  exact callG KX G.T.g G.T.b G.T.builtins G.T.nolimit hg hobj hints (Nat.le_trans hlen hz) hr hF hb fun H hS => ⟨a, ns, rfl, hS, fun _ => rfl⟩
end Mc


set_option Elab.async false
set_option linter.all false
set_option maxRecDepth 100000
set_option maxHeartbeats 4000000
namespace Mc
/-! ### the places of a round, as pure lists -/
abbrev Pr := Int × Int
def stepC (p : Pr) (c : Cut) (k : Nat) : Pr := if c.1 then (p.1 * c.2 + k, p.2) else (p.1, p.2 * c.2 + k)
def spread (ps : List Pr) (c : Cut) : List Pr := ps.flatMap fun p => (List.range c.2).map fun k => stepC p c k
def placesF (cs : List Cut) : List Pr := cs.foldl spread [(0, 0)]
theorem placesF_snoc (cs : List Cut) (c : Cut) : placesF (cs ++ [c]) = spread (placesF cs) c := by
  unfold placesF
  rw [List.foldl_append]
  rfl
theorem spread_length (ps : List Pr) (c : Cut) : (spread ps c).length = ps.length * c.2 := by
  unfold spread
  induction ps with
  | nil => simp
  | cons p r ih => rw [List.flatMap_cons, List.length_append, ih, List.length_map, List.length_range, List.length_cons, Nat.succ_mul, Nat.add_comm]
/-- of one turn's columns and rows -/
def colsF : List Cut → Nat
  | [] => 1
  | c :: r => (if c.1 then c.2 else 1) * colsF r
def rowsF : List Cut → Nat
  | [] => 1
  | c :: r => (if c.1 then 1 else c.2) * rowsF r
theorem colsF_snoc (c : Cut) : ∀ cs : List Cut, colsF (cs ++ [c]) = colsF cs * (if c.1 then c.2 else 1)
  | [] => by simp [colsF]
  | d :: r => by
    rw [List.cons_append]
    unfold colsF
    rw [colsF_snoc c r, Nat.mul_assoc]
theorem rowsF_snoc (c : Cut) : ∀ cs : List Cut, rowsF (cs ++ [c]) = rowsF cs * (if c.1 then 1 else c.2)
  | [] => by simp [rowsF]
  | d :: r => by
    rw [List.cons_append]
    unfold rowsF
    rw [rowsF_snoc c r, Nat.mul_assoc]
theorem snoc_ind {P : List Cut → Prop} (h0 : P []) (h1 : ∀ cs c, P cs → P (cs ++ [c])) : ∀ cs, P cs := fun cs => by
  have : ∀ r : List Cut, P r.reverse := fun r => by
    induction r with
    | nil => exact h0
    | cons c r ih => rw [List.reverse_cons]; exact h1 _ _ ih
  have h := this cs.reverse
  rwa [List.reverse_reverse] at h
theorem pos_cols {cs : List Cut} (h : ∀ c ∈ cs, okC c) : 0 < colsF cs ∧ 0 < rowsF cs := by
  induction cs with
  | nil => exact ⟨by decide, by decide⟩
  | cons c r ih =>
    have h1 := h c List.mem_cons_self
    have h2 := ih fun d hd => h d (List.mem_cons_of_mem _ hd)
    unfold colsF rowsF
    refine ⟨Nat.mul_pos ?_ h2.1, Nat.mul_pos ?_ h2.2⟩
    · split
      · exact Nat.lt_of_lt_of_le (by decide) h1.1
      · decide
    · split
      · decide
      · exact Nat.lt_of_lt_of_le (by decide) h1.1
theorem placesF_length (cs : List Cut) : (placesF cs).length = colsF cs * rowsF cs := by
  refine snoc_ind (P := fun cs => (placesF cs).length = colsF cs * rowsF cs) rfl (fun cs c ih => ?_) cs
  rw [placesF_snoc, spread_length, ih, colsF_snoc, rowsF_snoc]
  split
  · rw [Nat.mul_one, Nat.mul_right_comm]
  · rw [Nat.mul_one, Nat.mul_assoc]
/-- every place lies within columns and rows -/
theorem placesF_mem {cs : List Cut} : ∀ p ∈ placesF cs, 0 ≤ p.1 ∧ p.1 < colsF cs ∧ 0 ≤ p.2 ∧ p.2 < rowsF cs := by
  refine snoc_ind (P := fun cs => ∀ p ∈ placesF cs, 0 ≤ p.1 ∧ p.1 < colsF cs ∧ 0 ≤ p.2 ∧ p.2 < rowsF cs) ?_ (fun cs c ih => ?_) cs
  · intro p hp
    rw [List.mem_singleton.mp hp]
    decide
  · intro p hp
    rw [placesF_snoc] at hp
    obtain ⟨q, hq, hp⟩ := List.mem_flatMap.mp hp
    obtain ⟨k, hk, rfl⟩ := List.mem_map.mp hp
    have hk := List.mem_range.mp hk
    obtain ⟨h1, h2, h3, h4⟩ := ih q hq
    rw [colsF_snoc, rowsF_snoc]
    unfold stepC
    have key : ∀ (x : Int) (n m : Nat), 0 ≤ x → x < m → 0 ≤ x * (n : Int) + k ∧ (k < n → x * (n : Int) + k < ((m * n : Nat) : Int)) := fun x n m a b => by
      obtain ⟨y, rfl⟩ := Int.eq_ofNat_of_zero_le a
      have hy : y < m := by omega
      have e : (y : Int) * (n : Int) = ((y * n : Nat) : Int) := (Int.natCast_mul y n).symm
      rw [e]
      refine ⟨by omega, fun c => ?_⟩
      have : y * n + k < m * n := by
        have := Nat.mul_le_mul_right n (show y + 1 ≤ m from hy)
        rw [Nat.succ_mul] at this
        omega
      omega
    split
    · refine ⟨(key _ _ _ h1 h2).1, ?_, h3, by simpa using h4⟩
      exact (key _ _ _ h1 h2).2 hk
    · refine ⟨h1, by simpa using h2, (key _ _ _ h3 h4).1, ?_⟩
      exact (key _ _ _ h3 h4).2 hk
/-- the last place -/
theorem placesF_last (cs : List Cut) (h : ∀ c ∈ cs, okC c) : (placesF cs).getLast? = some (((colsF cs : Nat) : Int) - 1, ((rowsF cs : Nat) : Int) - 1) := by
  revert h
  refine snoc_ind (P := fun cs => (∀ c ∈ cs, okC c) → (placesF cs).getLast? = some (((colsF cs : Nat) : Int) - 1, ((rowsF cs : Nat) : Int) - 1)) (fun _ => rfl) (fun cs c ih h => ?_) cs
  have h0 := ih fun d hd => h d (List.mem_append_left _ hd)
  have hc := h c (List.mem_append_right _ List.mem_cons_self)
  rw [placesF_snoc, colsF_snoc, rowsF_snoc]
  obtain ⟨l, e⟩ : ∃ l, placesF cs = l ++ [(((colsF cs : Nat) : Int) - 1, ((rowsF cs : Nat) : Int) - 1)] := by
    obtain ⟨ne, e⟩ := List.getLast?_eq_some_iff.mp h0
    exact ⟨ne, e⟩
  rw [e]
  unfold spread
  rw [List.flatMap_append, List.flatMap_cons, List.flatMap_nil, List.append_nil]
  obtain ⟨n, hn⟩ : ∃ n, c.2 = n + 1 := ⟨c.2 - 1, by have := hc.1; omega⟩
  rw [hn, List.range_succ, List.map_append, List.map_cons, List.map_nil, ← List.append_assoc, List.getLast?_concat]
  unfold stepC
  have key : ∀ m : Nat, ((m : Int) - 1) * ((n + 1 : Nat) : Int) + (n : Int) = ((m * (n + 1) : Nat) : Int) - 1 := fun m => by
    rw [Int.sub_mul, Int.one_mul, ← Int.natCast_mul]
    omega
  rw [hn]
  split
  · rw [key, Nat.mul_one]
  · rw [key, Nat.mul_one]
end Mc

set_option Elab.async false
set_option linter.all false
set_option maxRecDepth 100000
set_option maxHeartbeats 4000000
set_option exponentiation.threshold 20000
namespace Mc
open PySem PySem.Spec PyProof.Rows L2 ClX StX
section
variable {P : Program} {w : World} {K : PySem.W.Frag} {mg : Str → Option Value} {base : Heap} {f C0 aX : Addr} {mc : Value} {fd : FuncData}
theorem sc_within : FnScope ["place", "axis", "parts", "part", "column", "row"] ["place", "axis", "parts", "part"] (defScope s_within) := ⟨rfl, rfl, rfl, by decide +kernel, rfl, by decide +kernel, by decide +kernel⟩
def spWithin : Sp := fun vs H Q _ => ∃ (a : Addr) (p : Pr) (c : Cut) (k : Nat), vs = [.ref a, .str (axS c.1), .int c.2, .int k] ∧ H a = some (.tup [.int p.1, .int p.2]) ∧ p.1.natAbs < 2 ^ 40 ∧ p.2.natAbs < 2 ^ 40 ∧ c.2 < 2 ^ 40 ∧
  ∀ t, H t = none → Q (.ref t) (upd H t (.tup [.int (stepC p c k).1, .int (stepC p c k).2]))
theorem ok_within (F : FunD K "_within" "_within" (defArgs s_within) (defBody s_within) (defScope s_within) [] [] f fd) (T : TB mg) : FnOk P w K mg base CX0 1 f fd ["place", "axis", "parts", "part"] (spWithin) := by
  refine F.ok sc_within (fun vs H Q E h => ?_) (fun cdv A outer s H vs Q E hr h => ?_)
  · obtain ⟨a, p, c, k, rfl, ha, hx, hy, hc, kk⟩ := h
    rfl
  · obtain ⟨a, p, c, k, rfl, ha, hx, hy, hc, kk⟩ := h
    refine ⟨_, (PSs.nox (pss_cons (ps_asg (pv 0) (pg_tup rfl (pgs_cons (pg_name (i := 4) sc_within.nd rfl (.inl rfl)) (pgs_cons (pg_name (i := 5) sc_within.nd rfl (.inl rfl)) pgs_nil))))
      (pss_cons (ps_if (pt_cmpR op_eq (pv 1) pe_str (nomark _)) (pss_one (ps_ret (pe_tup (pa_cons (pe_op op_add (pe_op op_mulW (pv 4) (pv 2)) (pv 3)) (pa_cons (pv 5) pa_nil))))) pss_nil)
      (pss_one (ps_ret (pe_tup (pa_cons (pv 4) (pa_cons (pe_op op_add (pe_op op_mulW (pv 5) (pv 2)) (pv 3)) pa_nil)))))))), ?_⟩
    have hc2 : ((c.2 : Int)).natAbs < 2 ^ 40 := by simpa using hc
    refine ⟨_, rfl, a, _, rfl, SqT.of ha, rfl, _, _, rfl, _, _, rfl, rfl, ?_⟩
    refine ⟨_, rfl, rfl, _, rfl, ?_⟩
    have e1 : decide (V.str (axS c.1) = V.str "east") = c.1 := by
      cases c.1 <;> decide +kernel
    rw [e1]
    unfold stepC at kk
    cases h : c.1
    · rw [h] at kk
      refine iteF ⟨_, rfl, _, rfl, _, rfl, _, _, rfl, rfl, mulW hy hc2, _, rfl, _, _, rfl, rfl, (by show 2 ≤ sizeLine; decide), fun t ht => ?_⟩
      exact kk t ht
    · rw [h] at kk
      refine iteT ⟨_, rfl, _, rfl, _, _, rfl, rfl, mulW hx hc2, _, rfl, _, _, rfl, rfl, _, rfl, (by show 2 ≤ sizeLine; decide), fun t ht => ?_⟩
      exact kk t ht
theorem sc_places_of : FnScope ["cuts", "places", "axis", "parts", "place", "part"] ["cuts"] (defScope s_places_of) := ⟨rfl, rfl, rfl, by decide +kernel, rfl, by decide +kernel, by decide +kernel⟩
theorem none_of {H H' : Hp} {a : Addr} (e : Ext H H') (h : H' a = none) : H a = none := by
  cases q : H a with
  | none => rfl
  | some o =>
    rw [e a o q] at h
    cases h
theorem take_snoc {α : Type} {l : List α} {i : Nat} {x : α} (h : l[i]? = some x) : l.take (i + 1) = l.take i ++ [x] := by
  rw [List.take_add_one, h]
  rfl
theorem placesF_len {cs : List Cut} : (∀ c ∈ cs, okC c) → (placesF cs).length ≤ 4 ^ cs.length := by
  refine snoc_ind (P := fun cs => (∀ c ∈ cs, okC c) → (placesF cs).length ≤ 4 ^ cs.length) (fun _ => by decide) (fun cs c ih h => ?_) cs
  have h0 := ih fun d hd => h d (List.mem_append_left _ hd)
  have hc := (h c (List.mem_append_right _ List.mem_cons_self)).2
  rw [placesF_snoc, spread_length, List.length_append, List.length_singleton, Nat.pow_succ]
  exact Nat.mul_le_mul h0 hc
theorem cols_le {cs : List Cut} (h : ∀ c ∈ cs, okC c) (l : cs.length ≤ 5) : colsF cs ≤ 1024 ∧ rowsF cs ≤ 1024 := by
  have h1 := placesF_len h
  rw [placesF_length] at h1
  have h2 : 4 ^ cs.length ≤ 1024 := Nat.le_trans (Nat.pow_le_pow_right (by decide) l) (by decide)
  have h3 := pos_cols h
  have h4 : colsF cs * rowsF cs ≤ 1024 := Nat.le_trans h1 h2
  exact ⟨Nat.le_trans (Nat.le_mul_of_pos_right _ h3.2) h4, Nat.le_trans (Nat.le_mul_of_pos_left _ h3.1) h4⟩
theorem spread_snoc (ps : List Pr) (p : Pr) (c : Cut) : spread (ps ++ [p]) c = spread ps c ++ (List.range c.2).map fun k => stepC p c k := by
  unfold spread
  rw [List.flatMap_append, List.flatMap_cons, List.flatMap_nil, List.append_nil]
theorem pd_imp {α β : Type} {F G : α → β → Prop} (h : ∀ a b, F a b → G a b) : ∀ {l : List α} {m : List β}, Paired F l m → Paired G l m
  | _, _, .nil => .nil
  | _, _, .cons r t => .cons (h _ _ r) (pd_imp h t)
theorem pd_snoc {α β : Type} {F : α → β → Prop} : ∀ {l : List α} {m : List β} {a : α} {b : β}, Paired F l m → F a b → Paired F (l ++ [a]) (m ++ [b])
  | _, _, _, _, .nil, h => .cons h .nil
  | _, _, _, _, .cons r t, h => .cons r (pd_snoc t h)
/-- a list of pairs of whole numbers -/
def PairsAt (H : Hp) (l : Addr) (ps : List Pr) : Prop := ∃ as : List Addr, H l = some (.lst (as.map V.ref)) ∧ Paired (fun a (p : Pr) => H a = some (.tup [.int p.1, .int p.2])) as ps
def spPlaces (K : PySem.W.Frag) : Sp := fun vs H Q _ => ∃ (v : V) (cs : List Cut), vs = [v] ∧ CutsAt K H v cs ∧ cs.length ≤ 5 ∧ (∀ c ∈ cs, okC c) ∧ ∀ l H', Ext H H' → H l = none → PairsAt H' l (placesF cs) → Q (.ref l) H'
theorem ok_places_of (F : FunD K "_places_of" "_places_of" (defArgs s_places_of) (defBody s_places_of) (defScope s_places_of) [] [] f fd) (T : TB mg) {fwithin : Addr} {fdwithin : FuncData} (Dwithin : Gd P w K mg base "_within" 1 ["place", "axis", "parts", "part"] (spWithin) fwithin fdwithin) : FnOk P w K mg base CX0 2 f fd ["cuts"] (spPlaces K) := by
  refine F.ok sc_places_of (fun vs H Q E h => ?_) (fun cdv A outer s H vs Q E hr h => ?_)
  · obtain ⟨v, cs, rfl, hv, h5, hc, k⟩ := h
    rfl
  · obtain ⟨v, cs, rfl, hv, h5, hc, k⟩ := h
    refine ⟨_, (PSs.nox (pss_cons (ps_set (i := 1) sc_places_of.nd rfl (.inl rfl) (pe_lst (pa_cons (pe_tup (pa_cons pe_int (pa_cons pe_int pa_nil))) pa_nil)))
      (pss_cons (ps_for PassesOwn.never rfl (pi_seq (pv 0)) (pg_tup rfl (pgs_cons (pg_name (i := 2) sc_places_of.nd rfl (.inr rfl)) (pgs_cons (pg_name (i := 3) sc_places_of.nd rfl (.inr rfl)) pgs_nil))) (pss_one (ps_setLc2 (i := 1) (own := [("place", 4), ("part", 5)]) (g := gName 4) (g1 := gName 5) (vs1 := [5]) (tt := tYes) (tt1 := tYes) rfl sc_places_of.nd rfl rfl (sw_true rfl rfl rfl (by decide +kernel)) (pi_list (pv 1)) (blkOk_by (own := [("place", 4), ("part", 5)]) (N := ["cuts", "places", "axis", "parts", "place", "part"]) (sc := defScope s_places_of) (by decide +kernel)) (by decide) (fun _ _ _ _ _ => (pg_name (i := 4) sc_places_of.nd rfl (.inl rfl))) (fun _ _ _ _ _ => pts_nil) (fun _ _ _ _ _ => (pi_range1 (by rfl) T.range (pa_cons (pv 3) pa_nil))) (fun _ _ _ _ _ => (pg_name (i := 5) sc_places_of.nd rfl (.inl rfl))) (fun _ _ _ _ _ => pts_nil) (fun _ _ _ _ _ => (pe_gd Dwithin hr (by decide) (by rfl) (pa_cons (pv 4) (pa_cons (pv 2) (pa_cons (pv 3) (pa_cons (pv 5) pa_nil)))))))))
      (pss_one (ps_ret (pv 1)))))), ?_⟩
    obtain ⟨l, as, rfl, hl, hp⟩ := hv
    have hlen := pd_len hp
    refine ⟨(by show 2 ≤ sizeLine; decide), fun t ht => ⟨(by show 1 ≤ sizeLine; decide), fun l0 hl0 => ?_⟩⟩
    have e0 : Ext H (upd (upd H t (.tup [.int 0, .int 0])) l0 (.lst [.ref t])) := (Ext.upd ht).trans (Ext.upd hl0)
    have p0 : PairsAt (upd (upd H t (.tup [.int 0, .int 0])) l0 (.lst [.ref t])) l0 (placesF []) := ⟨[t], upd_same, .cons (Ext.upd hl0 _ _ upd_same) .nil⟩
    have n0 : H l0 = none := none_of (Ext.upd ht) hl0
    generalize upd (upd H t (.tup [.int 0, .int 0])) l0 (.lst [.ref t]) = H2 at *
    refine ⟨_, rfl, l, _, rfl, sq_ext hl e0, fun J S wj hS => for_walk wj (fun i σ H' => ∃ u w1 l1, σ = [some (.ref l), some (.ref l1), u, w1, none, none] ∧ Ext H2 H' ∧ H l1 = none ∧ PairsAt H' l1 (placesF (cs.take i))) ⟨none, none, l0, rfl, Ext.rfl', n0, p0⟩ (fun _ _ _ ⟨_, _, _, _, e, _⟩ => hS _ e) ?_ ?_⟩
    · rintro i x σ H' hx ⟨u, w1, l1, rfl, e1, n1, as1, g1, q1⟩
      obtain ⟨a, rfl, c, hci, hac⟩ := refs_get hp hx
      have hc' := hc c (List.mem_of_getElem? hci)
      have ha : H' a = some (.tup (cutV c)) := e1 _ _ (e0 _ _ hac)
      have okt : ∀ d ∈ cs.take i, okC d := fun d hd => hc d (List.mem_of_mem_take hd)
      have len5 : (cs.take i).length ≤ 4 := by
        have h6 := (List.getElem?_eq_some_iff.mp hci).1
        rw [List.length_take]
        omega
      have lenp := placesF_len okt
      have l256 : (placesF (cs.take i)).length ≤ 256 := Nat.le_trans lenp (Nat.pow_le_pow_right (by decide) len5)
      refine ⟨a, _, rfl, SqT.of ha, rfl, _, _, rfl, _, _, rfl, rfl, ?_⟩
      refine ⟨_, rfl, l1, rfl, ⟨_, SqL.of g1⟩, fun D hD => lc2_walk walk_l (fun i2 H3 => ∃ ds : List Addr, H3 D = some (.lst (ds.map V.ref)) ∧ Paired (fun a (p : Pr) => H3 a = some (.tup [.int p.1, .int p.2])) ds (spread ((placesF (cs.take i)).take i2) c) ∧ Ext H' H3) ⟨[], upd_same, .nil, Ext.upd hD⟩ (fun _ _ ⟨_, _, _, e⟩ => SqL.of (e _ _ g1)) ?_ ?_⟩
      · rintro i2 x H3 hx2 ⟨ds, d1, d2, d3⟩
        obtain ⟨ap, rfl, p, hpi, hap⟩ := refs_get q1 hx2
        have hpm := placesF_mem p (List.mem_of_getElem? hpi)
        have c256 : colsF (cs.take i) ≤ 1024 ∧ rowsF (cs.take i) ≤ 1024 := cols_le okt (Nat.le_trans len5 (by decide))
        have i256 : i2 < 256 := Nat.lt_of_lt_of_le (List.getElem?_eq_some_iff.mp hpi).1 l256
        have hc4 := hc'.2
        refine ⟨rfl, lc_yes ⟨_, rfl, (c.2 : Int), rfl, by omega, by omega, lc_inner (walk_r (lo := 0)) (fun j H4 => ∃ ds : List Addr, H4 D = some (.lst (ds.map V.ref)) ∧ Paired (fun a (p : Pr) => H4 a = some (.tup [.int p.1, .int p.2])) ds (spread ((placesF (cs.take i)).take i2) c ++ (List.range j).map fun k => stepC p c k) ∧ Ext H' H4) ⟨ds, d1, by simpa using d2, d3⟩ (fun _ _ _ => trivial) ?_ ?_⟩⟩
        · rintro j x H4 hx4 ⟨ds4, f1, f2, f3⟩
          have hj : j < c.2 := by
            have := (List.getElem?_eq_some_iff.mp hx4).1
            simpa using this
          have hx5 : x = .int (j : Nat) := by
            rw [List.getElem?_map, List.getElem?_range (by simpa using hj)] at hx4
            have := Option.some.inj hx4
            rw [← this]
            show V.int (0 + (j : Int)) = V.int (j : Int)
            rw [Int.zero_add]
          subst hx5
          have hap4 : H4 ap = some (.tup [.int p.1, .int p.2]) := f3 _ _ hap
          refine ⟨rfl, lc_yes ⟨_, rfl, _, rfl, _, rfl, _, rfl, ap, p, c, j, rfl, hap4, by omega, by omega, by omega, fun tt htt => ?_⟩⟩
          have hDt : D ≠ tt := fun z => by
            rw [← z, f1] at htt
            cases htt
          refine ⟨_, by rw [upd_ne hDt]; exact f1, ?_, ds4 ++ [tt], ?_, ?_, ?_⟩
          · rw [List.length_map, pd_len f2, List.length_append, spread_length, List.length_take, List.length_map, List.length_range, sizeLine_eq]
            have h1 : min i2 (placesF (cs.take i)).length * c.2 ≤ 256 * 4 := Nat.mul_le_mul (by omega) hc4
            omega
          · rw [upd_same, List.map_append]
            rfl
          · rw [List.range_succ, List.map_append, ← List.append_assoc]
            refine pd_snoc (pd_imp (fun a q hq => ?_) f2) ?_
            · rw [upd_ne (fun z => by rw [z, f1] at hq; cases hq), upd_ne (ne_of_none hq htt)]
              exact hq
            · rw [upd_ne (Ne.symm hDt), upd_same]
          · exact ext_put (f3.trans (Ext.upd htt)) hD
        · rintro H4 ⟨ds4, f1, f2, f3⟩
          refine ⟨ds4, f1, ?_, f3⟩
          rw [take_snoc hpi, spread_snoc]
          have e5 : (List.map (fun k : Nat => V.int (0 + (k : Int))) (List.range ((c.2 : Int)).toNat)).length = c.2 := by simp
          rw [e5] at f2
          exact f2
      · rintro H3 ⟨ds, d1, d2, d3⟩
        refine ⟨_, _, D, rfl, e1.trans d3, none_of (e0.trans e1) hD, ds, d1, ?_⟩
        rw [List.length_map, pd_len q1, List.take_length] at d2
        rw [take_snoc hci, placesF_snoc]
        exact d2
    · rintro σ H' ⟨u, w1, l1, rfl, e1, n1, pr⟩
      rw [List.length_map, hlen, List.take_length] at pr
      exact ⟨_, rfl, k l1 H' (e0.trans e1) n1 pr⟩
end
end Mc

set_option Elab.async false
set_option linter.all false
set_option maxRecDepth 100000
set_option maxHeartbeats 4000000
set_option exponentiation.threshold 20000
namespace Mc
open PySem PySem.Spec PyProof.Rows L2 ClX StX
section
variable {P : Program} {w : World} {K : PySem.W.Frag} {mg : Str → Option Value} {base : Heap} {f C0 aX : Addr} {mc : Value} {fd : FuncData}
theorem sc_parts_of : FnScope ["cuts", "columns", "rows"] ["cuts"] (defScope s_parts_of) := ⟨rfl, rfl, rfl, by decide +kernel, rfl, by decide +kernel, by decide +kernel⟩
theorem pd_last {α β : Type} {F : α → β → Prop} : ∀ {l : List α} {m : List β} {b : β}, Paired F l m → m.getLast? = some b → ∃ a, F a b ∧ l.getLast? = some a
  | _, _, _, .nil, h => by simp at h
  | [a], _, b, .cons r .nil, h => ⟨a, by simp at h; subst h; exact r, rfl⟩
  | a :: a2 :: l, _ :: b2 :: m, b, .cons r (.cons r2 t), h => by
    rw [List.getLast?_cons_cons] at h
    obtain ⟨x, h1, h2⟩ := pd_last (.cons r2 t) h
    exact ⟨x, h1, by rw [List.getLast?_cons_cons]; exact h2⟩
theorem atI_lastM {as : List Addr} {a : Addr} (h : as.getLast? = some a) : atI (as.map V.ref) (-1) = some (.ref a) := by
  obtain ⟨l, rfl⟩ := List.getLast?_eq_some_iff.mp h
  rw [List.map_append]
  exact atI_last _ _
def spPartsOf (K : PySem.W.Frag) : Sp := fun vs H Q _ => ∃ (v : V) (cs : List Cut), vs = [v] ∧ CutsAt K H v cs ∧ cs.length ≤ 5 ∧ (∀ c ∈ cs, okC c) ∧ ∀ t H', Ext H H' → H t = none → H' t = some (.tup [.int (colsF cs), .int (rowsF cs)]) → Q (.ref t) H'
theorem ok_parts_of (F : FunD K "_parts_of" "_parts_of" (defArgs s_parts_of) (defBody s_parts_of) (defScope s_parts_of) [] [] f fd) (T : TB mg) {fplaces_of : Addr} {fdplaces_of : FuncData} (Dplaces_of : Gd P w K mg base "_places_of" 2 ["cuts"] (spPlaces K) fplaces_of fdplaces_of) : FnOk P w K mg base CX0 3 f fd ["cuts"] (spPartsOf K) := by
  refine F.ok sc_parts_of (fun vs H Q E h => ?_) (fun cdv A outer s H vs Q E hr h => ?_)
  · obtain ⟨v, cs, rfl, hv, h5, hc, k⟩ := h
    rfl
  · obtain ⟨v, cs, rfl, hv, h5, hc, k⟩ := h
    refine ⟨_, (PSs.nox (pss_cons (ps_asg (pe_ix ix_seq (pe_gd Dplaces_of hr (by decide) (by rfl) (pa_cons (pv 0) pa_nil)) (pe_un un_neg pe_int) (fun _ _ => rfl)) (pg_tup rfl (pgs_cons (pg_name (i := 1) sc_parts_of.nd rfl (.inl rfl)) (pgs_cons (pg_name (i := 2) sc_parts_of.nd rfl (.inl rfl)) pgs_nil))))
      (pss_one (ps_ret (pe_tup (pa_cons (pe_op op_add (pv 1) pe_int) (pa_cons (pe_op op_add (pv 2) pe_int) pa_nil))))))), ?_⟩
    refine ⟨_, rfl, v, cs, rfl, hv, h5, hc, fun l H1 e1 _ ⟨as, g1, q1⟩ => ?_⟩
    obtain ⟨a, ha, hl⟩ := pd_last q1 (placesF_last cs hc)
    refine ⟨_, rfl, .inl ⟨l, _, -1, _, rfl, rfl, SqL.of g1, atI_lastM hl, a, _, rfl, SqT.of ha, rfl, _, _, rfl, _, _, rfl, rfl, ?_⟩⟩
    refine ⟨_, rfl, _, _, rfl, rfl, _, rfl, _, _, rfl, rfl, (by show 2 ≤ sizeLine; decide), fun t ht => ?_⟩
    refine k t _ (e1.trans (Ext.upd ht)) (none_of e1 ht) ?_
    rw [upd_same]
    show some (HO.tup [.int ((colsF cs : Int) - 1 + 1), .int ((rowsF cs : Int) - 1 + 1)]) = _
    rw [Int.sub_add_cancel, Int.sub_add_cancel]
theorem sc_multiplied : FnScope ["all_parts", "all_columns", "all_rows", "columns", "rows"] ["all_parts"] (defScope s_multiplied) := ⟨rfl, rfl, rfl, by decide +kernel, rfl, by decide +kernel, by decide +kernel⟩
def mulF (ps : List Pr) : Pr := ps.foldl (fun q p => (q.1 * p.1, q.2 * p.2)) (1, 1)
theorem mul_bits {x y : Int} {i : Nat} (h : x.natAbs ≤ 2 ^ (16 * i)) (hy : y.natAbs < 2 ^ 16) : (x * y).natAbs ≤ 2 ^ (16 * (i + 1)) := by
  rw [Int.natAbs_mul, Nat.mul_add, Nat.pow_add]
  exact Nat.mul_le_mul h (Nat.le_of_lt hy)
def spMul (K : PySem.W.Frag) : Sp := fun vs H Q _ => ∃ (l : Addr) (as : List Addr) (ps : List Pr), vs = [.ref l] ∧ SqA K H l (as.map V.ref) ∧ Paired (fun a (p : Pr) => H a = some (.tup [.int p.1, .int p.2])) as ps ∧ ps.length ≤ 1000 ∧ (∀ p ∈ ps, p.1.natAbs < 2 ^ 16 ∧ p.2.natAbs < 2 ^ 16) ∧
  ∀ t H', Ext H H' → H' t = some (.tup [.int (mulF ps).1, .int (mulF ps).2]) → Q (.ref t) H'
theorem ok_multiplied (F : FunD K "_multiplied" "_multiplied" (defArgs s_multiplied) (defBody s_multiplied) (defScope s_multiplied) [] [] f fd) (T : TB mg) : FnOk P w K mg base CX0 1 f fd ["all_parts"] (spMul K) := by
  refine F.ok sc_multiplied (fun vs H Q E h => ?_) (fun cdv A outer s H vs Q E hr h => ?_)
  · obtain ⟨l, as, ps, rfl, hl, hp, h3, hb, k⟩ := h
    rfl
  · obtain ⟨l, as, ps, rfl, hl, hp, h3, hb, k⟩ := h
    refine ⟨_, (PSs.nox (pss_cons (ps_set (i := 1) sc_multiplied.nd rfl (.inl rfl) pe_int)
      (pss_cons (ps_set (i := 2) sc_multiplied.nd rfl (.inl rfl) pe_int)
      (pss_cons (ps_for PassesOwn.never rfl (pi_seq (pv 0)) (pg_tup rfl (pgs_cons (pg_name (i := 3) sc_multiplied.nd rfl (.inl rfl)) (pgs_cons (pg_name (i := 4) sc_multiplied.nd rfl (.inl rfl)) pgs_nil))) (pss_cons (ps_set (i := 1) sc_multiplied.nd rfl (.inl rfl) (pe_op op_mulW (pv 1) (pv 3)))
      (pss_one (ps_set (i := 2) sc_multiplied.nd rfl (.inl rfl) (pe_op op_mulW (pv 2) (pv 4))))))
      (pss_one (ps_ret (pe_tup (pa_cons (pv 1) (pa_cons (pv 2) pa_nil))))))))), ?_⟩
    have hlen := pd_len hp
    refine ⟨_, rfl, l, _, rfl, hl, fun J S wj hS => for_walk wj (fun i σ H' => ∃ u w1 q, σ = [some (.ref l), some (.int (mulF (ps.take i)).1), some (.int (mulF (ps.take i)).2), u, w1] ∧ H' = H ∧ q = i ∧ (mulF (ps.take i)).1.natAbs ≤ 2 ^ (16 * i) ∧ (mulF (ps.take i)).2.natAbs ≤ 2 ^ (16 * i)) ⟨none, none, 0, rfl, rfl, rfl, Nat.le_refl 1, Nat.le_refl 1⟩ (fun _ _ _ ⟨_, _, _, _, e, _⟩ => hS _ (by rw [e]; exact Ext.rfl')) ?_ ?_⟩
    · rintro i x σ H' hx ⟨u, w1, q, rfl, rfl, _, b1, b2⟩
      obtain ⟨a, rfl, p, hpi, ha⟩ := refs_get hp hx
      have hi : i < 1000 := Nat.lt_of_lt_of_le (List.getElem?_eq_some_iff.mp hpi).1 h3
      obtain ⟨hp1, hp2⟩ := hb p (List.mem_of_getElem? hpi)
      have up : ∀ z : Int, z.natAbs ≤ 2 ^ (16 * i) → z.natAbs < 2 ^ 16000 := fun z h => Nat.lt_of_le_of_lt h (Nat.pow_lt_pow_right (by decide) (by omega))
      refine ⟨a, _, rfl, SqT.of ha, rfl, _, _, rfl, _, _, rfl, rfl, ?_⟩
      refine ⟨_, rfl, _, rfl, _, _, rfl, rfl, mulW (up _ b1) hp1, ?_⟩
      refine ⟨_, rfl, _, rfl, _, _, rfl, rfl, mulW (up _ b2) hp2, ?_⟩
      have e : mulF (ps.take (i + 1)) = ((mulF (ps.take i)).1 * p.1, (mulF (ps.take i)).2 * p.2) := by
        rw [take_snoc hpi]
        unfold mulF
        rw [List.foldl_append]
        rfl
      refine ⟨some (.int p.1), some (.int p.2), i + 1, ?_, rfl, rfl, ?_, ?_⟩
      · rw [e]
        rfl
      · rw [e]
        exact mul_bits b1 hp1
      · rw [e]
        exact mul_bits b2 hp2
    · rintro σ H' ⟨u, w1, q, rfl, rfl, _, b1, b2⟩
      rw [List.length_map, hlen, List.take_length]
      exact ⟨_, rfl, _, rfl, (by show 2 ≤ sizeLine; decide), fun t ht => k t _ (Ext.upd ht) upd_same⟩
theorem sc_power : FnScope ["base", "exponent", "worth", "_"] ["base", "exponent"] (defScope s_power) := ⟨rfl, rfl, rfl, by decide +kernel, rfl, by decide +kernel, by decide +kernel⟩
def spPower : Sp := fun vs H Q _ => ∃ (b : Int) (n : Nat), vs = [.int b, .int n] ∧ b.natAbs < 2 ^ 16 ∧ n ≤ 1000 ∧ Q (.int (b ^ n)) H
theorem ok_power (F : FunD K "_power" "_power" (defArgs s_power) (defBody s_power) (defScope s_power) [] [] f fd) (T : TB mg) : FnOk P w K mg base CX0 1 f fd ["base", "exponent"] (spPower) := by
  refine F.ok sc_power (fun vs H Q E h => ?_) (fun cdv A outer s H vs Q E hr h => ?_)
  · obtain ⟨b, n, rfl, hb, hn, k⟩ := h
    rfl
  · obtain ⟨b, n, rfl, hb, hn, k⟩ := h
    refine ⟨_, (PSs.nox (pss_cons (ps_set (i := 2) sc_power.nd rfl (.inl rfl) pe_int)
      (pss_cons (ps_for PassesOwn.never rfl (pi_range1 (by rfl) T.range (pa_cons (pv 1) pa_nil)) (pg_name (i := 3) sc_power.nd rfl (.inl rfl)) (pss_one (ps_set (i := 2) sc_power.nd rfl (.inl rfl) (pe_op op_mulW (pv 2) (pv 0)))))
      (pss_one (ps_ret (pv 2)))))), ?_⟩
    refine ⟨_, rfl, (n : Int), rfl, by omega, by omega, for_walk (walk_r (lo := 0)) (fun i σ H' => ∃ u, σ = [some (.int b), some (.int n), some (.int (b ^ i)), u] ∧ H' = H ∧ (b ^ i).natAbs ≤ 2 ^ (16 * i)) ⟨none, by rw [Int.pow_zero]; rfl, rfl, by rw [Int.pow_zero]; exact Nat.le_refl 1⟩ (fun _ _ _ _ => trivial) ?_ ?_⟩
    · rintro i x σ H' hx ⟨u, rfl, rfl, h1⟩
      have hi : i < n := by
        have := (List.getElem?_eq_some_iff.mp hx).1
        simpa using this
      have hx5 : x = .int (0 + (i : Nat)) := by
        rw [List.getElem?_map, List.getElem?_range (by simpa using hi)] at hx
        exact (Option.some.inj hx).symm
      subst hx5
      refine ⟨_, rfl, _, rfl, _, _, rfl, rfl, mulW (Nat.lt_of_le_of_lt h1 (Nat.pow_lt_pow_right (a := 2) (n := 16001) (by decide) (by omega))) hb, ?_⟩
      refine ⟨some (.int (0 + (i : Nat))), ?_, rfl, ?_⟩
      · rw [Int.pow_succ]
        rfl
      · rw [Int.pow_succ]
        exact mul_bits h1 hb
    · rintro σ H' ⟨u, rfl, rfl, h1⟩
      have e : (List.map (fun k : Nat => V.int (0 + (k : Int))) (List.range ((n : Int)).toNat)).length = n := by simp
      rw [e]
      exact ⟨_, rfl, k⟩
end
end Mc

set_option Elab.async false
set_option linter.all false
set_option maxRecDepth 100000
set_option maxHeartbeats 4000000
set_option exponentiation.threshold 20000
namespace Mc
open PySem PySem.Spec PyProof.Rows L2 ClX StX
section
variable {P : Program} {w : World} {K : PySem.W.Frag} {mg : Str → Option Value} {base : Heap} {f C0 aX : Addr} {mc : Value} {fd : FuncData}
theorem sc_plain_cuts : FnScope ["cuts", "axis", "parts"] ["cuts"] (defScope s_plain_cuts) := ⟨rfl, rfl, rfl, by decide +kernel, rfl, by decide +kernel, by decide +kernel⟩
def CutsL (H : Hp) (l : Addr) (cs : List Cut) : Prop := ∃ as : List Addr, H l = some (.lst (as.map V.ref)) ∧ Paired (fun a c => H a = some (.tup (cutV c))) as cs
theorem pe_bmK {X : Cx} {K : PySem.W.Frag} {T id : String} {name : Str} {r : V → List V → Hp → VK → Prop} {o e : Expr} {es : List Expr} {to : TE} {t : TA} {apos cpos : Pos} (hK : X.K = K) (pa : PlainAttrs T) (slot : Slot T name id) (hty : typeOf (.builtin id) = pure (.type "method_descriptor")) (hm : MtR X id r) (ho : PE X o to) (ha : PA X (e :: es) t) (hbase : attributeBase o name X.env (eval o X.env) = eval o X.env := by rfl) (hfew : ((backTo cpos (starEach (e :: es) X.env)).all (fun x => !x.1) && (backToKw cpos (keywordEach [] X.env)).all (fun x => x.1.isSome) && decide ((e :: es).length + ([] : List Keyword).length + (if ([] : List Keyword).isEmpty then 0 else 1) < 30)) = true := by rfl) (hline : (apos.endLine == cpos.line) = true := by rfl) (hs : starEach (e :: es) X.env = (false, eval e X.env) :: starEach es X.env := by rfl) (hplain : (backTo cpos (starEach es X.env)).any (·.1) = false := by rfl) :
    PE X (.Call (.Attribute o name apos) (e :: es) [] cpos) (tBM K T r to t) := by
  subst hK
  exact pe_bm pa slot hty hm ho ha hbase hfew hline hs hplain
theorem ix_seqK {X : Cx} {K : PySem.W.Frag} (hK : X.K = K) : IxR X (rIx K) := by
  subst hK
  exact ix_seq
def rTupIx (K : PySem.W.Frag) : V → List V → Hp → VK → Prop := fun x xs H Q => ∃ p, ∃ ys : List Str, ∃ z j, x = .ref p ∧ xs = [.str z] ∧ SqT K H p (ys.map V.str) ∧ ys[j]? = some z ∧ (∀ m, m < j → ys[m]? ≠ some z) ∧ Q (.int (j : Nat)) H
theorem mt_tupK {X : Cx} {K : PySem.W.Frag} (hK : X.K = K) : MtR X "tuple.index" (rTupIx K) := by
  subst hK
  exact mt_tup_index
def axI (b : Bool) : Nat := if b then 0 else 1
theorem ax_first (b : Bool) : ∀ m, m < axI b → (["east", "north"] : List Str)[m]? ≠ some (axS b) := by
  intro m hm
  cases b with
  | true => exact absurd hm (Nat.not_lt_zero m)
  | false =>
    have e : m = 0 := by
      have : m < 1 := hm
      omega
    subst e
    decide +kernel
def spPlain (K : PySem.W.Frag) : Sp := fun vs H Q _ => ∃ (v : V) (cs : List Cut), vs = [v] ∧ CutsAt K H v cs ∧ cs.length ≤ 5 ∧ (∀ c ∈ cs, okC c) ∧ ∀ l H', Ext H H' → H l = none → CutsL H' l cs → Q (.ref l) H'
theorem ok_plain_cuts (F : FunD K "_plain_cuts" "_plain_cuts" (defArgs s_plain_cuts) (defBody s_plain_cuts) (defScope s_plain_cuts) [] [] f fd) (T : TB mg) (R : PlanT K mg C0 aX mc) : FnOk P w K mg base CX0 1 f fd ["cuts"] (spPlain K) := by
  refine F.ok sc_plain_cuts (fun vs H Q E h => ?_) (fun cdv A outer s H vs Q E hr h => ?_)
  · obtain ⟨v, cs, rfl, hv, h5, hc, k⟩ := h
    rfl
  · obtain ⟨v, cs, rfl, hv, h5, hc, k⟩ := h
    refine ⟨_, (PSs.nox (pss_one (ps_ret (pe_lc (own := [("axis", 1), ("parts", 2)]) (g := gTup K 2 (gCons (gName 1) (gCons (gName 2) gNil))) (tt := tYes) rfl sc_plain_cuts.nd (pi_seq (pv 0)) (blkOk_by (own := [("axis", 1), ("parts", 2)]) (N := ["cuts", "axis", "parts"]) (sc := defScope s_plain_cuts) (by decide +kernel)) (fun _ _ _ _ _ => (pg_tup rfl (pgs_cons (pg_name (i := 1) sc_plain_cuts.nd rfl (.inl rfl)) (pgs_cons (pg_name (i := 2) sc_plain_cuts.nd rfl (.inl rfl)) pgs_nil)))) (fun _ _ _ _ _ => pts_nil) (fun _ _ _ _ _ => (pe_tup (pa_cons (pe_ix (ix_seqK (K := K) rfl) (pe_glob (v := .ref aX) (by rfl) R.ax rfl) (pe_bmK (K := K) rfl PySem.F.plainAttrs_tuple PySem.F.slot_tuple_index PySem.F.type_tuple_index (mt_tupK rfl) (pe_glob (v := .ref aX) (by rfl) R.ax rfl) (pa_cons (pv 1) pa_nil)) (fun _ _ => rfl)) (pa_cons (pe_callTy call_int1 (by rfl) T.int (by decide +kernel) (pa_cons (pv 2) pa_nil)) pa_nil)))))))), ?_⟩
    obtain ⟨l, as, rfl, hl, hp⟩ := hv
    have hlen := pd_len hp
    refine ⟨_, rfl, l, _, rfl, hl, fun J S wj hS D hD => lc_walk wj (fun i H' => ∃ ds : List Addr, H' D = some (.lst (ds.map V.ref)) ∧ Paired (fun a c => H' a = some (.tup (cutV c))) ds (cs.take i) ∧ Ext H H') ⟨[], upd_same, .nil, Ext.upd hD⟩ (fun _ _ ⟨_, _, _, e⟩ => hS _ e) ?_ ?_⟩
    · rintro i x H' hx ⟨ds, d1, d2, e⟩
      obtain ⟨a, rfl, c, hci, hac⟩ := refs_get hp hx
      have ha : H' a = some (.tup (cutV c)) := e _ _ hac
      refine ⟨a, _, rfl, SqT.of ha, rfl, _, _, rfl, _, _, rfl, rfl, rfl, lc_yes ?_⟩
      refine ⟨.inr (.inl ⟨rfl, R.axT⟩), _, rfl, aX, ["east", "north"], axS c.1, axI c.1, rfl, rfl, R.axK _, by cases c.1 <;> rfl, ax_first _, .inr (.inl ⟨aX, _, _, .str (axS c.1), rfl, rfl, R.axK _, atI_nat (by cases c.1 <;> rfl), _, rfl, .inl ⟨_, rfl, (by show 2 ≤ sizeLine; decide), fun tt htt => ?_⟩⟩)⟩
      have hDt : D ≠ tt := fun z => by
        rw [← z, d1] at htt
        cases htt
      refine ⟨_, by rw [upd_ne hDt]; exact d1, ?_, ds ++ [tt], ?_, ?_, ?_⟩
      · rw [List.length_map, pd_len d2, List.length_take, sizeLine_eq]
        omega
      · rw [upd_same, List.map_append]
        rfl
      · rw [take_snoc hci]
        refine pd_snoc (pd_imp (fun a q hq => ?_) d2) ?_
        · rw [upd_ne (fun z => by rw [z, d1] at hq; cases hq), upd_ne (ne_of_none hq htt)]
          exact hq
        · rw [upd_ne (Ne.symm hDt), upd_same]
          rfl
      · exact ext_put (e.trans (Ext.upd htt)) hD
    · rintro H' ⟨ds, d1, d2, e⟩
      rw [List.length_map, hlen, List.take_length] at d2
      exact k D H' e hD ⟨ds, d1, d2⟩
def turnF (cs : List Cut) : List Cut := cs.map fun c => (!c.1, c.2)
theorem ax_turn (b : Bool) : atI [V.str "east", V.str "north"] (1 - (axI b : Int)) = some (.str (axS (!b))) := by
  cases b
  · exact atI_nat (j := 0) rfl
  · exact atI_nat (j := 1) rfl
def spTurn (K : PySem.W.Frag) : Sp := fun vs H Q _ => ∃ (v : V) (cs : List Cut), vs = [v] ∧ CutsAt K H v cs ∧ cs.length ≤ 5 ∧ (∀ c ∈ cs, okC c) ∧ ∀ l H', Ext H H' → H l = none → CutsL H' l (turnF cs) → Q (.ref l) H'

end
end Mc

set_option Elab.async false
set_option linter.all false
set_option maxRecDepth 100000
set_option maxHeartbeats 4000000
set_option exponentiation.threshold 20000
namespace Mc
open PySem PySem.Spec PyProof.Rows L2 ClX StX
section
variable {P : Program} {w : World} {K : PySem.W.Frag} {mg : Str → Option Value} {base : Heap} {f C0 aX : Addr} {mc : Value} {fd : FuncData}
theorem sc_check_rounds : FnScope ["rounds", "position", "cuts", "all_parts", "columns", "rows"] ["rounds"] (defScope s_check_rounds) := ⟨rfl, rfl, rfl, by decide +kernel, rfl, by decide +kernel, by decide +kernel⟩
def partsF (rs : List (List Cut)) : List Pr := rs.map fun cs => ((colsF cs : Int), (rowsF cs : Int))
structure OkR (rs : List (List Cut)) : Prop where
  l1 : 1 ≤ rs.length
  l3 : rs.length ≤ 3
  h1 : ∀ cs ∈ rs, 1 ≤ cs.length
  h5 : ∀ cs ∈ rs, cs.length ≤ 5
  hc : ∀ cs ∈ rs, ∀ c ∈ cs, okC c
  h32 : ∀ cs ∈ rs, colsF cs * rowsF cs ≤ 32
  bal : (mulF (partsF rs)).1 = (mulF (partsF rs)).2
theorem parts_small {rs : List (List Cut)} (ok : OkR rs) : ∀ q ∈ partsF rs, q.1.natAbs < 2 ^ 16 ∧ q.2.natAbs < 2 ^ 16 ∧ q.1 * q.2 ≤ 32 := by
  intro q hq
  obtain ⟨cs, hm, rfl⟩ := List.mem_map.mp hq
  obtain ⟨h1, h2⟩ := cols_le (ok.hc cs hm) (ok.h5 cs hm)
  have h3 := ok.h32 cs hm
  refine ⟨by omega, by omega, ?_⟩
  show (colsF cs : Int) * (rowsF cs : Int) ≤ 32
  rw [← Int.natCast_mul]
  omega
theorem CutsAt.ext {K : PySem.W.Frag} {H H' : Hp} {v : V} {cs : List Cut} (h : CutsAt K H v cs) (e : Ext H H') : CutsAt K H' v cs := by
  obtain ⟨l, as, rfl, h1, h2⟩ := h
  exact ⟨l, as, rfl, sq_ext h1 e, pd_imp (fun a c q => e _ _ q) h2⟩
def spCheck (K : PySem.W.Frag) : Sp := fun vs H Q _ => ∃ (p : Addr) (vs0 : List V) (rs : List (List Cut)), vs = [.ref p] ∧ SqT K H p vs0 ∧ Paired (CutsAt K H) vs0 rs ∧ OkR rs ∧ ∀ H', Ext H H' → Q .non H'
theorem ok_check_rounds (F : FunD K "_check_rounds" "_check_rounds" (defArgs s_check_rounds) (defBody s_check_rounds) (defScope s_check_rounds) [] [] f fd) (T : TB mg) (R : PlanT K mg C0 aX mc) {fis_cuts : Addr} {fdis_cuts : FuncData} (Dis_cuts : Gd P w K mg base "_is_cuts" 4 ["value"] (spCuts K) fis_cuts fdis_cuts) {fparts_of : Addr} {fdparts_of : FuncData} (Dparts_of : Gd P w K mg base "_parts_of" 3 ["cuts"] (spPartsOf K) fparts_of fdparts_of) {fmultiplied : Addr} {fdmultiplied : FuncData} (Dmultiplied : Gd P w K mg base "_multiplied" 1 ["all_parts"] (spMul K) fmultiplied fdmultiplied) : FnOk P w K mg base CX0 5 f fd ["rounds"] (spCheck K) := by
  refine F.ok sc_check_rounds (fun vs H Q E h => ?_) (fun cdv A outer s H vs Q E hr h => ?_)
  · obtain ⟨p, vs0, rs, rfl, hp, hr0, ok, k⟩ := h
    rfl
  · obtain ⟨p, vs0, rs, rfl, hp, hr0, ok, k⟩ := h
    refine ⟨_, (PSs.nox (pss_cons (ps_if (pt_cmpR op_eq (pe_callB call_len_seq (by rfl) T.len PySem.boot_len (pa_cons (pv 0) pa_nil)) pe_int (nomark _)) (pss_one ps_never) pss_nil)
      (pss_cons (ps_for PassesOwn.never rfl (pi_enumT (by rfl) T.enumerate (pa_cons (pv 0) pa_nil)) (pg_tup rfl (pgs_cons (pg_name (i := 1) sc_check_rounds.nd rfl (.inl rfl)) (pgs_cons (pg_name (i := 2) sc_check_rounds.nd rfl (.inl rfl)) pgs_nil))) (pss_one (ps_if (pt_not (pt_val (pe_gd Dis_cuts hr (by decide) (by rfl) (pa_cons (pv 2) pa_nil)))) (pss_one ps_never) pss_nil)))
      (pss_cons (ps_if (pt_cmpR op_gt (pe_callB call_len_seq (by rfl) T.len PySem.boot_len (pa_cons (pv 0) pa_nil)) (pe_cval (pe_glob (v := .ref C0) (by rfl) R.mgP rfl)) (nomark _)) (pss_one ps_never) pss_nil)
      (pss_cons (ps_setLc (i := 3) (own := [("cuts", 2)]) (g := gName 2) (tt := tYes) rfl sc_check_rounds.nd rfl rfl (sw_true rfl rfl rfl (by decide +kernel)) (pi_seq (pv 0)) (blkOk_by (own := [("cuts", 2)]) (N := ["rounds", "position", "cuts", "all_parts", "columns", "rows"]) (sc := defScope s_check_rounds) (by decide +kernel)) (fun _ _ _ _ _ => (pg_name (i := 2) sc_check_rounds.nd rfl (.inl rfl))) (fun _ _ _ _ _ => pts_nil) (fun _ _ _ _ _ => (pe_gd Dparts_of hr (by decide) (by rfl) (pa_cons (pv 2) pa_nil))))
      (pss_cons (ps_if (pt_cmpR op_gt (pe_callB (cr_max rfl) (by rfl) T.max (by decide +kernel) (pa_cons (pe_lc (own := [("columns", 4), ("rows", 5)]) (g := gTup K 2 (gCons (gName 4) (gCons (gName 5) gNil))) (tt := tYes) rfl sc_check_rounds.nd (pi_seq (pv 3)) (blkOk_by (own := [("columns", 4), ("rows", 5)]) (N := ["rounds", "position", "cuts", "all_parts", "columns", "rows"]) (sc := defScope s_check_rounds) (by decide +kernel)) (fun _ _ _ _ _ => (pg_tup rfl (pgs_cons (pg_name (i := 4) sc_check_rounds.nd rfl (.inl rfl)) (pgs_cons (pg_name (i := 5) sc_check_rounds.nd rfl (.inl rfl)) pgs_nil)))) (fun _ _ _ _ _ => pts_nil) (fun _ _ _ _ _ => (pe_op op_mulW (pv 4) (pv 5)))) pa_nil)) (pe_cval (pe_glob (v := .ref C0) (by rfl) R.mgP rfl)) (nomark _)) (pss_one ps_never) pss_nil)
      (pss_cons (ps_asg (pe_gd Dmultiplied hr (by decide) (by rfl) (pa_cons (pv 3) pa_nil)) (pg_tup rfl (pgs_cons (pg_name (i := 4) sc_check_rounds.nd rfl (.inl rfl)) (pgs_cons (pg_name (i := 5) sc_check_rounds.nd rfl (.inl rfl)) pgs_nil))))
      (pss_one (ps_if (pt_cmpR op_ne (pv 4) (pv 5) (nomark _)) (pss_one ps_never) pss_nil))))))))), ?_⟩
    have hlen := pd_len hr0
    obtain ⟨uR, hR⟩ := R.cR
    obtain ⟨uS, hSg⟩ := R.cS
    refine ⟨_, rfl, p, _, rfl, .inr hp, rfl, _, rfl, ite2 (fun hz => ?_) (fun _ => ?_)⟩
    · have := V.int.inj (of_decide_eq_true hz)
      have := ok.l1
      omega
    refine ⟨_, rfl, p, _, rfl, hp, for_enumT (fun i σ H' => ∃ u w1, σ = [some (.ref p), u, w1, none, none, none] ∧ Ext H H') ⟨none, none, rfl, Ext.rfl'⟩ (fun _ _ _ ⟨_, _, _, e⟩ => hp.ext e) ?_ ?_⟩
    · rintro i x T2 σ H' hx hT ⟨u, w1, rfl, e⟩
      obtain ⟨cs, hci, hcs⟩ := pd_get hr0 i x hx
      have hm := List.mem_of_getElem? hci
      refine ⟨T2, _, rfl, SqT.of upd_same, rfl, _, _, rfl, _, _, rfl, rfl, ?_⟩
      refine ⟨_, rfl, x, cs, rfl, (hcs.ext e).ext (Ext.upd hT), ok.h1 cs hm, ok.h5 cs hm, ok.hc cs hm, fun H2 e2 => ⟨_, rfl, iteF ?_⟩⟩
      exact ⟨_, _, rfl, (e.trans (Ext.upd hT)).trans e2⟩
    rintro σ H1 ⟨u, w1, rfl, e1⟩
    refine ⟨_, rfl, p, _, rfl, .inr (hp.ext e1), C0, mc, _, uR, rfl, R.cr, hR, _, _, rfl, rfl, _, rfl, ite2 (fun hz => ?_) (fun _ => ?_)⟩
    · have := of_decide_eq_true hz
      have := ok.l3
      omega
    refine ⟨_, rfl, p, _, rfl, .inr (hp.ext e1), fun J S wj hS D hD => lc_walk wj (fun i H' => ∃ ds : List Addr, H' D = some (.lst (ds.map V.ref)) ∧ Paired (fun a (q : Pr) => H' a = some (.tup [.int q.1, .int q.2])) ds ((partsF rs).take i) ∧ Ext H1 H') ⟨[], upd_same, .nil, Ext.upd hD⟩ (fun _ _ ⟨_, _, _, e⟩ => hS _ e) ?_ ?_⟩
    · rintro i x H' hx ⟨ds, d1, d2, e⟩
      obtain ⟨cs, hci, hcs⟩ := pd_get hr0 i x hx
      have hm := List.mem_of_getElem? hci
      have hpi : (partsF rs)[i]? = some ((colsF cs : Int), (rowsF cs : Int)) := by
        unfold partsF
        rw [List.getElem?_map, hci]
        rfl
      refine ⟨rfl, lc_yes ⟨_, rfl, x, cs, rfl, (hcs.ext e1).ext e, ok.h5 cs hm, ok.hc cs hm, fun t H2 e2 _ ht => ?_⟩⟩
      have htD : t ≠ D := fun z => by
        have z1 := e2 _ _ d1
        rw [← z, ht] at z1
        cases z1
      refine ⟨_, e2 _ _ d1, ?_, ds ++ [t], ?_, ?_, ?_⟩
      · have := ok.l3
        rw [List.length_map, pd_len d2, List.length_take, partsF, List.length_map, sizeLine_eq]
        omega
      · rw [upd_same, List.map_append]
        rfl
      · rw [take_snoc hpi]
        refine pd_snoc (pd_imp (fun a q hq => ?_) d2) ?_
        · rw [upd_ne (fun z => by rw [z, d1] at hq; cases hq)]
          exact e2 _ _ hq
        · rw [upd_ne htD]
          exact ht
      · exact ext_put (e.trans e2) hD
    rintro H2 ⟨ds, d1, d2, e2⟩
    have el : vs0.length = (partsF rs).length := by rw [hlen, partsF, List.length_map]
    rw [el, List.take_length] at d2
    have pl : (partsF rs).length ≤ 3 := by
      rw [← el, hlen]
      exact ok.l3
    have pm : ∀ q ∈ partsF rs, q.1.natAbs < 2 ^ 16 ∧ q.2.natAbs < 2 ^ 16 ∧ q.1 * q.2 ≤ 32 := parts_small ok
    refine ⟨_, rfl, D, _, rfl, .inl (SqL.of d1), fun J2 S2 wj2 hS2 D2 hD2 => lc_walk wj2 (fun i H' => H' D2 = some (.lst ((((partsF rs).take i).map fun q => q.1 * q.2).map V.int)) ∧ Ext H2 H') ⟨upd_same, Ext.upd hD2⟩ (fun _ _ ⟨_, e⟩ => hS2 _ e) ?_ ?_⟩
    · rintro i x H' hx ⟨f1, e⟩
      obtain ⟨a, rfl, q, hqi, ha⟩ := refs_get d2 hx
      obtain ⟨b1, b2, _⟩ := pm q (List.mem_of_getElem? hqi)
      refine ⟨a, _, rfl, SqT.of (e _ _ ha), rfl, _, _, rfl, _, _, rfl, rfl, rfl, lc_yes ⟨_, rfl, _, rfl, _, _, rfl, rfl, mulW b1 b2, ?_⟩⟩
      refine ⟨_, f1, ?_, ?_, ext_put e hD2⟩
      · rw [List.length_map, List.length_map, List.length_take, sizeLine_eq]
        omega
      · rw [upd_same, take_snoc hqi, List.map_append, List.map_append]
        rfl
    rintro H3 ⟨f1, e3⟩
    rw [List.length_map, pd_len d2, List.take_length] at f1
    refine ⟨D2, _, rfl, SqL.of f1, ?_, fun m hm _ => ⟨C0, mc, _, uS, rfl, R.cr, hSg, _, _, rfl, rfl, _, rfl, ite2 (fun hz => ?_) (fun _ => ?_)⟩⟩
    · rw [List.length_map, ← el, hlen]
      exact ok.l1
    · obtain ⟨q, hq, rfl⟩ := List.mem_map.mp hm
      have h32 := (pm q hq).2.2
      have := of_decide_eq_true hz
      omega
    refine ⟨_, rfl, D, ds, partsF rs, rfl, .inl (SqL.of (e3 _ _ d1)), pd_imp (fun a q h => e3 _ _ h) d2, Nat.le_trans pl (by decide), fun q hq => ⟨(pm q hq).1, (pm q hq).2.1⟩, fun t H4 e4 ht => ?_⟩
    refine ⟨t, _, rfl, SqT.of ht, rfl, _, _, rfl, _, _, rfl, rfl, ?_⟩
    refine ⟨_, rfl, _, rfl, rfl, _, rfl, ite2 (fun hz => ?_) (fun _ => ?_)⟩
    · rw [ok.bal] at hz
      simp at hz
    exact k H4 (((e1.trans e2).trans e3).trans e4)
end
end Mc

set_option Elab.async false
set_option linter.all false
set_option maxRecDepth 100000
set_option maxHeartbeats 4000000
set_option exponentiation.threshold 20000
namespace Mc
open PySem PySem.Spec PyProof.Rows L2 ClX StX
section
variable {P : Program} {w : World} {K : PySem.W.Frag} {mg : Str → Option Value} {base : Heap} {f C0 aX : Addr} {mc : Value} {fd : FuncData}
/-- a Plan stands at p -/
def flP (lr lp ll : Addr) (g : Int) : List (Str × V) := [("_rounds", .ref lr), ("_parts", .ref lp), ("_places", .ref ll), ("_growth", .int g)]
structure PlanIn (H : Hp) (lr lp ll : Addr) (g : Int) (rs : List (List Cut)) : Prop where
  r : ∃ as : List Addr, H lr = some (.lst (as.map V.ref)) ∧ Paired (fun a cs => CutsL H a cs) as rs
  p : ∃ as : List Addr, H lp = some (.lst (as.map V.ref)) ∧ Paired (fun a (q : Pr) => H a = some (.tup [.int q.1, .int q.2])) as (partsF rs)
  l : ∃ as : List Addr, H ll = some (.lst (as.map V.ref)) ∧ Paired (fun a cs => PairsAt H a (placesF cs)) as rs
  g : g = (mulF (partsF rs)).1
def PlanAt (C0 : Addr) (H : Hp) (p : Addr) (rs : List (List Cut)) : Prop := ∃ dx lr lp ll g, H p = some (.ins C0 dx (flP lr lp ll g)) ∧ PlanIn H lr lp ll g rs
theorem CutsL.ext {H H' : Hp} {l : Addr} {cs : List Cut} (h : CutsL H l cs) (e : Ext H H') : CutsL H' l cs := by
  obtain ⟨as, h1, h2⟩ := h
  exact ⟨as, e _ _ h1, pd_imp (fun a c q => e _ _ q) h2⟩
theorem PairsAt.ext {H H' : Hp} {l : Addr} {ps : List Pr} (h : PairsAt H l ps) (e : Ext H H') : PairsAt H' l ps := by
  obtain ⟨as, h1, h2⟩ := h
  exact ⟨as, e _ _ h1, pd_imp (fun a c q => e _ _ q) h2⟩
theorem PlanIn.ext {H H' : Hp} {lr lp ll : Addr} {g : Int} {rs : List (List Cut)} (h : PlanIn H lr lp ll g rs) (e : Ext H H') : PlanIn H' lr lp ll g rs := by
  obtain ⟨⟨a1, r1, r2⟩, ⟨a2, p1, p2⟩, ⟨a3, l1, l2⟩, hg⟩ := h
  exact ⟨⟨a1, e _ _ r1, pd_imp (fun a c q => q.ext e) r2⟩, ⟨a2, e _ _ p1, pd_imp (fun a c q => e _ _ q) p2⟩, ⟨a3, e _ _ l1, pd_imp (fun a c q => q.ext e) l2⟩, hg⟩
theorem PlanAt.ext {C0 : Addr} {H H' : Hp} {p : Addr} {rs : List (List Cut)} (h : PlanAt C0 H p rs) (e : Ext H H') : PlanAt C0 H' p rs := by
  obtain ⟨dx, lr, lp, ll, g, h1, h2⟩ := h
  exact ⟨dx, lr, lp, ll, g, e _ _ h1, h2.ext e⟩
/-- all but one instance stays as it is -/
theorem pd_frm {H H' : Hp} {p : Addr} {xs : List V} {a : Addr} (f : Frm [p] H H') {C dx : Addr} {fs : List (Str × V)} (hp : H p = some (.ins C dx fs)) (h : H a = some (.tup xs)) : H' a = some (.tup xs) := f _ _ h fun m => by
  rw [List.mem_singleton.mp m, hp] at h
  cases h
theorem ls_frm {H H' : Hp} {p : Addr} {xs : List V} {a : Addr} (f : Frm [p] H H') {C dx : Addr} {fs : List (Str × V)} (hp : H p = some (.ins C dx fs)) (h : H a = some (.lst xs)) : H' a = some (.lst xs) := f _ _ h fun m => by
  rw [List.mem_singleton.mp m, hp] at h
  cases h
theorem wipe_set2 {σ : L2.St} {x : V} : wipe ((wipe σ [2]).set 2 (some x)) [2] = wipe σ [2] := by
  show ((σ.set 2 none).set 2 (some x)).set 2 none = σ.set 2 none
  rw [List.set_set, List.set_set]
/-- the three lists that __init__ makes: of each round what te gives of it -/
theorem lc_cuts {K : PySem.W.Frag} {J : It} {S : Hp → Prop} {vs0 : List V} {rs : List (List Cut)} {te : TE} {G : Hp → Addr → List Cut → Prop} {σ : L2.St} {H1 : Hp} {D : Addr} {Qd : Hp → Prop} (w : WalkJ J S vs0) (hS : ∀ H', Ext H1 H' → S H') (hp : Paired (CutsAt K H1) vs0 rs) (l3 : rs.length ≤ 3) (nD : H1 D = none)
    (mono : ∀ H H' a cs, Ext H H' → G H a cs → G H' a cs) (side : ∀ H xs ys a cs, H D = some (.lst xs) → a ≠ D → G H a cs → G (upd H D (.lst ys)) a cs)
    (call : ∀ x cs H (Q : VK), cs ∈ rs → CutsAt K H x cs → (∀ a H', Ext H H' → H a = none → G H' a cs → Q (.ref a) H') → te ((wipe σ [2]).set 2 (some x)) H Q) (hd : ∀ H', Ext H1 H' → (∃ ds : List Addr, H' D = some (.lst (ds.map V.ref)) ∧ Paired (G H') ds rs) → Qd H') : ∃ W : Nat → Nat → Hp → Prop, (∃ m, W 0 m (upd H1 D (.lst []))) ∧ ∀ i m H, W i m H →
      (J.stop i H ∧ Qd H) ∨ (J.go i H ∧ ∃ Nx : Hp → Prop, (∀ H', Nx H' → ∃ m', m' < m ∧ W (i + 1) m' H') ∧ ∀ x H', J.yld i H x H' → gName 2 x (wipe σ [2]) H' fun σ2 H2 => wipe σ2 [2] = wipe σ [2] ∧ tYes σ2 H2 fun b H3 => if b = true then te σ2 H3 fun y H4 => ∃ acc, H4 D = some (.lst acc) ∧ acc.length < sizeLine ∧ Nx (upd H4 D (.lst (acc ++ [y]))) else Nx H3) := by
  have hlen := pd_len hp
  refine lc_walk w (fun i H' => ∃ ds : List Addr, H' D = some (.lst (ds.map V.ref)) ∧ Paired (fun a cs => G H' a cs ∧ a ≠ D) ds (rs.take i) ∧ Ext H1 H') ⟨[], upd_same, .nil, Ext.upd nD⟩ (fun _ _ ⟨_, _, _, e⟩ => hS _ e) ?_ ?_
  · rintro i x H' hx ⟨ds, d1, d2, e⟩
    obtain ⟨cs, hci, hcs⟩ := pd_get hp i x hx
    have hm := List.mem_of_getElem? hci
    refine ⟨wipe_set2, lc_yes (call x cs H' _ hm (hcs.ext e) fun a H2 e2 na ga => ?_)⟩
    have naD : a ≠ D := fun z => by
      rw [z, d1] at na
      cases na
    refine ⟨_, e2 _ _ d1, ?_, ds ++ [a], ?_, ?_, ext_put (e.trans e2) nD⟩
    · rw [List.length_map, pd_len d2, List.length_take, sizeLine_eq]
      omega
    · rw [upd_same, List.map_append]
      rfl
    · rw [take_snoc hci]
      exact pd_snoc (pd_imp (fun b c q => ⟨side _ _ _ _ _ (e2 _ _ d1) q.2 (mono _ _ _ _ e2 q.1), q.2⟩) d2) ⟨side _ _ _ _ _ (e2 _ _ d1) naD ga, naD⟩
  · rintro H' ⟨ds, d1, d2, e⟩
    rw [hlen, List.take_length] at d2
    exact hd H' e ⟨ds, d1, pd_imp (fun b c q => q.1) d2⟩
theorem side_l {H : Hp} {D a : Addr} {xs ys zs : List V} (hD : H D = some (.lst xs)) (n : a ≠ D) (h : H a = some (.lst zs)) : upd H D (.lst ys) a = some (.lst zs) := by rw [upd_ne n]; exact h
theorem side_t {H : Hp} {D a : Addr} {xs ys zs : List V} (hD : H D = some (.lst xs)) (h : H a = some (.tup zs)) : upd H D (.lst ys) a = some (.tup zs) := by
  rw [upd_ne (fun z => by rw [z, hD] at h; cases h)]
  exact h
theorem side_cuts {H : Hp} {D a : Addr} {xs ys : List V} {cs : List Cut} (hD : H D = some (.lst xs)) (n : a ≠ D) (h : CutsL H a cs) : CutsL (upd H D (.lst ys)) a cs := by
  obtain ⟨as, h1, h2⟩ := h
  exact ⟨as, side_l hD n h1, pd_imp (fun _ _ q => side_t hD q) h2⟩
theorem side_prs {H : Hp} {D a : Addr} {xs ys : List V} {ps : List Pr} (hD : H D = some (.lst xs)) (n : a ≠ D) (h : PairsAt H a ps) : PairsAt (upd H D (.lst ys)) a ps := by
  obtain ⟨as, h1, h2⟩ := h
  exact ⟨as, side_l hD n h1, pd_imp (fun _ _ q => side_t hD q) h2⟩
theorem pd_map {F : Addr → List Cut → Prop} {G : Addr → Pr → Prop} (h : ∀ a cs, F a cs → G a ((colsF cs : Int), (rowsF cs : Int))) : ∀ {l : List Addr} {rs : List (List Cut)}, Paired F l rs → Paired G l (partsF rs)
  | _, _, .nil => .nil
  | _, _, .cons r t => .cons (h _ _ r) (pd_map h t)
theorem ne_ins {H : Hp} {p a : Addr} {C dx : Addr} {fs : List (Str × V)} {o : HO} (hp : H p = some (.ins C dx fs)) (h : H a = some o) (n : ∀ C dx fs, o ≠ .ins C dx fs) : a ∉ [p] := fun m => by
  rw [List.mem_singleton.mp m, hp] at h
  exact n _ _ _ (Option.some.inj h).symm
theorem sqa_frm {K : PySem.W.Frag} {H H' : Hp} {p l C dx : Addr} {fs : List (Str × V)} {xs : List V} (f : Frm [p] H H') (hp : H p = some (.ins C dx fs)) (h : SqA K H l xs) : SqA K H' l xs := by
  rcases h with (⟨h | ⟨o, h⟩⟩ | h) | (⟨h | ⟨o, h⟩⟩ | h)
  · exact .inl (.inl (.inl (f _ _ h (ne_ins hp h fun _ _ _ z => nomatch z))))
  · exact .inl (.inl (.inr ⟨o, f _ _ h (ne_ins hp h fun _ _ _ z => nomatch z)⟩))
  · exact .inl (.inr h)
  · exact .inr (.inl (.inl (f _ _ h (ne_ins hp h fun _ _ _ z => nomatch z))))
  · exact .inr (.inl (.inr ⟨o, f _ _ h (ne_ins hp h fun _ _ _ z => nomatch z)⟩))
  · exact .inr (.inr h)
theorem cuts_frm {K : PySem.W.Frag} {H H' : Hp} {p C dx : Addr} {fs : List (Str × V)} {v : V} {cs : List Cut} (f : Frm [p] H H') (hp : H p = some (.ins C dx fs)) (h : CutsAt K H v cs) : CutsAt K H' v cs := by
  obtain ⟨l, as, rfl, h1, h2⟩ := h
  exact ⟨l, as, rfl, sqa_frm f hp h1, pd_imp (fun _ _ q => pd_frm f hp q) h2⟩
theorem cutsL_frm {H H' : Hp} {p a C dx : Addr} {fs : List (Str × V)} {cs : List Cut} (f : Frm [p] H H') (hp : H p = some (.ins C dx fs)) (h : CutsL H a cs) : CutsL H' a cs := by
  obtain ⟨as, h1, h2⟩ := h
  exact ⟨as, ls_frm f hp h1, pd_imp (fun _ _ q => pd_frm f hp q) h2⟩
theorem prs_frm {H H' : Hp} {p a C dx : Addr} {fs : List (Str × V)} {ps : List Pr} (f : Frm [p] H H') (hp : H p = some (.ins C dx fs)) (h : PairsAt H a ps) : PairsAt H' a ps := by
  obtain ⟨as, h1, h2⟩ := h
  exact ⟨as, ls_frm f hp h1, pd_imp (fun _ _ q => pd_frm f hp q) h2⟩
def flP3 (lr lp ll : Addr) : List (Str × V) := [("_rounds", .ref lr), ("_parts", .ref lp), ("_places", .ref ll)]
theorem put1 (lr : Addr) : putF "_rounds" (.ref lr) [] = ([("_rounds", V.ref lr)] : List (Str × V)) := rfl
theorem put2 (lr lp : Addr) : putF "_parts" (.ref lp) [("_rounds", V.ref lr)] = ([("_rounds", V.ref lr), ("_parts", .ref lp)] : List (Str × V)) := rfl
theorem put3 (lr lp ll : Addr) : putF "_places" (.ref ll) [("_rounds", V.ref lr), ("_parts", .ref lp)] = flP3 lr lp ll := rfl
theorem put4 (lr lp ll : Addr) (g : Int) : putF "_growth" (.int g) (flP3 lr lp ll) = flP lr lp ll g := rfl
def spPlanI (K : PySem.W.Frag) (C0 : Addr) : Sp := fun vs H Q _ => ∃ (p dx : Addr) (vs0 : List V) (rs : List (List Cut)), vs = .ref p :: vs0 ∧ H p = some (.ins C0 dx []) ∧ Paired (CutsAt K H) vs0 rs ∧ OkR rs ∧
  ∀ H', Frm [p] H H' → PlanAt C0 H' p rs → Q .non H'
def spPlanB (K : PySem.W.Frag) (C0 : Addr) : Sp := fun vs H Q _ => ∃ (p dx t : Addr) (vs0 : List V) (rs : List (List Cut)), vs = [.ref p, .ref t] ∧ H p = some (.ins C0 dx []) ∧ H t = some (.tup vs0) ∧ Paired (CutsAt K H) vs0 rs ∧ OkR rs ∧
  ∀ H', Frm [p] H H' → PlanAt C0 H' p rs → Q .non H'
theorem sc_Plan___init : FnScope ["self", "rounds", "cuts"] ["self", "rounds"] (defScope s_Plan___init) := ⟨rfl, rfl, rfl, by decide +kernel, rfl, by decide +kernel, by decide +kernel⟩
theorem ok_Plan___init (F : FD K "__init__" "Plan.__init__" s_Plan___init f fd) (T : TB mg) (R : PlanT K mg C0 aX mc) {fcheck_rounds : Addr} {fdcheck_rounds : FuncData} (Dcheck_rounds : Gd P w K mg base "_check_rounds" 5 ["rounds"] (spCheck K) fcheck_rounds fdcheck_rounds) {fplain_cuts : Addr} {fdplain_cuts : FuncData} (Dplain_cuts : Gd P w K mg base "_plain_cuts" 1 ["cuts"] (spPlain K) fplain_cuts fdplain_cuts) {fparts_of : Addr} {fdparts_of : FuncData} (Dparts_of : Gd P w K mg base "_parts_of" 3 ["cuts"] (spPartsOf K) fparts_of fdparts_of) {fplaces_of : Addr} {fdplaces_of : FuncData} (Dplaces_of : Gd P w K mg base "_places_of" 2 ["cuts"] (spPlaces K) fplaces_of fdplaces_of) {fmultiplied : Addr} {fdmultiplied : FuncData} (Dmultiplied : Gd P w K mg base "_multiplied" 1 ["all_parts"] (spMul K) fmultiplied fdmultiplied) : FnR P w K mg base CX0 6 f (spPlanI K C0) := by
  obtain ⟨oc, od, dV, kV, doc, pm, an, cdv, ct, osl, rfl, lk, hcd, hD, _⟩ := F.ex
  obtain rfl : dV = .none := by
    rcases hD with ⟨_, e⟩ | ⟨e, _⟩
    · exact e
    · exact absurd rfl e
  refine FnR.imp (fn_star (CX := CX0) (ps := ["self"]) (pv := "rounds") (k := 5) (sp := spPlanB K C0) lk hcd sc_Plan___init cxUp_none (bind_star1 (B := fun l => bindArgs (PySem.W.fnOf "__init__" "Plan.__init__" (defArgs s_Plan___init) (defBody s_Plan___init) (defScope s_Plan___init) .none kV doc pm an cdv ct) ⟨l, []⟩) (fun _ => rfl) (fun _ _ _ => rfl)) (fun A outer s H vs Q E hr h => ?_)) (fun vs H Q E h => ?_)
  · obtain ⟨p, dx, t, vs0, rs, rfl, hp, ht, hr0, ok, k⟩ := h
    refine ⟨_, (PSs.nox (pss_cons (ps_expr (pe_gd Dcheck_rounds hr (by decide) (by rfl) (pa_cons (pv 1) pa_nil)))
      (pss_cons (ps_fld (pv 0) (pe_lc (own := [("cuts", 2)]) (g := gName 2) (tt := tYes) rfl sc_Plan___init.nd (pi_seq (pv 1)) (blkOk_by (own := [("cuts", 2)]) (N := ["self", "rounds", "cuts"]) (sc := defScope s_Plan___init) (by decide +kernel)) (fun _ _ _ _ _ => (pg_name (i := 2) sc_Plan___init.nd rfl (.inl rfl))) (fun _ _ _ _ _ => pts_nil) (fun _ _ _ _ _ => (pe_gd Dplain_cuts hr (by decide) (by rfl) (pa_cons (pv 2) pa_nil)))) rfl)
      (pss_cons (ps_fld (pv 0) (pe_lc (own := [("cuts", 2)]) (g := gName 2) (tt := tYes) rfl sc_Plan___init.nd (pi_seq (pv 1)) (blkOk_by (own := [("cuts", 2)]) (N := ["self", "rounds", "cuts"]) (sc := defScope s_Plan___init) (by decide +kernel)) (fun _ _ _ _ _ => (pg_name (i := 2) sc_Plan___init.nd rfl (.inl rfl))) (fun _ _ _ _ _ => pts_nil) (fun _ _ _ _ _ => (pe_gd Dparts_of hr (by decide) (by rfl) (pa_cons (pv 2) pa_nil)))) rfl)
      (pss_cons (ps_fld (pv 0) (pe_lc (own := [("cuts", 2)]) (g := gName 2) (tt := tYes) rfl sc_Plan___init.nd (pi_seq (pv 1)) (blkOk_by (own := [("cuts", 2)]) (N := ["self", "rounds", "cuts"]) (sc := defScope s_Plan___init) (by decide +kernel)) (fun _ _ _ _ _ => (pg_name (i := 2) sc_Plan___init.nd rfl (.inl rfl))) (fun _ _ _ _ _ => pts_nil) (fun _ _ _ _ _ => (pe_gd Dplaces_of hr (by decide) (by rfl) (pa_cons (pv 2) pa_nil)))) rfl)
      (pss_one (ps_fld (pv 0) (pe_ix ix_seq (pe_gd Dmultiplied hr (by decide) (by rfl) (pa_cons (pe_fld (pv 0) rfl) pa_nil)) pe_int (fun _ _ => rfl)) rfl))))))), ?_⟩
    refine ⟨_, rfl, t, vs0, rs, rfl, SqT.of ht, hr0, ok, fun H1 e1 => ?_⟩
    have c1 : Paired (CutsAt K H1) vs0 rs := pd_imp (fun v cs q => q.ext e1) hr0
    refine ⟨_, rfl, t, vs0, rfl, .inr (SqT.of (e1 _ _ ht)), fun J S wj hS D1 hD1 => lc_cuts (G := CutsL) wj hS c1 ok.l3 hD1 (fun _ _ _ _ e g => g.ext e) (fun _ _ _ _ _ h n g => side_cuts h n g) (fun x cs H Q hm hcs kk => ⟨_, rfl, x, cs, rfl, hcs, ok.h5 cs hm, ok.hc cs hm, fun l H' e n g => kk l H' e n g⟩) (fun H2 e2 ⟨as1, r1, r2⟩ => ?_)⟩
    have hp2 : H2 p = some (.ins C0 dx []) := e2 _ _ (e1 _ _ hp)
    refine ⟨_, rfl, p, C0, dx, [], rfl, hp2, R.cl, R.nR, (by show 0 < 1000; decide), ?_⟩
    rw [put1]
    have f2 : Frm [p] H2 (upd H2 p (.ins C0 dx [("_rounds", V.ref D1)])) := Frm.put (List.mem_singleton.mpr rfl)
    have p2 : (upd H2 p (.ins C0 dx [("_rounds", V.ref D1)])) p = some (.ins C0 dx [("_rounds", V.ref D1)]) := upd_same
    generalize upd H2 p (.ins C0 dx [("_rounds", V.ref D1)]) = G2 at *
    have c2 : Paired (CutsAt K G2) vs0 rs := pd_imp (fun v cs q => cuts_frm f2 hp2 (q.ext e2)) c1
    have t2 : G2 t = some (.tup vs0) := pd_frm f2 hp2 (e2 _ _ (e1 _ _ ht))
    refine ⟨_, rfl, t, vs0, rfl, .inr (SqT.of t2), fun J S wj hS D2 hD2 => lc_cuts (G := fun H a cs => H a = some (.tup [.int (colsF cs), .int (rowsF cs)])) wj hS c2 ok.l3 hD2 (fun _ _ _ _ e g => e _ _ g) (fun _ _ _ _ _ h n g => side_t h g) (fun x cs H Q hm hcs kk => ⟨_, rfl, x, cs, rfl, hcs, ok.h5 cs hm, ok.hc cs hm, fun l H' e n g => kk l H' e n g⟩) (fun H3 e3 ⟨as2, q1, q2⟩ => ?_)⟩
    have hp3 : H3 p = some (.ins C0 dx [("_rounds", V.ref D1)]) := e3 _ _ p2
    refine ⟨_, rfl, p, C0, dx, _, rfl, hp3, R.cl, R.nP, (by show 1 < 1000; decide), ?_⟩
    rw [put2]
    have f3 : Frm [p] H3 (upd H3 p (.ins C0 dx [("_rounds", V.ref D1), ("_parts", .ref D2)])) := Frm.put (List.mem_singleton.mpr rfl)
    have p3 : (upd H3 p (.ins C0 dx [("_rounds", V.ref D1), ("_parts", .ref D2)])) p = some (.ins C0 dx [("_rounds", V.ref D1), ("_parts", .ref D2)]) := upd_same
    generalize upd H3 p (.ins C0 dx [("_rounds", V.ref D1), ("_parts", .ref D2)]) = G3 at *
    have c3 : Paired (CutsAt K G3) vs0 rs := pd_imp (fun v cs q => cuts_frm f3 hp3 (q.ext e3)) c2
    have t3 : G3 t = some (.tup vs0) := pd_frm f3 hp3 (e3 _ _ t2)
    refine ⟨_, rfl, t, vs0, rfl, .inr (SqT.of t3), fun J S wj hS D3 hD3 => lc_cuts (G := fun H a cs => PairsAt H a (placesF cs)) wj hS c3 ok.l3 hD3 (fun _ _ _ _ e g => g.ext e) (fun _ _ _ _ _ h n g => side_prs h n g) (fun x cs H Q hm hcs kk => ⟨_, rfl, x, cs, rfl, hcs, ok.h5 cs hm, ok.hc cs hm, fun l H' e n g => kk l H' e n g⟩) (fun H4 e4 ⟨as3, s1, s2⟩ => ?_)⟩
    have hp4 : H4 p = some (.ins C0 dx [("_rounds", V.ref D1), ("_parts", .ref D2)]) := e4 _ _ p3
    refine ⟨_, rfl, p, C0, dx, _, rfl, hp4, R.cl, R.nL, (by show 2 < 1000; decide), ?_⟩
    rw [put3]
    have f4 : Frm [p] H4 (upd H4 p (.ins C0 dx (flP3 D1 D2 D3))) := Frm.put (List.mem_singleton.mpr rfl)
    have p4 : (upd H4 p (.ins C0 dx (flP3 D1 D2 D3))) p = some (.ins C0 dx (flP3 D1 D2 D3)) := upd_same
    generalize upd H4 p (.ins C0 dx (flP3 D1 D2 D3)) = G4 at *
    have q1' : G4 D2 = some (.lst (as2.map V.ref)) := ls_frm f4 hp4 (e4 _ _ (ls_frm f3 hp3 q1))
    have q2' : Paired (fun a (q : Pr) => G4 a = some (.tup [.int q.1, .int q.2])) as2 (partsF rs) := pd_map (fun a cs h => pd_frm f4 hp4 (e4 _ _ (pd_frm f3 hp3 h))) q2
    have pl : (partsF rs).length ≤ 1000 := by
      have := ok.l3
      rw [partsF, List.length_map]
      omega
    have pm := parts_small ok
    refine ⟨_, rfl, p, C0, dx, _, _, rfl, p4, R.cl, R.nP, rfl, D2, as2, partsF rs, rfl, .inl (SqL.of q1'), q2', pl, fun q hq => ⟨(pm q hq).1, (pm q hq).2.1⟩, fun t5 H5 e5 ht5 => ?_⟩
    have hp5 : H5 p = some (.ins C0 dx (flP3 D1 D2 D3)) := e5 _ _ p4
    refine .inr (.inl ⟨t5, _, 0, _, rfl, rfl, SqT.of ht5, rfl, _, rfl, p, C0, dx, _, rfl, hp5, R.cl, R.nG, (by show 3 < 1000; decide), ?_⟩)
    rw [put4]
    have f5 : Frm [p] H5 (upd H5 p (.ins C0 dx (flP D1 D2 D3 (mulF (partsF rs)).1))) := Frm.put (List.mem_singleton.mpr rfl)
    refine k _ ?_ ⟨dx, D1, D2, D3, _, upd_same, ⟨⟨as1, ?_, ?_⟩, ⟨as2, ?_, ?_⟩, ⟨as3, ?_, ?_⟩, rfl⟩⟩
    · exact (((((((Frm.ext e1).trans (Frm.ext e2)).trans f2).trans ((Frm.ext e3).trans f3)).trans (Frm.ext e4)).trans f4).trans (Frm.ext e5)).trans f5
    · exact ls_frm f5 hp5 (e5 _ _ (ls_frm f4 hp4 (e4 _ _ (ls_frm f3 hp3 (e3 _ _ (ls_frm f2 hp2 r1))))))
    · exact pd_imp (fun a cs g => cutsL_frm f5 hp5 ((cutsL_frm f4 hp4 ((cutsL_frm f3 hp3 ((cutsL_frm f2 hp2 g).ext e3)).ext e4)).ext e5)) r2
    · exact ls_frm f5 hp5 (e5 _ _ q1')
    · exact pd_imp (fun a q h => pd_frm f5 hp5 (e5 _ _ h)) q2'
    · exact ls_frm f5 hp5 (e5 _ _ (ls_frm f4 hp4 s1))
    · exact pd_imp (fun a cs g => prs_frm f5 hp5 ((prs_frm f4 hp4 g).ext e5)) s2
  · obtain ⟨p, dx, vs0, rs, rfl, hp, hr0, ok, k⟩ := h
    refine ⟨[.ref p], vs0, rfl, rfl, ?_, fun t ht => ?_⟩
    · have := ok.l3
      rw [pd_len hr0, sizeLine_eq]
      omega
    have e : Ext H (upd H t (.tup vs0)) := Ext.upd ht
    exact ⟨p, dx, t, vs0, rs, rfl, e _ _ hp, upd_same, pd_imp (fun v cs q => q.ext e) hr0, ok, fun H' f q => k H' ((Frm.new ht).trans f) q⟩

end
end Mc

set_option Elab.async false
set_option linter.all false
set_option maxRecDepth 100000
set_option maxHeartbeats 4000000
set_option exponentiation.threshold 20000
namespace Mc
open PySem PySem.Spec PyProof.Rows L2 ClX StX
section
variable {P : Program} {w : World} {K : PySem.W.Frag} {mg : Str → Option Value} {base : Heap} {f C0 aX : Addr} {mc : Value} {fd : FuncData}
theorem sc_Plan___len : FnScope ["self"] ["self"] (defScope s_Plan___len) := ⟨rfl, rfl, rfl, by decide +kernel, rfl, by decide +kernel, by decide +kernel⟩
def spLen (C0 : Addr) : Sp := fun vs H Q _ => ∃ (p : Addr) (rs : List (List Cut)), vs = [.ref p] ∧ PlanAt C0 H p rs ∧ Q (.int rs.length) H
theorem ok_Plan___len (F : FunD K "__len__" "Plan.__len__" (defArgs s_Plan___len) (defBody s_Plan___len) (defScope s_Plan___len) [] [] f fd) (T : TB mg) (R : PlanT K mg C0 aX mc) : FnOk P w K mg base CX0 1 f fd ["self"] (spLen C0) := by
  refine F.ok sc_Plan___len (fun vs H Q E h => ?_) (fun cdv A outer s H vs Q E hr h => ?_)
  · obtain ⟨p, rs, rfl, hp, k⟩ := h
    rfl
  · obtain ⟨p, rs, rfl, hp, k⟩ := h
    refine ⟨_, (PSs.nox (pss_one (ps_ret (pe_callB call_len_seq (by rfl) T.len PySem.boot_len (pa_cons (pe_fld (pv 0) rfl) pa_nil))))), ?_⟩
    obtain ⟨dx, lr, lp, ll, g, h1, h2⟩ := hp
    obtain ⟨as, r1, r2⟩ := h2.r
    refine ⟨_, rfl, p, C0, dx, _, _, rfl, h1, R.cl, R.nR, rfl, lr, _, rfl, .inl (SqL.of r1), ?_⟩
    rw [List.length_map, pd_len r2]
    exact k
theorem sc_check_phase : FnScope ["plan", "phase"] ["plan", "phase"] (defScope s_check_phase) := ⟨rfl, rfl, rfl, by decide +kernel, rfl, by decide +kernel, by decide +kernel⟩
def spPhaseOk (C0 : Addr) : Sp := fun vs H Q _ => ∃ (p : Addr) (rs : List (List Cut)) (i : Nat), vs = [.ref p, .int i] ∧ PlanAt C0 H p rs ∧ i < rs.length ∧ rs.length ≤ 3 ∧ Q .non H
theorem ok_check_phase (F : FunD K "check_phase" "check_phase" (defArgs s_check_phase) (defBody s_check_phase) (defScope s_check_phase) [] [] f fd) (T : TB mg) (R : PlanT K mg C0 aX mc) {fis_count_below : Addr} {fdis_count_below : FuncData} (Dis_count_below : Gd P w K mg base "is_count_below" 3 ["value", "bound"] (spBelow) fis_count_below fdis_count_below) {fLen : Addr} {fdLen : FuncData} (mLen : Meth K C0 "__len__" fLen) (Glen : FnOk P w K mg base CX0 1 fLen fdLen ["self"] (spLen C0)) (bLen : Binds K fdLen ["self"] []) : FnOk P w K mg base CX0 4 f fd ["plan", "phase"] (spPhaseOk C0) := by
  refine F.ok sc_check_phase (fun vs H Q E h => ?_) (fun cdv A outer s H vs Q E hr h => ?_)
  · obtain ⟨p, rs, i, rfl, hp, hi, h3, k⟩ := h
    rfl
  · obtain ⟨p, rs, i, rfl, hp, hi, h3, k⟩ := h
    refine ⟨_, (PSs.nox (pss_one (ps_if (pt_not (pt_val (pe_gd Dis_count_below hr (by decide) (by rfl) (pa_cons (pv 1) (pa_cons (pe_callB (call_lenO mLen Glen bLen (hr.mono (by decide))) (by rfl) T.len PySem.boot_len (pa_cons (pv 0) pa_nil)) pa_nil))))) (pss_one ps_never) pss_nil))), ?_⟩
    obtain ⟨dx, lr, lp, ll, g, h1, h2⟩ := id hp
    refine ⟨_, rfl, _, rfl, p, dx, _, rfl, h1, p, rs, rfl, hp, rs.length, rfl, by omega, ?_⟩
    exact ⟨_, _, rfl, by omega, by omega, _, rfl, iteF k⟩
theorem sc_Plan_phase : FnScope ["self", "f"] ["self", "f"] (defScope s_Plan_phase) := ⟨rfl, rfl, rfl, by decide +kernel, rfl, by decide +kernel, by decide +kernel⟩
def spPhase (C0 : Addr) : Sp := fun vs H Q _ => ∃ (p : Addr) (rs : List (List Cut)) (i : Nat), vs = [.ref p, .int i] ∧ PlanAt C0 H p rs ∧ 0 < rs.length ∧ i ≤ 1000 ∧ Q (.int ((i : Int) % (rs.length : Int))) H
theorem ok_Plan_phase (F : FunD K "phase" "Plan.phase" (defArgs s_Plan_phase) (defBody s_Plan_phase) (defScope s_Plan_phase) [] [] f fd) (T : TB mg) (R : PlanT K mg C0 aX mc) {fcheck_fineness : Addr} {fdcheck_fineness : FuncData} (Dcheck_fineness : Gd P w K mg base "check_fineness" 3 ["f"] (spFine) fcheck_fineness fdcheck_fineness) : FnOk P w K mg base CX0 4 f fd ["self", "f"] (spPhase C0) := by
  refine F.ok sc_Plan_phase (fun vs H Q E h => ?_) (fun cdv A outer s H vs Q E hr h => ?_)
  · obtain ⟨p, rs, i, rfl, hp, h0, h1000, k⟩ := h
    rfl
  · obtain ⟨p, rs, i, rfl, hp, h0, h1000, k⟩ := h
    refine ⟨_, (PSs.nox (pss_cons (ps_expr (pe_gd Dcheck_fineness hr (by decide) (by rfl) (pa_cons (pv 1) pa_nil)))
      (pss_one (ps_ret (pe_op op_mod (pv 1) (pe_callB call_len_seq (by rfl) T.len PySem.boot_len (pa_cons (pe_fld (pv 0) rfl) pa_nil))))))), ?_⟩
    obtain ⟨dx, lr, lp, ll, g, h1, h2⟩ := id hp
    obtain ⟨as, r1, r2⟩ := h2.r
    refine ⟨_, rfl, i, rfl, by omega, by omega, ?_⟩
    refine ⟨_, rfl, _, rfl, p, C0, dx, _, _, rfl, h1, R.cl, R.nR, rfl, lr, _, rfl, .inl (SqL.of r1), _, _, rfl, rfl, ?_, ?_⟩
    · rw [List.length_map, pd_len r2]
      show (0 : Int) < (rs.length : Int)
      omega
    · rw [List.length_map, pd_len r2]
      exact k
theorem sc_Plan_signs : FnScope ["self", "phase"] ["self", "phase"] (defScope s_Plan_signs) := ⟨rfl, rfl, rfl, by decide +kernel, rfl, by decide +kernel, by decide +kernel⟩
theorem pd_get2 {α β : Type} {F : α → β → Prop} : ∀ {l : List α} {m : List β}, Paired F l m → ∀ (i : Nat) (b : β), m[i]? = some b → ∃ a, l[i]? = some a ∧ F a b
  | _, _, .nil, i, a, h => by simp at h
  | _, _, .cons r t, 0, a, h => ⟨_, rfl, by cases h; exact r⟩
  | _, _, .cons r t, i + 1, a, h => pd_get2 t i a h
def spSigns (C0 : Addr) : Sp := fun vs H Q _ => ∃ (p : Addr) (rs : List (List Cut)) (i : Nat) (cs : List Cut), vs = [.ref p, .int i] ∧ PlanAt C0 H p rs ∧ rs[i]? = some cs ∧ rs.length ≤ 3 ∧ Q (.int (placesF cs).length) H
theorem ok_Plan_signs (F : FunD K "signs" "Plan.signs" (defArgs s_Plan_signs) (defBody s_Plan_signs) (defScope s_Plan_signs) [] [] f fd) (T : TB mg) (R : PlanT K mg C0 aX mc) {fcheck_phase : Addr} {fdcheck_phase : FuncData} (Dcheck_phase : Gd P w K mg base "check_phase" 4 ["plan", "phase"] (spPhaseOk C0) fcheck_phase fdcheck_phase) : FnOk P w K mg base CX0 5 f fd ["self", "phase"] (spSigns C0) := by
  refine F.ok sc_Plan_signs (fun vs H Q E h => ?_) (fun cdv A outer s H vs Q E hr h => ?_)
  · obtain ⟨p, rs, i, cs, rfl, hp, hi, h3, k⟩ := h
    rfl
  · obtain ⟨p, rs, i, cs, rfl, hp, hi, h3, k⟩ := h
    refine ⟨_, (PSs.nox (pss_cons (ps_expr (pe_gd Dcheck_phase hr (by decide) (by rfl) (pa_cons (pv 0) (pa_cons (pv 1) pa_nil))))
      (pss_one (ps_ret (pe_callB call_len_seq (by rfl) T.len PySem.boot_len (pa_cons (pe_ix ix_seq (pe_fld (pv 0) rfl) (pv 1) (fun _ _ => rfl)) pa_nil)))))), ?_⟩
    obtain ⟨dx, lr, lp, ll, g, h1, h2⟩ := id hp
    obtain ⟨as, l1, l2⟩ := h2.l
    have hl := (List.getElem?_eq_some_iff.mp hi).1
    obtain ⟨a, hai, ha⟩ := pd_get2 l2 i cs hi
    obtain ⟨bs, b1, b2⟩ := id ha
    refine ⟨_, rfl, _, rfl, p, rs, i, rfl, hp, hl, h3, ?_⟩
    refine ⟨_, rfl, p, C0, dx, _, _, rfl, h1, R.cl, R.nL, rfl, _, rfl, .inl ⟨ll, _, _, _, rfl, rfl, SqL.of l1, atI_nat (by rw [List.getElem?_map, hai]; rfl), a, _, rfl, .inl (SqL.of b1), ?_⟩⟩
    rw [List.length_map, pd_len b2]
    exact k
end
end Mc

set_option Elab.async false
set_option linter.all false
set_option maxRecDepth 100000
set_option maxHeartbeats 4000000
set_option exponentiation.threshold 20000
namespace Mc
open PySem PySem.Spec PyProof.Rows L2 ClX StX
section
variable {P : Program} {w : World} {K : PySem.W.Frag} {mg : Str → Option Value} {base : Heap} {f C0 aX : Addr} {mc : Value} {fd : FuncData}
theorem sc_Plan_parts : FnScope ["self", "phase"] ["self", "phase"] (defScope s_Plan_parts) := ⟨rfl, rfl, rfl, by decide +kernel, rfl, by decide +kernel, by decide +kernel⟩
def spPartsM (C0 : Addr) : Sp := fun vs H Q _ => ∃ (p : Addr) (rs : List (List Cut)) (i : Nat) (cs : List Cut), vs = [.ref p, .int i] ∧ PlanAt C0 H p rs ∧ rs[i]? = some cs ∧ rs.length ≤ 3 ∧
  ∀ a, H a = some (.tup [.int (colsF cs), .int (rowsF cs)]) → Q (.ref a) H
theorem ok_Plan_parts (F : FunD K "parts" "Plan.parts" (defArgs s_Plan_parts) (defBody s_Plan_parts) (defScope s_Plan_parts) [] [] f fd) (T : TB mg) (R : PlanT K mg C0 aX mc) {fcheck_phase : Addr} {fdcheck_phase : FuncData} (Dcheck_phase : Gd P w K mg base "check_phase" 4 ["plan", "phase"] (spPhaseOk C0) fcheck_phase fdcheck_phase) : FnOk P w K mg base CX0 5 f fd ["self", "phase"] (spPartsM C0) := by
  refine F.ok sc_Plan_parts (fun vs H Q E h => ?_) (fun cdv A outer s H vs Q E hr h => ?_)
  · obtain ⟨p, rs, i, cs, rfl, hp, hi, h3, k⟩ := h
    rfl
  · obtain ⟨p, rs, i, cs, rfl, hp, hi, h3, k⟩ := h
    refine ⟨_, (PSs.nox (pss_cons (ps_expr (pe_gd Dcheck_phase hr (by decide) (by rfl) (pa_cons (pv 0) (pa_cons (pv 1) pa_nil))))
      (pss_one (ps_ret (pe_ix ix_seq (pe_fld (pv 0) rfl) (pv 1) (fun _ _ => rfl)))))), ?_⟩
    obtain ⟨dx, lr, lp, ll, g, h1, h2⟩ := id hp
    obtain ⟨as, l1, l2⟩ := h2.p
    have hl := (List.getElem?_eq_some_iff.mp hi).1
    have hi2 : (partsF rs)[i]? = some ((colsF cs : Int), (rowsF cs : Int)) := by
      unfold partsF
      rw [List.getElem?_map, hi]
      rfl
    obtain ⟨a, hai, ha⟩ := pd_get2 l2 i _ hi2
    refine ⟨_, rfl, _, rfl, p, rs, i, rfl, hp, hl, h3, ?_⟩
    exact ⟨_, rfl, p, C0, dx, _, _, rfl, h1, R.cl, R.nP, rfl, _, rfl, .inl ⟨lp, _, _, _, rfl, rfl, SqL.of l1, atI_nat (by rw [List.getElem?_map, hai]; rfl), k a ha⟩⟩
def spSignOk (C0 : Addr) : Sp := fun vs H Q _ => ∃ (p : Addr) (rs : List (List Cut)) (i : Nat) (cs : List Cut) (z : Nat), vs = [.ref p, .int i, .int z] ∧ PlanAt C0 H p rs ∧ rs[i]? = some cs ∧ rs.length ≤ 3 ∧ z < (placesF cs).length ∧ Q .non H

def spPlaceOf (C0 : Addr) : Sp := fun vs H Q _ => ∃ (p : Addr) (rs : List (List Cut)) (i : Nat) (cs : List Cut) (z : Nat) (q : Pr), vs = [.ref p, .int i, .int z] ∧ PlanAt C0 H p rs ∧ rs[i]? = some cs ∧ rs.length ≤ 3 ∧ (placesF cs)[z]? = some q ∧
  ∀ a, H a = some (.tup [.int q.1, .int q.2]) → Q (.ref a) H

theorem sc_Plan_growth : FnScope ["self"] ["self"] (defScope s_Plan_growth) := ⟨rfl, rfl, rfl, by decide +kernel, rfl, by decide +kernel, by decide +kernel⟩
def spGrowth (C0 : Addr) : Sp := fun vs H Q _ => ∃ (p : Addr) (rs : List (List Cut)), vs = [.ref p] ∧ PlanAt C0 H p rs ∧ Q (.int (mulF (partsF rs)).1) H
theorem ok_Plan_growth (F : FunD K "growth" "Plan.growth" (defArgs s_Plan_growth) (defBody s_Plan_growth) (defScope s_Plan_growth) [] [] f fd) (T : TB mg) (R : PlanT K mg C0 aX mc) : FnOk P w K mg base CX0 1 f fd ["self"] (spGrowth C0) := by
  refine F.ok sc_Plan_growth (fun vs H Q E h => ?_) (fun cdv A outer s H vs Q E hr h => ?_)
  · obtain ⟨p, rs, rfl, hp, k⟩ := h
    rfl
  · obtain ⟨p, rs, rfl, hp, k⟩ := h
    refine ⟨_, (PSs.nox (pss_one (ps_ret (pe_fld (pv 0) rfl)))), ?_⟩
    obtain ⟨dx, lr, lp, ll, g, h1, h2⟩ := hp
    have hg := h2.g
    subst hg
    exact ⟨_, rfl, p, C0, dx, _, _, rfl, h1, R.cl, R.nG, rfl, k⟩
end
end Mc

set_option Elab.async false
set_option linter.all false
set_option maxRecDepth 100000
set_option maxHeartbeats 4000000
set_option exponentiation.threshold 20000
namespace Mc
open PySem PySem.Spec PyProof.Rows L2 ClX StX
section
variable {P : Program} {w : World} {K : PySem.W.Frag} {mg : Str → Option Value} {base : Heap} {f C0 aX : Addr} {mc : Value} {fd : FuncData}
theorem sc_Plan_rounds : FnScope ["self", "cuts"] ["self"] (defScope s_Plan_rounds) := ⟨rfl, rfl, rfl, by decide +kernel, rfl, by decide +kernel, by decide +kernel⟩
theorem call_listK {X : Cx} {K : PySem.W.Frag} (hK : X.K = K) : CallR X (.type "list") (fun xs H Q => ∃ p ys, xs = [.ref p] ∧ (SqL K H p ys ∨ SqT K H p ys) ∧ ∀ l, H l = none → Q (.ref l) (upd H l (.lst ys))) := by
  subst hK
  exact call_list_of
def spRounds (C0 : Addr) : Sp := fun vs H Q _ => ∃ (p : Addr) (rs : List (List Cut)), vs = [.ref p] ∧ PlanAt C0 H p rs ∧ rs.length ≤ 3 ∧
  ∀ l as H', Ext H H' → H l = none → (∀ a ∈ as, H a = none) → as.Nodup → l ∉ as → H' l = some (.lst (as.map V.ref)) → Paired (CutsL H') as rs → Q (.ref l) H'
theorem ok_Plan_rounds (F : FunD K "rounds" "Plan.rounds" (defArgs s_Plan_rounds) (defBody s_Plan_rounds) (defScope s_Plan_rounds) [] [] f fd) (T : TB mg) (R : PlanT K mg C0 aX mc) : FnOk P w K mg base CX0 1 f fd ["self"] (spRounds C0) := by
  refine F.ok sc_Plan_rounds (fun vs H Q E h => ?_) (fun cdv A outer s H vs Q E hr h => ?_)
  · obtain ⟨p, rs, rfl, hp, h3, k⟩ := h
    rfl
  · obtain ⟨p, rs, rfl, hp, h3, k⟩ := h
    refine ⟨_, (PSs.nox (pss_one (ps_ret (pe_lc (own := [("cuts", 1)]) (g := gName 1) (tt := tYes) rfl sc_Plan_rounds.nd (pi_list (pe_fld (pv 0) rfl)) (blkOk_by (own := [("cuts", 1)]) (N := ["self", "cuts"]) (sc := defScope s_Plan_rounds) (by decide +kernel)) (fun _ _ _ _ _ => (pg_name (i := 1) sc_Plan_rounds.nd rfl (.inl rfl))) (fun _ _ _ _ _ => pts_nil) (fun _ _ _ _ _ => (pe_callTy (call_listK (K := K) rfl) (by rfl) T.list (by decide +kernel) (pa_cons (pv 1) pa_nil))))))), ?_⟩
    obtain ⟨dx, lr, lp, ll, g, h1, h2⟩ := id hp
    obtain ⟨as, r1, r2⟩ := h2.r
    refine ⟨_, rfl, p, C0, dx, _, _, rfl, h1, R.cl, R.nR, rfl, lr, rfl, ⟨_, SqL.of r1⟩, fun D hD => lc_walk walk_l (fun i H' => ∃ ds : List Addr, H' D = some (.lst (ds.map V.ref)) ∧ Paired (fun a cs => CutsL H' a cs ∧ a ≠ D) ds (rs.take i) ∧ ds.Nodup ∧ (∀ a ∈ ds, H a = none) ∧ Ext H H') ⟨[], upd_same, .nil, List.nodup_nil, (fun _ h => nomatch h), Ext.upd hD⟩ (fun _ _ ⟨_, _, _, _, _, e⟩ => SqL.of (e _ _ r1)) ?_ ?_⟩
    · rintro i x H' hx ⟨ds, d1, d2, d3, d4, e⟩
      obtain ⟨a, rfl, cs, hci, bs, b1, b2⟩ := refs_get r2 hx
      refine ⟨rfl, lc_yes ⟨_, rfl, a, _, rfl, .inl (SqL.of (e _ _ b1)), fun l hl => ?_⟩⟩
      have nlD : l ≠ D := fun z => by
        rw [z, d1] at hl
        cases hl
      have hlH : H l = none := none_of e hl
      have e2 : Ext H' (upd H' l (.lst (bs.map V.ref))) := Ext.upd hl
      have nlds : l ∉ ds := fun hm => by
        obtain ⟨j, hj⟩ := List.getElem?_of_mem hm
        obtain ⟨cs2, _, ⟨_, q1, _⟩, _⟩ := pd_get d2 j l hj
        rw [q1] at hl
        cases hl
      refine ⟨_, e2 _ _ d1, ?_, ds ++ [l], ?_, ?_, ?_, ?_, ext_put (e.trans e2) hD⟩
      · rw [List.length_map, pd_len d2, List.length_take, sizeLine_eq]
        omega
      · rw [upd_same, List.map_append]
        rfl
      · rw [take_snoc hci]
        refine pd_snoc (pd_imp (fun b c q => ⟨side_cuts (e2 _ _ d1) q.2 (q.1.ext e2), q.2⟩) d2) ⟨side_cuts (e2 _ _ d1) nlD ⟨bs, upd_same, pd_imp (fun b c q => e2 _ _ (e _ _ q)) b2⟩, nlD⟩
      · exact List.nodup_append.mpr ⟨d3, List.nodup_cons.mpr ⟨(fun h => nomatch h), List.nodup_nil⟩, fun b hb c hc z => by
          rw [List.mem_singleton.mp hc] at z
          exact nlds (z ▸ hb)⟩
      · intro b hb
        rcases List.mem_append.mp hb with hb | hb
        · exact d4 b hb
        · rw [List.mem_singleton.mp hb]
          exact hlH
    · rintro H' ⟨ds, d1, d2, d3, d4, e⟩
      rw [List.length_map, pd_len r2, List.take_length] at d2
      refine k D ds H' e hD d4 d3 (fun hm => ?_) d1 (pd_imp (fun _ _ q => q.1) d2)
      obtain ⟨j, hj⟩ := List.getElem?_of_mem hm
      obtain ⟨_, _, _, q⟩ := pd_get d2 j D hj
      exact q rfl
end
end Mc

set_option Elab.async false
set_option linter.all false
set_option maxRecDepth 100000
set_option maxHeartbeats 4000000
set_option exponentiation.threshold 20000
namespace Mc
open PySem PySem.Spec PyProof.Rows L2 ClX StX
section
variable {P : Program} {w : World} {K : PySem.W.Frag} {mg : Str → Option Value} {base : Heap} {f C0 aX : Addr} {mc : Value} {fd : FuncData}
theorem sc_counts_at : FnScope ["plan", "f", "turns", "rest", "columns", "rows", "many", "phase"] ["plan", "f"] (defScope s_counts_at) := ⟨rfl, rfl, rfl, by decide +kernel, rfl, by decide +kernel, by decide +kernel⟩
theorem cut_take (xs : List V) {n : Nat} (h : n ≤ xs.length) : L2.cutV xs Option.none (some ((n : Nat) : Int)) = xs.take n := by
  unfold L2.cutV
  rw [HT.sIx_none, HT.sIx_nat, List.drop_zero, Nat.sub_zero, Nat.min_eq_left h]
theorem pd_take {α β : Type} {F : α → β → Prop} : ∀ (n : Nat) {l : List α} {m : List β}, Paired F l m → Paired F (l.take n) (m.take n)
  | 0, _, _, _ => .nil
  | n + 1, _, _, .nil => .nil
  | n + 1, _, _, .cons r t => .cons r (pd_take n t)
theorem mul_32 {rs : List (List Cut)} (ok : OkR rs) (ps : List Pr) (hs : ∀ q ∈ ps, q ∈ partsF rs) (l3 : ps.length ≤ 3) : (mulF ps).1.natAbs ≤ 32 ^ 3 ∧ (mulF ps).2.natAbs ≤ 32 ^ 3 := by
  have each : ∀ q ∈ ps, q.1.natAbs ≤ 32 ∧ q.2.natAbs ≤ 32 := fun q hq => by
    obtain ⟨cs, hm, rfl⟩ := List.mem_map.mp (hs q hq)
    have h1 := ok.h32 cs hm
    have h2 := pos_cols (ok.hc cs hm)
    have h3 := Nat.le_mul_of_pos_right (colsF cs) h2.2
    have h4 := Nat.le_mul_of_pos_left (rowsF cs) h2.1
    exact ⟨by show ((colsF cs : Int)).natAbs ≤ 32; omega, by show ((rowsF cs : Int)).natAbs ≤ 32; omega⟩
  have m32 : ∀ {x y : Int} {n : Nat}, x.natAbs ≤ n → y.natAbs ≤ 32 → (x * y).natAbs ≤ n * 32 := fun a b => by
    rw [Int.natAbs_mul]
    exact Nat.mul_le_mul a b
  match ps, l3, each with
  | [], _, _ => exact ⟨by decide, by decide⟩
  | [a], _, e => exact ⟨Nat.le_trans (m32 (n := 1) (Nat.le_refl 1) (e a (by simp)).1) (by decide), Nat.le_trans (m32 (n := 1) (Nat.le_refl 1) (e a (by simp)).2) (by decide)⟩
  | [a, b], _, e => exact ⟨Nat.le_trans (m32 (m32 (n := 1) (Nat.le_refl 1) (e a (by simp)).1) (e b (by simp)).1) (by decide), Nat.le_trans (m32 (m32 (n := 1) (Nat.le_refl 1) (e a (by simp)).2) (e b (by simp)).2) (by decide)⟩
  | [a, b, c], _, e => exact ⟨Nat.le_trans (m32 (m32 (m32 (n := 1) (Nat.le_refl 1) (e a (by simp)).1) (e b (by simp)).1) (e c (by simp)).1) (by decide), Nat.le_trans (m32 (m32 (m32 (n := 1) (Nat.le_refl 1) (e a (by simp)).2) (e b (by simp)).2) (e c (by simp)).2) (by decide)⟩
/-- columns and rows of the first i signs -/
def countsF (rs : List (List Cut)) (i : Nat) : Pr :=
  let q := mulF ((partsF rs).take (i % rs.length))
  (q.1 * (mulF (partsF rs)).1 ^ (i / rs.length), q.2 * (mulF (partsF rs)).1 ^ (i / rs.length))
def spCounts (C0 : Addr) : Sp := fun vs H Q _ => ∃ (p : Addr) (rs : List (List Cut)) (i : Nat), vs = [.ref p, .int i] ∧ PlanAt C0 H p rs ∧ OkR rs ∧ i ≤ 1000 ∧
  ∀ t H', Ext H H' → H' t = some (.tup [.int (countsF rs i).1, .int (countsF rs i).2]) → Q (.ref t) H'
theorem ok_counts_at (F : FunD K "counts_at" "counts_at" (defArgs s_counts_at) (defBody s_counts_at) (defScope s_counts_at) [] [] f fd) (T : TB mg) (R : PlanT K mg C0 aX mc) {fLen : Addr} {fdLen : FuncData} (mLen : Meth K C0 "__len__" fLen) (Glen : FnOk P w K mg base CX0 1 fLen fdLen ["self"] (spLen C0)) (bLen : Binds K fdLen ["self"] []) {fPa : Addr} {fdPa : FuncData} (mPa : Meth K C0 "parts" fPa) (Gpa : FnOk P w K mg base CX0 5 fPa fdPa ["self", "phase"] (spPartsM C0)) (bPa : Binds K fdPa ["self", "phase"] []) {pgr fGr : Addr} {fdGr : FuncData} (pGr : PropOf K C0 "growth" pgr fGr) (Ggr : FnOk P w K mg base CX0 1 fGr fdGr ["self"] (spGrowth C0)) (bGr : Binds K fdGr ["self"] []) {fmultiplied : Addr} {fdmultiplied : FuncData} (Dmultiplied : Gd P w K mg base "_multiplied" 1 ["all_parts"] (spMul K) fmultiplied fdmultiplied) {fpower : Addr} {fdpower : FuncData} (Dpower : Gd P w K mg base "_power" 1 ["base", "exponent"] (spPower) fpower fdpower) : FnOk P w K mg base CX0 6 f fd ["plan", "f"] (spCounts C0) := by
  refine F.ok sc_counts_at (fun vs H Q E h => ?_) (fun cdv A outer s H vs Q E hr h => ?_)
  · obtain ⟨p, rs, i, rfl, hp, ok, h1000, k⟩ := h
    rfl
  · obtain ⟨p, rs, i, rfl, hp, ok, h1000, k⟩ := h
    refine ⟨_, (PSs.nox (pss_cons (ps_asg (pe_callB call_divmodW (by rfl) T.divmod (by decide +kernel) (pa_cons (pv 1) (pa_cons (pe_callB (call_lenO mLen Glen bLen (hr.mono (by decide))) (by rfl) T.len PySem.boot_len (pa_cons (pv 0) pa_nil)) pa_nil))) (pg_tup rfl (pgs_cons (pg_name (i := 2) sc_counts_at.nd rfl (.inl rfl)) (pgs_cons (pg_name (i := 3) sc_counts_at.nd rfl (.inl rfl)) pgs_nil))))
      (pss_cons (ps_asg (pe_gd Dmultiplied hr (by decide) (by rfl) (pa_cons (pe_lc (own := [("phase", 7)]) (g := gName 7) (tt := tYes) rfl sc_counts_at.nd (pi_range1 (by rfl) T.range (pa_cons (pv 3) pa_nil)) (blkOk_by (own := [("phase", 7)]) (N := ["plan", "f", "turns", "rest", "columns", "rows", "many", "phase"]) (sc := defScope s_counts_at) (by decide +kernel)) (fun _ _ _ _ _ => (pg_name (i := 7) sc_counts_at.nd rfl (.inl rfl))) (fun _ _ _ _ _ => pts_nil) (fun _ _ _ _ _ => (pe_meth (pv 0) R.cl mPa Gpa (hr.mono (by decide)) bPa .nil pass0 (pa_cons (pv 7) pa_nil)))) pa_nil)) (pg_tup rfl (pgs_cons (pg_name (i := 4) sc_counts_at.nd rfl (.inl rfl)) (pgs_cons (pg_name (i := 5) sc_counts_at.nd rfl (.inl rfl)) pgs_nil))))
      (pss_cons (ps_set (i := 6) sc_counts_at.nd rfl (.inl rfl) (pe_gd Dpower hr (by decide) (by rfl) (pa_cons (pe_prop (pv 0) R.cl pGr Ggr (hr.mono (by decide)) bGr .nil pass0 rfl) (pa_cons (pv 2) pa_nil))))
      (pss_one (ps_ret (pe_tup (pa_cons (pe_op op_mulW (pv 4) (pv 6)) (pa_cons (pe_op op_mulW (pv 5) (pv 6)) pa_nil))))))))), ?_⟩
    obtain ⟨dx, lr, lp, ll, g, h1, h2⟩ := id hp
    obtain ⟨ps, q1, q2⟩ := h2.p
    have n3 := ok.l3
    have n1 := ok.l1
    refine ⟨_, rfl, _, rfl, p, dx, _, rfl, h1, p, rs, rfl, hp, rs.length, rfl, by omega, ?_⟩
    obtain ⟨m, hmd⟩ : ∃ m : Nat, m = i % rs.length := ⟨_, rfl⟩
    obtain ⟨d, hd⟩ : ∃ d : Nat, d = i / rs.length := ⟨_, rfl⟩
    have em : (i : Int) % (rs.length : Int) = (m : Int) := by rw [hmd]; rfl
    have ed : (i : Int) / (rs.length : Int) = (d : Int) := by rw [hd]; rfl
    have hm : m < rs.length := by rw [hmd]; exact Nat.mod_lt i n1
    refine ⟨(i : Int), (rs.length : Int), rfl, plain_div _ (by omega) (len_log (by omega)), fun t ht => ?_⟩
    have e1 : Ext H (upd H t (.tup [.int ((i : Int) / (rs.length : Int)), .int ((i : Int) % (rs.length : Int))])) := Ext.upd ht
    have hT : (upd H t (.tup [.int ((i : Int) / (rs.length : Int)), .int ((i : Int) % (rs.length : Int))])) t = some (.tup [.int d, .int m]) := by rw [upd_same, em, ed]
    generalize upd H t (.tup [.int ((i : Int) / (rs.length : Int)), .int ((i : Int) % (rs.length : Int))]) = H1 at *
    refine ⟨t, _, rfl, SqT.of hT, rfl, _, _, rfl, _, _, rfl, rfl, ?_⟩
    have pm := parts_small ok
    refine ⟨_, rfl, (m : Int), rfl, by omega, by omega, fun D hD => lc_walk (walk_r (lo := 0)) (fun j H' => ∃ ds : List Addr, H' D = some (.lst (ds.map V.ref)) ∧ Paired (fun a (q : Pr) => H' a = some (.tup [.int q.1, .int q.2])) ds ((partsF rs).take j) ∧ Ext H1 H') ⟨[], upd_same, .nil, Ext.upd hD⟩ (fun _ _ _ => trivial) ?_ ?_⟩
    · rintro j x H' hx ⟨ds, d1, d2, e⟩
      have hj : j < m := by
        have := (List.getElem?_eq_some_iff.mp hx).1
        simpa using this
      have hx5 : x = .int (j : Nat) := by
        rw [List.getElem?_map, List.getElem?_range (by simpa using hj)] at hx
        have := Option.some.inj hx
        rw [← this]
        show V.int (0 + (j : Int)) = V.int (j : Int)
        rw [Int.zero_add]
      subst hx5
      have hjl : j < rs.length := by omega
      have hci : rs[j]? = some rs[j] := List.getElem?_eq_getElem hjl
      have hpi : (partsF rs)[j]? = some ((colsF rs[j] : Int), (rowsF rs[j] : Int)) := by
        unfold partsF
        rw [List.getElem?_map, hci]
        rfl
      have hp' := hp.ext (e1.trans e)
      refine ⟨rfl, lc_yes ⟨_, rfl, p, dx, _, rfl, e _ _ (e1 _ _ h1), rfl, _, rfl, p, rs, j, rs[j], rfl, hp', hci, n3, fun a ha => ?_⟩⟩
      have naD : a ≠ D := fun z => by
        rw [z, d1] at ha
        cases ha
      refine ⟨_, d1, ?_, ds ++ [a], ?_, ?_, ext_put e hD⟩
      · rw [List.length_map, pd_len d2, List.length_take, partsF, List.length_map, sizeLine_eq]
        omega
      · rw [upd_same, List.map_append]
        rfl
      · rw [take_snoc hpi]
        refine pd_snoc (pd_imp (fun b q hq => side_t d1 hq) d2) (side_t d1 ha)
    rintro H2 ⟨ds, d1, d2, e2⟩
    have el : (List.map (fun k : Nat => V.int (0 + (k : Int))) (List.range ((m : Int)).toNat)).length = m := by simp
    rw [el] at d2
    refine ⟨D, ds, (partsF rs).take (m), rfl, .inl (SqL.of d1), d2, by rw [List.length_take, partsF, List.length_map]; omega, fun q hq => ⟨(pm q (List.mem_of_mem_take hq)).1, (pm q (List.mem_of_mem_take hq)).2.1⟩, fun t2 H3 e3 ht2 => ?_⟩
    have e13 := (e1.trans e2).trans e3
    refine ⟨t2, _, rfl, SqT.of ht2, rfl, _, _, rfl, _, _, rfl, rfl, ?_⟩
    have hg : ((mulF (partsF rs)).1).natAbs ≤ 32 ^ 3 := (mul_32 ok (partsF rs) (fun q h => h) (by rw [partsF, List.length_map]; exact n3)).1
    have hq3 := mul_32 ok ((partsF rs).take (m)) (fun q h => List.mem_of_mem_take h) (by rw [List.length_take, partsF, List.length_map]; omega)
    have hdv : d ≤ 1000 := by rw [hd]; exact Nat.le_trans (Nat.div_le_self _ _) h1000
    refine ⟨_, rfl, p, dx, _, rfl, e13 _ _ h1, p, rs, rfl, hp.ext e13, _, rfl, _, d, rfl, Nat.lt_of_le_of_lt hg (by decide), hdv, ?_⟩
    have hpw : ((mulF (partsF rs)).1 ^ (d)).natAbs < 2 ^ 15001 := by
      rw [Int.natAbs_pow]
      refine Nat.lt_of_le_of_lt (Nat.pow_le_pow_left hg _) ?_
      rw [show 32 ^ 3 = 2 ^ 15 from rfl, ← Nat.pow_mul]
      exact Nat.pow_lt_pow_right (by decide) (by omega)
    have b1 : (mulF ((partsF rs).take (m))).1.natAbs < 2 ^ 16 := Nat.lt_of_le_of_lt hq3.1 (by decide)
    have b2 : (mulF ((partsF rs).take (m))).2.natAbs < 2 ^ 16 := Nat.lt_of_le_of_lt hq3.2 (by decide)
    refine ⟨_, rfl, _, rfl, _, _, rfl, rfl, mulW b1 hpw, _, rfl, _, rfl, _, _, rfl, rfl, mulW b2 hpw, (by show 2 ≤ sizeLine; decide), fun t4 ht4 => ?_⟩
    refine k t4 _ (e13.trans (Ext.upd ht4)) ?_
    rw [upd_same]
    unfold countsF
    rw [← hmd, ← hd]

end
end Mc

set_option Elab.async false
set_option linter.all false
set_option maxRecDepth 100000
set_option maxHeartbeats 4000000
set_option exponentiation.threshold 20000
namespace Mc
open PySem PySem.Spec PyProof.Rows L2 ClX StX
open RZ
section
variable {P : Program} {w : World} {K : PySem.W.Frag} {mg : Str → Option Value} {base : Heap} {f C0 aX : Addr} {mc : Value} {fd : FuncData}
theorem sc_check_pair : FnScope ["pair", "parts", "number", "many"] ["pair", "parts"] (defScope s_check_pair) := ⟨rfl, rfl, rfl, by decide +kernel, rfl, by decide +kernel, by decide +kernel⟩
theorem lc_zipT {K : PySem.W.Frag} {a b : Addr} {xs ys : List V} {g : TG} {tt : TT} {te : TE} {vs : List Nat} {σ : L2.St} {H1 : Hp} {D : Addr} {Qd : Hp → Prop} (hl : xs.length = ys.length) (Pv : Nat → Hp → Prop) (h0 : Pv 0 (upd H1 D (.lst []))) (hS : ∀ i H, Pv i H → SqT K H a xs ∧ SqT K H b ys)
    (hs : ∀ i x y T H, xs[i]? = some x → ys[i]? = some y → H T = none → Pv i H → g (.ref T) (wipe σ vs) (upd H T (.tup [x, y])) fun σ2 H2 => wipe σ2 vs = wipe σ vs ∧ tt σ2 H2 fun b H3 => if b = true then te σ2 H3 fun y H4 => ∃ acc, H4 D = some (.lst acc) ∧ acc.length < sizeLine ∧ Pv (i + 1) (upd H4 D (.lst (acc ++ [y]))) else Pv (i + 1) H3) (hd : ∀ H, Pv xs.length H → Qd H) : ∃ W : Nat → Nat → Hp → Prop, (∃ m, W 0 m (upd H1 D (.lst []))) ∧ ∀ i m H, W i m H →
      ((ItzT K a b).stop i H ∧ Qd H) ∨ ((ItzT K a b).go i H ∧ ∃ Nx : Hp → Prop, (∀ H', Nx H' → ∃ m', m' < m ∧ W (i + 1) m' H') ∧ ∀ x H', (ItzT K a b).yld i H x H' → g x (wipe σ vs) H' fun σ2 H2 => wipe σ2 vs = wipe σ vs ∧ tt σ2 H2 fun b H3 => if b = true then te σ2 H3 fun y H4 => ∃ acc, H4 D = some (.lst acc) ∧ acc.length < sizeLine ∧ Nx (upd H4 D (.lst (acc ++ [y]))) else Nx H3) := by
  refine ⟨fun i m H => i + m = xs.length ∧ Pv i H, ⟨xs.length, Nat.zero_add _, h0⟩, fun i m H ⟨hm, p⟩ => ?_⟩
  obtain ⟨s1, s2⟩ := hS i H p
  rcases Nat.eq_zero_or_pos m with z | z
  · have e : i = xs.length := by omega
    exact .inl ⟨⟨xs, ys, s1, s2, .inl (Nat.le_of_eq e.symm)⟩, hd H (e ▸ p)⟩
  · have lt : i < xs.length := by omega
    refine .inr ⟨⟨xs, ys, xs[i], ys[i]'(hl ▸ lt), s1, s2, List.getElem?_eq_getElem lt, List.getElem?_eq_getElem _⟩, Pv (i + 1), fun _ q => ⟨m - 1, by omega, by omega, q⟩, ?_⟩
    rintro v H' ⟨T, x, y, rfl, hT, rfl, hx, hy⟩
    exact hs i x y T H (hx xs s1) (hy ys s2) hT p
def spPairOk : Sp := fun vs H Q _ => ∃ (a b : Addr) (x y c r : Int), vs = [.ref a, .ref b] ∧ H a = some (.tup [.int x, .int y]) ∧ H b = some (.tup [.int c, .int r]) ∧ x ≥ 0 ∧ x < c ∧ y ≥ 0 ∧ y < r ∧ ∀ H', Ext H H' → Q .non H'
theorem ok_check_pair (F : FunD K "check_pair" "check_pair" (defArgs s_check_pair) (defBody s_check_pair) (defScope s_check_pair) [] [] f fd) (T : TB mg) (R : PlanT K mg C0 aX mc) {fis_tuple_of : Addr} {fdis_tuple_of : FuncData} (Dis_tuple_of : Gd P w K mg base "is_tuple_of" 1 ["value", "many"] (spTupOf) fis_tuple_of fdis_tuple_of) {fis_count_below : Addr} {fdis_count_below : FuncData} (Dis_count_below : Gd P w K mg base "is_count_below" 3 ["value", "bound"] (spBelow) fis_count_below fdis_count_below) : FnOk P w K mg base CX0 4 f fd ["pair", "parts"] (spPairOk) := by
  refine F.ok sc_check_pair (fun vs H Q E h => ?_) (fun cdv A outer s H vs Q E hr h => ?_)
  · obtain ⟨a, b, x, y, c, r, rfl, ha, hb, x0, x1, y0, y1, k⟩ := h
    rfl
  · obtain ⟨a, b, x, y, c, r, rfl, ha, hb, x0, x1, y0, y1, k⟩ := h
    refine ⟨_, (PSs.nox (pss_cons (ps_if (pt_not (pt_val (pe_gd Dis_tuple_of hr (by decide) (by rfl) (pa_cons (pv 0) (pa_cons pe_int pa_nil))))) (pss_one ps_never) pss_nil)
      (pss_one (ps_if (pt_not (pt_val (pe_callB (cr_all rfl) (by rfl) T.all (by decide +kernel) (pa_cons (pe_lc (own := [("number", 2), ("many", 3)]) (g := gTup K 2 (gCons (gName 2) (gCons (gName 3) gNil))) (tt := tYes) rfl sc_check_pair.nd (pi_zipA (by rfl) T.zip (pa_cons (pv 0) (pa_cons (pv 1) pa_nil))) (blkOk_by (own := [("number", 2), ("many", 3)]) (N := ["pair", "parts", "number", "many"]) (sc := defScope s_check_pair) (by decide +kernel)) (fun _ _ _ _ _ => (pg_tup rfl (pgs_cons (pg_name (i := 2) sc_check_pair.nd rfl (.inl rfl)) (pgs_cons (pg_name (i := 3) sc_check_pair.nd rfl (.inl rfl)) pgs_nil)))) (fun _ _ _ _ _ => pts_nil) (fun _ _ _ _ _ => (pe_gd Dis_count_below hr (by decide) (by rfl) (pa_cons (pv 2) (pa_cons (pv 3) pa_nil))))) pa_nil)))) (pss_one ps_never) pss_nil)))), ?_⟩
    refine ⟨_, rfl, a, _, 2, rfl, ha, rfl, _, rfl, iteF ?_⟩
    refine ⟨_, rfl, _, rfl, a, b, [.int x, .int y], [.int c, .int r], rfl, .inr ⟨SqT.of ha, SqT.of hb, fun D hD => lc_zipT (xs := [.int x, .int y]) (ys := [.int c, .int r]) rfl (fun i H' => H' D = some (.lst (List.replicate i (.bl true))) ∧ Ext H H') ⟨upd_same, Ext.upd hD⟩ (fun _ _ p => ⟨SqT.of (p.2 _ _ ha), SqT.of (p.2 _ _ hb)⟩) ?_ ?_⟩⟩
    · rintro i v w2 T2 H' hv hw hT ⟨hD', e⟩
      have key : ∃ n m : Int, v = .int n ∧ w2 = .int m ∧ n ≥ 0 ∧ n < m := by
        match i, hv, hw with
        | 0, hv, hw => cases hv; cases hw; exact ⟨x, c, rfl, rfl, x0, x1⟩
        | 1, hv, hw => cases hv; cases hw; exact ⟨y, r, rfl, rfl, y0, y1⟩
      obtain ⟨n, m, rfl, rfl, n0, nm⟩ := key
      have eT : Ext H' (upd H' T2 (.tup [.int n, .int m])) := Ext.upd hT
      have i2 : i < 2 := (List.getElem?_eq_some_iff.mp hv).1
      refine ⟨T2, _, rfl, SqT.of upd_same, rfl, _, _, rfl, _, _, rfl, rfl, rfl, lc_yes ⟨_, rfl, _, rfl, n, m, rfl, n0, nm, ?_⟩⟩
      refine ⟨_, eT _ _ hD', by rw [List.length_replicate, sizeLine_eq]; omega, ?_, ext_put (e.trans eT) hD⟩
      rw [upd_same, rep_put]
    · rintro H' ⟨hD', e⟩
      exact ⟨D, List.replicate 2 true, rfl, SqL.of hD', _, rfl, ite2 (fun hz => absurd hz (by decide)) (fun _ => k H' e)⟩
end
end Mc

set_option Elab.async false
set_option linter.all false
set_option maxRecDepth 100000
set_option maxHeartbeats 4000000
set_option exponentiation.threshold 20000
namespace Mc
open PySem PySem.Spec PyProof.Rows L2 ClX StX
section
variable {P : Program} {w : World} {K : PySem.W.Frag} {mg : Str → Option Value} {base : Heap} {f C0 aX : Addr} {mc : Value} {fd : FuncData}
theorem sc_Plan_sign_at : FnScope ["self", "phase", "pair"] ["self", "phase", "pair"] (defScope s_Plan_sign_at) := ⟨rfl, rfl, rfl, by decide +kernel, rfl, by decide +kernel, by decide +kernel⟩
theorem hu65 {k : Nat} {A : Around} (hr : Room k A) : A.units + 65 < cLine := by
  have := hr.un
  omega
def dqT (q : Pr) : PyData := .tuple [.int q.1, .int q.2]
theorem dp_pr {K : PySem.W.Frag} {H : Hp} {a : Addr} {q : Pr} (h : H a = some (.tup [.int q.1, .int q.2])) : Dp K H (.ref a) (dqT q) := .tup (SqT.of h) (.cons (.int _) (.cons (.int _) .nil))
theorem dp_prs {K : PySem.W.Frag} {H : Hp} : ∀ {as : List Addr} {ps : List Pr}, Paired (fun a (p : Pr) => H a = some (.tup [.int p.1, .int p.2])) as ps → DpAll K H (as.map V.ref) (ps.map dqT)
  | _, _, .nil => .nil
  | _, _, .cons r t => .cons (dp_pr r) (dp_prs t)
theorem dq_eqv (q r : Pr) : PyData.eqv (dqT q) (dqT r) = true ↔ q = r := by
  obtain ⟨a, b⟩ := q
  obtain ⟨c, d⟩ := r
  simp [dqT, PyData.eqv, PyData.eqvAll]
theorem shaped_pr (q : Pr) : SeqAt.shaped (dqT q) = true := by
  simp [dqT, SeqAt.shaped, PyData.canLay0, PyData.canLayAll0, PyData.depth, PyData.depthAll]
theorem shaped_prs (ps : List Pr) : SeqAt.shaped (.list (ps.map dqT)) = true := by
  have h1 : PyData.canLayAll0 (ps.map dqT) = true := by
    induction ps with
    | nil => rfl
    | cons q r ih => rw [List.map_cons, PyData.canLayAll0, ih]; simp [dqT, PyData.canLay0, PyData.canLayAll0]
  have h2 : PyData.depthAll (ps.map dqT) ≤ 1 := by
    clear h1
    induction ps with
    | nil => simp [PyData.depthAll]
    | cons q r ih =>
      rw [List.map_cons, PyData.depthAll]
      have : PyData.depth (dqT q) = 1 := by simp [dqT, PyData.depth, PyData.depthAll]
      rw [this]
      exact Nat.max_le.mpr ⟨Nat.le_refl 1, ih⟩
  unfold SeqAt.shaped
  rw [PyData.canLay0, h1, PyData.depth, Bool.true_and]
  exact decide_eq_true (by omega)
def spSignAt (C0 : Addr) : Sp := fun vs H Q _ => ∃ (p : Addr) (rs : List (List Cut)) (i : Nat) (cs : List Cut) (a : Addr) (q : Pr) (j : Nat), vs = [.ref p, .int i, .ref a] ∧ PlanAt C0 H p rs ∧ rs[i]? = some cs ∧ rs.length ≤ 3 ∧ H a = some (.tup [.int q.1, .int q.2]) ∧ (∀ c ∈ cs, okC c) ∧ (placesF cs)[j]? = some q ∧ (∀ m, m < j → (placesF cs)[m]? ≠ some q) ∧
  ∀ H', Ext H H' → Q (.int j) H'
theorem ok_Plan_sign_at (F : FunD K "sign_at" "Plan.sign_at" (defArgs s_Plan_sign_at) (defBody s_Plan_sign_at) (defScope s_Plan_sign_at) [] [] f fd) (T : TB mg) (R : PlanT K mg C0 aX mc) {fcheck_phase : Addr} {fdcheck_phase : FuncData} (Dcheck_phase : Gd P w K mg base "check_phase" 4 ["plan", "phase"] (spPhaseOk C0) fcheck_phase fdcheck_phase) {fcheck_pair : Addr} {fdcheck_pair : FuncData} (Dcheck_pair : Gd P w K mg base "check_pair" 4 ["pair", "parts"] (spPairOk) fcheck_pair fdcheck_pair) : FnOk P w K mg base CX0 6 f fd ["self", "phase", "pair"] (spSignAt C0) := by
  refine F.ok sc_Plan_sign_at (fun vs H Q E h => ?_) (fun cdv A outer s H vs Q E hr h => ?_)
  · obtain ⟨p, rs, i, cs, a, q, j, rfl, hp, hi, h3, ha, hc, hj, hn, k⟩ := h
    rfl
  · obtain ⟨p, rs, i, cs, a, q, j, rfl, hp, hi, h3, ha, hc, hj, hn, k⟩ := h
    refine ⟨_, (PSs.nox (pss_cons (ps_expr (pe_gd Dcheck_phase hr (by decide) (by rfl) (pa_cons (pv 0) (pa_cons (pv 1) pa_nil))))
      (pss_cons (ps_expr (pe_gd Dcheck_pair hr (by decide) (by rfl) (pa_cons (pv 2) (pa_cons (pe_ix ix_seq (pe_fld (pv 0) rfl) (pv 1) (fun _ _ => rfl)) pa_nil))))
      (pss_one (ps_ret (pe_bm PySem.F.plainAttrs_list PySem.F.slot_list_index PySem.F.type_list_index (mt_indexD (hu65 hr)) (pe_ix ix_seq (pe_fld (pv 0) rfl) (pv 1) (fun _ _ => rfl)) (pa_cons (pv 2) pa_nil))))))), ?_⟩
    obtain ⟨dx, lr, lp, ll, g, h1, h2⟩ := id hp
    obtain ⟨as, l1, l2⟩ := h2.l
    obtain ⟨ps, q1, q2⟩ := h2.p
    have hl := (List.getElem?_eq_some_iff.mp hi).1
    have hi2 : (partsF rs)[i]? = some ((colsF cs : Int), (rowsF cs : Int)) := by
      unfold partsF
      rw [List.getElem?_map, hi]
      rfl
    obtain ⟨b, hbi, hb⟩ := pd_get2 q2 i _ hi2
    obtain ⟨c, hci, hcp⟩ := pd_get2 l2 i cs hi
    obtain ⟨m1, m2, m3, m4⟩ := placesF_mem q (List.mem_of_getElem? hj)
    refine ⟨_, rfl, _, rfl, p, rs, i, rfl, hp, hl, h3, ?_⟩
    refine ⟨_, rfl, _, rfl, p, C0, dx, _, _, rfl, h1, R.cl, R.nP, rfl, _, rfl, .inl ⟨lp, _, _, _, rfl, rfl, SqL.of q1, atI_nat (by rw [List.getElem?_map, hbi]; rfl), ?_⟩⟩
    refine ⟨a, b, q.1, q.2, (colsF cs : Int), (rowsF cs : Int), rfl, ha, hb, m1, m2, m3, m4, fun H1 e1 => ?_⟩
    obtain ⟨bs, b1, b2⟩ := hcp.ext e1
    refine ⟨_, rfl, p, C0, dx, _, _, rfl, e1 _ _ h1, R.cl, R.nL, rfl, _, rfl, .inl ⟨ll, _, _, _, rfl, rfl, SqL.of (e1 _ _ l1), atI_nat (by rw [List.getElem?_map, hci]; rfl), ?_⟩⟩
    refine ⟨.inl ⟨rfl, _, SqL.of b1⟩, _, rfl, c, .ref a, dqT q, (placesF cs).map dqT, j, dqT q, rfl, rfl, .lst (SqL.of b1) (dp_prs b2), dp_pr (e1 _ _ ha), shaped_prs _, shaped_pr q, by rw [List.getElem?_map, hj]; rfl, (dq_eqv q q).mpr rfl, fun m z hm hz => ?_, k H1 e1⟩
    rw [List.getElem?_map] at hz
    obtain ⟨q', hq', rfl⟩ := Option.map_eq_some_iff.mp hz
    refine Bool.eq_false_iff.mpr fun z => hn m hm ?_
    rw [hq', (dq_eqv q' q).mp z]
end
end Mc

set_option Elab.async false
set_option linter.all false
set_option maxRecDepth 100000
set_option maxHeartbeats 4000000
set_option exponentiation.threshold 20000
namespace Mc
open PySem PySem.Spec PyProof.Rows L2 ClX StX
section
variable {P : Program} {w : World} {K : PySem.W.Frag} {mg : Str → Option Value} {base : Heap} {f C0 aX : Addr} {mc : Value} {fd : FuncData}
def tMakeS (K : PySem.W.Frag) (C : Addr) (sp : Sp) (te : TE) : TE := fun σ H Q => te σ H fun y H1 => ∃ a xs, y = V.ref a ∧ (SqT K H1 a xs ∨ SqL K H1 a xs) ∧ ∀ x dx, H1 x = Option.none → H1 dx = Option.none → dx ≠ x →
  sp (V.ref x :: xs) (upd (upd H1 dx (.own x)) x (.ins C dx [])) (fun v H2 => v = .non ∧ Q (.ref x) H2) E0
theorem pe_makeS1 {X : Cx} {k : Nat} {f C : Addr} {sp : Sp} {x : Str} {e : Expr} {te : TE} {p q pos : Pos} (M : Mk X.K C f) (F : FnR X.prog X.w X.K X.mg X.base CX0 k f sp) (hr : Room (k + 1) X.A) (hg : Gl X x) (hm : X.mg x = some (.ref C)) (hx : Passes CX0 X E0) (he : PE X e te) (hdb : (x == ("__debug__" : Str)) = false := by decide)
    (hst : starEach [.Starred e q] X.env = [(true, eval e X.env)] := by rfl) : PE X (.Call (.Name x p) [.Starred e q] [] pos) (tMakeS X.K C sp te) := by
  constructor
  intro pins s σ H Q I h
  refine wpAny_Call_Name_kw (ld_glob I hg hm ?_ hdb)
  refine PySem.W.callWith_S (h₀ := X.base) I.ok.mod.kin M.kp (thn (he.run pins s σ H _ I h) ?_) hst
  rintro v s1 ⟨y, H1, I1, ry, a, xs, rfl, hxs, q⟩
  cases (show v = Value.ref a from ry)
  exact star_any I1 hxs fun us s2 I2 rv => ⟨I2.kIn, run_makeR M F hr hx I2 rv q⟩
theorem made_ext {H H' : Hp} {x dx : Addr} {o o' : HO} (hx : H x = none) (hdx : H dx = none) (F : Frm [x] (upd (upd H dx o) x o') H') : Ext H H' := fun a u e => F a u (by
  rw [upd_ne (ne_of_none e hx), upd_ne (ne_of_none e hdx)]
  exact e) fun z => by
    rw [List.mem_singleton.mp z, hx] at e
    cases e
theorem cutsAt_of {K : PySem.W.Frag} {H : Hp} {l : Addr} {cs : List Cut} (h : CutsL H l cs) : CutsAt K H (.ref l) cs := by
  obtain ⟨as, h1, h2⟩ := h
  exact ⟨l, as, rfl, .inl (SqL.of h1), h2⟩
theorem pd_refs {α : Type} {F : V → α → Prop} : ∀ {l : List Addr} {m : List α}, Paired (fun a c => F (.ref a) c) l m → Paired F (l.map V.ref) m
  | _, _, .nil => .nil
  | _, _, .cons r t => .cons r (pd_refs t)
theorem cols_turn : ∀ cs : List Cut, colsF (turnF cs) = rowsF cs ∧ rowsF (turnF cs) = colsF cs
  | [] => ⟨rfl, rfl⟩
  | c :: r => by
    obtain ⟨h1, h2⟩ := cols_turn r
    unfold turnF at *
    rw [List.map_cons]
    unfold colsF rowsF
    rw [h1, h2]
    cases c.1 <;> exact ⟨rfl, rfl⟩
theorem mul_swap (ps : List Pr) : mulF (ps.map fun q => (q.2, q.1)) = ((mulF ps).2, (mulF ps).1) := by
  have : ∀ (ps : List Pr) (s : Pr), (ps.map fun q => (q.2, q.1)).foldl (fun (q p : Pr) => (q.1 * p.1, q.2 * p.2)) (s.2, s.1) = ((ps.foldl (fun (q p : Pr) => (q.1 * p.1, q.2 * p.2)) s).2, (ps.foldl (fun (q p : Pr) => (q.1 * p.1, q.2 * p.2)) s).1) := fun ps => by
    induction ps with
    | nil => intro s; rfl
    | cons p r ih => intro s; exact ih (s.1 * p.1, s.2 * p.2)
  exact this ps (1, 1)
theorem parts_turn (rs : List (List Cut)) : partsF (rs.map turnF) = (partsF rs).map fun q => (q.2, q.1) := by
  unfold partsF
  rw [List.map_map, List.map_map]
  refine List.map_congr_left fun cs _ => ?_
  show ((colsF (turnF cs) : Int), (rowsF (turnF cs) : Int)) = _
  rw [(cols_turn cs).1, (cols_turn cs).2]
  rfl
theorem ok_turn {rs : List (List Cut)} (ok : OkR rs) : OkR (rs.map turnF) := by
  refine ⟨by rw [List.length_map]; exact ok.l1, by rw [List.length_map]; exact ok.l3, ?_, ?_, ?_, ?_, ?_⟩
  · intro cs h
    obtain ⟨c, hc, rfl⟩ := List.mem_map.mp h
    rw [turnF, List.length_map]
    exact ok.h1 c hc
  · intro cs h
    obtain ⟨c, hc, rfl⟩ := List.mem_map.mp h
    rw [turnF, List.length_map]
    exact ok.h5 c hc
  · intro cs h d hd
    obtain ⟨c, hc, rfl⟩ := List.mem_map.mp h
    obtain ⟨d2, hd2, rfl⟩ := List.mem_map.mp hd
    exact ok.hc c hc d2 hd2
  · intro cs h
    obtain ⟨c, hc, rfl⟩ := List.mem_map.mp h
    rw [(cols_turn c).1, (cols_turn c).2, Nat.mul_comm]
    exact ok.h32 c hc
  · rw [parts_turn, mul_swap]
    exact ok.bal.symm
def spTurned (C0 : Addr) : Sp := fun vs H Q _ => ∃ (p : Addr) (rs : List (List Cut)), vs = [.ref p] ∧ PlanAt C0 H p rs ∧ OkR rs ∧
  ∀ x H', Ext H H' → H x = none → PlanAt C0 H' x (rs.map turnF) → Q (.ref x) H'

end
end Mc

set_option Elab.async false
set_option linter.all false
set_option maxRecDepth 100000
set_option maxHeartbeats 4000000
set_option exponentiation.threshold 20000
namespace Mc
open PySem PySem.Spec PyProof.Rows L2 ClX StX
section
variable {P : Program} {w : World} {K : PySem.W.Frag} {mg : Str → Option Value} {base : Heap} {f C0 aX : Addr} {mc : Value} {fd : FuncData}
theorem sc_Plan___eq : FnScope ["self", "other"] ["self", "other"] (defScope s_Plan___eq) := ⟨rfl, rfl, rfl, by decide +kernel, rfl, by decide +kernel, by decide +kernel⟩
theorem hu64 {k : Nat} {A : Around} (hr : Room k A) : A.units + 64 < cLine := by
  have := hr.un
  omega
/-- what the text says of Plan's comparisons -/
structure PlanE (K : PySem.W.Frag) (C0 : Addr) : Prop where
  ca : PySem.W.findIn K (.ref C0) "__class__" = some (some (.builtin "object.__class__"))
  cn : PySem.W.specialIn K (.builtin "object.__class__") "__get__" = some (some (.builtin "getset_descriptor.__get__"))
  ct : PySem.W.takesIn K (.builtin "object.__class__") = some true
  cm : PySem.W.mroIn K C0 (.type "object") = some true
  ne : PySem.W.findIn K (.ref C0) "__ne__" = some (some (.builtin "object.__ne__"))
  kR : PySem.W.kitOne K (.ref C0) (.ref C0) = some true
  kk : ∀ x ∈ (["NoneType", "bool", "int", "str", "list", "tuple", "dict"] : List String), PySem.W.kitOne K (.type x) (.ref C0) = some false
  nf : ∀ x ∈ (["NoneType", "bool", "int", "str", "list", "tuple", "dict"] : List String), PySem.W.notFirst K C0 (.type x) = true
def dqC (c : Cut) : PyData := .tuple [.str (axS c.1), .int c.2]
def dqL (cs : List Cut) : PyData := .list (cs.map dqC)
def dqR (rs : List (List Cut)) : PyData := .list (rs.map dqL)
theorem dp_cuts {K : PySem.W.Frag} {H : Hp} : ∀ {as : List Addr} {cs : List Cut}, Paired (fun a c => H a = some (.tup (cutV c))) as cs → DpAll K H (as.map V.ref) (cs.map dqC)
  | _, _, .nil => .nil
  | _, _, .cons r t => .cons (.tup (SqT.of r) (.cons (.str _) (.cons (.int _) .nil))) (dp_cuts t)
theorem dp_lists {K : PySem.W.Frag} {H : Hp} : ∀ {as : List Addr} {rs : List (List Cut)}, Paired (fun a cs => CutsL H a cs) as rs → DpAll K H (as.map V.ref) (rs.map dqL)
  | _, _, .nil => .nil
  | _, _, .cons ⟨_, h1, h2⟩ t => .cons (.lst (SqL.of h1) (dp_cuts h2)) (dp_lists t)
theorem dp_rounds {K : PySem.W.Frag} {H : Hp} {l : Addr} {rs : List (List Cut)} (h : ∃ as : List Addr, H l = some (.lst (as.map V.ref)) ∧ Paired (fun a cs => CutsL H a cs) as rs) : Dp K H (.ref l) (dqR rs) := by
  obtain ⟨as, h1, h2⟩ := h
  exact .lst (SqL.of h1) (dp_lists h2)
theorem axS_inj {a b : Bool} (h : axS a = axS b) : a = b := by
  cases a <;> cases b
  · rfl
  · exact absurd h (by decide +kernel)
  · exact absurd h (by decide +kernel)
  · rfl
theorem eqv_C (c d : Cut) : PyData.eqv (dqC c) (dqC d) = decide (c = d) := by
  obtain ⟨a, n⟩ := c
  obtain ⟨b, m⟩ := d
  have e : PyData.eqv (dqC (a, n)) (dqC (b, m)) = (axS a == axS b && ((n : Int) == (m : Int) && true)) := by simp [dqC, PyData.eqv, PyData.eqvAll]
  rw [e, Bool.eq_iff_iff]
  simp only [Bool.and_true, Bool.and_eq_true, beq_iff_eq, decide_eq_true_eq, Prod.mk.injEq]
  exact ⟨fun ⟨h1, h2⟩ => ⟨axS_inj h1, by omega⟩, fun ⟨h1, h2⟩ => ⟨by rw [h1], by omega⟩⟩
theorem eqv_all {α : Type} [DecidableEq α] {F : α → PyData} (h : ∀ a b, PyData.eqv (F a) (F b) = decide (a = b)) : ∀ l m : List α, PyData.eqvAll (l.map F) (m.map F) = decide (l = m)
  | [], [] => by simp [PyData.eqvAll]
  | [], _ :: _ => by simp [PyData.eqvAll]
  | _ :: _, [] => by simp [PyData.eqvAll]
  | a :: l, b :: m => by
    rw [List.map_cons, List.map_cons, PyData.eqvAll, h, eqv_all h l m, Bool.eq_iff_iff]
    simp
theorem eqv_L (c d : List Cut) : PyData.eqv (dqL c) (dqL d) = decide (c = d) := by
  unfold dqL
  rw [PyData.eqv]
  exact eqv_all eqv_C c d
theorem eqv_R (c d : List (List Cut)) : PyData.eqv (dqR c) (dqR d) = decide (c = d) := by
  unfold dqR
  rw [PyData.eqv]
  exact eqv_all eqv_L c d
theorem lay_all {α : Type} {F : α → PyData} (h : ∀ a, PyData.canLay0 (F a) = true) : ∀ l : List α, PyData.canLayAll0 (l.map F) = true
  | [] => by simp [PyData.canLayAll0]
  | a :: l => by rw [List.map_cons, PyData.canLayAll0, h, lay_all h l]; rfl
theorem dep_all {α : Type} {F : α → PyData} {n : Nat} (h : ∀ a, PyData.depth (F a) ≤ n) : ∀ l : List α, PyData.depthAll (l.map F) ≤ n
  | [] => by simp [PyData.depthAll]
  | a :: l => by
    rw [List.map_cons, PyData.depthAll]
    exact Nat.max_le.mpr ⟨h a, dep_all h l⟩
theorem lay_C (c : Cut) : PyData.canLay0 (dqC c) = true := by
  obtain ⟨a, n⟩ := c
  have e : PyData.strOk (axS a) = true := by cases a <;> decide +kernel
  simp [dqC, PyData.canLay0, PyData.canLayAll0, e]
theorem lay_L (cs : List Cut) : PyData.canLay0 (dqL cs) = true := by
  unfold dqL
  rw [PyData.canLay0]
  exact lay_all lay_C cs
theorem dep_C (c : Cut) : PyData.depth (dqC c) ≤ 1 := by simp [dqC, PyData.depth, PyData.depthAll]
theorem dep_L (cs : List Cut) : PyData.depth (dqL cs) ≤ 2 := by
  unfold dqL
  rw [PyData.depth]
  exact Nat.succ_le_succ (dep_all dep_C cs)
theorem shaped_R (rs : List (List Cut)) : SeqAt.shaped (dqR rs) = true := by
  have h1 : PyData.canLay0 (dqR rs) = true := by
    unfold dqR
    rw [PyData.canLay0]
    exact lay_all lay_L rs
  have h2 : PyData.depth (dqR rs) ≤ 64 := by
    unfold dqR
    rw [PyData.depth]
    exact Nat.le_trans (Nat.succ_le_succ (dep_all dep_L rs)) (by decide)
  unfold SeqAt.shaped
  rw [h1, Bool.true_and]
  exact decide_eq_true h2
def spEqP (K : PySem.W.Frag) (C0 : Addr) : Sp := fun vs H Q _ => ∃ (p : Addr) (y : V) (rs : List (List Cut)), vs = [.ref p, y] ∧ PlanAt C0 H p rs ∧ rs.length ≤ 3 ∧
  ((∃ (q : Addr) (rs2 : List (List Cut)), y = .ref q ∧ PlanAt C0 H q rs2 ∧ rs2.length ≤ 3 ∧ Q (.bl (decide (rs = rs2))) H) ∨
   (∃ t : String, TyX K H y (.type t) ∧ t ∈ (["NoneType", "bool", "int", "str", "list", "tuple", "dict"] : List String) ∧ Q (.bl false) H))
theorem ok_Plan___eq (F : FunD K "__eq__" "Plan.__eq__" (defArgs s_Plan___eq) (defBody s_Plan___eq) (defScope s_Plan___eq) [] [] f fd) (T : TB mg) (R : PlanT K mg C0 aX mc) (RE : PlanE K C0) : FnOk P w K mg base CX0 1 f fd ["self", "other"] (spEqP K C0) := by
  refine F.ok sc_Plan___eq (fun vs H Q E h => ?_) (fun cdv A outer s H vs Q E hr h => ?_)
  · obtain ⟨p, y, rs, rfl, hp, l3, hy⟩ := h
    rfl
  · obtain ⟨p, y, rs, rfl, hp, l3, hy⟩ := h
    refine ⟨_, (PSs.nox (pss_one (ps_ret (pe_and (pe_callB call_isi (by rfl) T.isinstance (by decide +kernel) (pa_cons (pv 1) (pa_cons (pe_glob (v := .ref C0) (by rfl) R.mgP rfl) pa_nil))) (pe_one (pe_cmpR (op_eqD (hu64 hr)) (pe_fld (pv 0) rfl) (pe_fld (pv 1) rfl) (nomark _))))))), ?_⟩
    obtain ⟨dx, lr, lp, ll, g, h1, h2⟩ := id hp
    rcases hy with ⟨q, rs2, rfl, hq, m3, k⟩ | ⟨t, ty, ht, k⟩
    · obtain ⟨dx2, lr2, lp2, ll2, g2, g1, g3⟩ := id hq
      refine ⟨_, rfl, .ref q, _, _, _, true, rfl, .own C0, .base (.ins g1 R.cl RE.ca RE.cn RE.ct RE.cm), RE.kR, true, rfl, iteT ?_⟩
      refine ⟨_, rfl, p, C0, dx, _, _, rfl, h1, R.cl, R.nR, rfl, _, rfl, q, C0, dx2, _, _, rfl, g1, R.cl, R.nR, rfl, ?_⟩
      refine ⟨dqR rs, dqR rs2, dp_rounds h2.r, dp_rounds g3.r, shaped_R rs, shaped_R rs2, ?_⟩
      rw [eqv_R]
      exact k
    · exact ⟨_, rfl, y, _, _, _, false, rfl, .own C0, ty, RE.kk t ht, false, rfl, iteF k⟩
end
end Mc

set_option Elab.async false
set_option linter.all false
set_option maxRecDepth 100000
set_option maxHeartbeats 4000000
set_option exponentiation.threshold 20000
namespace Mc
open PySem PySem.Spec PyProof.Rows L2 ClX StX
section
variable {P : Program} {w : World} {K : PySem.W.Frag} {mg : Str → Option Value} {base : Heap} {f C0 aX : Addr} {mc : Value} {fd : FuncData}
theorem sc_Plan___repr : FnScope ["self", "cuts"] ["self"] (defScope s_Plan___repr) := ⟨rfl, rfl, rfl, by decide +kernel, rfl, by decide +kernel, by decide +kernel⟩
theorem boot_repr : bootBuiltins (Str.ofString "repr") = some (.builtin "repr") := by decide +kernel
def planText (rs : List (List Cut)) : Str := Str.empty ++ Str.ofString "Plan(" ++ Txt.join (Str.ofString ", ") (rs.map fun cs => (dqL cs).shown) ++ Str.ofString ")"
theorem shown_C {c : Cut} (h : okC c) : (dqC c).shown.length ≤ 14 ∧ (dqC c).showable = true := by
  obtain ⟨a, n⟩ := c
  obtain ⟨h2, h4⟩ := h
  have h2 : 2 ≤ n := h2
  have h4 : n ≤ 4 := h4
  have e : n = 2 ∨ n = 3 ∨ n = 4 := by omega
  rcases e with rfl | rfl | rfl <;> cases a <;> decide +kernel
theorem shown_L {cs : List Cut} (h : ∀ c ∈ cs, okC c) (l : cs.length ≤ 5) : (dqL cs).shown.length ≤ 100 ∧ (dqL cs).showable = true ∧ (dqL cs).hasDict = false := by
  have e1 : ∀ cs : List Cut, PyData.shownAll (cs.map dqC) = cs.map fun c => (dqC c).shown := fun cs => by
    induction cs with
    | nil => simp [PyData.shownAll]
    | cons c r ih => rw [List.map_cons, PyData.shownAll, ih]; rfl
  refine ⟨?_, ?_, ?_⟩
  · unfold dqL
    rw [PyData.shown, e1]
    have h1 := listText_le (cs.map fun c => (dqC c).shown)
    have h2 := piled_le (c := 14) (ts := cs.map fun c => (dqC c).shown) fun t ht => by
      obtain ⟨c, hc, rfl⟩ := List.mem_map.mp ht
      exact (shown_C (h c hc)).1
    rw [List.length_map] at h2
    omega
  · unfold dqL
    rw [PyData.showable]
    clear l
    induction cs with
    | nil => simp [PyData.showableAll]
    | cons c r ih =>
      rw [List.map_cons, PyData.showableAll, (shown_C (h c List.mem_cons_self)).2, ih fun d hd => h d (List.mem_cons_of_mem _ hd)]
      rfl
  · unfold dqL
    rw [PyData.hasDict]
    clear l h
    induction cs with
    | nil => simp [PyData.hasDictAll]
    | cons c r ih =>
      rw [List.map_cons, PyData.hasDictAll, ih]
      simp [dqC, PyData.hasDict, PyData.hasDictAll]
theorem join_le (sep : Str) : ∀ ys : List Str, (Txt.join sep ys).length ≤ (ys.map (·.length)).sum + ys.length * sep.length
  | [] => by
    rw [TL.join_eq]
    exact Nat.zero_le _
  | [a] => by
    rw [TL.join_eq]
    show a.length ≤ _
    simp
  | a :: b :: r => by
    have ih := join_le sep (b :: r)
    rw [TL.join_eq] at ih ⊢
    show (a ++ sep ++ Str.join sep (b :: r)).length ≤ _
    rw [Str.length_append, Str.length_append, List.map_cons, List.sum_cons, List.length_cons, Nat.succ_mul]
    omega
theorem text_sizes {rs : List (List Cut)} (ok : OkR rs) : ((rs.map fun cs => (dqL cs).shown).map (·.length)).sum ≤ 300 := by
  have each : ∀ cs ∈ rs, (dqL cs).shown.length ≤ 100 := fun cs h => (shown_L (ok.hc cs h) (ok.h5 cs h)).1
  have l3 := ok.l3
  match rs, l3, each with
  | [], _, _ => simp
  | [a], _, e => have := e a (by simp); simp; omega
  | [a, b], _, e => have := e a (by simp); have := e b (by simp); simp; omega
  | [a, b, c], _, e => have := e a (by simp); have := e b (by simp); have := e c (by simp); simp; omega
def spReprP (C0 : Addr) : Sp := fun vs H Q _ => ∃ (p : Addr) (rs : List (List Cut)), vs = [.ref p] ∧ PlanAt C0 H p rs ∧ OkR rs ∧ ∀ H', Ext H H' → Q (.str (planText rs)) H'
theorem ok_Plan___repr (F : FunD K "__repr__" "Plan.__repr__" (defArgs s_Plan___repr) (defBody s_Plan___repr) (defScope s_Plan___repr) [] [] f fd) (T : TB mg) (R : PlanT K mg C0 aX mc) : FnOkG P w K mg base CX0 3 f fd ["self"] (spReprP C0) := by
  refine okG F sc_Plan___repr (fun vs H Q E h => ?_) (fun cdv A outer s H vs Q E hr h => ?_)
  · obtain ⟨p, rs, rfl, hp, ok, k⟩ := h
    rfl
  · obtain ⟨p, rs, rfl, hp, ok, k⟩ := h
    refine ⟨_, (pss_one (ps_ret (pe_joined (PJ.cons pe_str (PJ.cons (pe_fmt (pe_join pe_str (pe_lc (own := [("cuts", 1)]) (g := gName 1) (tt := tYes) rfl sc_Plan___repr.nd (pi_list (pe_fld (pv 0) rfl)) (blkOk_by (own := [("cuts", 1)]) (N := ["self", "cuts"]) (sc := defScope s_Plan___repr) (by decide +kernel)) (fun _ _ _ _ _ => (pg_name (i := 1) sc_Plan___repr.nd rfl (.inl rfl))) (fun _ _ _ _ _ => pts_nil) (fun _ _ _ _ _ => (pe_callB (call_reprDK (K := K) hr rfl) (by rfl) T.repr boot_repr (pa_cons (pv 1) pa_nil)))))) (PJ.cons pe_str PJ.nil)))))), ?_⟩
    obtain ⟨dx, lr, lp, ll, g, h1, h2⟩ := id hp
    obtain ⟨as, r1, r2⟩ := h2.r
    have l3 := ok.l3
    have ts := text_sizes ok
    have tj := join_le (Str.ofString ", ") (rs.map fun cs => (dqL cs).shown)
    have ln : (rs.map fun cs => (dqL cs).shown).length ≤ 3 := by rw [List.length_map]; exact l3
    have c0 : (Str.empty : Str).length = 0 := rfl
    have c1 : (Str.ofString "Plan(").length = 5 := rfl
    have c2 : (Str.ofString ", ").length = 2 := rfl
    have c3 : (Str.ofString ")").length = 1 := rfl
    rw [c2] at tj
    refine ⟨_, rfl, ?_, ⟨_, rfl⟩, _, rfl, p, C0, dx, _, _, rfl, h1, R.cl, R.nR, rfl, lr, rfl, ⟨_, SqL.of r1⟩, fun D hD => lc_walk walk_l (fun i H' => H' D = some (.lst (((rs.take i).map fun cs => (dqL cs).shown).map V.str)) ∧ Ext H H') ⟨upd_same, Ext.upd hD⟩ (fun _ _ ⟨_, e⟩ => SqL.of (e _ _ r1)) ?_ ?_⟩
    · show (Str.empty ++ Str.ofString "Plan(").length ≤ sizeLine
      rw [Str.length_append, sizeLine_eq]
      omega
    · rintro i x H' hx ⟨d1, e⟩
      obtain ⟨a, rfl, cs, hci, bs, b1, b2⟩ := refs_get r2 hx
      have hm := List.mem_of_getElem? hci
      obtain ⟨s1, s2, s3⟩ := shown_L (ok.hc cs hm) (ok.h5 cs hm)
      refine ⟨rfl, lc_yes ⟨_, rfl, a, dqL cs, rfl, .lst (SqL.of (e _ _ b1)) (dp_cuts (pd_imp (fun _ _ q => e _ _ q) b2)), s2, s3, Nat.le_trans (dep_L cs) (by decide), by rw [sizeLine_eq]; omega, ?_⟩⟩
      refine ⟨_, d1, ?_, ?_, ext_put e hD⟩
      · rw [List.length_map, List.length_map, List.length_take, sizeLine_eq]
        omega
      · rw [upd_same, take_snoc hci, List.map_append, List.map_append]
        rfl
    · rintro H' ⟨d1, e⟩
      rw [List.length_map, pd_len r2, List.take_length] at d1
      refine ⟨_, D, _, rfl, rfl, .inl (SqL.of d1), by rw [c2]; omega, .inl ⟨_, rfl, by rw [sizeLine_eq]; omega, _, rfl, ?_, _, rfl, ?_, ?_⟩⟩
      · rw [Str.length_append, Str.length_append, sizeLine_eq]
        omega
      · rw [Str.length_append, Str.length_append, Str.length_append, sizeLine_eq]
        omega
      · exact k H' e
end
end Mc

set_option Elab.async false
set_option linter.all false
set_option maxRecDepth 100000
set_option maxHeartbeats 4000000
set_option exponentiation.threshold 20000
namespace Mc
open PySem PySem.Spec PyProof.Rows L2 ClX StX
section
variable {P : Program} {w : World} {K : PySem.W.Frag} {mg : Str → Option Value} {base : Heap} {f C0 aX : Addr} {mc : Value} {fd : FuncData}
def tMakeV (C : Addr) (i : Nat) (sp : Sp) (t : TA) : TE := fun σ H Q => σ[i]? = some (some (V.ref C)) ∧ tMakeR C sp E0 t σ H Q
theorem pe_makeV {X : Cx} {k i : Nat} {f C : Addr} {sp : Sp} {x : Str} {e : Expr} {es : List Expr} {t : TA} {p pos : Pos} (M : Mk X.K C f) (F : FnR X.prog X.w X.K X.mg X.base CX0 k f sp) (hr : Room (k + 1) X.A) (hN : X.N[i]? = some x) (hv : Vis X.env.scope x) (hx : Passes CX0 X E0) (ha : PA X (e :: es) t)
    (hd : (x == ("__debug__" : Str)) = false := by decide) (hcd : (x == ("__classdict__" : Str)) = false := by decide) (he : starEach (e :: es) X.env = (false, eval e X.env) :: starEach es X.env := by rfl) (hpl : (backTo pos (starEach es X.env)).any (·.1) = false := by rfl) :
    PE X (.Call (.Name x p) (e :: es) [] pos) (tMakeV C i sp t) := by
  constructor
  intro pins s σ H Q I h
  obtain ⟨hs, ht⟩ := h
  refine wpAny_Call_Name_kw (thn ((pe_var (pos := p) hN hv hd hcd).run pins s σ H (fun v H1 => v = .ref C ∧ H1 = H) I ⟨.ref C, hs, rfl, rfl⟩) ?_)
  rintro u s1 ⟨v, H1, I1, r1, rfl, rfl⟩
  cases (show u = Value.ref C from r1)
  refine PySem.W.callWith_K (h₀ := X.base) I1.ok.mod.kin M.kp (thn (ha.run pos pins s1 σ H1 _ I1 ht) ?_) he hpl
  rintro us s2 ⟨vs, H2, I2, r, q⟩
  exact ⟨I2.kIn, run_makeR M F hr hx I2 r q⟩
theorem mk_ext {H : Hp} {x dx : Addr} {o o' : HO} (hx : H x = none) (hdx : H dx = none) : Ext H (upd (upd H dx o) x o') := fun a u z => by
  rw [upd_ne (ne_of_none z hx), upd_ne (ne_of_none z hdx)]
  exact z
instance (c : Cut) : Decidable (okC c) := inferInstanceAs (Decidable (2 ≤ c.2 ∧ c.2 ≤ 4))
def codesR : List (List Cut) := [[(true, 2), (false, 2), (true, 2), (false, 2), (true, 2)], [(false, 2), (true, 2), (false, 2), (true, 2), (false, 2)]]
theorem ok_codes : OkR codesR := ⟨by decide, by decide, by decide, by decide, by decide, by decide, by decide⟩
def sqR (n : Nat) : List (List Cut) := [[(true, n), (false, n)]]
theorem ok_sq {n : Nat} (h2 : 2 ≤ n) (h4 : n ≤ 4) : OkR (sqR n) := by
  have e : n = 2 ∨ n = 3 ∨ n = 4 := by omega
  rcases e with rfl | rfl | rfl <;> exact ⟨by decide, by decide, by decide, by decide, by decide, by decide, by decide⟩
def spCodes (C0 : Addr) : Sp := fun vs H Q _ => vs = [.ref C0] ∧ ∀ x H', Ext H H' → H x = none → PlanAt C0 H' x codesR → Q (.ref x) H'
def spSquares (C0 : Addr) : Sp := fun vs H Q _ => ∃ n : Nat, vs = [.ref C0, .int n] ∧ 2 ≤ n ∧ n ≤ 4 ∧ ∀ x H', Ext H H' → H x = none → PlanAt C0 H' x (sqR n) → Q (.ref x) H'


end
end Mc

set_option Elab.async false
set_option linter.all false
set_option maxRecDepth 100000
set_option maxHeartbeats 4000000
namespace Mc
/-! ### the place of a sign, by digits -/
theorem spread_get {c : Cut} (h : 0 < c.2) : ∀ (ps : List Pr) (g : Nat), (spread ps c)[g]? = (ps[g / c.2]?).map fun p => stepC p c (g % c.2)
  | [], g => by simp [spread]
  | p :: r, g => by
    have e : spread (p :: r) c = ((List.range c.2).map fun k => stepC p c k) ++ spread r c := by
      unfold spread
      rw [List.flatMap_cons]
    rw [e]
    by_cases lt : g < c.2
    · rw [List.getElem?_append_left (by rw [List.length_map, List.length_range]; exact lt), List.getElem?_map, List.getElem?_range lt, Nat.div_eq_of_lt lt, Nat.mod_eq_of_lt lt]
      rfl
    · have ge : c.2 ≤ g := Nat.le_of_not_lt lt
      obtain ⟨m, rfl⟩ : ∃ m, g = m + c.2 := ⟨g - c.2, by omega⟩
      rw [List.getElem?_append_right (by rw [List.length_map, List.length_range]; exact ge), List.length_map, List.length_range, Nat.add_sub_cancel, spread_get h r m, Nat.add_div_right _ h, Nat.add_mod_right, List.getElem?_cons_succ]
theorem placesF_get (cs : List Cut) {c : Cut} (h : 0 < c.2) (g : Nat) : (placesF (cs ++ [c]))[g]? = ((placesF cs)[g / c.2]?).map fun p => stepC p c (g % c.2) := by
  rw [placesF_snoc]
  exact spread_get h _ g
theorem stepC_inj {p q : Pr} {c : Cut} {k m : Nat} (hk : k < c.2) (hm : m < c.2) (h : stepC p c k = stepC q c m) : p = q ∧ k = m := by
  have key : ∀ x y : Int, x * (c.2 : Int) + (k : Int) = y * (c.2 : Int) + (m : Int) → x = y ∧ k = m := fun x y e => by
    have e1 := congrArg (· / (c.2 : Int)) e
    have e2 := congrArg (· % (c.2 : Int)) e
    have hc : (c.2 : Int) ≠ 0 := by omega
    simp only [Int.add_comm (x * _), Int.add_comm (y * _), Int.add_mul_ediv_right _ _ hc, Int.add_mul_emod_self_right] at e1 e2
    rw [Int.ediv_eq_zero_of_lt (by omega) (by omega), Int.ediv_eq_zero_of_lt (by omega) (by omega)] at e1
    rw [Int.emod_eq_of_lt (by omega) (by omega), Int.emod_eq_of_lt (by omega) (by omega)] at e2
    omega
  unfold stepC at h
  obtain ⟨p1, p2⟩ := p
  obtain ⟨q1, q2⟩ := q
  split at h
  · have h1 := congrArg Prod.fst h
    have h2 : p2 = q2 := congrArg Prod.snd h
    obtain ⟨e1, e2⟩ := key p1 q1 h1
    exact ⟨by rw [e1, h2], e2⟩
  · have h1 : p1 = q1 := congrArg Prod.fst h
    have h2 := congrArg Prod.snd h
    obtain ⟨e1, e2⟩ := key p2 q2 h2
    exact ⟨by rw [e1, h1], e2⟩
/-- no place stands twice -/
theorem place_inj {cs : List Cut} : (∀ c ∈ cs, okC c) → ∀ {g h : Nat} {q : Pr}, (placesF cs)[g]? = some q → (placesF cs)[h]? = some q → g = h := by
  refine snoc_ind (P := fun cs => (∀ c ∈ cs, okC c) → ∀ {g h : Nat} {q : Pr}, (placesF cs)[g]? = some q → (placesF cs)[h]? = some q → g = h) ?_ (fun cs c ih ok g h q e1 e2 => ?_) cs
  · intro _ g h q e1 e2
    have l1 := (List.getElem?_eq_some_iff.mp e1).1
    have l2 := (List.getElem?_eq_some_iff.mp e2).1
    have : (placesF []).length = 1 := rfl
    omega
  · have hc := (ok c (List.mem_append_right _ List.mem_cons_self)).1
    have h0 : 0 < c.2 := by omega
    rw [placesF_get cs h0] at e1 e2
    obtain ⟨p1, a1, b1⟩ := Option.map_eq_some_iff.mp e1
    obtain ⟨p2, a2, b2⟩ := Option.map_eq_some_iff.mp e2
    obtain ⟨e, ek⟩ := stepC_inj (Nat.mod_lt g h0) (Nat.mod_lt h h0) (b1.trans b2.symm)
    subst e
    have ed := ih (fun d hd => ok d (List.mem_append_left _ hd)) a1 a2
    rw [← Nat.div_add_mod g c.2, ← Nat.div_add_mod h c.2, ed, ek]
end Mc

set_option Elab.async false
set_option linter.all false
set_option maxRecDepth 100000
set_option maxHeartbeats 4000000
namespace Mc
/-! ### names, as pure lists -/
def csA (rs : List (List Cut)) (i : Nat) : List Cut := rs.getD (i % rs.length) []
theorem csA_get {rs : List (List Cut)} (h : 0 < rs.length) (i : Nat) : rs[i % rs.length]? = some (csA rs i) := by
  have hl := Nat.mod_lt i h
  unfold csA
  rw [List.getElem?_eq_getElem hl, List.getD_eq_getElem?_getD, List.getElem?_eq_getElem hl]
  rfl
theorem csA_mem {rs : List (List Cut)} (h : 0 < rs.length) (i : Nat) : csA rs i ∈ rs := List.mem_of_getElem? (csA_get h i)
def sgF (rs : List (List Cut)) (i : Nat) : Nat := (placesF (csA rs i)).length
def NameOk (rs : List (List Cut)) (zs : List Nat) : Prop := ∀ i z, zs[i]? = some z → z < sgF rs i
theorem NameOk.nil {rs : List (List Cut)} : NameOk rs [] := fun i z h => by simp at h
theorem NameOk.take {rs : List (List Cut)} {zs : List Nat} (h : NameOk rs zs) (n : Nat) : NameOk rs (zs.take n) := fun i z e => by
  rw [List.getElem?_take] at e
  split at e
  · exact h i z e
  · cases e
theorem NameOk.snoc {rs : List (List Cut)} {zs : List Nat} {z : Nat} (h : NameOk rs zs) (hz : z < sgF rs zs.length) : NameOk rs (zs ++ [z]) := fun i y e => by
  by_cases l : i < zs.length
  · rw [List.getElem?_append_left l] at e
    exact h i y e
  · have hi : i = zs.length := by
      have := (List.getElem?_eq_some_iff.mp e).1
      rw [List.length_append, List.length_singleton] at this
      omega
    subst hi
    rw [List.getElem?_append_right (Nat.le_refl _), Nat.sub_self] at e
    cases e
    exact hz
def plA (rs : List (List Cut)) (i z : Nat) : Pr := (placesF (csA rs i)).getD z (0, 0)
theorem plA_get {rs : List (List Cut)} {i z : Nat} (h : z < sgF rs i) : (placesF (csA rs i))[z]? = some (plA rs i z) := by
  unfold plA
  have h : z < (placesF (csA rs i)).length := h
  rw [List.getD_eq_getElem?_getD, List.getElem?_eq_getElem h]
  rfl
def stepN (rs : List (List Cut)) (q : Pr) (i z : Nat) : Pr := (q.1 * (colsF (csA rs i) : Int) + (plA rs i z).1, q.2 * (rowsF (csA rs i) : Int) + (plA rs i z).2)
def pairFrom (rs : List (List Cut)) (k : Nat) (q : Pr) : List Nat → Pr
  | [] => q
  | z :: r => pairFrom rs (k + 1) (stepN rs q k z) r
def pairF (rs : List (List Cut)) (zs : List Nat) : Pr := pairFrom rs 0 (0, 0) zs
theorem pairFrom_append (rs : List (List Cut)) : ∀ (a b : List Nat) (k : Nat) (q : Pr), pairFrom rs k q (a ++ b) = pairFrom rs (k + a.length) (pairFrom rs k q a) b
  | [], b, k, q => rfl
  | z :: r, b, k, q => by
    show pairFrom rs (k + 1) (stepN rs q k z) (r ++ b) = _
    rw [pairFrom_append rs r b, List.length_cons, Nat.add_right_comm, Nat.add_assoc k]
    rfl
theorem pairF_snoc (rs : List (List Cut)) (zs : List Nat) (z : Nat) : pairF rs (zs ++ [z]) = stepN rs (pairF rs zs) zs.length z := by
  unfold pairF
  rw [pairFrom_append, Nat.zero_add]
  rfl
theorem pairF_take {rs : List (List Cut)} {zs : List Nat} {i z : Nat} (h : zs[i]? = some z) : pairF rs (zs.take (i + 1)) = stepN rs (pairF rs (zs.take i)) i z := by
  have e : zs.take (i + 1) = zs.take i ++ [z] := by
    rw [List.take_add_one, h]
    rfl
  have l : (zs.take i).length = i := by
    have := (List.getElem?_eq_some_iff.mp h).1
    rw [List.length_take]
    omega
  rw [e, pairF_snoc, l]
/-- columns (rows) of m signs from the k-th one on -/
def dcF (rs : List (List Cut)) (k : Nat) : Nat → Nat
  | 0 => 1
  | m + 1 => dcF rs k m * colsF (csA rs (k + m))
def drF (rs : List (List Cut)) (k : Nat) : Nat → Nat
  | 0 => 1
  | m + 1 => drF rs k m * rowsF (csA rs (k + m))
structure OkN (rs : List (List Cut)) : Prop where
  l1 : 0 < rs.length
  hc : ∀ cs ∈ rs, ∀ c ∈ cs, okC c
  h32 : ∀ cs ∈ rs, colsF cs * rowsF cs ≤ 32
theorem OkN.pos {rs : List (List Cut)} (ok : OkN rs) (i : Nat) : 0 < colsF (csA rs i) ∧ 0 < rowsF (csA rs i) := pos_cols (ok.hc _ (csA_mem ok.l1 i))
theorem OkN.le {rs : List (List Cut)} (ok : OkN rs) (i : Nat) : colsF (csA rs i) ≤ 32 ∧ rowsF (csA rs i) ≤ 32 := by
  have h := ok.h32 _ (csA_mem ok.l1 i)
  have p := ok.pos i
  exact ⟨Nat.le_trans (Nat.le_mul_of_pos_right _ p.2) h, Nat.le_trans (Nat.le_mul_of_pos_left _ p.1) h⟩
theorem dc_pos {rs : List (List Cut)} (ok : OkN rs) (k : Nat) : ∀ m, 0 < dcF rs k m ∧ 0 < drF rs k m
  | 0 => ⟨Nat.zero_lt_one, Nat.zero_lt_one⟩
  | m + 1 => ⟨Nat.mul_pos (dc_pos ok k m).1 (ok.pos _).1, Nat.mul_pos (dc_pos ok k m).2 (ok.pos _).2⟩
theorem dc_add (rs : List (List Cut)) (k : Nat) : ∀ m n, dcF rs k (m + n) = dcF rs k m * dcF rs (k + m) n ∧ drF rs k (m + n) = drF rs k m * drF rs (k + m) n
  | m, 0 => ⟨(Nat.mul_one _).symm, (Nat.mul_one _).symm⟩
  | m, n + 1 => by
    obtain ⟨h1, h2⟩ := dc_add rs k m n
    constructor
    · show dcF rs k (m + n) * colsF (csA rs (k + (m + n))) = dcF rs k m * (dcF rs (k + m) n * colsF (csA rs (k + m + n)))
      rw [h1, Nat.mul_assoc, Nat.add_assoc]
    · show drF rs k (m + n) * rowsF (csA rs (k + (m + n))) = drF rs k m * (drF rs (k + m) n * rowsF (csA rs (k + m + n)))
      rw [h2, Nat.mul_assoc, Nat.add_assoc]
theorem dc_bits {rs : List (List Cut)} (ok : OkN rs) (k : Nat) : ∀ m, dcF rs k m ≤ 2 ^ (5 * m) ∧ drF rs k m ≤ 2 ^ (5 * m)
  | 0 => ⟨Nat.le_refl 1, Nat.le_refl 1⟩
  | m + 1 => by
    obtain ⟨h1, h2⟩ := dc_bits ok k m
    have l := ok.le (k + m)
    rw [Nat.mul_succ, Nat.pow_add]
    exact ⟨Nat.mul_le_mul h1 l.1, Nat.mul_le_mul h2 l.2⟩
theorem pl_in {rs : List (List Cut)} {i z : Nat} (h : z < sgF rs i) : 0 ≤ (plA rs i z).1 ∧ (plA rs i z).1 < colsF (csA rs i) ∧ 0 ≤ (plA rs i z).2 ∧ (plA rs i z).2 < rowsF (csA rs i) := placesF_mem _ (List.mem_of_getElem? (plA_get h))
/-- x * (a * c) + r * c + p, one step of a row of digits -/
theorem dig_step {x r p : Int} {a c : Nat} (h0 : 0 ≤ r) (h1 : r < a) (p0 : 0 ≤ p) (p1 : p < c) : (x * (a : Int) + r) * (c : Int) + p = x * ((a * c : Nat) : Int) + (r * (c : Int) + p) ∧ 0 ≤ r * (c : Int) + p ∧ r * (c : Int) + p < ((a * c : Nat) : Int) := by
  obtain ⟨r', rfl⟩ := Int.eq_ofNat_of_zero_le h0
  have e : ((r' : Nat) : Int) * (c : Int) = ((r' * c : Nat) : Int) := (Int.natCast_mul _ _).symm
  have l := Nat.mul_le_mul_right c (show r' + 1 ≤ a by omega)
  rw [Nat.succ_mul] at l
  refine ⟨?_, ?_, ?_⟩
  · rw [Int.add_mul, Int.mul_assoc, ← Int.natCast_mul, Int.add_assoc]
  · rw [e]; omega
  · rw [e]; omega
/-- from place k on: the number so far times the columns to come, and less than these -/
theorem pairFrom_div {rs : List (List Cut)} (ok : OkN rs) (k : Nat) (q : Pr) : ∀ (n : Nat) (b : List Nat), b.length = n → (∀ i z, b[i]? = some z → z < sgF rs (k + i)) → ∃ r1 r2 : Int, pairFrom rs k q b = (q.1 * (dcF rs k n : Int) + r1, q.2 * (drF rs k n : Int) + r2) ∧ 0 ≤ r1 ∧ r1 < dcF rs k n ∧ 0 ≤ r2 ∧ r2 < drF rs k n
  | 0, [], _, _ => ⟨0, 0, by simp [pairFrom, dcF, drF], by decide, by show (0 : Int) < ((1 : Nat) : Int); decide, by decide, by show (0 : Int) < ((1 : Nat) : Int); decide⟩
  | n + 1, b, hb, h => by
    obtain ⟨a, z, rfl⟩ : ∃ a z, b = a ++ [z] := by
      have ne : b ≠ [] := fun e => by rw [e] at hb; simp at hb
      exact ⟨b.dropLast, b.getLast ne, (List.dropLast_concat_getLast ne).symm⟩
    have ha : a.length = n := by rw [List.length_append, List.length_singleton] at hb; omega
    obtain ⟨r1, r2, e, a1, a2, a3, a4⟩ := pairFrom_div ok k q n a ha fun i y hy => h i y (by rw [List.getElem?_append_left (List.getElem?_eq_some_iff.mp hy).1]; exact hy)
    have hz : z < sgF rs (k + n) := h n z (by rw [List.getElem?_append_right (by omega), ha, Nat.sub_self]; rfl)
    obtain ⟨p1, p2, p3, p4⟩ := pl_in hz
    rw [pairFrom_append, ha, e]
    obtain ⟨s1, s2, s3⟩ := dig_step (x := q.1) a1 a2 p1 p2
    obtain ⟨t1, t2, t3⟩ := dig_step (x := q.2) a3 a4 p3 p4
    refine ⟨r1 * (colsF (csA rs (k + n)) : Int) + (plA rs (k + n) z).1, r2 * (rowsF (csA rs (k + n)) : Int) + (plA rs (k + n) z).2, ?_, s2, s3, t2, t3⟩
    show stepN rs _ (k + n) z = _
    unfold stepN
    exact Prod.ext s1 t1
theorem pairF_in {rs : List (List Cut)} (ok : OkN rs) {zs : List Nat} (h : NameOk rs zs) : 0 ≤ (pairF rs zs).1 ∧ (pairF rs zs).1 < dcF rs 0 zs.length ∧ 0 ≤ (pairF rs zs).2 ∧ (pairF rs zs).2 < drF rs 0 zs.length := by
  obtain ⟨r1, r2, e, a1, a2, a3, a4⟩ := pairFrom_div ok 0 (0, 0) zs.length zs rfl fun i z hz => by rw [Nat.zero_add]; exact h i z hz
  unfold pairF
  rw [e]
  refine ⟨?_, ?_, ?_, ?_⟩ <;> simp <;> assumption
theorem pairF_bits {rs : List (List Cut)} (ok : OkN rs) {zs : List Nat} (h : NameOk rs zs) {n : Nat} (hn : zs.length ≤ n) : (pairF rs zs).1.natAbs < 2 ^ (5 * n + 1) ∧ (pairF rs zs).2.natAbs < 2 ^ (5 * n + 1) := by
  obtain ⟨a1, a2, a3, a4⟩ := pairF_in ok h
  obtain ⟨b1, b2⟩ := dc_bits ok 0 zs.length
  have b3 : 2 ^ (5 * zs.length) ≤ 2 ^ (5 * n) := Nat.pow_le_pow_right (by decide) (by omega)
  have b4 : 2 ^ (5 * n) < 2 ^ (5 * n + 1) := Nat.pow_lt_pow_right (by decide) (by omega)
  exact ⟨by omega, by omega⟩
theorem mul_mod_inj {x y p q : Int} {c : Nat} (p0 : 0 ≤ p) (p1 : p < c) (q0 : 0 ≤ q) (q1 : q < c) (h : x * (c : Int) + p = y * (c : Int) + q) : x = y ∧ p = q := by
  have hc : (c : Int) ≠ 0 := by omega
  have e1 := congrArg (· / (c : Int)) h
  have e2 := congrArg (· % (c : Int)) h
  simp only [Int.add_comm (x * _), Int.add_comm (y * _), Int.add_mul_ediv_right _ _ hc, Int.add_mul_emod_self_right] at e1 e2
  rw [Int.ediv_eq_zero_of_lt p0 p1, Int.ediv_eq_zero_of_lt q0 q1] at e1
  rw [Int.emod_eq_of_lt p0 p1, Int.emod_eq_of_lt q0 q1] at e2
  omega
/-- unlike names of one length have unlike pairs -/
theorem pairF_inj {rs : List (List Cut)} (ok : OkN rs) : ∀ (n : Nat) (a b : List Nat), a.length = n → b.length = n → NameOk rs a → NameOk rs b → pairF rs a = pairF rs b → a = b
  | 0, a, b, ha, hb, _, _, _ => by rw [List.length_eq_zero_iff.mp ha, List.length_eq_zero_iff.mp hb]
  | n + 1, a, b, ha, hb, na, nb, e => by
    have sp : ∀ c : List Nat, c.length = n + 1 → ∃ d z, c = d ++ [z] := fun c hc => by
      have ne : c ≠ [] := fun e => by rw [e] at hc; simp at hc
      exact ⟨c.dropLast, c.getLast ne, (List.dropLast_concat_getLast ne).symm⟩
    obtain ⟨a, y, rfl⟩ := sp a ha
    obtain ⟨b, z, rfl⟩ := sp b hb
    rw [List.length_append, List.length_singleton] at ha hb
    have la : a.length = n := by omega
    have lb : b.length = n := by omega
    have hy : y < sgF rs n := na n y (by rw [List.getElem?_append_right (by omega), la, Nat.sub_self]; rfl)
    have hz : z < sgF rs n := nb n z (by rw [List.getElem?_append_right (by omega), lb, Nat.sub_self]; rfl)
    have oa : NameOk rs a := by have := na.take n; rwa [List.take_append_of_le_length (by omega), List.take_of_length_le (by omega)] at this
    have ob : NameOk rs b := by have := nb.take n; rwa [List.take_append_of_le_length (by omega), List.take_of_length_le (by omega)] at this
    rw [pairF_snoc, pairF_snoc, la, lb] at e
    unfold stepN at e
    obtain ⟨y1, y2, y3, y4⟩ := pl_in hy
    obtain ⟨z1, z2, z3, z4⟩ := pl_in hz
    obtain ⟨e1, e2⟩ := mul_mod_inj y1 y2 z1 z2 (congrArg Prod.fst e)
    obtain ⟨e3, e4⟩ := mul_mod_inj y3 y4 z3 z4 (congrArg Prod.snd e)
    have ei := pairF_inj ok n a b la lb oa ob (Prod.ext e1 e3)
    have ep : plA rs n y = plA rs n z := Prod.ext e2 e4
    have hyz := place_inj (ok.hc _ (csA_mem ok.l1 n)) (plA_get hy) ((plA_get hz).trans (congrArg some ep.symm))
    rw [ei, hyz]
theorem pairF_cut {rs : List (List Cut)} (ok : OkN rs) {zs : List Nat} (h : NameOk rs zs) {n : Nat} (hn : n ≤ zs.length) : (pairF rs zs).1 / ((dcF rs 0 zs.length / dcF rs 0 n : Nat) : Int) = (pairF rs (zs.take n)).1 ∧ (pairF rs zs).2 / ((drF rs 0 zs.length / drF rs 0 n : Nat) : Int) = (pairF rs (zs.take n)).2 := by
  have el : zs.length = n + (zs.length - n) := by omega
  obtain ⟨d1, d2⟩ := dc_add rs 0 n (zs.length - n)
  rw [← el, Nat.zero_add] at d1 d2
  have q := dc_pos ok 0 n
  have ed1 : dcF rs 0 zs.length / dcF rs 0 n = dcF rs n (zs.length - n) := by rw [d1, Nat.mul_div_cancel_left _ q.1]
  have ed2 : drF rs 0 zs.length / drF rs 0 n = drF rs n (zs.length - n) := by rw [d2, Nat.mul_div_cancel_left _ q.2]
  rw [ed1, ed2]
  have tl : (zs.take n).length = n := by rw [List.length_take]; omega
  obtain ⟨r1, r2, e, a1, a2, a3, a4⟩ := pairFrom_div ok n (pairF rs (zs.take n)) (zs.length - n) (zs.drop n) (by rw [List.length_drop]) fun i z hz => h (n + i) z (by rw [List.getElem?_drop] at hz; exact hz)
  have e2 : pairF rs zs = pairFrom rs n (pairF rs (zs.take n)) (zs.drop n) := by
    conv => lhs; rw [← List.take_append_drop n zs]
    unfold pairF
    rw [pairFrom_append, Nat.zero_add, tl]
  rw [e2, e]
  have p := dc_pos ok n (zs.length - n)
  constructor
  · show ((pairF rs (zs.take n)).1 * _ + r1) / _ = _
    rw [Int.add_comm, Int.add_mul_ediv_right _ _ (by omega), Int.ediv_eq_zero_of_lt a1 a2, Int.zero_add]
  · show ((pairF rs (zs.take n)).2 * _ + r2) / _ = _
    rw [Int.add_comm, Int.add_mul_ediv_right _ _ (by omega), Int.ediv_eq_zero_of_lt a3 a4, Int.zero_add]
/-- a cell lies in another one just where the name begins with the other's -/
theorem lies_iff {rs : List (List Cut)} (ok : OkN rs) {zs ws : List Nat} (hz : NameOk rs zs) (hw : NameOk rs ws) (hn : ws.length ≤ zs.length) :
    ((pairF rs zs).1 / ((dcF rs 0 zs.length / dcF rs 0 ws.length : Nat) : Int) = (pairF rs ws).1 ∧ (pairF rs zs).2 / ((drF rs 0 zs.length / drF rs 0 ws.length : Nat) : Int) = (pairF rs ws).2) ↔ zs.take ws.length = ws := by
  obtain ⟨c1, c2⟩ := pairF_cut ok hz hn
  rw [c1, c2]
  constructor
  · rintro ⟨h1, h2⟩
    exact pairF_inj ok ws.length _ _ (by rw [List.length_take]; omega) rfl (hz.take _) hw (Prod.ext h1 h2)
  · intro h
    rw [h]
    exact ⟨rfl, rfl⟩
/-- how many signs are common -/
def lcpN : List Nat → List Nat → Nat
  | a :: x, b :: y => if a = b then lcpN x y + 1 else 0
  | _, _ => 0
def lcp (x y : List Nat) : List Nat := x.take (lcpN x y)
theorem lcpN_le : ∀ x y : List Nat, lcpN x y ≤ x.length ∧ lcpN x y ≤ y.length
  | [], y => by simp [lcpN]
  | a :: x, [] => by simp [lcpN]
  | a :: x, b :: y => by
    unfold lcpN
    have := lcpN_le x y
    split <;> simp <;> omega
theorem lcpN_get : ∀ (x y : List Nat) (m : Nat), m ≤ lcpN x y → (m < lcpN x y ↔ ∃ z, x[m]? = some z ∧ y[m]? = some z)
  | [], y, m, h => by simp [lcpN]
  | a :: x, [], m, h => by simp [lcpN]
  | a :: x, b :: y, 0, h => by
    unfold lcpN
    by_cases e : a = b
    · simp [e]
    · rw [if_neg e]
      constructor
      · intro z; omega
      · rintro ⟨z, h1, h2⟩
        simp at h1 h2
        exact absurd (h1.trans h2.symm) e
  | a :: x, b :: y, m + 1, h => by
    unfold lcpN at h ⊢
    by_cases e : a = b
    · rw [if_pos e] at h ⊢
      have := lcpN_get x y m (by omega)
      simp only [List.getElem?_cons_succ]
      rw [← this]
      omega
    · rw [if_neg e] at h
      omega
theorem lcp_take : ∀ x y : List Nat, x.take (lcpN x y) = y.take (lcpN x y)
  | [], y => by simp [lcpN]
  | a :: x, [] => by simp [lcpN]
  | a :: x, b :: y => by
    unfold lcpN
    by_cases e : a = b
    · rw [if_pos e, e, List.take_succ_cons, List.take_succ_cons, lcp_take x y]
    · rw [if_neg e]; rfl
theorem lcpN_comm : ∀ x y : List Nat, lcpN x y = lcpN y x
  | [], [] => rfl
  | [], _ :: _ => rfl
  | _ :: _, [] => rfl
  | a :: x, b :: y => by
    unfold lcpN
    rw [lcpN_comm x y]
    by_cases e : a = b
    · rw [if_pos e, if_pos e.symm]
    · rw [if_neg e, if_neg fun z => e z.symm]
theorem lcp_comm (x y : List Nat) : lcp x y = lcp y x := by
  unfold lcp
  rw [lcp_take, lcpN_comm]
theorem lcp_length (x y : List Nat) : (lcp x y).length = lcpN x y := by
  have := lcpN_le x y
  unfold lcp
  rw [List.length_take]
  omega
theorem lcp_begins (x y : List Nat) : x.take (lcp x y).length = lcp x y ∧ y.take (lcp x y).length = lcp x y := by
  rw [lcp_length]
  exact ⟨rfl, (lcp_take x y).symm⟩
theorem lcp_all : ∀ x y : List Nat, x.take y.length = y → lcpN x y = y.length
  | [], [], h => rfl
  | [], b :: y, h => by simp at h
  | a :: x, [], h => rfl
  | a :: x, b :: y, h => by
    rw [List.length_cons, List.take_succ_cons] at h
    injection h with h1 h2
    unfold lcpN
    rw [if_pos h1, lcp_all x y h2]
    rfl
theorem lcp_eq_iff (x y : List Nat) : lcp x y = y ↔ x.take y.length = y := by
  constructor
  · intro h
    have := (lcp_begins x y).1
    rwa [h] at this
  · intro h
    unfold lcp
    rw [lcp_all x y h]
    exact h

theorem OkR.n {rs : List (List Cut)} (ok : OkR rs) : OkN rs := ⟨ok.l1, ok.hc, ok.h32⟩
end Mc

set_option Elab.async false
set_option linter.all false
set_option maxRecDepth 100000
set_option maxHeartbeats 4000000
set_option exponentiation.threshold 20000
namespace Mc
open PySem PySem.Spec PyProof.Rows L2 ClX StX
section
variable {P : Program} {w : World} {K : PySem.W.Frag} {mg : Str → Option Value} {base : Heap} {f C0 aX : Addr} {mc : Value} {fd : FuncData}
theorem sc_check_plan : FnScope ["plan"] ["plan"] (defScope s_check_plan) := ⟨rfl, rfl, rfl, by decide +kernel, rfl, by decide +kernel, by decide +kernel⟩
def spChkPlan (C0 : Addr) : Sp := fun vs H Q _ => ∃ (p : Addr) (rs : List (List Cut)), vs = [.ref p] ∧ PlanAt C0 H p rs ∧ Q .non H
theorem ok_check_plan (F : FunD K "check_plan" "check_plan" (defArgs s_check_plan) (defBody s_check_plan) (defScope s_check_plan) [] [] f fd) (T : TB mg) (R : PlanT K mg C0 aX mc) (RE : PlanE K C0) : FnOk P w K mg base CX0 1 f fd ["plan"] (spChkPlan C0) := by
  refine F.ok sc_check_plan (fun vs H Q E h => ?_) (fun cdv A outer s H vs Q E hr h => ?_)
  · obtain ⟨p, rs, rfl, hp, k⟩ := h
    rfl
  · obtain ⟨p, rs, rfl, hp, k⟩ := h
    refine ⟨_, (PSs.nox (pss_one (ps_if (pt_not (pt_val (pe_callB call_isi (by rfl) T.isinstance (by decide +kernel) (pa_cons (pv 0) (pa_cons (pe_glob (v := .ref C0) (by rfl) R.mgP rfl) pa_nil))))) (pss_one ps_never) pss_nil))), ?_⟩
    obtain ⟨dx, lr, lp, ll, g, h1, h2⟩ := id hp
    exact ⟨_, rfl, .ref p, _, _, _, true, rfl, .own C0, .base (.ins h1 R.cl RE.ca RE.cn RE.ct RE.cm), RE.kR, _, rfl, iteF k⟩
theorem sc_signs_at : FnScope ["plan", "at"] ["plan", "at"] (defScope s_signs_at) := ⟨rfl, rfl, rfl, by decide +kernel, rfl, by decide +kernel, by decide +kernel⟩
def spSignsAt (C0 : Addr) : Sp := fun vs H Q _ => ∃ (p : Addr) (rs : List (List Cut)) (i : Nat), vs = [.ref p, .int i] ∧ PlanAt C0 H p rs ∧ 0 < rs.length ∧ rs.length ≤ 3 ∧ Q (.int (sgF rs i)) H
theorem ok_signs_at (F : FunD K "signs_at" "signs_at" (defArgs s_signs_at) (defBody s_signs_at) (defScope s_signs_at) [] [] f fd) (T : TB mg) (R : PlanT K mg C0 aX mc) {fLen : Addr} {fdLen : FuncData} (mLen : Meth K C0 "__len__" fLen) (Glen : FnOk P w K mg base CX0 1 fLen fdLen ["self"] (spLen C0)) (bLen : Binds K fdLen ["self"] []) {fSg : Addr} {fdSg : FuncData} (mSg : Meth K C0 "signs" fSg) (Gsg : FnOk P w K mg base CX0 5 fSg fdSg ["self", "phase"] (spSigns C0)) (bSg : Binds K fdSg ["self", "phase"] []) : FnOk P w K mg base CX0 6 f fd ["plan", "at"] (spSignsAt C0) := by
  refine F.ok sc_signs_at (fun vs H Q E h => ?_) (fun cdv A outer s H vs Q E hr h => ?_)
  · obtain ⟨p, rs, i, rfl, hp, l1, l3, k⟩ := h
    rfl
  · obtain ⟨p, rs, i, rfl, hp, l1, l3, k⟩ := h
    refine ⟨_, (PSs.nox (pss_one (ps_ret (pe_meth (pv 0) R.cl mSg Gsg (hr.mono (by decide)) bSg .nil pass0 (pa_cons (pe_op op_mod (pv 1) (pe_callB (call_lenO mLen Glen bLen (hr.mono (by decide))) (by rfl) T.len PySem.boot_len (pa_cons (pv 0) pa_nil))) pa_nil))))), ?_⟩
    obtain ⟨dx, lr, lp, ll, g, h1, h2⟩ := id hp
    refine ⟨_, rfl, p, dx, _, rfl, h1, rfl, _, rfl, _, rfl, p, dx, _, rfl, h1, p, rs, rfl, hp, rs.length, rfl, by omega, (i : Int), (rs.length : Int), rfl, rfl, (by show (0 : Int) < (rs.length : Int); omega), ?_⟩
    exact ⟨p, rs, i % rs.length, csA rs i, rfl, hp, csA_get l1 i, l3, k⟩
theorem sc_is_name : FnScope ["plan", "value", "at", "sign"] ["plan", "value"] (defScope s_is_name) := ⟨rfl, rfl, rfl, by decide +kernel, rfl, by decide +kernel, by decide +kernel⟩
theorem tyx_tup {K : PySem.W.Frag} {H : Hp} {a : Addr} {xs : List V} (h : SqT K H a xs) : TyX K H (.ref a) (.type "tuple") := by
  rcases h with (h | ⟨o, h⟩) | ⟨o, its, n, hk, hc, _⟩
  · exact .base (.tup h)
  · exact .fTuple h
  · exact .kTuple hk hc
theorem nat_get {zs : List Nat} {i : Nat} {x : V} (h : (zs.map fun z : Nat => V.int z)[i]? = some x) : ∃ z : Nat, zs[i]? = some z ∧ x = .int (z : Nat) := by
  rw [List.getElem?_map] at h
  obtain ⟨z, h1, h2⟩ := Option.map_eq_some_iff.mp h
  exact ⟨z, h1, h2.symm⟩
theorem lc_enumT {K : PySem.W.Frag} {a : Addr} {xs : List V} {g : TG} {tt : TT} {te : TE} {vs : List Nat} {σ : L2.St} {H1 : Hp} {D : Addr} {Qd : Hp → Prop} (Pv : Nat → Hp → Prop) (h0 : Pv 0 (upd H1 D (.lst []))) (hS : ∀ i H, Pv i H → SqT K H a xs)
    (hs : ∀ i x T H, xs[i]? = some x → H T = none → Pv i H → g (.ref T) (wipe σ vs) (upd H T (.tup [.int (i : Nat), x])) fun σ2 H2 => wipe σ2 vs = wipe σ vs ∧ tt σ2 H2 fun b H3 => if b = true then te σ2 H3 fun y H4 => ∃ acc, H4 D = some (.lst acc) ∧ acc.length < sizeLine ∧ Pv (i + 1) (upd H4 D (.lst (acc ++ [y]))) else Pv (i + 1) H3) (hd : ∀ H, Pv xs.length H → Qd H) : ∃ W : Nat → Nat → Hp → Prop, (∃ m, W 0 m (upd H1 D (.lst []))) ∧ ∀ i m H, W i m H →
      ((IteT K a).stop i H ∧ Qd H) ∨ ((IteT K a).go i H ∧ ∃ Nx : Hp → Prop, (∀ H', Nx H' → ∃ m', m' < m ∧ W (i + 1) m' H') ∧ ∀ x H', (IteT K a).yld i H x H' → g x (wipe σ vs) H' fun σ2 H2 => wipe σ2 vs = wipe σ vs ∧ tt σ2 H2 fun b H3 => if b = true then te σ2 H3 fun y H4 => ∃ acc, H4 D = some (.lst acc) ∧ acc.length < sizeLine ∧ Nx (upd H4 D (.lst (acc ++ [y]))) else Nx H3) := by
  refine ⟨fun i m H => i + m = xs.length ∧ Pv i H, ⟨xs.length, Nat.zero_add _, h0⟩, fun i m H ⟨hm, p⟩ => ?_⟩
  have s1 := hS i H p
  rcases Nat.eq_zero_or_pos m with z | z
  · have e : i = xs.length := by omega
    exact .inl ⟨⟨xs, s1, Nat.le_of_eq e.symm⟩, hd H (e ▸ p)⟩
  · have lt : i < xs.length := by omega
    refine .inr ⟨⟨xs, xs[i], s1, List.getElem?_eq_getElem lt⟩, Pv (i + 1), fun _ q => ⟨m - 1, by omega, by omega, q⟩, ?_⟩
    rintro v H' ⟨T, x, rfl, hT, rfl, hx⟩
    exact hs i x T H (hx xs s1) hT p
/-- a tuple of signs -/
def NmAt (K : PySem.W.Frag) (H : Hp) (a : Addr) (zs : List Nat) : Prop := SqT K H a (zs.map fun z : Nat => V.int z)
def spIsName (K : PySem.W.Frag) (C0 : Addr) : Sp := fun vs H Q _ => ∃ (p : Addr) (rs : List (List Cut)) (a : Addr) (zs : List Nat), vs = [.ref p, .ref a] ∧ PlanAt C0 H p rs ∧ OkR rs ∧ SqT K H a (zs.map fun z : Nat => V.int z) ∧ NameOk rs zs ∧ zs.length ≤ 1000 ∧ ∀ H', Ext H H' → Q (.bl true) H'
def spChkName (K : PySem.W.Frag) (C0 : Addr) : Sp := fun vs H Q _ => ∃ (p : Addr) (rs : List (List Cut)) (a : Addr) (zs : List Nat), vs = [.ref p, .ref a] ∧ PlanAt C0 H p rs ∧ OkR rs ∧ SqT K H a (zs.map fun z : Nat => V.int z) ∧ NameOk rs zs ∧ zs.length ≤ 1000 ∧ ∀ H', Ext H H' → Q .non H'
theorem ok_is_name (F : FunD K "is_name" "is_name" (defArgs s_is_name) (defBody s_is_name) (defScope s_is_name) [] [] f fd) (T : TB mg) {fcheck_plan : Addr} {fdcheck_plan : FuncData} (Dcheck_plan : Gd P w K mg base "check_plan" 1 ["plan"] (spChkPlan C0) fcheck_plan fdcheck_plan) {fis_count_below : Addr} {fdis_count_below : FuncData} (Dis_count_below : Gd P w K mg base "is_count_below" 3 ["value", "bound"] (spBelow) fis_count_below fdis_count_below) {fsigns_at : Addr} {fdsigns_at : FuncData} (Dsigns_at : Gd P w K mg base "signs_at" 6 ["plan", "at"] (spSignsAt C0) fsigns_at fdsigns_at) : FnOk P w K mg base CX0 7 f fd ["plan", "value"] (spIsName K C0) := by
  refine F.ok sc_is_name (fun vs H Q E h => ?_) (fun cdv A outer s H vs Q E hr h => ?_)
  · obtain ⟨p, rs, a, zs, rfl, hp, ok, ha, nm, hz, k⟩ := h
    rfl
  · obtain ⟨p, rs, a, zs, rfl, hp, ok, ha, nm, hz, k⟩ := h
    refine ⟨_, (PSs.nox (pss_cons (ps_expr (pe_gd Dcheck_plan hr (by decide) (by rfl) (pa_cons (pv 0) pa_nil)))
      (pss_cons (ps_if (pt_not (pt_val (pe_callB call_isi (by rfl) T.isinstance (by decide +kernel) (pa_cons (pv 1) (pa_cons (pe_bltn (v := .ty "tuple") (by rfl) T.tuple (by decide +kernel) rfl) pa_nil))))) (pss_one (ps_ret pe_bl)) pss_nil)
      (pss_one (ps_ret (pe_callB (cr_all rfl) (by rfl) T.all (by decide +kernel) (pa_cons (pe_lc (own := [("at", 2), ("sign", 3)]) (g := gTup K 2 (gCons (gName 2) (gCons (gName 3) gNil))) (tt := tYes) rfl sc_is_name.nd (pi_enumT (by rfl) T.enumerate (pa_cons (pv 1) pa_nil)) (blkOk_by (own := [("at", 2), ("sign", 3)]) (N := ["plan", "value", "at", "sign"]) (sc := defScope s_is_name) (by decide +kernel)) (fun _ _ _ _ _ => (pg_tup rfl (pgs_cons (pg_name (i := 2) sc_is_name.nd rfl (.inl rfl)) (pgs_cons (pg_name (i := 3) sc_is_name.nd rfl (.inl rfl)) pgs_nil)))) (fun _ _ _ _ _ => pts_nil) (fun _ _ _ _ _ => (pe_gd Dis_count_below hr (by decide) (by rfl) (pa_cons (pv 3) (pa_cons (pe_gd Dsigns_at hr (by decide) (by rfl) (pa_cons (pv 0) (pa_cons (pv 2) pa_nil))) pa_nil))))) pa_nil))))))), ?_⟩
    refine ⟨_, rfl, p, rs, rfl, hp, ?_⟩
    refine ⟨_, rfl, .ref a, _, _, _, true, rfl, .ty "tuple", tyx_tup ha, kit_ty (by decide +kernel), _, rfl, iteF ?_⟩
    refine ⟨_, rfl, a, _, rfl, ha, fun D hD => lc_enumT (fun i H' => H' D = some (.lst (List.replicate i (.bl true))) ∧ Ext H H') ⟨upd_same, Ext.upd hD⟩ (fun _ _ q => ha.ext q.2) ?_ ?_⟩
    · rintro i x T2 H' hx hT ⟨hD', e⟩
      obtain ⟨z, hzi, rfl⟩ := nat_get hx
      have eT : Ext H' (upd H' T2 (.tup [.int (i : Nat), .int (z : Nat)])) := Ext.upd hT
      have hi := (List.getElem?_eq_some_iff.mp hzi).1
      have hsg := nm i z hzi
      refine ⟨T2, _, rfl, SqT.of upd_same, rfl, _, _, rfl, _, _, rfl, rfl, rfl, lc_yes ⟨_, rfl, _, rfl, _, rfl, p, rs, i, rfl, hp.ext (e.trans eT), ok.l1, ok.l3, ?_⟩⟩
      refine ⟨(z : Int), (sgF rs i : Int), rfl, by omega, by omega, ?_⟩
      refine ⟨_, eT _ _ hD', ?_, ?_, ext_put (e.trans eT) hD⟩
      · rw [List.length_replicate, sizeLine_eq]
        omega
      · rw [upd_same, rep_put]
    · rintro H' ⟨hD', e⟩
      refine ⟨D, List.replicate zs.length true, rfl, SqL.of ?_, ?_⟩
      · rw [hD', List.map_replicate, List.length_map]
      · rw [all_rep]
        exact k H' e
theorem sc_check_name : FnScope ["plan", "name"] ["plan", "name"] (defScope s_check_name) := ⟨rfl, rfl, rfl, by decide +kernel, rfl, by decide +kernel, by decide +kernel⟩
theorem ok_check_name (F : FunD K "check_name" "check_name" (defArgs s_check_name) (defBody s_check_name) (defScope s_check_name) [] [] f fd) (T : TB mg) {fis_name : Addr} {fdis_name : FuncData} (Dis_name : Gd P w K mg base "is_name" 7 ["plan", "value"] (spIsName K C0) fis_name fdis_name) : FnOk P w K mg base CX0 8 f fd ["plan", "name"] (spChkName K C0) := by
  refine F.ok sc_check_name (fun vs H Q E h => ?_) (fun cdv A outer s H vs Q E hr h => ?_)
  · obtain ⟨p, rs, a, zs, rfl, hp, ok, ha, nm, hz, k⟩ := h
    rfl
  · obtain ⟨p, rs, a, zs, rfl, hp, ok, ha, nm, hz, k⟩ := h
    refine ⟨_, (PSs.nox (pss_one (ps_if (pt_not (pt_val (pe_gd Dis_name hr (by decide) (by rfl) (pa_cons (pv 0) (pa_cons (pv 1) pa_nil))))) (pss_one ps_never) pss_nil))), ?_⟩
    exact ⟨_, rfl, _, rfl, p, rs, a, zs, rfl, hp, ok, ha, nm, hz, fun H' e => ⟨_, rfl, iteF (k H' e)⟩⟩
def spPairOf (K : PySem.W.Frag) (C0 : Addr) : Sp := fun vs H Q _ => ∃ (p : Addr) (rs : List (List Cut)) (a : Addr) (zs : List Nat), vs = [.ref p, .ref a] ∧ PlanAt C0 H p rs ∧ OkR rs ∧ SqT K H a (zs.map fun z : Nat => V.int z) ∧ NameOk rs zs ∧ zs.length ≤ 1000 ∧ ∀ t H', Ext H H' → H' t = some (.tup [.int (pairF rs zs).1, .int (pairF rs zs).2]) → Q (.ref t) H'


def TwoAt (K : PySem.W.Frag) (C0 : Addr) (H : Hp) (p a b : Addr) (rs : List (List Cut)) (zs ws : List Nat) : Prop := PlanAt C0 H p rs ∧ OkR rs ∧ SqT K H a (zs.map fun z : Nat => V.int z) ∧ NameOk rs zs ∧ zs.length ≤ 1000 ∧ SqT K H b (ws.map fun z : Nat => V.int z) ∧ NameOk rs ws ∧ ws.length ≤ 1000
def spChkTwo (K : PySem.W.Frag) (C0 : Addr) : Sp := fun vs H Q _ => ∃ (p : Addr) (rs : List (List Cut)) (a b : Addr) (zs ws : List Nat), vs = [.ref p, .ref a, .ref b] ∧ PlanAt C0 H p rs ∧ OkR rs ∧ SqT K H a (zs.map fun z : Nat => V.int z) ∧ NameOk rs zs ∧ zs.length ≤ 1000 ∧ SqT K H b (ws.map fun z : Nat => V.int z) ∧ NameOk rs ws ∧ ws.length ≤ 1000 ∧ ∀ H', Ext H H' → Q .non H'

def rSlU (K : PySem.W.Frag) : V → Option Int → Option Int → Hp → VK → Prop := fun x lo hi H Q => ∃ a xs, x = .ref a ∧ SqT K H a xs ∧ ∀ p H', Ext H H' → SqT K H' p (L2.cutV xs lo hi) → Q (.ref p) H'
theorem cut_whole {xs : List V} {lo hi : Option Int} (h : HT.sIx xs.length 0 lo = 0 ∧ HT.sIx xs.length xs.length hi = xs.length) : L2.cutV xs lo hi = xs := by
  unfold L2.cutV
  rw [h.1, h.2, List.drop_zero, Nat.sub_zero, List.take_length]
theorem sl_tupU {X : Cx} {K : PySem.W.Frag} (hK : X.K = K) : SlR X (rSlU K) := by
  subst hK
  intro pins s σ H x v vl vu lo hi sl Q I rx hs pl pu h
  obtain ⟨a, xs, rfl, hx, q⟩ := h
  exact sl_tupA pins s σ H _ v vl vu lo hi sl Q I rx hs pl pu ⟨a, xs, rfl, hx, fun hw => q a H Ext.rfl' (by rw [cut_whole hw]; exact hx), fun _ p hp => q p _ (Ext.upd hp) (SqT.of upd_same)⟩
theorem cut_takeU (xs : List V) (n : Nat) : L2.cutV xs Option.none (some ((n : Nat) : Int)) = xs.take n := by
  unfold L2.cutV
  rw [HT.sIx_none, HT.sIx_nat, List.drop_zero, Nat.sub_zero]
  by_cases h : n ≤ xs.length
  · rw [Nat.min_eq_left h]
  · rw [Nat.min_eq_right (by omega), List.take_length, List.take_of_length_le (by omega)]
def dqZ (z : Nat) : PyData := .int (z : Nat)
def dqN (zs : List Nat) : PyData := .tuple (zs.map dqZ)
theorem dp_ints {K : PySem.W.Frag} {H : Hp} : ∀ zs : List Nat, DpAll K H (zs.map fun z : Nat => V.int z) (zs.map dqZ)
  | [] => .nil
  | z :: r => .cons (.int _) (dp_ints r)
theorem dp_nm {K : PySem.W.Frag} {H : Hp} {a : Addr} {zs : List Nat} (h : SqT K H a (zs.map fun z : Nat => V.int z)) : Dp K H (.ref a) (dqN zs) := .tup h (dp_ints zs)
theorem eqv_Z (a b : Nat) : PyData.eqv (dqZ a) (dqZ b) = decide (a = b) := by
  unfold dqZ
  rw [PyData.eqv, Bool.eq_iff_iff]
  simp
  omega
theorem eqv_N (x y : List Nat) : PyData.eqv (dqN x) (dqN y) = decide (x = y) := by
  unfold dqN
  rw [PyData.eqv]
  exact eqv_all eqv_Z x y
theorem shaped_N (zs : List Nat) : SeqAt.shaped (dqN zs) = true := by
  have h1 : PyData.canLay0 (dqN zs) = true := by
    unfold dqN
    rw [PyData.canLay0]
    exact lay_all (fun z => by simp [dqZ, PyData.canLay0]) zs
  have h2 : PyData.depth (dqN zs) ≤ 64 := by
    unfold dqN
    rw [PyData.depth]
    exact Nat.le_trans (Nat.succ_le_succ (dep_all (n := 1) (fun z => by simp [dqZ, PyData.depth]) zs)) (by decide)
  unfold SeqAt.shaped
  rw [h1, Bool.true_and]
  exact decide_eq_true h2
def spBegins (K : PySem.W.Frag) (C0 : Addr) : Sp := fun vs H Q _ => ∃ (p : Addr) (rs : List (List Cut)) (a b : Addr) (zs ws : List Nat), vs = [.ref p, .ref a, .ref b] ∧ PlanAt C0 H p rs ∧ OkR rs ∧ SqT K H a (zs.map fun z : Nat => V.int z) ∧ NameOk rs zs ∧ zs.length ≤ 1000 ∧ SqT K H b (ws.map fun z : Nat => V.int z) ∧ NameOk rs ws ∧ ws.length ≤ 1000 ∧ ∀ H', Ext H H' → Q (.bl (decide (zs.take ws.length = ws))) H'
def spCommon (K : PySem.W.Frag) (C0 : Addr) : Sp := fun vs H Q _ => ∃ (p : Addr) (rs : List (List Cut)) (a b : Addr) (zs ws : List Nat), vs = [.ref p, .ref a, .ref b] ∧ PlanAt C0 H p rs ∧ OkR rs ∧ SqT K H a (zs.map fun z : Nat => V.int z) ∧ NameOk rs zs ∧ zs.length ≤ 1000 ∧ SqT K H b (ws.map fun z : Nat => V.int z) ∧ NameOk rs ws ∧ ws.length ≤ 1000 ∧ ∀ t H', Ext H H' → SqT K H' t ((lcp zs ws).map fun z : Nat => V.int z) → Q (.ref t) H'


end
end Mc

set_option Elab.async false
set_option linter.all false
set_option maxRecDepth 100000
set_option maxHeartbeats 4000000
set_option exponentiation.threshold 20000
namespace Mc
open PySem PySem.Spec PyProof.Rows L2 ClX StX
/-! ### rounds of the law, by words -/
theorem cols_perm {a b : List Cut} (h : a.Perm b) : colsF a = colsF b ∧ rowsF a = rowsF b := by
  induction h with
  | nil => exact ⟨rfl, rfl⟩
  | cons c _ ih => exact ⟨by unfold colsF; rw [ih.1], by unfold rowsF; rw [ih.2]⟩
  | swap c d l =>
    constructor
    · simp only [colsF, Nat.mul_left_comm]
    · simp only [rowsF, Nat.mul_left_comm]
  | trans _ _ i1 i2 => exact ⟨i1.1.trans i2.1, i1.2.trans i2.2⟩
theorem mul_perm {a b : List Pr} (h : a.Perm b) : mulF a = mulF b := by
  unfold mulF
  have key : ∀ s : Pr, a.foldl (fun (q p : Pr) => (q.1 * p.1, q.2 * p.2)) s = b.foldl (fun (q p : Pr) => (q.1 * p.1, q.2 * p.2)) s := by
    induction h with
    | nil => intro s; rfl
    | cons c _ ih => intro s; exact ih _
    | swap c d l => intro s; simp only [List.foldl_cons, Int.mul_right_comm]
    | trans _ _ i1 i2 => intro s; exact (i1 s).trans (i2 s)
  exact key _
theorem OkR.permR {rs rs' : List (List Cut)} (ok : OkR rs) (h : rs'.Perm rs) : OkR rs' := by
  refine ⟨by rw [h.length_eq]; exact ok.l1, by rw [h.length_eq]; exact ok.l3, fun c m => ok.h1 c (h.mem_iff.mp m), fun c m => ok.h5 c (h.mem_iff.mp m), fun c m => ok.hc c (h.mem_iff.mp m), fun c m => ok.h32 c (h.mem_iff.mp m), ?_⟩
  have e : mulF (partsF rs') = mulF (partsF rs) := mul_perm (h.map _)
  rw [e]
  exact ok.bal
theorem OkR.permC {rs' rs : List (List Cut)} (h : Paired (fun a b : List Cut => a.Perm b) rs' rs) (ok : OkR rs) : OkR rs' := by
  have get : ∀ c ∈ rs', ∃ d ∈ rs, c.Perm d := fun c m => by
    obtain ⟨i, hi⟩ := List.getElem?_of_mem m
    obtain ⟨d, h1, h2⟩ := pd_get h i c hi
    exact ⟨d, List.mem_of_getElem? h1, h2⟩
  have e : partsF rs' = partsF rs := by
    clear get ok
    induction h with
    | nil => rfl
    | cons r t ih =>
      unfold partsF at ih ⊢
      rw [List.map_cons, List.map_cons, ih, (cols_perm r).1, (cols_perm r).2]
  refine ⟨by rw [pd_len h]; exact ok.l1, by rw [pd_len h]; exact ok.l3, fun c m => ?_, fun c m => ?_, fun c m x hx => ?_, fun c m => ?_, by rw [e]; exact ok.bal⟩
  · obtain ⟨d, hd, p⟩ := get c m
    rw [p.length_eq]
    exact ok.h1 d hd
  · obtain ⟨d, hd, p⟩ := get c m
    rw [p.length_eq]
    exact ok.h5 d hd
  · obtain ⟨d, hd, p⟩ := get c m
    exact ok.hc d hd x (p.mem_iff.mp hx)
  · obtain ⟨d, hd, p⟩ := get c m
    rw [(cols_perm p).1, (cols_perm p).2]
    exact ok.h32 d hd
theorem OkR.rot {rs : List (List Cut)} (ok : OkR rs) (n : Nat) : OkR (rs.drop n ++ rs.take n) := ok.permR (by
  have h := List.perm_append_comm (l₁ := rs.drop n) (l₂ := rs.take n)
  rwa [List.take_append_drop] at h)
def okRb (rs : List (List Cut)) : Bool := decide (1 ≤ rs.length) && decide (rs.length ≤ 3) && rs.all (fun cs => decide (1 ≤ cs.length) && decide (cs.length ≤ 5) && cs.all (fun c => decide (2 ≤ c.2) && decide (c.2 ≤ 4)) && decide (colsF cs * rowsF cs ≤ 32)) && decide ((mulF (partsF rs)).1 = (mulF (partsF rs)).2)
theorem okRb_ok {rs : List (List Cut)} (h : okRb rs = true) : OkR rs := by
  unfold okRb at h
  simp only [Bool.and_eq_true, decide_eq_true_eq, List.all_eq_true] at h
  obtain ⟨⟨⟨h1, h2⟩, h3⟩, h4⟩ := h
  exact ⟨h1, h2, fun c m => (h3 c m).1.1.1, fun c m => (h3 c m).1.1.2, fun c m d hd => (h3 c m).1.2 d hd, fun c m => (h3 c m).2, h4⟩
def codeA (p : Str) (i : Nat) : Nat := p.cps.toList.getD i 0
def partOk (p : Str) : Bool := (List.range 6).any (fun m => decide (p.length = 2 * m)) && (List.range (p.length / 2)).all fun j => decide (codeA p (2 * j + 1) = 50) || decide (codeA p (2 * j + 1) = 51) || decide (codeA p (2 * j + 1) = 52)
def partCut (t : Bool) (p : Str) (j : Nat) : Cut := (decide (codeA p (2 * j) = 110) == t, codeA p (2 * j + 1) - 48)
def partC (t : Bool) (p : Str) : List Cut := (List.range (p.length / 2)).map (partCut t p)
def wordP (w : Str) : List Str := Txt.split w (Str.ofString "|")
def wordR (t : Bool) (w : Str) : List (List Cut) := (wordP w).map (partC t)
def okW (w : Str) : Bool := (wordP w).all partOk && okRb (wordR false w) && okRb (wordR true w) && decide (0 ≤ Txt.count w (Str.ofString "|")) && decide (Txt.count w (Str.ofString "|") ≤ 2) && decide (w.length ≤ 100)
def menuW : List Str := [Str.ofString "e2n2", Str.ofString "e3n3", Str.ofString "e4n4", Str.ofString "e2n2e2n2", Str.ofString "e4n2n2", Str.ofString "e2|n2", Str.ofString "e3|n3", Str.ofString "e2e2|n4", Str.ofString "e2n2e2|n2", Str.ofString "e3n2|e2n3", Str.ofString "e4|n2n2", Str.ofString "e2n2e2n2e2|n2e2n2e2n2", Str.ofString "e2e2e2e2e2|n4n4n2", Str.ofString "e2|n2|e3n3", Str.ofString "e2|e3|n3n2", Str.ofString "e2n2|e2|n2", Str.ofString "e4n3|n4|e3", Str.ofString "e2e2e2|n4|n2"]
theorem menu_ok : menuW.all okW = true := by decide +kernel

end Mc

set_option Elab.async false
set_option linter.all false
set_option maxRecDepth 100000
set_option maxHeartbeats 4000000
set_option exponentiation.threshold 20000
namespace Mc
open PySem PySem.Spec PyProof.Rows L2 ClX StX
section
variable {P : Program} {w : World} {K : PySem.W.Frag} {mg : Str → Option Value} {base : Heap} {f C0 aX : Addr} {mc : Value} {fd : FuncData}
/-! ### the law's rounds on the heap -/
def lcV (c : Cut) : List V := [.int (axI c.1 : Nat), .int c.2]
def LcL (H : Hp) (l : Addr) (cs : List Cut) : Prop := ∃ as : List Addr, H l = some (.lst (as.map V.ref)) ∧ Paired (fun a c => H a = some (.tup (lcV c))) as cs
def RndL (H : Hp) (l : Addr) (rs : List (List Cut)) : Prop := ∃ as : List Addr, H l = some (.lst (as.map V.ref)) ∧ Paired (fun a cs => LcL H a cs) as rs
theorem LcL.ext {H H' : Hp} {l : Addr} {cs : List Cut} (h : LcL H l cs) (e : Ext H H') : LcL H' l cs := by
  obtain ⟨as, h1, h2⟩ := h
  exact ⟨as, e _ _ h1, pd_imp (fun _ _ q => e _ _ q) h2⟩
theorem RndL.ext {H H' : Hp} {l : Addr} {rs : List (List Cut)} (h : RndL H l rs) (e : Ext H H') : RndL H' l rs := by
  obtain ⟨as, h1, h2⟩ := h
  exact ⟨as, e _ _ h1, pd_imp (fun _ _ q => q.ext e) h2⟩
theorem Pot.ne_refs {H : Hp} {p l : Addr} {as : List Addr} (h : Pot H p) (hl : H l = some (.lst (as.map V.ref))) (ne : as ≠ []) : l ∉ [p] := by
  obtain ⟨a, b, e, _⟩ := h
  intro z
  rw [List.mem_singleton.mp z, e] at hl
  cases as with
  | nil => exact ne rfl
  | cons x r => cases hl
theorem pd_ne {α β : Type} {F : α → β → Prop} {l : List α} {m : List β} (h : Paired F l m) (ne : m ≠ []) : l ≠ [] := by
  cases h with
  | nil => exact absurd rfl ne
  | cons _ _ => simp
theorem LcL.frm {H H' : Hp} {p l : Addr} {cs : List Cut} (h : LcL H l cs) (ne : cs ≠ []) (hp : Pot H p) (f : Frm [p] H H') : LcL H' l cs := by
  obtain ⟨as, h1, h2⟩ := h
  exact ⟨as, f _ _ h1 (hp.ne_refs h1 (pd_ne h2 ne)), pd_imp (fun _ _ q => f.tup hp q) h2⟩
theorem ne_of_len {α : Type} {l : List α} (h : 1 ≤ l.length) : l ≠ [] := fun e => by rw [e] at h; exact Nat.not_succ_le_zero 0 h
theorem pd_impM {α β : Type} {F G : α → β → Prop} : ∀ {l : List α} {m : List β}, (∀ a b, b ∈ m → F a b → G a b) → Paired F l m → Paired G l m
  | _, _, _, .nil => .nil
  | _, _, h, .cons r t => .cons (h _ _ List.mem_cons_self r) (pd_impM (fun a b hb q => h a b (List.mem_cons_of_mem _ hb) q) t)
theorem RndL.frm {H H' : Hp} {p l : Addr} {rs : List (List Cut)} (h : RndL H l rs) (ok : OkR rs) (hp : Pot H p) (f : Frm [p] H H') : RndL H' l rs := by
  obtain ⟨as, h1, h2⟩ := h
  exact ⟨as, f _ _ h1 (hp.ne_refs h1 (pd_ne h2 (ne_of_len ok.l1))), pd_impM (fun a cs m q => q.frm (ne_of_len (ok.h1 cs m)) hp f) h2⟩
theorem LcL.side {H : Hp} {q l : Addr} {xs ys : List V} {cs : List Cut} (h : LcL H l cs) (hq : H q = some (.lst xs)) (n : l ≠ q) : LcL (upd H q (.lst ys)) l cs := by
  obtain ⟨as, h1, h2⟩ := h
  exact ⟨as, side_l hq n h1, pd_imp (fun _ _ z => side_t hq z) h2⟩
theorem RndL.get {H : Hp} {l : Addr} {rs : List (List Cut)} (h : RndL H l rs) (l1 : 0 < rs.length) (i : Nat) : ∃ xs : List V, H l = some (.lst xs) ∧ xs.length = rs.length ∧ ∃ a, xs[i % rs.length]? = some (.ref a) ∧ LcL H a (csA rs i) := by
  obtain ⟨as, h1, h2⟩ := h
  obtain ⟨a, ha, hl⟩ := pd_get2 h2 _ _ (csA_get l1 i)
  exact ⟨_, h1, by rw [List.length_map, pd_len h2], a, by rw [List.getElem?_map, ha]; rfl, hl⟩
def dqLc (c : Cut) : PyData := .tuple [.int (axI c.1 : Nat), .int c.2]
theorem dp_lc {K : PySem.W.Frag} {H : Hp} : ∀ {as : List Addr} {cs : List Cut}, Paired (fun a c => H a = some (.tup (lcV c))) as cs → DpAll K H (as.map V.ref) (cs.map dqLc)
  | _, _, .nil => .nil
  | _, _, .cons r t => .cons (.tup (SqT.of r) (.cons (.int _) (.cons (.int _) .nil))) (dp_lc t)
theorem dp_lcl {K : PySem.W.Frag} {H : Hp} {l : Addr} {as : List Addr} {cs : List Cut} (h1 : H l = some (.lst (as.map V.ref))) (h2 : Paired (fun a c => H a = some (.tup (lcV c))) as cs) : Dp K H (.ref l) (.list (cs.map dqLc)) := .lst (SqL.of h1) (dp_lc h2)
theorem shaped_lc (cs : List Cut) : SeqAt.shaped (.list (cs.map dqLc)) = true := by
  have h1 : PyData.canLay0 (.list (cs.map dqLc)) = true := by
    rw [PyData.canLay0]
    exact lay_all (fun c => by simp [dqLc, PyData.canLay0, PyData.canLayAll0]) cs
  have h2 : PyData.depth (.list (cs.map dqLc)) ≤ 64 := by
    rw [PyData.depth]
    exact Nat.le_trans (Nat.succ_le_succ (dep_all (n := 2) (fun c => by simp [dqLc, PyData.depth, PyData.depthAll]) cs)) (by decide)
  unfold SeqAt.shaped
  rw [h1, Bool.true_and]
  exact decide_eq_true h2
theorem eqv_nil (cs : List Cut) : PyData.eqv (.list (cs.map dqLc)) (.list []) = cs.isEmpty := by
  rw [PyData.eqv]
  cases cs with
  | nil => simp [PyData.eqvAll]
  | cons c r => simp [PyData.eqvAll]
theorem sc_mixed : FnScope ["_law_pot_here", "_law_some", "_law_rest", "_law_found"] ["_law_pot_here", "_law_some"] (defScope s_mixed) := ⟨rfl, rfl, rfl, by decide +kernel, rfl, by decide +kernel, by decide +kernel⟩
theorem seqIndex_nat {j n : Nat} (h : j < n) : seqIndex? (j : Int) n = some j := by
  rw [seqIndex_of (by omega) (by omega)]
  rfl
theorem pd_erase {α β : Type} {F : α → β → Prop} : ∀ (j : Nat) {l : List α} {m : List β}, Paired F l m → Paired F (l.eraseIdx j) (m.eraseIdx j)
  | _, _, _, .nil => .nil
  | 0, _, _, .cons _ t => t
  | j + 1, _, _, .cons r t => .cons r (pd_erase j t)
theorem perm_erase {α : Type} : ∀ {l : List α} {j : Nat} {c : α}, l[j]? = some c → (c :: l.eraseIdx j).Perm l
  | [], j, c, h => by simp at h
  | a :: l, 0, c, h => by
    simp at h
    subst h
    exact List.Perm.refl _
  | a :: l, j + 1, c, h => by
    have h2 : l[j]? = some c := by simpa using h
    exact (List.Perm.swap a c _).trans ((perm_erase h2).cons a)
theorem erase_map {α β : Type} (f : α → β) : ∀ (l : List α) (j : Nat), (l.map f).eraseIdx j = (l.eraseIdx j).map f
  | [], _ => rfl
  | a :: l, 0 => rfl
  | a :: l, j + 1 => by
    show f a :: (l.map f).eraseIdx j = f a :: (l.eraseIdx j).map f
    rw [erase_map f l j]
def spMixed : Sp := fun vs H Q _ => ∃ (p l : Addr) (cs : List Cut), vs = [.ref p, .ref l] ∧ Pot H p ∧ LcL H l cs ∧ cs.length ≤ 10 ∧ ∀ q H' ds, Frm [p] H H' → Pot H' p → H q = none → LcL H' q ds → ds.Perm cs → Q (.ref q) H'
theorem ok_mixed (F : FunD K "_law_mixed" "_law_mixed" (defArgs s_mixed) (defBody s_mixed) (defScope s_mixed) [] [] f fd) (T : TB mg) {fdraw : Addr} {fddraw : FuncData} (Ddraw : Gd P w K mg base "_law_draw" 1 ["_law_pot_here", "_law_many"] (spDraw) fdraw fddraw) : FnOk P w K mg base CX0 2 f fd ["_law_pot_here", "_law_some"] (spMixed) := by
  refine F.ok sc_mixed (fun vs H Q E h => ?_) (fun cdv A outer s H vs Q E hr h => ?_)
  · obtain ⟨p, l, cs, rfl, hp, hl, h10, k⟩ := h
    rfl
  · obtain ⟨p, l, cs, rfl, hp, hl, h10, k⟩ := h
    refine ⟨_, (PSs.nox (pss_cons (ps_par (i := 2) (j := 3) (by rfl) sc_mixed.nd rfl rfl (by decide) rfl rfl (pa_cons (pe_callTy (call_listK (K := K) rfl) (by rfl) T.list (by decide +kernel) (pa_cons (pv 1) pa_nil)) (pa_cons (pe_lst pa_nil) pa_nil)) (by rfl))
      (pss_cons (ps_while PassesOwn.never (pt_cmpR (op_neD (hu64 hr)) (pv 2) (pe_lst pa_nil) (nomark _)) (pss_one (ps_expr (pe_bm PySem.F.plainAttrs_list PySem.F.slot_list_append PySem.F.type_list_append mt_append (pv 3) (pa_cons (pe_bm PySem.F.plainAttrs_list PySem.F.slot_list_pop PySem.F.type_list_pop mt_popAt (pv 2) (pa_cons (pe_gd Ddraw hr (by decide) (by rfl) (pa_cons (pv 0) (pa_cons (pe_callB call_len_seq (by rfl) T.len PySem.boot_len (pa_cons (pv 2) pa_nil)) pa_nil))) pa_nil)) pa_nil)))))
      (pss_one (ps_ret (pv 3)))))), ?_⟩
    obtain ⟨as0, l1, l2⟩ := hl
    refine ⟨_, rfl, l, _, rfl, .inl (SqL.of l1), fun r hr0 => ⟨(by show 0 ≤ sizeLine; decide), fun q hq0 => ⟨_, _, rfl, ?_⟩⟩⟩
    have e0 : Ext H (upd (upd H r (.lst (as0.map V.ref))) q (.lst [])) := (Ext.upd hr0).trans (Ext.upd hq0)
    have nrq : r ≠ q := fun z => by rw [← z, upd_same] at hq0; cases hq0
    have hqH : H q = none := none_of (Ext.upd hr0) hq0
    have w1 : (upd (upd H r (.lst (as0.map V.ref))) q (.lst [])) r = some (.lst (as0.map V.ref)) := by rw [upd_ne nrq, upd_same]
    have w2 : (upd (upd H r (.lst (as0.map V.ref))) q (.lst [])) q = some (.lst []) := upd_same
    have hpE : Pot (upd (upd H r (.lst (as0.map V.ref))) q (.lst [])) p := hp.frm (M := []) (Frm.ext e0) (fun z => nomatch z)
    generalize upd (upd H r (.lst (as0.map V.ref))) q (.lst []) = H1 at *
    refine ⟨fun m σ H' => ∃ (as bs : List Addr) (ds es : List Cut), σ = [some (.ref p), some (.ref l), some (.ref r), some (.ref q)] ∧ H' r = some (.lst (as.map V.ref)) ∧ Paired (fun a c => H' a = some (.tup (lcV c))) as ds ∧ H' q = some (.lst (bs.map V.ref)) ∧ Paired (fun a c => H' a = some (.tup (lcV c))) bs es ∧ (ds ++ es).Perm cs ∧ Pot H' p ∧ Frm [p] H H' ∧ m = ds.length, ⟨_, as0, [], cs, [], rfl, w1, pd_imp (fun _ _ z => e0 _ _ z) l2, w2, .nil, by rw [List.append_nil], hpE, Frm.ext e0, rfl⟩, ?_⟩
    rintro m σ H2 ⟨as, bs, ds, es, rfl, a1, a2, b1, b2, pm, hp2, f2, rfl⟩
    refine ⟨_, rfl, (by show 0 ≤ sizeLine; decide), fun t ht => ⟨.list (ds.map dqLc), .list [], dp_lcl (Ext.upd ht _ _ a1) (pd_imp (fun _ _ z => Ext.upd ht _ _ z) a2), .lst (SqL.of upd_same) .nil, shaped_lc ds, by decide +kernel, _, rfl, ?_⟩⟩
    rw [eqv_nil]
    have et : Ext H2 (upd H2 t (.lst [])) := Ext.upd ht
    have rp : r ∉ [p] := fun z => (hp.ne hr0) (List.mem_singleton.mp z)
    have qp : q ∉ [p] := fun z => (hp.ne hqH) (List.mem_singleton.mp z)
    cases ds with
    | nil =>
      cases a2
      refine ⟨_, rfl, k q _ es (f2.trans (Frm.ext et)) (hp2.frm (M := []) (Frm.ext et) (fun z => nomatch z)) hqH ⟨bs, et _ _ b1, pd_imp (fun _ _ z => et _ _ z) b2⟩ ?_⟩
      exact pm
    | cons c0 dr =>
      have hp3 : Pot (upd H2 t (.lst [])) p := hp2.frm (M := []) (Frm.ext et) (fun z => nomatch z)
      have a1 := et _ _ a1
      have a2 := pd_imp (fun _ _ z => et _ _ z) a2
      have b1 := et _ _ b1
      have b2 := pd_imp (fun _ _ z => et _ _ z) b2
      have f3 := f2.trans (Frm.ext (M := [p]) et)
      generalize upd H2 t (.lst []) = H3 at *
      have lmx : (c0 :: dr).length ≤ 10 := by
        have := pm.length_eq
        rw [List.length_append] at this
        omega
      have las := pd_len a2
      refine ⟨fun σ' H' => ∃ (as bs : List Addr) (ds es : List Cut), σ' = [some (.ref p), some (.ref l), some (.ref r), some (.ref q)] ∧ H' r = some (.lst (as.map V.ref)) ∧ Paired (fun a c => H' a = some (.tup (lcV c))) as ds ∧ H' q = some (.lst (bs.map V.ref)) ∧ Paired (fun a c => H' a = some (.tup (lcV c))) bs es ∧ (ds ++ es).Perm cs ∧ Pot H' p ∧ Frm [p] H H' ∧ dr.length = ds.length, ?_, ?_⟩
      · rintro σ' H' ⟨as, bs, ds, es, h1, h2, h3, h4, h5, h6, h7, h8, h9⟩
        exact ⟨ds.length, by rw [← h9, List.length_cons]; omega, as, bs, ds, es, h1, h2, h3, h4, h5, h6, h7, h8, rfl⟩
      · refine ⟨_, rfl, .inl ⟨rfl, _, SqL.of b1⟩, _, rfl, .inl ⟨rfl, _, SqL.of a1⟩, _, rfl, _, rfl, r, _, rfl, .inl (SqL.of a1), p, _, rfl, hp3, ?_, ?_, fun n H4 n0 n1 f4 hp4 => ?_⟩
        · rw [List.length_map, las, List.length_cons]
          omega
        · rw [List.length_map, las]
          exact len_log (by omega)
        rw [List.length_map, las] at n1
        obtain ⟨j, rfl⟩ := Int.eq_ofNat_of_zero_le n0
        have hj : j < (c0 :: dr).length := by omega
        have hja : j < as.length := by omega
        have a1 := f4 _ _ a1 rp
        have b1 := f4 _ _ b1 qp
        have a2 := pd_imp (fun _ _ z => f4.tup hp3 z) a2
        have b2 := pd_imp (fun _ _ z => f4.tup hp3 z) b2
        refine ⟨r, as.map V.ref, (j : Int), j, .ref as[j], rfl, rfl, a1, by omega, by omega, seqIndex_nat (by rw [List.length_map]; exact hja), by rw [List.getElem?_map, List.getElem?_eq_getElem hja]; rfl, ?_⟩
        have er : as[j]? = some as[j] := List.getElem?_eq_getElem hja
        obtain ⟨c, hc, hac⟩ := pd_get a2 j _ er
        refine ⟨q, bs.map V.ref, .ref as[j], rfl, rfl, by rw [upd_ne (Ne.symm nrq)]; exact b1, ?_, ?_⟩
        · have := pm.length_eq
          rw [List.length_append] at this
          rw [List.length_map, pd_len b2, sizeLine_eq]
          omega
        · have tp : ∀ a c', H4 a = some (.tup (lcV c')) → (upd (upd H4 r (.lst ((as.map V.ref).eraseIdx j))) q (.lst (bs.map V.ref ++ [.ref as[j]]))) a = some (.tup (lcV c')) := fun a c' z => by
            rw [upd_ne (ne_of z b1 (by intro z; cases z)), upd_ne (ne_of z a1 (by intro z; cases z))]
            exact z
          refine ⟨as.eraseIdx j, bs ++ [as[j]], (c0 :: dr).eraseIdx j, es ++ [c], rfl, ?_, pd_erase j (pd_imp (fun _ _ z => tp _ _ z) a2), ?_, pd_snoc (pd_imp (fun _ _ z => tp _ _ z) b2) (tp _ _ hac), ?_, ?_, ?_, ?_⟩
          · rw [upd_ne nrq, upd_same, erase_map]
          · rw [upd_same, List.map_append]
            rfl
          · refine List.Perm.trans ?_ pm
            have h1 := perm_erase hc
            have h2 : ((c0 :: dr).eraseIdx j ++ (es ++ [c])).Perm ((c0 :: dr).eraseIdx j ++ (c :: es)) := List.Perm.append_left _ (List.perm_append_comm (l₁ := es) (l₂ := [c]))
            refine h2.trans (List.perm_middle.trans ?_)
            exact List.Perm.append_right es h1
          · refine Pot.frm (M := [r, q]) hp4 (fun a o z n => ?_) (fun z => ?_)
            · rw [upd_ne (fun w => n (by rw [w]; simp)), upd_ne (fun w => n (by rw [w]; simp))]
              exact z
            · rcases List.mem_cons.mp z with z | z
              · exact rp (by rw [z]; exact List.mem_singleton.mpr rfl)
              · exact qp (by rw [List.mem_singleton.mp z]; exact List.mem_singleton.mpr rfl)
          · intro a o z n
            have z4 := f4 _ _ (f3 _ _ z n) n
            rw [upd_ne (fun w => by rw [w, hqH] at z; cases z), upd_ne (fun w => by rw [w, hr0] at z; cases z)]
            exact z4
          · rw [List.length_eraseIdx_of_lt hj, List.length_cons]
            omega
end
end Mc

set_option Elab.async false
set_option linter.all false
set_option maxRecDepth 100000
set_option maxHeartbeats 4000000
set_option exponentiation.threshold 20000
namespace Mc
open PySem PySem.Spec PyProof.Rows L2 ClX StX
section
variable {P : Program} {w : World} {K : PySem.W.Frag} {mg : Str → Option Value} {base : Heap} {f C0 aX : Addr} {mc : Value} {fd : FuncData}
theorem sc_rounds : FnScope ["_law_pot_here", "_law_menu", "_law_word", "_law_found", "_law_turned_here", "_law_at", "_law_part", "_law_cuts", "_law_k"] ["_law_pot_here"] (defScope s_rounds) := ⟨rfl, rfl, rfl, by decide +kernel, rfl, by decide +kernel, by decide +kernel⟩
theorem put_at {G : Hp} {m : Addr} {o : HO} (h : G m = none) : (upd G m o) m = some o := upd_same
theorem ext_at {H G : Hp} {m : Addr} (h : G m = none) (e : Ext H G) : Ext H G := e
theorem strs_at {ws : List Str} {i : Nat} {x : V} (h : (ws.map V.str)[i]? = some x) : ∃ w, ws[i]? = some w ∧ x = .str w := by
  rw [List.getElem?_map] at h
  obtain ⟨w, h1, h2⟩ := Option.map_eq_some_iff.mp h
  exact ⟨w, h1, h2.symm⟩
theorem strs_get {ws : List Str} {i : Nat} {x : V} (h : (ws.map V.str)[i]? = some x) : ∃ w, w ∈ ws ∧ x = .str w := by
  obtain ⟨w, h1, h2⟩ := strs_at h
  exact ⟨w, List.mem_of_getElem? h1, h2⟩
theorem pd_drop {α β : Type} {F : α → β → Prop} : ∀ (n : Nat) {l : List α} {m : List β}, Paired F l m → Paired F (l.drop n) (m.drop n)
  | 0, _, _, h => h
  | n + 1, _, _, .nil => .nil
  | n + 1, _, _, .cons r t => pd_drop n t
theorem pd_app {α β : Type} {F : α → β → Prop} : ∀ {l : List α} {m : List β} {l' : List α} {m' : List β}, Paired F l m → Paired F l' m' → Paired F (l ++ l') (m ++ m')
  | _, _, _, _, .nil, h => h
  | _, _, _, _, .cons r t, h => .cons r (pd_app t h)
structure OkWord (w : Str) : Prop where
  parts : ∀ p ∈ wordP w, partOk p = true
  okr : ∀ t, OkR (wordR t w)
  c0 : 0 ≤ Txt.count w (Str.ofString "|")
  c2 : Txt.count w (Str.ofString "|") ≤ 2
  len : w.length ≤ 100
theorem okW_ok {w : Str} (h : w ∈ menuW) : OkWord w := by
  have := List.all_eq_true.mp menu_ok w h
  unfold okW at this
  simp only [Bool.and_eq_true, decide_eq_true_eq, List.all_eq_true] at this
  obtain ⟨⟨⟨⟨⟨h1, h2⟩, h3⟩, h4⟩, h5⟩, h6⟩ := this
  exact ⟨h1, fun t => by cases t; exact okRb_ok h2; exact okRb_ok h3, h4, h5, h6⟩
structure OkPart (p : Str) : Prop where
  even : ∃ m, p.length = 2 * m ∧ m ≤ 5
  at_ : ∀ j, j < p.length / 2 → atI p.cps.toList ((2 * j : Nat) : Int) = some (codeA p (2 * j)) ∧ atI p.cps.toList ((2 * j + 1 : Nat) : Int) = some (codeA p (2 * j + 1)) ∧ PySem.intText? ⟨#[codeA p (2 * j + 1)]⟩ = some ((codeA p (2 * j + 1) - 48 : Nat) : Int)
theorem codeA_get {p : Str} {i : Nat} (h : i < p.length) : p.cps.toList[i]? = some (codeA p i) := by
  have hl : p.cps.toList.length = p.length := by simp [Str.length]
  unfold codeA
  rw [List.getD_eq_getElem?_getD, List.getElem?_eq_getElem (by omega)]
  rfl
theorem int_code {c : Nat} (h : c = 50 ∨ c = 51 ∨ c = 52) : PySem.intText? ⟨#[c]⟩ = some ((c - 48 : Nat) : Int) := by
  rcases h with rfl | rfl | rfl <;> decide +kernel
theorem partOk_ok {p : Str} (h : partOk p = true) : OkPart p := by
  unfold partOk at h
  simp only [Bool.and_eq_true, decide_eq_true_eq, List.all_eq_true, List.any_eq_true, List.mem_range, Bool.or_eq_true] at h
  obtain ⟨⟨m, hm, e⟩, h2⟩ := h
  refine ⟨⟨m, e, by omega⟩, fun j hj => ⟨atI_nat (codeA_get (by omega)), atI_nat (codeA_get (by omega)), int_code ?_⟩⟩
  rcases h2 j hj with (z | z) | z
  · exact .inl z
  · exact .inr (.inl z)
  · exact .inr (.inr z)
theorem rgc2 {m : Nat} (h : m ≤ 5) : RgC 0 ((2 * m : Nat) : Int) 2 m := by
  have e : m = 0 ∨ m = 1 ∨ m = 2 ∨ m = 3 ∨ m = 4 ∨ m = 5 := by omega
  rcases e with rfl | rfl | rfl | rfl | rfl | rfl <;> exact ⟨by decide, by decide, by decide +kernel, by decide +kernel⟩
theorem axis_eq {t : Int} {tb : Bool} (htb : tb = decide (t = 1)) (t0 : 0 ≤ t) (t1 : t < 2) {p : Str} (j : Nat) : [V.int (if (!decide (V.bl (decide (V.str ⟨#[codeA p (2 * j)]⟩ = V.str (Str.ofString "n"))) = V.bl (decide (V.int t = V.int 1)))) = true then 1 else 0), V.int ((codeA p (2 * j + 1) - 48 : Nat) : Int)] = lcV (partCut tb p j) := by
  have e1 : decide (V.str ⟨#[codeA p (2 * j)]⟩ = V.str (Str.ofString "n")) = decide (codeA p (2 * j) = 110) := by
    rw [Bool.eq_iff_iff]
    simp only [decide_eq_true_eq, V.str.injEq]
    have en : (Str.ofString "n") = ⟨#[110]⟩ := by decide +kernel
    rw [en]
    simp
  have e2 : decide (V.int t = V.int 1) = tb := by
    rw [htb, Bool.eq_iff_iff]
    simp
  rw [e1, e2]
  unfold lcV partCut
  cases tb <;> cases h : decide (codeA p (2 * j) = 110) <;> simp [axI]
def spRoundsL : Sp := fun vs H Q _ => ∃ p : Addr, vs = [.ref p] ∧ Pot H p ∧ ∀ l H' rs, Frm [p] H H' → Pot H' p → H l = none → RndL H' l rs → OkR rs → Q (.ref l) H'
theorem ok_rounds (F : FunD K "_law_rounds" "_law_rounds" (defArgs s_rounds) (defBody s_rounds) (defScope s_rounds) [] [] f fd) (T : TB mg) {fdraw : Addr} {fddraw : FuncData} (Ddraw : Gd P w K mg base "_law_draw" 1 ["_law_pot_here", "_law_many"] (spDraw) fdraw fddraw) {fpick : Addr} {fdpick : FuncData} (Dpick : Gd P w K mg base "_law_pick" 2 ["_law_pot_here", "_law_some"] (spPick) fpick fdpick) {fmixed : Addr} {fdmixed : FuncData} (Dmixed : Gd P w K mg base "_law_mixed" 2 ["_law_pot_here", "_law_some"] (spMixed) fmixed fdmixed) : FnOk P w K mg base CX0 3 f fd ["_law_pot_here"] (spRoundsL) := by
  refine F.ok sc_rounds (fun vs H Q E h => ?_) (fun cdv A outer s H vs Q E hr h => ?_)
  · obtain ⟨p, rfl, hp, k⟩ := h
    rfl
  · obtain ⟨p, rfl, hp, k⟩ := h
    refine ⟨_, (PSs.nox (pss_cons (ps_set (i := 1) sc_rounds.nd rfl (.inl rfl) (pe_lst (pa_cons pe_str (pa_cons pe_str (pa_cons pe_str (pa_cons pe_str (pa_cons pe_str (pa_cons pe_str (pa_cons pe_str (pa_cons pe_str (pa_cons pe_str (pa_cons pe_str pa_nil))))))))))))
      (pss_cons (ps_set (i := 1) sc_rounds.nd rfl (.inl rfl) (pe_op op_cat (pv 1) (pe_lst (pa_cons pe_str (pa_cons pe_str (pa_cons pe_str (pa_cons pe_str (pa_cons pe_str pa_nil))))))))
      (pss_cons (ps_set (i := 2) sc_rounds.nd rfl (.inl rfl) (pe_gd Dpick hr (by decide) (by rfl) (pa_cons (pv 0) (pa_cons (pe_op op_cat (pv 1) (pe_lst (pa_cons pe_str (pa_cons pe_str (pa_cons pe_str pa_nil))))) pa_nil))))
      (pss_cons (ps_asg (pe_tup (pa_cons (pe_lst pa_nil) (pa_cons (pe_gd Ddraw hr (by decide) (by rfl) (pa_cons (pv 0) (pa_cons pe_int pa_nil))) (pa_cons (pe_gd Ddraw hr (by decide) (by rfl) (pa_cons (pv 0) (pa_cons (pe_op op_add (pe_m1 PySem.F.slot_str_count PySem.F.type_str_count mt_count (pv 2) pe_str) pe_int) pa_nil))) pa_nil)))) (pg_tup rfl (pgs_cons (pg_name (i := 3) sc_rounds.nd rfl (.inl rfl)) (pgs_cons (pg_name (i := 4) sc_rounds.nd rfl (.inr rfl)) (pgs_cons (pg_name (i := 5) sc_rounds.nd rfl (.inl rfl)) pgs_nil)))))
      (pss_cons (ps_for PassesOwn.never rfl (pi_list (pe_split (pv 2) pe_str)) (pg_name (i := 6) sc_rounds.nd rfl (.inr rfl)) (pss_cons (ps_setLc (i := 7) (own := [("_law_k", 8)]) (g := gName 8) (tt := tYes) rfl sc_rounds.nd rfl rfl (sw_true rfl rfl rfl (by decide +kernel)) (pi_range3 (by rfl) T.range (pa_cons pe_int (pa_cons (pe_callB call_len_str (by rfl) T.len PySem.boot_len (pa_cons (pv 6) pa_nil)) (pa_cons pe_int pa_nil)))) (blkOk_by (own := [("_law_k", 8)]) (N := ["_law_pot_here", "_law_menu", "_law_word", "_law_found", "_law_turned_here", "_law_at", "_law_part", "_law_cuts", "_law_k"]) (sc := defScope s_rounds) (by decide +kernel)) (fun _ _ _ _ _ => (pg_name (i := 8) sc_rounds.nd rfl (.inl rfl))) (fun _ _ _ _ _ => pts_nil) (fun _ _ _ _ _ => (pe_tup (pa_cons (pe_callTy call_int1 (by rfl) T.int (by decide +kernel) (pa_cons (pe_cmpR op_ne (pe_cmpR op_eq (pe_ix (ix_seqK (K := K) rfl) (pv 6) (pv 8) (fun _ _ => rfl)) pe_str (nomark _)) (pe_cmpR op_eq (pv 4) pe_int (nomark _)) (nomark _)) pa_nil)) (pa_cons (pe_callTy call_int_str (by rfl) T.int (by decide +kernel) (pa_cons (pe_ix (ix_seqK (K := K) rfl) (pv 6) (pe_op op_add (pv 8) pe_int) (fun _ _ => rfl)) pa_nil)) pa_nil)))))
      (pss_one (ps_expr (pe_bm PySem.F.plainAttrs_list PySem.F.slot_list_append PySem.F.type_list_append mt_append (pv 3) (pa_cons (pe_gd Dmixed hr (by decide) (by rfl) (pa_cons (pv 0) (pa_cons (pv 7) pa_nil))) pa_nil))))))
      (pss_one (ps_ret (pe_op op_cat (pe_slice sl_list (pv 3) (po_some (pv 5)) po_none) (pe_slice sl_list (pv 3) po_none (po_some (pv 5)))))))))))), ?_⟩
    refine ⟨(by show 10 ≤ sizeLine; decide), fun m1 hm1 => ⟨_, rfl, (by show 5 ≤ sizeLine; decide), fun m2 hm2 => ?_⟩⟩
    have n12 : m1 ≠ m2 := fun z => by rw [← z, upd_same] at hm2; cases hm2
    refine ⟨m1, m2, _, _, rfl, rfl, by rw [upd_ne n12, upd_same], upd_same, (by show 10 + 5 ≤ sizeLine; decide), fun m3 hm3 => ?_⟩
    refine ⟨_, rfl, _, rfl, (by show 3 ≤ sizeLine; decide), fun m4 hm4 => ?_⟩
    have n34 : m3 ≠ m4 := fun z => by rw [← z, upd_same] at hm4; cases hm4
    refine ⟨m3, m4, _, _, rfl, rfl, by rw [upd_ne n34, upd_same], upd_same, (by show 10 + 5 + 3 ≤ sizeLine; decide), fun m5 hm5 => ?_⟩
    have E4 := ext_at hm5 (((Ext.upd hm1).trans (Ext.upd hm2)).trans ((Ext.upd hm3).trans (Ext.upd hm4)))
    have hp4 := hp.frm (M := []) (Frm.ext E4) (fun z => nomatch z)
    refine ⟨p, m5, _, rfl, hp4.new hm5, upd_same, hp4.ne hm5, (by show 0 < 10 + 5 + 3; decide), (by show 10 + 5 + 3 ≤ 1000; decide), fun i x H6 hx F6 hp6 => ?_⟩
    obtain ⟨w0, hw0, rfl⟩ := strs_get (ws := menuW) hx
    have f6 : Frm [p] H H6 := (Frm.ext E4).trans ((Frm.new hm5).trans F6)
    clear hx F6
    generalize upd (upd (upd (upd H m1 _) m2 _) m3 _) m4 _ = H4 at hm5 E4 hp4
    have ow := okW_ok hw0
    refine ⟨(by show 0 ≤ sizeLine; decide), fun q hq => ⟨_, rfl, p, 2, rfl, hp6.new hq, by decide, by decide, fun t H7 t0 t1 F7 hp7 => ?_⟩⟩
    refine ⟨_, rfl, _, rfl, ⟨_, rfl⟩, w0, _, rfl, rfl, _, _, rfl, rfl, p, _, rfl, hp7, by have := ow.c0; omega, small_log (n := 10) (by have := ow.c0; have := ow.c2; omega) (by decide) (by decide), fun a H8 a0 a1 F8 hp8 => ?_⟩
    have hqH : H q = none := f6.free hq (fun z => hp6.ne hq (List.mem_singleton.mp z))
    have qp : q ∉ [p] := fun z => hp6.ne hq (List.mem_singleton.mp z)
    have hq8 : H8 q = some (.lst []) := F8 _ _ (F7 _ _ upd_same qp) qp
    have f8 : Frm [p] H H8 := ((f6.trans (Frm.new hq)).trans F7).trans F8
    refine ⟨(by show 3 ≤ sizeLine; decide), fun tp htp => ⟨tp, _, rfl, SqT.of upd_same, rfl, _, _, rfl, _, _, rfl, _, _, rfl, rfl, ?_⟩⟩
    refine ⟨_, rfl, ⟨_, rfl⟩, w0, _, rfl, rfl, rfl, ?_, fun sl hsl => ?_⟩
    · have := ow.len
      rw [sizeLine_eq]
      omega
    have E9 := (Ext.upd (H := H8) htp).trans (Ext.upd (o := .lst ((wordP w0).map V.str)) hsl)
    refine ⟨sl, rfl, ⟨_, SqL.of upd_same⟩, ?_⟩
    obtain ⟨tb, htb⟩ : ∃ tb : Bool, tb = decide (t = 1) := ⟨_, rfl⟩
    have okR : OkR (wordR tb w0) := ow.okr tb
    have hpE := hp8.frm (M := []) (Frm.ext E9) (fun z => nomatch z)
    have slp : sl ∉ [p] := fun z => (hp8.frm (M := []) (Frm.ext (Ext.upd htp)) (fun z => nomatch z)).ne hsl (List.mem_singleton.mp z)
    have slq : sl ≠ q := fun z => by rw [z, upd_ne (ne_of_none hq8 htp), hq8] at hsl; cases hsl
    have hs9 := put_at (o := .lst ((wordP w0).map V.str)) hsl
    refine for_walk (xs := (wordP w0).map V.str) walk_l (fun i σ H' => ∃ u6 u7 as rs', σ = [some (.ref p), some (.ref m3), some (.str w0), some (.ref q), some (.int t), some (.int a), u6, u7, none] ∧ H' q = some (.lst (as.map V.ref)) ∧ Paired (fun b cs => LcL H' b cs ∧ b ≠ q) as rs' ∧ Paired (fun x y : List Cut => x.Perm y) rs' ((wordR tb w0).take i) ∧ Pot H' p ∧ Frm [p] H H' ∧ H' sl = some (.lst ((wordP w0).map V.str))) ⟨none, none, [], [], rfl, E9 _ _ hq8, .nil, .nil, hpE, f8.trans (Frm.ext E9), hs9⟩ (fun _ _ _ ⟨_, _, _, _, _, _, _, _, _, _, z⟩ => SqL.of z) ?_ ?_
    · rintro i x σ H' hx ⟨u6, u7, as, rs', rfl, b1, b2, b3, b4, b5, b6⟩
      obtain ⟨pt, hpt, rfl⟩ := strs_at hx
      have po := partOk_ok (ow.parts pt (List.mem_of_getElem? hpt))
      obtain ⟨m, hm, hm5'⟩ := po.even
      have hrg : RgC 0 ((pt.length : Nat) : Int) 2 m := by rw [hm]; exact rgc2 hm5'
      have hri : (wordR tb w0)[i]? = some (partC tb pt) := by unfold wordR; rw [List.getElem?_map, hpt]; rfl
      have hlen : (partC tb pt).length = m := by unfold partC; rw [List.length_map, List.length_range, hm]; omega
      have hil := (List.getElem?_eq_some_iff.mp hri).1
      have hz640 : pt.length ≤ sizeLine := by rw [hm, sizeLine_eq]; omega
      refine ⟨_, rfl, _, rfl, hz640, 0, ((pt.length : Nat) : Int), 2, m, rfl, hrg, fun D hD => lc_walk walk_rc (fun j H2 => ∃ bs : List Addr, H2 D = some (.lst (bs.map V.ref)) ∧ Paired (fun b c => H2 b = some (.tup (lcV c))) bs ((partC tb pt).take j) ∧ Ext H' H2) ⟨[], upd_same, .nil, Ext.upd hD⟩ (fun _ _ _ => trivial) ?_ ?_⟩
      · rintro j x H2 hx ⟨bs, d1, d2, e⟩
        have hj : j < m := by
          have := (List.getElem?_eq_some_iff.mp hx).1
          simpa using this
        have hx5 : x = .int ((2 * j : Nat) : Int) := by
          rw [List.getElem?_map, List.getElem?_range hj] at hx
          rw [← Option.some.inj hx]
          show V.int (0 + (j : Int) * 2) = _
          congr 1
          omega
        subst hx5
        obtain ⟨at0, at1, tx⟩ := po.at_ j (by rw [hm]; omega)
        refine ⟨rfl, lc_yes ⟨_, rfl, _, rfl, .inr (.inr ⟨pt, _, _, rfl, rfl, hz640, at0, rfl, _, rfl, rfl, rfl, .inr ⟨_, rfl, _, rfl, _, rfl, _, _, rfl, rfl, .inr (.inr ⟨pt, ((2 * j + 1 : Nat) : Int), _, rfl, rfl, hz640, at1, _, _, rfl, tx, (by show 1 ≤ 640; decide), (by show 2 ≤ sizeLine; decide), fun tt htt => ?_⟩)⟩⟩)⟩⟩
        have hDt : D ≠ tt := fun z => by rw [← z, d1] at htt; cases htt
        have hji : (partC tb pt)[j]? = some (partCut tb pt j) := by unfold partC; rw [List.getElem?_map, List.getElem?_range (by omega)]; rfl
        refine ⟨_, by rw [upd_ne hDt]; exact d1, ?_, bs ++ [tt], ?_, ?_, ?_⟩
        · rw [List.length_map, pd_len d2, List.length_take, sizeLine_eq]
          omega
        · rw [upd_same, List.map_append]
          rfl
        · rw [take_snoc hji]
          refine pd_snoc (pd_imp (fun b q' hq' => ?_) d2) ?_
          · rw [upd_ne (fun z => by rw [z, d1] at hq'; cases hq'), upd_ne (ne_of_none hq' htt)]
            exact hq'
          · rw [upd_ne (Ne.symm hDt), upd_same]
            exact congrArg (fun z => some (HO.tup z)) (axis_eq htb t0 t1 _)
        · exact ext_put (e.trans (Ext.upd htt)) hD
      · rintro H2 ⟨bs, d1, d2, e⟩
        rw [List.length_map, List.length_range, ← hlen, List.take_length] at d2
        have hp2 := b4.frm (M := []) (Frm.ext e) (fun z => nomatch z)
        refine ⟨_, rfl, .inl ⟨rfl, _, SqL.of (e _ _ b1)⟩, _, rfl, _, rfl, p, D, partC tb pt, rfl, hp2, ⟨bs, d1, d2⟩, by rw [hlen]; omega, fun r H3 ds F3 hp3 hr3 hds pm => ?_⟩
        have rq : r ≠ q := fun z => by rw [z, e _ _ b1] at hr3; cases hr3
        have nonemp : ∀ (b : Addr) (cs : List Cut), cs ∈ rs' → (LcL H' b cs ∧ b ≠ q) → (LcL H3 b cs ∧ b ≠ q) := fun b cs hcs hb => ⟨(hb.1.ext e).frm (ne_of_len (by
          obtain ⟨n, hn⟩ := List.getElem?_of_mem hcs
          obtain ⟨d, h1, h2⟩ := pd_get b3 n cs hn
          rw [h2.length_eq]
          exact okR.h1 d (List.mem_of_mem_take (List.mem_of_getElem? h1)))) hp2 F3, hb.2⟩
        have b2' := pd_impM nonemp b2
        have q3 : H3 q = some (.lst (as.map V.ref)) := F3 _ _ (e _ _ b1) qp
        refine ⟨q, as.map V.ref, .ref r, rfl, rfl, q3, ?_, ?_⟩
        · have := okR.l3
          rw [List.length_map, pd_len b2, pd_len b3, List.length_take, sizeLine_eq]
          omega
        · refine ⟨some (.str pt), some (.ref D), as ++ [r], rs' ++ [ds], rfl, by rw [upd_same, List.map_append]; rfl, pd_snoc (pd_imp (fun b cs z => ⟨z.1.side q3 z.2, z.2⟩) b2') ⟨hds.side q3 rq, rq⟩, ?_, ?_, ?_, ?_⟩
          · rw [take_snoc hri]
            exact pd_snoc b3 pm
          · exact Pot.frm (M := [q]) hp3 (Frm.put (List.mem_singleton.mpr rfl)) (fun z => qp (by rw [List.mem_singleton.mp z]; exact List.mem_singleton.mpr rfl))
          · intro b o z n
            rw [upd_ne (fun w => by rw [w, hqH] at z; cases z)]
            exact F3 _ _ (e _ _ (b5 _ _ z n)) n
          · rw [upd_ne slq]
            exact F3 _ _ (e _ _ b6) slp
    · rintro σ H' ⟨u6, u7, as, rs', rfl, b1, b2, b3, b4, b5, b6⟩
      have el : ((wordP w0).map V.str).length = (wordR tb w0).length := by unfold wordR; rw [List.length_map, List.length_map]
      rw [el, List.take_length] at b3
      have okr' : OkR rs' := OkR.permC b3 okR
      obtain ⟨n, rfl⟩ := Int.eq_ofNat_of_zero_le a0
      refine ⟨_, rfl, _, rfl, _, rfl, q, _, rfl, SqL.of b1, fun s1 hs1 => ?_⟩
      refine ⟨_, rfl, _, rfl, _, rfl, q, _, rfl, SqL.of (Ext.upd hs1 _ _ b1), fun s2 hs2 => ?_⟩
      rw [cut_dropU, ← List.map_drop] at *
      rw [cut_takeU, ← List.map_take] at *
      have e12 := (Ext.upd (H := H') (o := .lst ((as.drop n).map V.ref)) hs1).trans (Ext.upd (o := .lst ((as.take n).map V.ref)) hs2)
      have n12' : s1 ≠ s2 := fun z => by rw [← z, upd_same] at hs2; cases hs2
      refine ⟨s1, s2, _, _, rfl, rfl, by rw [upd_ne n12', upd_same], upd_same, ?_, fun s3 hs3 => ?_⟩
      · have := okr'.l3
        have := pd_len b2
        rw [List.length_map, List.length_map, List.length_drop, List.length_take, sizeLine_eq]
        omega
      have e3 := e12.trans (Ext.upd (o := .lst ((as.drop n).map V.ref ++ (as.take n).map V.ref)) hs3)
      refine k s3 _ (rs'.drop n ++ rs'.take n) (b5.trans (Frm.ext e3)) (b4.frm (M := []) (Frm.ext e3) (fun z => nomatch z)) (b5.free (none_of e12 hs3) (fun z => (b4.ne (none_of e12 hs3)) (List.mem_singleton.mp z))) ?_ (okr'.rot n)
      refine ⟨as.drop n ++ as.take n, by rw [upd_same, List.map_append], ?_⟩
      have bb := pd_imp (fun b cs (z : LcL H' b cs ∧ b ≠ q) => z.1.ext e3) b2
      exact pd_app (pd_drop n bb) (pd_take n bb)
end
end Mc

set_option Elab.async false
set_option linter.all false
set_option maxRecDepth 100000
set_option maxHeartbeats 4000000
set_option exponentiation.threshold 20000
namespace Mc
open PySem PySem.Spec PyProof.Rows L2 ClX StX
section
variable {P : Program} {w : World} {K : PySem.W.Frag} {mg : Str → Option Value} {base : Heap} {f C0 aX : Addr} {mc : Value} {fd : FuncData}
theorem sc_real : FnScope ["_law_pot_here", "_law_rounds_here", "_law_told", "_law_cuts", "_law_axis", "_law_parts"] ["_law_pot_here", "_law_rounds_here"] (defScope s_real) := ⟨rfl, rfl, rfl, by decide +kernel, rfl, by decide +kernel, by decide +kernel⟩
theorem len2 {α : Type} : ∀ {l : List α}, l.length = 2 → ∃ a b, l = [a, b]
  | [a, b], _ => ⟨a, b, rfl⟩
theorem len3 {α : Type} : ∀ {l : List α}, l.length = 3 → ∃ a b c, l = [a, b, c]
  | [a, b, c], _ => ⟨a, b, c, rfl⟩
theorem call_tupleK {X : Cx} {K : PySem.W.Frag} (hK : X.K = K) : CallR X (.type "tuple") (fun xs H Q => ∃ p ys, xs = [.ref p] ∧ ((SqL K H p ys ∧ ∀ l, H l = none → Q (.ref l) (upd H l (.tup ys))) ∨ (SqT K H p ys ∧ Q (.ref p) H))) := by
  subst hK
  exact call_tuple_of
theorem ax_at (b : Bool) : atI [V.str "east", V.str "north"] ((axI b : Nat) : Int) = some (.str (axS b)) := by cases b <;> rfl
theorem cutsL_pot {H H' : Hp} {p l : Addr} {cs : List Cut} (h : CutsL H l cs) (ne : cs ≠ []) (hp : Pot H p) (f : Frm [p] H H') : CutsL H' l cs := by
  obtain ⟨as, h1, h2⟩ := h
  exact ⟨as, f _ _ h1 (hp.ne_refs h1 (pd_ne h2 ne)), pd_imp (fun _ _ q => f.tup hp q) h2⟩
def TupC (H : Hp) (a : Addr) (cs : List Cut) : Prop := ∃ bs : List Addr, H a = some (.tup (bs.map V.ref)) ∧ Paired (fun b c => H b = some (.tup (cutV c))) bs cs
theorem TupC.ext {H H' : Hp} {a : Addr} {cs : List Cut} (h : TupC H a cs) (e : Ext H H') : TupC H' a cs := by
  obtain ⟨bs, h1, h2⟩ := h
  exact ⟨bs, e _ _ h1, pd_imp (fun _ _ q => e _ _ q) h2⟩
theorem TupC.side {H : Hp} {D a : Addr} {xs ys : List V} {cs : List Cut} (h : TupC H a cs) (hD : H D = some (.lst xs)) : TupC (upd H D (.lst ys)) a cs := by
  obtain ⟨bs, h1, h2⟩ := h
  exact ⟨bs, side_t hD h1, pd_imp (fun _ _ q => side_t hD q) h2⟩
theorem TupC.cuts {K : PySem.W.Frag} {H : Hp} {a : Addr} {cs : List Cut} (h : TupC H a cs) : CutsAt K H (.ref a) cs := by
  obtain ⟨bs, h1, h2⟩ := h
  exact ⟨a, bs, rfl, .inr (SqT.of h1), h2⟩
def spReal (C0 : Addr) : Sp := fun vs H Q _ => ∃ (p l : Addr) (rs : List (List Cut)), vs = [.ref p, .ref l] ∧ Pot H p ∧ RndL H l rs ∧ OkR rs ∧ ∀ x H', Frm [p] H H' → Pot H' p → H x = none → PlanAt C0 H' x rs → Q (.ref x) H'
theorem ok_real (F : FunD K "_law_real" "_law_real" (defArgs s_real) (defBody s_real) (defScope s_real) [] [] f fd) (T : TB mg) (R : PlanT K mg C0 aX mc) {fI : Addr} (MkP : Mk K C0 fI) (GP : FnR P w K mg base CX0 6 fI (spPlanI K C0)) {fdraw : Addr} {fddraw : FuncData} (Ddraw : Gd P w K mg base "_law_draw" 1 ["_law_pot_here", "_law_many"] (spDraw) fdraw fddraw) : FnOk P w K mg base CX0 8 f fd ["_law_pot_here", "_law_rounds_here"] (spReal C0) := by
  refine F.ok sc_real (fun vs H Q E h => ?_) (fun cdv A outer s H vs Q E hr h => ?_)
  · obtain ⟨p, l, rs, rfl, hp, hl, ok, k⟩ := h
    rfl
  · obtain ⟨p, l, rs, rfl, hp, hl, ok, k⟩ := h
    refine ⟨_, (PSs.nox (pss_cons (ps_setLc (i := 2) (own := [("_law_cuts", 3)]) (g := gName 3) (tt := tYes) rfl sc_real.nd rfl rfl (sw_true rfl rfl rfl (by decide +kernel)) (pi_list (pv 1)) (blkOk_by (own := [("_law_cuts", 3)]) (N := ["_law_pot_here", "_law_rounds_here", "_law_told", "_law_cuts", "_law_axis", "_law_parts"]) (sc := defScope s_real) (by decide +kernel)) (fun _ _ _ _ _ => (pg_name (i := 3) sc_real.nd rfl (.inl rfl))) (fun _ _ _ _ _ => pts_nil) (fun _ _ _ _ _ => (pe_lc (own := [("_law_axis", 4), ("_law_parts", 5)]) (g := gTup K 2 (gCons (gName 4) (gCons (gName 5) gNil))) (tt := tYes) rfl sc_real.nd (pi_listK (K := K) rfl (pv 3)) (blkOk_free (own := [("_law_axis", 4), ("_law_parts", 5)]) (N := ["_law_pot_here", "_law_rounds_here", "_law_told", "_law_cuts", "_law_axis", "_law_parts"]) (by decide +kernel)) (fun _ _ _ _ _ => (pg_tup rfl (pgs_cons (pg_name (i := 4) sc_real.nd rfl (.inl rfl)) (pgs_cons (pg_name (i := 5) sc_real.nd rfl (.inl rfl)) pgs_nil)))) (fun _ _ _ _ _ => pts_nil) (fun _ _ _ _ _ => (pe_tup (pa_cons (pe_ix (ix_seqK (K := K) rfl) (pe_lst (pa_cons pe_str (pa_cons pe_str pa_nil))) (pv 4) (fun _ _ => rfl)) (pa_cons (pv 5) pa_nil)))))))
      (pss_cons (ps_if (pt_cmpR op_eq (pe_gd Ddraw hr (by decide) (by rfl) (pa_cons (pv 0) (pa_cons pe_int pa_nil))) pe_int (nomark _)) (pss_one (ps_setLc (i := 2) (own := [("_law_cuts", 3)]) (g := gName 3) (tt := tYes) rfl sc_real.nd rfl rfl (sw_true rfl rfl rfl (by decide +kernel)) (pi_list (pv 2)) (blkOk_by (own := [("_law_cuts", 3)]) (N := ["_law_pot_here", "_law_rounds_here", "_law_told", "_law_cuts", "_law_axis", "_law_parts"]) (sc := defScope s_real) (by decide +kernel)) (fun _ _ _ _ _ => (pg_name (i := 3) sc_real.nd rfl (.inl rfl))) (fun _ _ _ _ _ => pts_nil) (fun _ _ _ _ _ => (pe_callTy (call_tupleK (K := K) rfl) (by rfl) T.tuple (by decide +kernel) (pa_cons (pv 3) pa_nil))))) pss_nil)
      (pss_cons (ps_if (pt_cmpR op_eq (pe_callB call_len_seq (by rfl) T.len PySem.boot_len (pa_cons (pv 2) pa_nil)) pe_int (nomark _)) (pss_one (ps_ret (pe_makeR MkP GP (hr.mono (by decide)) (by rfl) R.mgP pass0 (pa_cons (pe_ix ix_seq (pv 2) pe_int (fun _ _ => rfl)) pa_nil)))) pss_nil)
      (pss_one (ps_ret (pe_ifExp (pt_cmpR op_eq (pe_callB call_len_seq (by rfl) T.len PySem.boot_len (pa_cons (pv 2) pa_nil)) pe_int (nomark _)) (pe_makeR MkP GP (hr.mono (by decide)) (by rfl) R.mgP pass0 (pa_cons (pe_ix ix_seq (pv 2) pe_int (fun _ _ => rfl)) (pa_cons (pe_ix ix_seq (pv 2) pe_int (fun _ _ => rfl)) pa_nil))) (pe_makeR MkP GP (hr.mono (by decide)) (by rfl) R.mgP pass0 (pa_cons (pe_ix ix_seq (pv 2) pe_int (fun _ _ => rfl)) (pa_cons (pe_ix ix_seq (pv 2) pe_int (fun _ _ => rfl)) (pa_cons (pe_ix ix_seq (pv 2) pe_int (fun _ _ => rfl)) pa_nil))))))))))), ?_⟩
    obtain ⟨as, l1, l2⟩ := id hl
    have l3 := ok.l3
    refine ⟨_, rfl, l, rfl, ⟨_, SqL.of l1⟩, fun D hD => lc_walk walk_l (fun i H' => ∃ ds : List Addr, H' D = some (.lst (ds.map V.ref)) ∧ Paired (fun a cs => CutsL H' a cs ∧ a ≠ D) ds (rs.take i) ∧ Ext H H') ⟨[], upd_same, .nil, Ext.upd hD⟩ (fun _ _ ⟨_, _, _, e⟩ => SqL.of (e _ _ l1)) ?_ ?_⟩
    · rintro i x H' hx ⟨ds, d1, d2, e⟩
      obtain ⟨a, rfl, cs, hci, bs, b1, b2⟩ := refs_get l2 hx
      refine ⟨rfl, lc_yes ⟨_, rfl, a, rfl, ⟨_, SqL.of (e _ _ b1)⟩, fun D2 hD2 => lc_walk walk_l (fun j H2 => ∃ es : List Addr, H2 D2 = some (.lst (es.map V.ref)) ∧ Paired (fun a c => H2 a = some (.tup (cutV c))) es (cs.take j) ∧ Ext H' H2) ⟨[], upd_same, .nil, Ext.upd hD2⟩ (fun _ _ ⟨_, _, _, e2⟩ => SqL.of (e2 _ _ (e _ _ b1))) ?_ ?_⟩⟩
      · rintro j x H2 hx ⟨es, f1, f2, e2⟩
        obtain ⟨b, rfl, c, hcj, hb⟩ := refs_get b2 hx
        have hb2 : H2 b = some (.tup (lcV c)) := e2 _ _ (e _ _ hb)
        refine ⟨b, _, rfl, SqT.of hb2, rfl, _, _, rfl, _, _, rfl, rfl, rfl, lc_yes ⟨(by show 2 ≤ sizeLine; decide), fun ml hml => ⟨_, rfl, .inl ⟨ml, _, _, .str (axS c.1), rfl, rfl, SqL.of upd_same, ax_at c.1, _, rfl, (by show 2 ≤ sizeLine; decide), fun tt htt => ?_⟩⟩⟩⟩
        have e3 := (Ext.upd (o := .lst [.str "east", .str "north"]) hml).trans (Ext.upd (o := .tup (cutV c)) htt)
        have D2t : D2 ≠ tt := fun z => by rw [← z, Ext.upd hml _ _ f1] at htt; cases htt
        refine ⟨_, e3 _ _ f1, ?_, es ++ [tt], ?_, ?_, ext_put (e2.trans e3) hD2⟩
        · have := ok.h5 cs (List.mem_of_getElem? hci)
          rw [List.length_map, pd_len f2, List.length_take, sizeLine_eq]
          omega
        · rw [upd_same, List.map_append]
          rfl
        · rw [take_snoc hcj]
          refine pd_snoc (pd_imp (fun b q hq => ?_) f2) ?_
          · exact side_t (e3 _ _ f1) (e3 _ _ hq)
          · rw [upd_ne (Ne.symm D2t), upd_same]
            rfl
      · rintro H2 ⟨es, f1, f2, e2⟩
        rw [List.length_map, pd_len b2, List.take_length] at f2
        have n2 : D2 ≠ D := fun z => by rw [z, d1] at hD2; cases hD2
        refine ⟨_, e2 _ _ d1, ?_, ds ++ [D2], ?_, ?_, ext_put (e.trans e2) hD⟩
        · rw [List.length_map, pd_len d2, List.length_take, sizeLine_eq]
          omega
        · rw [upd_same, List.map_append]
          rfl
        · rw [take_snoc hci]
          exact pd_snoc (pd_imp (fun b c q => ⟨side_cuts (e2 _ _ d1) q.2 (q.1.ext e2), q.2⟩) d2) ⟨side_cuts (e2 _ _ d1) n2 ⟨es, f1, f2⟩, n2⟩
    · rintro H1 ⟨ds, d1, d2, e⟩
      rw [List.length_map, pd_len l2, List.take_length] at d2
      have hp1 := hp.frm (M := []) (Frm.ext e) (fun z => nomatch z)
      have Dp' : D ∉ [p] := fun z => hp.ne hD (List.mem_singleton.mp z)
      refine ⟨_, rfl, p, 2, rfl, hp1, by decide, by decide, fun t H2 t0 t1 F2 hp2 => ⟨rfl, _, rfl, ite2 (fun _ => ?_) (fun _ => ?_)⟩⟩
      all_goals have g1 : H2 D = some (.lst (ds.map V.ref)) := F2 _ _ d1 Dp'
      all_goals have g2 : Paired (fun a cs => CutsL H2 a cs) ds rs := pd_impM (fun a cs m q => cutsL_pot q.1 (ne_of_len (ok.h1 cs m)) hp1 F2) d2
      all_goals have F02 : Frm [p] H H2 := (Frm.ext e).trans F2
      · refine ⟨_, rfl, D, rfl, ⟨_, SqL.of g1⟩, fun D3 hD3' => lc_walk walk_l (fun i H' => ∃ es : List Addr, H' D3 = some (.lst (es.map V.ref)) ∧ Paired (TupC H') es (rs.take i) ∧ Ext H2 H') ⟨[], upd_same, .nil, Ext.upd hD3'⟩ (fun _ _ ⟨_, _, _, e⟩ => SqL.of (e _ _ g1)) ?_ ?_⟩
        · rintro i x H' hx ⟨es, f1, f2, e2⟩
          obtain ⟨a, rfl, cs, hci, bs, b1, b2⟩ := refs_get g2 hx
          refine ⟨rfl, lc_yes ⟨_, rfl, a, _, rfl, .inl ⟨SqL.of (e2 _ _ b1), fun tt htt => ?_⟩⟩⟩
          have e3 := Ext.upd (o := .tup (bs.map V.ref)) htt
          have D3t : D3 ≠ tt := fun z => by rw [← z, f1] at htt; cases htt
          have e4 : Ext H2 (upd (upd H' tt (.tup (bs.map V.ref))) D3 (.lst (es.map V.ref ++ [.ref tt]))) := ext_put (e2.trans e3) hD3'
          refine ⟨_, e3 _ _ f1, ?_, es ++ [tt], by rw [upd_same, List.map_append]; rfl, ?_, e4⟩
          · rw [List.length_map, pd_len f2, List.length_take, sizeLine_eq]
            omega
          · rw [take_snoc hci]
            exact pd_snoc (pd_imp (fun v cs q => (q.ext e3).side (e3 _ _ f1)) f2) ⟨bs, by rw [upd_ne (Ne.symm D3t), upd_same], pd_imp (fun _ _ q => e4 _ _ q) b2⟩
        · rintro H3 ⟨es, hD3, hv, e3⟩
          rw [List.length_map, pd_len g2, List.take_length] at hv
          have F3 : Frm [p] H H3 := F02.trans (Frm.ext e3)
          have hp3 := hp2.frm (M := []) (Frm.ext e3) (fun z => nomatch z)
          have hv : Paired (CutsAt K H3) (es.map V.ref) rs := pd_refs (pd_imp (fun a cs q => TupC.cuts q) hv)
          generalize es.map V.ref = vs0 at *
          have lv := pd_len hv
          have l3 := ok.l3
          have l1 := ok.l1
          refine ⟨_, rfl, D3, _, rfl, .inl (SqL.of hD3), rfl, _, rfl, ite2 (fun h1 => ?_) (fun h1 => ?_)⟩
          · have h1 := V.int.inj (of_decide_eq_true h1)
            obtain ⟨v1, rfl⟩ := List.length_eq_one_iff.mp (show vs0.length = 1 by omega)
            refine ⟨_, rfl, .inl ⟨D3, _, 0, _, rfl, rfl, SqL.of hD3, rfl, fun x dx hx hdx ne => ?_⟩⟩
            have e4 : Ext H3 (upd (upd H3 dx (.own x)) x (.ins C0 dx [])) := mk_ext hx hdx
            exact ⟨x, dx, [v1], rs, rfl, upd_same, pd_imp (fun v cs q => q.ext e4) hv, ok, fun H5 f5 hp5 => ⟨rfl, k x H5 (F3.trans (Frm.ext (made_ext hx hdx f5))) (hp3.frm (M := []) (Frm.ext (made_ext hx hdx f5)) (fun z => nomatch z)) (F3.free hx (fun z => hp3.ne hx (List.mem_singleton.mp z))) hp5⟩⟩
          · have h1 : ¬ vs0.length = 1 := fun z => h1 (decide_eq_true (by rw [z]; rfl))
            refine ⟨_, rfl, D3, _, rfl, .inl (SqL.of hD3), rfl, _, rfl, ite2 (fun h2 => ?_) (fun h2 => ?_)⟩
            · have h2 := V.int.inj (of_decide_eq_true h2)
              obtain ⟨v1, v2, rfl⟩ := len2 (show vs0.length = 2 by omega)
              refine ⟨_, rfl, .inl ⟨D3, _, 0, _, rfl, rfl, SqL.of hD3, rfl, _, rfl, .inl ⟨D3, _, 1, _, rfl, rfl, SqL.of hD3, rfl, fun x dx hx hdx ne => ?_⟩⟩⟩
              have e4 : Ext H3 (upd (upd H3 dx (.own x)) x (.ins C0 dx [])) := mk_ext hx hdx
              exact ⟨x, dx, [v1, v2], rs, rfl, upd_same, pd_imp (fun v cs q => q.ext e4) hv, ok, fun H5 f5 hp5 => ⟨rfl, k x H5 (F3.trans (Frm.ext (made_ext hx hdx f5))) (hp3.frm (M := []) (Frm.ext (made_ext hx hdx f5)) (fun z => nomatch z)) (F3.free hx (fun z => hp3.ne hx (List.mem_singleton.mp z))) hp5⟩⟩
            · have h2 : ¬ vs0.length = 2 := fun z => h2 (decide_eq_true (by rw [z]; rfl))
              obtain ⟨v1, v2, v3, rfl⟩ := len3 (show vs0.length = 3 by omega)
              refine ⟨_, rfl, .inl ⟨D3, _, 0, _, rfl, rfl, SqL.of hD3, rfl, _, rfl, .inl ⟨D3, _, 1, _, rfl, rfl, SqL.of hD3, rfl, _, rfl, .inl ⟨D3, _, 2, _, rfl, rfl, SqL.of hD3, rfl, fun x dx hx hdx ne => ?_⟩⟩⟩⟩
              have e4 : Ext H3 (upd (upd H3 dx (.own x)) x (.ins C0 dx [])) := mk_ext hx hdx
              exact ⟨x, dx, [v1, v2, v3], rs, rfl, upd_same, pd_imp (fun v cs q => q.ext e4) hv, ok, fun H5 f5 hp5 => ⟨rfl, k x H5 (F3.trans (Frm.ext (made_ext hx hdx f5))) (hp3.frm (M := []) (Frm.ext (made_ext hx hdx f5)) (fun z => nomatch z)) (F3.free hx (fun z => hp3.ne hx (List.mem_singleton.mp z))) hp5⟩⟩
      · have hv : Paired (CutsAt K H2) (ds.map V.ref) rs := pd_refs (pd_imp (fun a cs q => cutsAt_of q) g2)
        have hD3 := g1
        have F3 := F02
        have hp3 := hp2
        generalize ds.map V.ref = vs0 at *
        obtain ⟨D3, rfl⟩ : ∃ D3, D3 = D := ⟨_, rfl⟩
        obtain ⟨H3, rfl⟩ : ∃ H3, H3 = H2 := ⟨_, rfl⟩
        have lv := pd_len hv
        have l3 := ok.l3
        have l1 := ok.l1
        refine ⟨_, rfl, D3, _, rfl, .inl (SqL.of hD3), rfl, _, rfl, ite2 (fun h1 => ?_) (fun h1 => ?_)⟩
        · have h1 := V.int.inj (of_decide_eq_true h1)
          obtain ⟨v1, rfl⟩ := List.length_eq_one_iff.mp (show vs0.length = 1 by omega)
          refine ⟨_, rfl, .inl ⟨D3, _, 0, _, rfl, rfl, SqL.of hD3, rfl, fun x dx hx hdx ne => ?_⟩⟩
          have e4 : Ext H3 (upd (upd H3 dx (.own x)) x (.ins C0 dx [])) := mk_ext hx hdx
          exact ⟨x, dx, [v1], rs, rfl, upd_same, pd_imp (fun v cs q => q.ext e4) hv, ok, fun H5 f5 hp5 => ⟨rfl, k x H5 (F3.trans (Frm.ext (made_ext hx hdx f5))) (hp3.frm (M := []) (Frm.ext (made_ext hx hdx f5)) (fun z => nomatch z)) (F3.free hx (fun z => hp3.ne hx (List.mem_singleton.mp z))) hp5⟩⟩
        · have h1 : ¬ vs0.length = 1 := fun z => h1 (decide_eq_true (by rw [z]; rfl))
          refine ⟨_, rfl, D3, _, rfl, .inl (SqL.of hD3), rfl, _, rfl, ite2 (fun h2 => ?_) (fun h2 => ?_)⟩
          · have h2 := V.int.inj (of_decide_eq_true h2)
            obtain ⟨v1, v2, rfl⟩ := len2 (show vs0.length = 2 by omega)
            refine ⟨_, rfl, .inl ⟨D3, _, 0, _, rfl, rfl, SqL.of hD3, rfl, _, rfl, .inl ⟨D3, _, 1, _, rfl, rfl, SqL.of hD3, rfl, fun x dx hx hdx ne => ?_⟩⟩⟩
            have e4 : Ext H3 (upd (upd H3 dx (.own x)) x (.ins C0 dx [])) := mk_ext hx hdx
            exact ⟨x, dx, [v1, v2], rs, rfl, upd_same, pd_imp (fun v cs q => q.ext e4) hv, ok, fun H5 f5 hp5 => ⟨rfl, k x H5 (F3.trans (Frm.ext (made_ext hx hdx f5))) (hp3.frm (M := []) (Frm.ext (made_ext hx hdx f5)) (fun z => nomatch z)) (F3.free hx (fun z => hp3.ne hx (List.mem_singleton.mp z))) hp5⟩⟩
          · have h2 : ¬ vs0.length = 2 := fun z => h2 (decide_eq_true (by rw [z]; rfl))
            obtain ⟨v1, v2, v3, rfl⟩ := len3 (show vs0.length = 3 by omega)
            refine ⟨_, rfl, .inl ⟨D3, _, 0, _, rfl, rfl, SqL.of hD3, rfl, _, rfl, .inl ⟨D3, _, 1, _, rfl, rfl, SqL.of hD3, rfl, _, rfl, .inl ⟨D3, _, 2, _, rfl, rfl, SqL.of hD3, rfl, fun x dx hx hdx ne => ?_⟩⟩⟩⟩
            have e4 : Ext H3 (upd (upd H3 dx (.own x)) x (.ins C0 dx [])) := mk_ext hx hdx
            exact ⟨x, dx, [v1, v2, v3], rs, rfl, upd_same, pd_imp (fun v cs q => q.ext e4) hv, ok, fun H5 f5 hp5 => ⟨rfl, k x H5 (F3.trans (Frm.ext (made_ext hx hdx f5))) (hp3.frm (M := []) (Frm.ext (made_ext hx hdx f5)) (fun z => nomatch z)) (F3.free hx (fun z => hp3.ne hx (List.mem_singleton.mp z))) hp5⟩⟩
end
end Mc

set_option Elab.async false
set_option linter.all false
set_option maxRecDepth 100000
set_option maxHeartbeats 4000000
set_option exponentiation.threshold 20000
namespace Mc
open PySem PySem.Spec PyProof.Rows L2 ClX StX
section
variable {P : Program} {w : World} {K : PySem.W.Frag} {mg : Str → Option Value} {base : Heap} {f C0 aX : Addr} {mc : Value} {fd : FuncData}
theorem sc_size : FnScope ["_law_cuts", "_law_found", "_law_axis", "_law_parts"] ["_law_cuts"] (defScope s_size) := ⟨rfl, rfl, rfl, by decide +kernel, rfl, by decide +kernel, by decide +kernel⟩
def prodF (cs : List Cut) : Nat := cs.foldl (fun q c => q * c.2) 1
theorem prodF_snoc (cs : List Cut) (c : Cut) : prodF (cs ++ [c]) = prodF cs * c.2 := by
  unfold prodF
  rw [List.foldl_append]
  rfl
theorem prodF_len (cs : List Cut) : prodF cs = (placesF cs).length := by
  refine snoc_ind (P := fun cs => prodF cs = (placesF cs).length) rfl (fun cs c ih => ?_) cs
  rw [prodF_snoc, placesF_snoc, spread_length, ih]
def dgS (s : Nat × List (Cut × Nat)) (c : Cut) : Nat × List (Cut × Nat) := (s.1 / c.2, (c, s.1 % c.2) :: s.2)
def fdS (q : Pr) (x : Cut × Nat) : Pr := stepC q x.1 x.2
theorem dig_place (cs : List Cut) : (∀ c ∈ cs, okC c) → ∀ (g : Nat) (acc : List (Cut × Nat)) (q : Pr), (placesF cs)[g]? = some q → ∃ ds, (cs.reverse.foldl dgS (g, acc)).2 = ds ++ acc ∧ ds.foldl fdS (0, 0) = q := by
  refine snoc_ind (P := fun cs => (∀ c ∈ cs, okC c) → ∀ (g : Nat) (acc : List (Cut × Nat)) (q : Pr), (placesF cs)[g]? = some q → ∃ ds, (cs.reverse.foldl dgS (g, acc)).2 = ds ++ acc ∧ ds.foldl fdS (0, 0) = q) ?_ (fun cs c ih ok g acc q h => ?_) cs
  · intro _ g acc q h
    have : g = 0 := by
      have := (List.getElem?_eq_some_iff.mp h).1
      have e : (placesF []).length = 1 := rfl
      omega
    subst this
    exact ⟨[], rfl, by cases h; rfl⟩
  · have hc := (ok c (List.mem_append_right _ List.mem_cons_self)).1
    have h0 : 0 < c.2 := by omega
    rw [placesF_get cs h0] at h
    obtain ⟨p, h1, h2⟩ := Option.map_eq_some_iff.mp h
    obtain ⟨ds, e1, e2⟩ := ih (fun d hd => ok d (List.mem_append_left _ hd)) (g / c.2) ((c, g % c.2) :: acc) p h1
    refine ⟨ds ++ [(c, g % c.2)], ?_, ?_⟩
    · rw [List.reverse_append, List.reverse_cons, List.reverse_nil, List.nil_append, List.singleton_append, List.foldl_cons, List.append_assoc]
      exact e1
    · rw [List.foldl_append, e2]
      exact h2
theorem dgs_all (cs : List Cut) : (∀ c ∈ cs, okC c) → ∀ s : Nat × List (Cut × Nat), (∀ x ∈ s.2, okC x.1 ∧ x.2 < x.1.2) → (∀ x ∈ (cs.foldl dgS s).2, okC x.1 ∧ x.2 < x.1.2) ∧ (cs.foldl dgS s).2.length = cs.length + s.2.length := by
  induction cs with
  | nil => intro _ s h; exact ⟨h, by simp⟩
  | cons c r ih =>
    intro ok s h
    have hc := ok c List.mem_cons_self
    obtain ⟨h1, h2⟩ := ih (fun d hd => ok d (List.mem_cons_of_mem _ hd)) (dgS s c) (fun x hx => by
      rcases List.mem_cons.mp hx with e | e
      · rw [e]
        exact ⟨hc, Nat.mod_lt _ (Nat.lt_of_lt_of_le (by decide) hc.1)⟩
      · exact h x e)
    refine ⟨h1, ?_⟩
    rw [List.foldl_cons, h2]
    show r.length + (s.2.length + 1) = r.length + 1 + s.2.length
    omega
def dgV (x : Cut × Nat) : List V := [.int (axI x.1.1 : Nat), .int x.1.2, .int x.2]
theorem pd_rev {α β : Type} {F : α → β → Prop} : ∀ {l : List α} {m : List β}, Paired F l m → Paired F l.reverse m.reverse
  | _, _, .nil => .nil
  | _, _, .cons r t => by
    rw [List.reverse_cons, List.reverse_cons]
    exact pd_snoc (pd_rev t) r
theorem fd_bits {q : Pr} {x : Cut × Nat} {i : Nat} (h1 : q.1.natAbs ≤ 2 ^ (16 * i)) (h2 : q.2.natAbs ≤ 2 ^ (16 * i)) (hc : okC x.1) (hx : x.2 < x.1.2) : (fdS q x).1.natAbs ≤ 2 ^ (16 * (i + 1)) ∧ (fdS q x).2.natAbs ≤ 2 ^ (16 * (i + 1)) := by
  obtain ⟨c, k⟩ := x
  have h4 := hc.2
  have hk : k < 4 := Nat.lt_of_lt_of_le hx h4
  have p1 : 1 ≤ 2 ^ (16 * i) := Nat.one_le_two_pow
  have e : 2 ^ (16 * (i + 1)) = 2 ^ (16 * i) * 65536 := by rw [Nat.mul_add, Nat.pow_add]
  have key : ∀ y : Int, y.natAbs ≤ 2 ^ (16 * i) → (y * (c.2 : Int) + (k : Int)).natAbs ≤ 2 ^ (16 * (i + 1)) := fun y hy => by
    have a1 := Int.natAbs_add_le (y * (c.2 : Int)) (k : Int)
    rw [Int.natAbs_mul] at a1
    have a2 := Nat.mul_le_mul hy h4
    have a3 : ((c.2 : Int)).natAbs = c.2 := rfl
    have a4 : ((k : Int)).natAbs = k := rfl
    rw [a3, a4] at a1
    rw [e]
    have a5 : y.natAbs * c.2 ≤ 2 ^ (16 * i) * 4 := a2
    omega
  have up : 2 ^ (16 * i) ≤ 2 ^ (16 * (i + 1)) := Nat.pow_le_pow_right (by decide) (by omega)
  unfold fdS stepC
  split
  · exact ⟨key _ h1, Nat.le_trans h2 up⟩
  · exact ⟨Nat.le_trans h1 up, key _ h2⟩
def spSize : Sp := fun vs H Q _ => ∃ (l : Addr) (cs : List Cut), vs = [.ref l] ∧ LcL H l cs ∧ cs.length ≤ 5 ∧ (∀ c ∈ cs, okC c) ∧ Q (.int ((placesF cs).length : Nat)) H
theorem ok_size (F : FunD K "_law_size" "_law_size" (defArgs s_size) (defBody s_size) (defScope s_size) [] [] f fd) (T : TB mg) : FnOk P w K mg base CX0 1 f fd ["_law_cuts"] (spSize) := by
  refine F.ok sc_size (fun vs H Q E h => ?_) (fun cdv A outer s H vs Q E hr h => ?_)
  · obtain ⟨l, cs, rfl, hl, l5, ok, k⟩ := h
    rfl
  · obtain ⟨l, cs, rfl, hl, l5, ok, k⟩ := h
    refine ⟨_, (PSs.nox (pss_cons (ps_set (i := 1) sc_size.nd rfl (.inl rfl) pe_int)
      (pss_cons (ps_for PassesOwn.never rfl (pi_list (pv 0)) (pg_tup rfl (pgs_cons (pg_name (i := 2) sc_size.nd rfl (.inl rfl)) (pgs_cons (pg_name (i := 3) sc_size.nd rfl (.inl rfl)) pgs_nil))) (pss_one (ps_set (i := 1) sc_size.nd rfl (.inl rfl) (pe_op op_mulW (pv 1) (pv 3)))))
      (pss_one (ps_ret (pv 1)))))), ?_⟩
    obtain ⟨as, l1, l2⟩ := hl
    refine ⟨_, rfl, l, rfl, ⟨_, SqL.of l1⟩, for_walk walk_l (fun i σ H' => ∃ u w1, σ = [some (.ref l), some (.int (prodF (cs.take i) : Nat)), u, w1] ∧ H' = H ∧ (prodF (cs.take i)) ≤ 2 ^ (16 * i)) ⟨none, none, rfl, rfl, Nat.le_refl 1⟩ (fun _ _ _ ⟨_, _, _, e, _⟩ => SqL.of (by rw [e]; exact l1)) ?_ ?_⟩
    · rintro i x σ H' hx ⟨u, w1, rfl, rfl, b1⟩
      obtain ⟨a, rfl, c, hci, ha⟩ := refs_get l2 hx
      have hi : i < 5 := Nat.lt_of_lt_of_le (List.getElem?_eq_some_iff.mp hci).1 l5
      have hc := (ok c (List.mem_of_getElem? hci)).2
      have up : ((prodF (cs.take i) : Nat) : Int).natAbs < 2 ^ 1600 := Nat.lt_of_le_of_lt b1 (Nat.pow_lt_pow_right (by decide) (by omega))
      refine ⟨a, _, rfl, SqT.of ha, rfl, _, _, rfl, _, _, rfl, rfl, ?_⟩
      refine ⟨_, rfl, _, rfl, _, _, rfl, rfl, mulW up (show ((c.2 : Nat) : Int).natAbs < 2 ^ 16 by omega), ?_⟩
      have e : prodF (cs.take (i + 1)) = prodF (cs.take i) * c.2 := by rw [take_snoc hci, prodF_snoc]
      refine ⟨some (.int (axI c.1 : Nat)), some (.int c.2), ?_, rfl, ?_⟩
      · rw [e, Int.natCast_mul]
        rfl
      · rw [e, Nat.mul_add, Nat.pow_add]
        exact Nat.mul_le_mul b1 (Nat.le_trans hc (by decide))
    · rintro σ H' ⟨u, w1, rfl, rfl, b1⟩
      rw [List.length_map, pd_len l2, List.take_length, prodF_len]
      exact ⟨_, rfl, k⟩
def spWidths : Sp := fun vs H Q _ => ∃ (l : Addr) (cs : List Cut), vs = [.ref l] ∧ LcL H l cs ∧ cs.length ≤ 5 ∧ (∀ c ∈ cs, okC c) ∧ ∀ w H', Ext H H' → H w = none → H' w = some (.lst [.int (colsF cs : Nat), .int (rowsF cs : Nat)]) → Q (.ref w) H'

def spSpot : Sp := fun vs H Q _ => ∃ (l : Addr) (cs : List Cut) (g : Nat) (q : Pr), vs = [.ref l, .int g] ∧ LcL H l cs ∧ cs.length ≤ 5 ∧ (∀ c ∈ cs, okC c) ∧ (placesF cs)[g]? = some q ∧ ∀ w H', Ext H H' → H w = none → H' w = some (.lst [.int q.1, .int q.2]) → Q (.ref w) H'

end
end Mc

set_option Elab.async false
set_option linter.all false
set_option maxRecDepth 100000
set_option maxHeartbeats 4000000
set_option exponentiation.threshold 20000
namespace Mc
open PySem PySem.Spec PyProof.Rows L2 ClX StX
section
variable {P : Program} {w : World} {K : PySem.W.Frag} {mg : Str → Option Value} {base : Heap} {f C0 aX : Addr} {mc : Value} {fd : FuncData}
theorem range_get {n j : Nat} {x : V} (h : ((List.range n).map fun k : Nat => V.int (0 + (k : Int)))[j]? = some x) : j < n ∧ x = .int (j : Nat) := by
  have hj : j < n := by
    have := (List.getElem?_eq_some_iff.mp h).1
    simpa using this
  refine ⟨hj, ?_⟩
  rw [List.getElem?_map, List.getElem?_range hj] at h
  rw [← Option.some.inj h]
  show V.int (0 + (j : Int)) = _
  rw [Int.zero_add]
theorem sqT_frm {K : PySem.W.Frag} {H H' : Hp} {p a : Addr} {xs : List V} (h : SqT K H a xs) (hp : Pot H p) (f : Frm [p] H H') : SqT K H' a xs := by
  rcases h with (h | ⟨o, h⟩) | h
  · exact .inl (.inl (f.tup hp h))
  · refine .inl (.inr ⟨o, f _ _ h fun z => ?_⟩)
    obtain ⟨x, y, e, _⟩ := hp
    rw [List.mem_singleton.mp z, e] at h
    cases h
  · exact .inr h
theorem RndL.ix {H : Hp} {l : Addr} {rs : List (List Cut)} (h : RndL H l rs) (l1 : 0 < rs.length) (i : Nat) : ∃ xs : List V, H l = some (.lst xs) ∧ 0 < xs.length ∧ ∃ a, atI xs ((i : Int) % ((xs.length : Nat) : Int)) = some (.ref a) ∧ LcL H a (csA rs i) := by
  obtain ⟨xs, h1, h2, a, h3, h4⟩ := h.get l1 i
  refine ⟨xs, h1, by omega, a, ?_, h4⟩
  rw [← h2] at h3
  exact atI_nat h3
def spNumbers (K : PySem.W.Frag) : Sp := fun vs H Q _ => ∃ (l : Addr) (rs : List (List Cut)) (a : Addr) (zs : List Nat), vs = [.ref l, .ref a] ∧ RndL H l rs ∧ OkR rs ∧ SqT K H a (zs.map fun z : Nat => V.int z) ∧ NameOk rs zs ∧ zs.length ≤ 1000 ∧ ∀ t H', Ext H H' → H' t = some (.tup [.int (pairF rs zs).1, .int (pairF rs zs).2]) → Q (.ref t) H'

def spCountsL : Sp := fun vs H Q _ => ∃ (l : Addr) (rs : List (List Cut)) (n : Nat), vs = [.ref l, .int n] ∧ RndL H l rs ∧ OkR rs ∧ n ≤ 1000 ∧ ∀ w H', Ext H H' → H' w = some (.lst [.int (dcF rs 0 n : Nat), .int (drF rs 0 n : Nat)]) → Q (.ref w) H'

theorem sc_glyphs : FnScope ["_law_pot_here", "_law_rounds_here", "_law_many", "_law_deal", "_law_found", "_law_k", "_law_size_here"] ["_law_pot_here", "_law_rounds_here", "_law_many"] (defScope s_glyphs) := ⟨rfl, rfl, rfl, by decide +kernel, rfl, by decide +kernel, by decide +kernel⟩
def spGlyphs (K : PySem.W.Frag) : Sp := fun vs H Q _ => ∃ (p l : Addr) (rs : List (List Cut)) (n : Nat), vs = [.ref p, .ref l, .int n] ∧ Pot H p ∧ RndL H l rs ∧ OkR rs ∧ n ≤ 1000 ∧ ∀ a H' zs, Frm [p] H H' → Pot H' p → H' a = some (.tup (zs.map fun z : Nat => V.int z)) → NameOk rs zs → zs.length = n → Q (.ref a) H'
theorem ok_glyphs (F : FunD K "_law_glyphs" "_law_glyphs" (defArgs s_glyphs) (defBody s_glyphs) (defScope s_glyphs) [] [] f fd) (T : TB mg) {fdraw : Addr} {fddraw : FuncData} (Ddraw : Gd P w K mg base "_law_draw" 1 ["_law_pot_here", "_law_many"] (spDraw) fdraw fddraw) {fsize : Addr} {fdsize : FuncData} (Dsize : Gd P w K mg base "_law_size" 1 ["_law_cuts"] (spSize) fsize fdsize) : FnOk P w K mg base CX0 2 f fd ["_law_pot_here", "_law_rounds_here", "_law_many"] (spGlyphs K) := by
  refine F.ok sc_glyphs (fun vs H Q E h => ?_) (fun cdv A outer s H vs Q E hr h => ?_)
  · obtain ⟨p, l, rs, n, rfl, hp, hl, ok, hn, k⟩ := h
    rfl
  · obtain ⟨p, l, rs, n, rfl, hp, hl, ok, hn, k⟩ := h
    refine ⟨_, (PSs.nox (pss_cons (ps_par (i := 3) (j := 4) (by rfl) sc_glyphs.nd rfl rfl (by decide) rfl rfl (pa_cons (pe_gd Ddraw hr (by decide) (by rfl) (pa_cons (pv 0) (pa_cons pe_int pa_nil))) (pa_cons (pe_lst pa_nil) pa_nil)) (by rfl))
      (pss_cons (ps_for PassesOwn.never rfl (pi_range1 (by rfl) T.range (pa_cons (pv 2) pa_nil)) (pg_name (i := 5) sc_glyphs.nd rfl (.inl rfl)) (pss_cons (ps_set (i := 6) sc_glyphs.nd rfl (.inl rfl) (pe_gd Dsize hr (by decide) (by rfl) (pa_cons (pe_ix ix_seq (pv 1) (pe_op op_mod (pv 5) (pe_callB call_len_seq (by rfl) T.len PySem.boot_len (pa_cons (pv 1) pa_nil))) (fun _ _ => rfl)) pa_nil)))
      (pss_one (ps_expr (pe_bm PySem.F.plainAttrs_list PySem.F.slot_list_append PySem.F.type_list_append mt_append (pv 4) (pa_cons (pe_ifExp (pt_cmpR op_lt (pv 3) pe_int (nomark _)) (pe_ix ix_seq (pe_lst (pa_cons pe_int (pa_cons (pe_op op_sub (pv 6) pe_int) pa_nil))) (pv 3) (fun _ _ => rfl)) (pe_gd Ddraw hr (by decide) (by rfl) (pa_cons (pv 0) (pa_cons (pv 6) pa_nil)))) pa_nil))))))
      (pss_one (ps_ret (pe_callTy call_tuple_of (by rfl) T.tuple (by decide +kernel) (pa_cons (pv 4) pa_nil))))))), ?_⟩
    have l1 := ok.l1
    refine ⟨_, rfl, p, 8, rfl, hp, by decide, by decide, fun d H1 d0 d8 F1 hp1 => ⟨(by show 0 ≤ sizeLine; decide), fun q hq => ⟨_, _, rfl, ?_⟩⟩⟩
    have qp : q ∉ [p] := fun z => hp1.ne hq (List.mem_singleton.mp z)
    have hqH : H q = none := F1.free hq qp
    refine ⟨_, rfl, (n : Int), rfl, by omega, by omega, for_walk (walk_r (lo := 0)) (fun i σ H' => ∃ (u5 u6 : Option V) (zs : List Nat), σ = [some (.ref p), some (.ref l), some (.int n), some (.int d), some (.ref q), u5, u6] ∧ H' q = some (.lst (zs.map fun z : Nat => V.int z)) ∧ NameOk rs zs ∧ zs.length = i ∧ Pot H' p ∧ Frm [p] H H') ⟨none, none, [], rfl, upd_same, NameOk.nil, rfl, hp1.new hq, F1.trans (Frm.new hq)⟩ (fun _ _ _ _ => trivial) ?_ ?_⟩
    · rintro i x σ H2 hx ⟨u5, u6, zs, rfl, b1, b2, b3, hp2, F2⟩
      obtain ⟨hi, rfl⟩ := range_get hx
      have hi : i < n := by simpa using hi
      obtain ⟨xs, g1, g2, ca, g3, g4⟩ := (hl.frm ok hp F2).ix l1 i
      have hsz : ((placesF (csA rs i)).length : Nat) = sgF rs i := rfl
      have hs1 : 1 ≤ sgF rs i := by
        have := ok.n.pos i
        rw [← hsz, placesF_length]
        exact Nat.mul_pos this.1 this.2
      have hs32 : sgF rs i ≤ 32 := by
        rw [← hsz, placesF_length]
        exact ok.h32 _ (csA_mem l1 i)
      refine ⟨_, rfl, _, rfl, _, rfl, l, _, rfl, .inl (SqL.of g1), (i : Int), ((xs.length : Nat) : Int), rfl, rfl, (by show (0 : Int) < ((xs.length : Nat) : Int); omega), .inl ⟨l, _, _, _, rfl, rfl, SqL.of g1, g3, ?_⟩⟩
      refine ⟨ca, csA rs i, rfl, g4, ok.h5 _ (csA_mem l1 i), ok.hc _ (csA_mem l1 i), ?_⟩
      rw [hsz]
      have zl : (zs.map fun z : Nat => V.int z).length < sizeLine := by rw [List.length_map, sizeLine_eq]; omega
      have fin : ∀ (z : Nat) (v : V) H3, v = .int (z : Nat) → z < sgF rs i → H3 q = some (.lst (zs.map fun z : Nat => V.int z)) → Pot H3 p → Frm [p] H H3 → ∃ (u5 u6 : Option V) (zs' : List Nat), [some (.ref p), some (.ref l), some (.int n), some (.int d), some (.ref q), some (.int (i : Nat)), some (.int (sgF rs i : Nat))] = [some (.ref p), some (.ref l), some (.int n), some (.int d), some (.ref q), u5, u6] ∧ (upd H3 q (.lst (zs.map (fun z : Nat => V.int z) ++ [v]))) q = some (.lst (zs'.map fun z : Nat => V.int z)) ∧ NameOk rs zs' ∧ zs'.length = i + 1 ∧ Pot (upd H3 q (.lst (zs.map (fun z : Nat => V.int z) ++ [v]))) p ∧ Frm [p] H (upd H3 q (.lst (zs.map (fun z : Nat => V.int z) ++ [v]))) := by
        rintro z v H3 rfl hz h1 h2 h3
        refine ⟨_, _, zs ++ [z], rfl, by rw [upd_same, List.map_append]; rfl, b2.snoc (by rw [b3]; exact hz), by rw [List.length_append, b3]; rfl, ?_, ?_⟩
        · exact Pot.frm (M := [q]) h2 (Frm.put (List.mem_singleton.mpr rfl)) (fun z => qp (by rw [List.mem_singleton.mp z]; exact List.mem_singleton.mpr rfl))
        · intro b o z n
          rw [upd_ne (fun w => by rw [w, hqH] at z; cases z)]
          exact h3 _ _ z n
      refine ⟨_, rfl, .inl ⟨rfl, _, SqL.of b1⟩, _, rfl, _, _, rfl, rfl, _, rfl, ite2 (fun hd => ?_) (fun hd => ?_)⟩
      · have hd := of_decide_eq_true hd
        refine ⟨_, rfl, _, _, rfl, rfl, (by show 2 ≤ sizeLine; decide), fun ml hml => ?_⟩
        rcases (show d = 0 ∨ d = 1 by omega) with rfl | rfl
        · refine ⟨_, rfl, .inl ⟨ml, _, _, .int 0, rfl, rfl, SqL.of upd_same, rfl, q, _, _, rfl, rfl, Ext.upd hml _ _ b1, zl, ?_⟩⟩
          exact fin 0 _ _ rfl (by omega) (Ext.upd hml _ _ b1) (hp2.new hml) (F2.trans (Frm.new hml))
        · refine ⟨_, rfl, .inl ⟨ml, _, _, .int ((sgF rs i : Nat) - 1), rfl, rfl, SqL.of upd_same, rfl, q, _, _, rfl, rfl, Ext.upd hml _ _ b1, zl, ?_⟩⟩
          exact fin (sgF rs i - 1) _ _ (by congr 1; omega) (by omega) (Ext.upd hml _ _ b1) (hp2.new hml) (F2.trans (Frm.new hml))
      · refine ⟨_, rfl, _, rfl, p, _, rfl, hp2, by omega, small_log (n := 10) (by omega) (by decide) (by decide), fun r H4 r0 r1 F4 hp4 => ?_⟩
        obtain ⟨z, rfl⟩ := Int.eq_ofNat_of_zero_le r0
        refine ⟨q, _, _, rfl, rfl, F4 _ _ b1 qp, zl, ?_⟩
        exact fin z _ _ rfl (by omega) (F4 _ _ b1 qp) hp4 (F2.trans F4)
    · rintro σ H' ⟨u5, u6, zs, rfl, b1, b2, b3, hp2, F2⟩
      have en : (List.map (fun k : Nat => V.int (0 + (k : Int))) (List.range ((n : Int)).toNat)).length = n := by simp
      rw [en] at b3
      exact ⟨_, rfl, q, _, rfl, .inl ⟨SqL.of b1, fun t ht => k t _ zs (F2.trans (Frm.new ht)) (hp2.new ht) upd_same b2 b3⟩⟩
end
end Mc

set_option Elab.async false
set_option linter.all false
set_option maxRecDepth 100000
set_option maxHeartbeats 4000000
set_option exponentiation.threshold 20000
namespace Mc
open PySem PySem.Spec PyProof.Rows L2 ClX StX
/-- what the text says of Ratio -/
structure RatT (K : PySem.W.Frag) (mg : Str → Option Value) (R0 : Addr) : Prop where
  cl : Cls K R0
  nT : NoAttr K R0 "_top"
  nB : NoAttr K R0 "_bottom"
  mgR : mg "Ratio" = some (.ref R0)
  gcd : mg "gcd" = some (.builtin "math.gcd")
  ca : PySem.W.findIn K (.ref R0) "__class__" = some (some (.builtin "object.__class__"))
  cn : PySem.W.specialIn K (.builtin "object.__class__") "__get__" = some (some (.builtin "getset_descriptor.__get__"))
  ct : PySem.W.takesIn K (.builtin "object.__class__") = some true
  cm : PySem.W.mroIn K R0 (.type "object") = some true
  ne : PySem.W.findIn K (.ref R0) "__ne__" = some (some (.builtin "object.__ne__"))
  kR : PySem.W.kitOne K (.ref R0) (.ref R0) = some true
  kI : PySem.W.kitOne K (.ref R0) (.type "int") = some false
  kk : PySem.W.kitOne K (.type "int") (.ref R0) = some false
  nf : PySem.W.notFirst K R0 (.type "int") = true
section
variable {P : Program} {w : World} {K : PySem.W.Frag} {mg : Str → Option Value} {base : Heap} {f R0 C0 aX : Addr} {mc : Value} {fd : FuncData}
theorem tyx_rat (RQ : RatT K mg R0) {H : Hp} {p : Addr} {n d : Int} (h : RatAt R0 H p n d) : TyX K H (.ref p) (.ref R0) := h.elim fun _ e => .base (.ins e RQ.cl RQ.ca RQ.cn RQ.ct RQ.cm)
theorem nf_self (K : PySem.W.Frag) (C : Addr) : PySem.W.notFirst K C (.ref C) = true := by
  unfold PySem.W.notFirst
  rw [beq_self_eq_true, Bool.true_or]
theorem b4000 {a b : Int} {m : Nat} (h : a.natAbs < 2 ^ m) (e : b.natAbs ≤ a.natAbs) : b.natAbs < 2 ^ m := Nat.lt_of_le_of_lt e h
/-- of an int or a Ratio -/
def spIsIntV (R0 : Addr) : Sp := fun vs H Q _ => ∃ x : V, vs = [x] ∧ ((∃ n : Int, x = .int n ∧ Q (.bl true) H) ∨ (∃ (p : Addr) (n d : Int), x = .ref p ∧ RatAt R0 H p n d ∧ Q (.bl false) H))
theorem ok_is_intV (F : FunD K "is_int" "is_int" (defArgs s_is_int) (defBody s_is_int) (defScope s_is_int) [] [] f fd) (T : TB mg) (RQ : RatT K mg R0) : FnOk P w K mg base CX0 1 f fd ["value"] (spIsIntV R0) := by
  refine F.ok sc_is_int (fun vs H Q E h => ?_) (fun cdv A outer s H vs Q E hr h => ?_)
  · obtain ⟨x, rfl, hx⟩ := h
    rfl
  · obtain ⟨x, rfl, hx⟩ := h
    refine ⟨_, (PSs.nox (pss_one (ps_ret (pe_and (pe_callB call_isi (by rfl) T.isinstance (by decide +kernel) (pa_cons (pv 0) (pa_cons (pe_bltn (v := .ty "int") (by rfl) T.int (by decide +kernel) rfl) pa_nil))) (pe_one (pe_not (pe_callB call_isi (by rfl) T.isinstance (by decide +kernel) (pa_cons (pv 0) (pa_cons (pe_bltn (v := .ty "bool") (by rfl) T.bool (by decide +kernel) rfl) pa_nil))))))))), ?_⟩
    rcases hx with ⟨n, rfl, k⟩ | ⟨p, n, d, rfl, h, k⟩
    · refine ⟨_, rfl, .int n, _, _, _, true, rfl, .ty "int", .base (.int n), kit_ty (by decide +kernel), true, rfl, iteT ?_⟩
      exact ⟨_, rfl, .int n, _, _, _, false, rfl, .ty "bool", .base (.int n), kit_ty (by decide +kernel), false, rfl, k⟩
    · exact ⟨_, rfl, .ref p, _, _, _, false, rfl, .ty "int", tyx_rat RQ h, RQ.kI, false, rfl, iteF k⟩
theorem sc_Ratio___init : FnScope ["self", "top", "bottom", "divisor"] ["self", "top", "bottom"] (defScope s_Ratio___init) := ⟨rfl, rfl, rfl, by decide +kernel, rfl, by decide +kernel, by decide +kernel⟩
def spInitR (R0 : Addr) : Sp := fun vs H Q _ => ∃ (p dx : Addr) (a b : Int), vs = [.ref p, .int a, .int b] ∧ H p = some (.ins R0 dx []) ∧ b ≠ 0 ∧ b.natAbs < 2 ^ 8000 ∧
  ∀ H', Frm [p] H H' → H' p = some (.ins R0 dx (fl (redN a b) (redD a b))) → Q .non H'
theorem ok_Ratio___init (F : FunD K "__init__" "Ratio.__init__" (defArgs s_Ratio___init) (defBody s_Ratio___init) (defScope s_Ratio___init) [.int 1] [] f fd) (T : TB mg) (RQ : RatT K mg R0) {fis_int : Addr} {fdis_int : FuncData} (Dis_int : Gd P w K mg base "is_int" 1 ["value"] (spIsInt) fis_int fdis_int) : FnOk P w K mg base CX0 2 f fd ["self", "top", "bottom"] (spInitR R0) := by
  refine F.ok sc_Ratio___init (fun vs H Q E h => ?_) (fun cdv A outer s H vs Q E hr h => ?_)
  · obtain ⟨p, dx, a, b, rfl, hp, hb, hbz, k⟩ := h
    rfl
  · obtain ⟨p, dx, a, b, rfl, hp, hb, hbz, k⟩ := h
    refine ⟨_, (PSs.nox (pss_cons (ps_if (pt_not (pt_val (pe_gd Dis_int hr (by decide) (by rfl) (pa_cons (pv 1) pa_nil)))) (pss_one ps_never) pss_nil)
      (pss_cons (ps_if (PW.pt (pw_or (pt_not (pt_val (pe_gd Dis_int hr (by decide) (by rfl) (pa_cons (pv 2) pa_nil)))) (pw_or1 (pt_cmpR op_eq (pv 2) pe_int (nomark _))))) (pss_one ps_never) pss_nil)
      (pss_cons (ps_set (i := 3) sc_Ratio___init.nd rfl (.inl rfl) (pe_callBfun cr_gcd (by rfl) RQ.gcd (pa_cons (pv 1) (pa_cons (pv 2) pa_nil))))
      (pss_cons (ps_if (pt_cmpR op_lt (pv 2) pe_int (nomark _)) (pss_one (ps_set (i := 3) sc_Ratio___init.nd rfl (.inl rfl) (pe_un un_neg (pv 3)))) pss_nil)
      (pss_cons (ps_fld (pv 0) (pe_op op_fdivX (pv 1) (pv 3)) rfl)
      (pss_one (ps_fld (pv 0) (pe_op op_fdivX (pv 2) (pv 3)) rfl)))))))), ?_⟩
    refine ⟨_, rfl, a, rfl, _, rfl, iteF ?_⟩
    refine ⟨_, rfl, b, rfl, _, rfl, iteF ⟨_, rfl, rfl, _, rfl, ?_⟩⟩
    refine ite2 (fun hz => absurd (V.int.inj (of_decide_eq_true hz)) hb) (fun _ => ?_)
    refine ⟨_, rfl, _, rfl, a, b, rfl, ?_⟩
    have hg0 : Nat.gcd a.natAbs b.natAbs ≠ 0 := fun z => hb (by have := Nat.eq_zero_of_gcd_eq_zero_right z; omega)
    have hgl : Nat.gcd a.natAbs b.natAbs ≤ b.natAbs := Nat.gcd_le_right _ (by omega)
    have hgz : Nat.gcd a.natAbs b.natAbs < 2 ^ 8000 := Nat.lt_of_le_of_lt hgl hbz
    have e0 : ¬ (("_top" : Str) = "_bottom") := by decide +kernel
    refine ⟨_, rfl, _, _, rfl, rfl, _, rfl, ?_⟩
    refine ite2 (fun hs => ?_) (fun hs => ?_)
    · have hd : dv a b = -((Nat.gcd a.natAbs b.natAbs : Nat) : Int) := if_pos (of_decide_eq_true hs)
      have hz : dv a b ≠ 0 := by omega
      have hw : (dv a b).natAbs < 2 ^ 8000 := by omega
      refine ⟨_, rfl, _, rfl, ?_⟩
      refine ⟨_, rfl, _, rfl, _, _, rfl, rfl, ⟨by rw [← hd]; exact hz, by rw [← hd]; exact small_log hw (by decide) (by decide)⟩, _, rfl, p, R0, dx, [], rfl, hp, RQ.cl, RQ.nT, (by show 0 < 1000; decide), ?_⟩
      refine ⟨_, rfl, _, rfl, _, _, rfl, rfl, ⟨by rw [← hd]; exact hz, by rw [← hd]; exact small_log hw (by decide) (by decide)⟩, _, rfl, p, R0, dx, _, rfl, upd_same, RQ.cl, RQ.nB, (by show 1 < 1000; decide), ?_⟩
      rw [upd_upd, ← hd]
      exact k _ (Frm.put (List.mem_singleton.mpr rfl)) (by rw [upd_same]; exact congrArg (fun l => some (HO.ins R0 dx l)) (fl_put _ _))
    · have hd : dv a b = ((Nat.gcd a.natAbs b.natAbs : Nat) : Int) := if_neg (fun z => hs (decide_eq_true z))
      have hz : dv a b ≠ 0 := by omega
      have hw : (dv a b).natAbs < 2 ^ 8000 := by omega
      refine ⟨_, rfl, _, rfl, _, _, rfl, rfl, ⟨by rw [← hd]; exact hz, by rw [← hd]; exact small_log hw (by decide) (by decide)⟩, _, rfl, p, R0, dx, [], rfl, hp, RQ.cl, RQ.nT, (by show 0 < 1000; decide), ?_⟩
      refine ⟨_, rfl, _, rfl, _, _, rfl, rfl, ⟨by rw [← hd]; exact hz, by rw [← hd]; exact small_log hw (by decide) (by decide)⟩, _, rfl, p, R0, dx, _, rfl, upd_same, RQ.cl, RQ.nB, (by show 1 < 1000; decide), ?_⟩
      rw [upd_upd, ← hd]
      exact k _ (Frm.put (List.mem_singleton.mpr rfl)) (by rw [upd_same]; exact congrArg (fun l => some (HO.ins R0 dx l)) (fl_put _ _))
theorem sc_Ratio_top : FnScope ["self"] ["self"] (defScope s_Ratio_top) := ⟨rfl, rfl, rfl, by decide +kernel, rfl, by decide +kernel, by decide +kernel⟩
def spTopR (R0 : Addr) : Sp := fun vs H Q _ => ∃ (p : Addr) (n d : Int), vs = [.ref p] ∧ RatAt R0 H p n d ∧ Q (.int n) H
def spBotR (R0 : Addr) : Sp := fun vs H Q _ => ∃ (p : Addr) (n d : Int), vs = [.ref p] ∧ RatAt R0 H p n d ∧ Q (.int d) H
theorem ok_Ratio_top (F : FunD K "top" "Ratio.top" (defArgs s_Ratio_top) (defBody s_Ratio_top) (defScope s_Ratio_top) [] [] f fd) (T : TB mg) (RQ : RatT K mg R0) : FnOk P w K mg base CX0 1 f fd ["self"] (spTopR R0) := by
  refine F.ok sc_Ratio_top (fun vs H Q E h => ?_) (fun cdv A outer s H vs Q E hr h => ?_)
  · obtain ⟨p, n, d, rfl, ⟨dx, hp⟩, k⟩ := h
    rfl
  · obtain ⟨p, n, d, rfl, ⟨dx, hp⟩, k⟩ := h
    refine ⟨_, (PSs.nox (pss_one (ps_ret (pe_fld (pv 0) rfl)))), ?_⟩
    exact ⟨_, rfl, p, R0, dx, _, _, rfl, hp, RQ.cl, RQ.nT, fl_top _ _, k⟩
theorem sc_Ratio_bottom : FnScope ["self"] ["self"] (defScope s_Ratio_bottom) := ⟨rfl, rfl, rfl, by decide +kernel, rfl, by decide +kernel, by decide +kernel⟩
theorem ok_Ratio_bottom (F : FunD K "bottom" "Ratio.bottom" (defArgs s_Ratio_bottom) (defBody s_Ratio_bottom) (defScope s_Ratio_bottom) [] [] f fd) (T : TB mg) (RQ : RatT K mg R0) : FnOk P w K mg base CX0 1 f fd ["self"] (spBotR R0) := by
  refine F.ok sc_Ratio_bottom (fun vs H Q E h => ?_) (fun cdv A outer s H vs Q E hr h => ?_)
  · obtain ⟨p, n, d, rfl, ⟨dx, hp⟩, k⟩ := h
    rfl
  · obtain ⟨p, n, d, rfl, ⟨dx, hp⟩, k⟩ := h
    refine ⟨_, (PSs.nox (pss_one (ps_ret (pe_fld (pv 0) rfl)))), ?_⟩
    exact ⟨_, rfl, p, R0, dx, _, _, rfl, hp, RQ.cl, RQ.nB, fl_bottom _ _, k⟩
theorem sc_Ratio_sign : FnScope ["self"] ["self"] (defScope s_Ratio_sign) := ⟨rfl, rfl, rfl, by decide +kernel, rfl, by decide +kernel, by decide +kernel⟩
def sgnI (a : Int) : Int := if a = 0 then 0 else if a < 0 then -1 else 1
def spSignR (R0 : Addr) : Sp := fun vs H Q _ => ∃ (p : Addr) (a b : Int), vs = [.ref p] ∧ RatV R0 H p a b ∧ Q (.int (sgnI a)) H
theorem ok_Ratio_sign (F : FunD K "sign" "Ratio.sign" (defArgs s_Ratio_sign) (defBody s_Ratio_sign) (defScope s_Ratio_sign) [] [] f fd) (T : TB mg) (RQ : RatT K mg R0) : FnOk P w K mg base CX0 1 f fd ["self"] (spSignR R0) := by
  refine F.ok sc_Ratio_sign (fun vs H Q E h => ?_) (fun cdv A outer s H vs Q E hr h => ?_)
  · obtain ⟨p, a, b, rfl, ⟨hb, dx, hp⟩, k⟩ := h
    rfl
  · obtain ⟨p, a, b, rfl, ⟨hb, dx, hp⟩, k⟩ := h
    refine ⟨_, (PSs.nox (pss_cons (ps_if (pt_cmpR op_eq (pe_fld (pv 0) rfl) pe_int (nomark _)) (pss_one (ps_ret pe_int)) pss_nil)
      (pss_cons (ps_if (pt_cmpR op_lt (pe_fld (pv 0) rfl) pe_int (nomark _)) (pss_one (ps_ret (pe_un un_neg pe_int))) pss_nil)
      (pss_one (ps_ret pe_int))))), ?_⟩
    obtain ⟨s1, s2⟩ := red_sgn (a := a) hb
    unfold sgnI at k
    refine ⟨_, rfl, p, R0, dx, _, _, rfl, hp, RQ.cl, RQ.nT, fl_top _ _, rfl, _, rfl, ite2 (fun hz => ?_) (fun hz => ?_)⟩
    · rw [if_pos (s1.mp (V.int.inj (of_decide_eq_true hz)))] at k
      exact k
    have hz := fun z => hz (decide_eq_true (congrArg V.int (s1.mpr z)))
    rw [if_neg hz] at k
    refine ⟨_, rfl, p, R0, dx, _, _, rfl, hp, RQ.cl, RQ.nT, fl_top _ _, _, _, rfl, rfl, _, rfl, ite2 (fun hy => ?_) (fun hy => ?_)⟩
    · rw [if_pos (s2.mp (of_decide_eq_true hy))] at k
      exact ⟨_, rfl, k⟩
    · rw [if_neg (fun z => hy (decide_eq_true (s2.mpr z)))] at k
      exact k
theorem sc_as_ratio : FnScope ["value"] ["value"] (defScope s_as_ratio) := ⟨rfl, rfl, rfl, by decide +kernel, rfl, by decide +kernel, by decide +kernel⟩
def spAsR (R0 : Addr) : Sp := fun vs H Q _ => ∃ (x : V) (a b : Int), vs = [x] ∧ NumV R0 H x a b ∧ ∀ p H', Ext H H' → RatV R0 H' p a b → Q (.ref p) H'
theorem ok_as_ratio (F : FunD K "as_ratio" "as_ratio" (defArgs s_as_ratio) (defBody s_as_ratio) (defScope s_as_ratio) [] [] f fd) (T : TB mg) (RQ : RatT K mg R0) {fI : Addr} {fdI : FuncData} {dsI : List Value} (MI : Mk K R0 fI) (GI : FnOk P w K mg base CX0 2 fI fdI ["self", "top", "bottom"] (spInitR R0)) (bI2 : Binds K fdI ["self", "top", "bottom"] []) (hdI : Vals [.int 1] dsI) (bI1 : Binds K fdI ["self", "top", "bottom"] dsI) : FnOk P w K mg base CX0 4 f fd ["value"] (spAsR R0) := by
  refine F.ok sc_as_ratio (fun vs H Q E h => ?_) (fun cdv A outer s H vs Q E hr h => ?_)
  · obtain ⟨x, a, b, rfl, hx, k⟩ := h
    rfl
  · obtain ⟨x, a, b, rfl, hx, k⟩ := h
    refine ⟨_, (PSs.nox (pss_cons (ps_if (pt_val (pe_callB call_isi (by rfl) T.isinstance (by decide +kernel) (pa_cons (pv 0) (pa_cons (pe_glob (v := .ref R0) (by rfl) RQ.mgR rfl) pa_nil)))) (pss_one (ps_ret (pv 0))) pss_nil)
      (pss_one (ps_ret (pe_make MI GI (hr.mono (by decide)) (by rfl) RQ.mgR bI1 hdI pass0 (pa_cons (pv 0) pa_nil)))))), ?_⟩
    rcases hx with ⟨p, rfl, hb, hp⟩ | ⟨rfl, rfl⟩
    · refine ⟨_, rfl, .ref p, _, _, _, true, rfl, .own R0, tyx_rat RQ hp, RQ.kR, true, rfl, iteT ?_⟩
      exact ⟨_, rfl, k p H Ext.rfl' ⟨hb, hp⟩⟩
    · refine ⟨_, rfl, .int a, _, _, _, false, rfl, .own R0, .base (.int a), RQ.kk, false, rfl, iteF ?_⟩
      refine ⟨_, rfl, fun x dx hx hdx ne => ⟨x, dx, a, 1, rfl, upd_same, by decide, by decide, fun H' F1 h1 => ⟨rfl, ?_⟩⟩⟩
      exact k x H' (made_ext hx hdx F1) ⟨by decide, dx, h1⟩
theorem sc_Ratio___mul : FnScope ["self", "other", "number"] ["self", "other"] (defScope s_Ratio___mul) := ⟨rfl, rfl, rfl, by decide +kernel, rfl, by decide +kernel, by decide +kernel⟩
def spMulR (R0 : Addr) : Sp := fun vs H Q _ => ∃ (p : Addr) (x : V) (a b c d : Int) (m1 m2 : Nat), vs = [.ref p, x] ∧ RatV R0 H p a b ∧ NumV R0 H x c d ∧ a.natAbs < 2 ^ m1 ∧ b.natAbs < 2 ^ m1 ∧ c.natAbs < 2 ^ m2 ∧ d.natAbs < 2 ^ m2 ∧ 0 < m1 ∧ 0 < m2 ∧ m1 + m2 ≤ 8000 ∧ ∀ q H', Ext H H' → RatV R0 H' q (a * c) (b * d) → Q (.ref q) H'
def spOverR (R0 : Addr) : Sp := fun vs H Q _ => ∃ (p : Addr) (x : V) (a b c d : Int) (m1 m2 : Nat), vs = [.ref p, x] ∧ RatV R0 H p a b ∧ NumV R0 H x c d ∧ a.natAbs < 2 ^ m1 ∧ b.natAbs < 2 ^ m1 ∧ c.natAbs < 2 ^ m2 ∧ d.natAbs < 2 ^ m2 ∧ 0 < m1 ∧ 0 < m2 ∧ m1 + m2 ≤ 8000 ∧ 0 < c ∧ ∀ q H', Ext H H' → RatV R0 H' q (a * d) (b * c) → Q (.ref q) H'
def spAddR (R0 : Addr) : Sp := fun vs H Q _ => ∃ (p : Addr) (x : V) (a b c d : Int) (m1 m2 : Nat), vs = [.ref p, x] ∧ RatV R0 H p a b ∧ NumV R0 H x c d ∧ a.natAbs < 2 ^ m1 ∧ b.natAbs < 2 ^ m1 ∧ c.natAbs < 2 ^ m2 ∧ d.natAbs < 2 ^ m2 ∧ 0 < m1 ∧ 0 < m2 ∧ m1 + m2 ≤ 8000 ∧ ∀ q H', Ext H H' → RatV R0 H' q (a * d + c * b) (b * d) → Q (.ref q) H'
def spSubR (R0 : Addr) : Sp := fun vs H Q _ => ∃ (p : Addr) (x : V) (a b c d : Int) (m1 m2 : Nat), vs = [.ref p, x] ∧ RatV R0 H p a b ∧ NumV R0 H x c d ∧ a.natAbs < 2 ^ m1 ∧ b.natAbs < 2 ^ m1 ∧ c.natAbs < 2 ^ m2 ∧ d.natAbs < 2 ^ m2 ∧ 0 < m1 ∧ 0 < m2 ∧ m1 + m2 ≤ 8000 ∧ ∀ q H', Ext H H' → RatV R0 H' q (a * d - c * b) (b * d) → Q (.ref q) H'
def spBelowR (R0 : Addr) : Sp := fun vs H Q _ => ∃ (p : Addr) (x : V) (a b c d : Int) (m1 m2 : Nat), vs = [.ref p, x] ∧ RatV R0 H p a b ∧ NumV R0 H x c d ∧ a.natAbs < 2 ^ m1 ∧ b.natAbs < 2 ^ m1 ∧ c.natAbs < 2 ^ m2 ∧ d.natAbs < 2 ^ m2 ∧ 0 < m1 ∧ 0 < m2 ∧ m1 + m2 ≤ 8000 ∧ ∀ H', Ext H H' → Q (.bl (decide (a * d < c * b))) H'
theorem ok_Ratio___mul (F : FunD K "__mul__" "Ratio.__mul__" (defArgs s_Ratio___mul) (defBody s_Ratio___mul) (defScope s_Ratio___mul) [] [] f fd) (T : TB mg) (RQ : RatT K mg R0) {p_Ratio_top f_Ratio_top : Addr} {fd_Ratio_top : FuncData} (m_Ratio_top : PropOf K R0 "top" p_Ratio_top f_Ratio_top) (g_Ratio_top : FnOk P w K mg base CX0 1 f_Ratio_top fd_Ratio_top ["self"] (spTopR R0)) (b_Ratio_top : Binds K fd_Ratio_top ["self"] []) {p_Ratio_bottom f_Ratio_bottom : Addr} {fd_Ratio_bottom : FuncData} (m_Ratio_bottom : PropOf K R0 "bottom" p_Ratio_bottom f_Ratio_bottom) (g_Ratio_bottom : FnOk P w K mg base CX0 1 f_Ratio_bottom fd_Ratio_bottom ["self"] (spBotR R0)) (b_Ratio_bottom : Binds K fd_Ratio_bottom ["self"] []) {fas_ratio : Addr} {fdas_ratio : FuncData} (Das_ratio : Gd P w K mg base "as_ratio" 4 ["value"] (spAsR R0) fas_ratio fdas_ratio) {fI : Addr} {fdI : FuncData} {dsI : List Value} (MI : Mk K R0 fI) (GI : FnOk P w K mg base CX0 2 fI fdI ["self", "top", "bottom"] (spInitR R0)) (bI2 : Binds K fdI ["self", "top", "bottom"] []) (hdI : Vals [.int 1] dsI) (bI1 : Binds K fdI ["self", "top", "bottom"] dsI) : FnOk P w K mg base CX0 5 f fd ["self", "other"] (spMulR R0) := by
  refine F.ok sc_Ratio___mul (fun vs H Q E h => ?_) (fun cdv A outer s H vs Q E hr h => ?_)
  · obtain ⟨p, x, a, b, c, d, m1, m2, rfl, hp, hx, za, zb, zc, zd, hm1, hm2, hmm, k⟩ := h
    rfl
  · obtain ⟨p, x, a, b, c, d, m1, m2, rfl, hp, hx, za, zb, zc, zd, hm1, hm2, hmm, k⟩ := h
    refine ⟨_, (PSs.nox (pss_cons (ps_set (i := 2) sc_Ratio___mul.nd rfl (.inl rfl) (pe_gd Das_ratio hr (by decide) (by rfl) (pa_cons (pv 1) pa_nil)))
      (pss_one (ps_ret (pe_make MI GI (hr.mono (by decide)) (by rfl) RQ.mgR bI2 .nil pass0 (pa_cons (pe_op op_mulW (pe_fld (pv 0) rfl) (pe_prop (pv 2) RQ.cl m_Ratio_top g_Ratio_top (hr.mono (by decide)) b_Ratio_top .nil pass0 rfl)) (pa_cons (pe_op op_mulW (pe_fld (pv 0) rfl) (pe_prop (pv 2) RQ.cl m_Ratio_bottom g_Ratio_bottom (hr.mono (by decide)) b_Ratio_bottom .nil pass0 rfl)) pa_nil))))))), ?_⟩
    refine ⟨_, rfl, x, c, d, rfl, hx, fun q H1 e1 hq => ?_⟩
    obtain ⟨hb, dx, hp1⟩ := hp.ext e1
    obtain ⟨hd, dq, hq1⟩ := id hq
    have l1 := red_le a b
    have l2 := red_le c d
    have za1 := b4000 za l1.1
    have zb1 := b4000 zb l1.2
    have zc1 := b4000 zc l2.1
    have zd1 := b4000 zd l2.2

    have q1 : redD a b * redD c d ≠ 0 := Int.mul_ne_zero (by have := redD_pos (a := a) (b := b) (by omega); omega) (by have := redD_pos (a := c) (b := d) (by omega); omega)
    have q2 : (redD a b * redD c d).natAbs < 2 ^ 8000 := Nat.lt_of_lt_of_le (wide_lt zb1 zd1) (Nat.pow_le_pow_right (by decide) hmm)
    refine ⟨_, rfl, p, R0, dx, _, _, rfl, hp1, RQ.cl, RQ.nT, fl_top _ _, _, rfl, q, dq, _, rfl, hq1, q, _, _, rfl, ⟨dq, hq1⟩, _, _, rfl, rfl, (mulW za1 zc1 hm1 hm2 (by omega)), _, rfl, p, R0, dx, _, _, rfl, hp1, RQ.cl, RQ.nB, fl_bottom _ _, _, rfl, q, dq, _, rfl, hq1, q, _, _, rfl, ⟨dq, hq1⟩, _, _, rfl, rfl, (mulW zb1 zd1 hm1 hm2 (by omega)), ?_⟩
    refine fun x dx hx hdx ne => ⟨x, dx, _, _, rfl, upd_same, q1, q2, fun H' F1 h1 => ⟨rfl, ?_⟩⟩
    obtain ⟨m1, m2⟩ := red_mulR (a := a) (c := c) hb hd
    exact k x H' (e1.trans (made_ext hx hdx F1)) ⟨Int.mul_pos hb hd, dx, by rw [h1, m1, m2]⟩


theorem sc_Ratio___eq : FnScope ["self", "other"] ["self", "other"] (defScope s_Ratio___eq) := ⟨rfl, rfl, rfl, by decide +kernel, rfl, by decide +kernel, by decide +kernel⟩
def spEqRV (K : PySem.W.Frag) (R0 : Addr) : Sp := fun vs H Q _ => ∃ (p : Addr) (y : V) (a b : Int), vs = [.ref p, y] ∧ RatV R0 H p a b ∧
  ((∃ (q : Addr) (c d : Int), y = .ref q ∧ RatV R0 H q c d ∧ Q (.bl (decide (a * d = c * b))) H) ∨ (∃ t, TyX K H y t ∧ PySem.W.kitOne K t (.ref R0) = some false ∧ Q (.bl false) H))
theorem ok_Ratio___eq (F : FunD K "__eq__" "Ratio.__eq__" (defArgs s_Ratio___eq) (defBody s_Ratio___eq) (defScope s_Ratio___eq) [] [] f fd) (T : TB mg) (RQ : RatT K mg R0) : FnOk P w K mg base CX0 1 f fd ["self", "other"] (spEqRV K R0) := by
  refine F.ok sc_Ratio___eq (fun vs H Q E h => ?_) (fun cdv A outer s H vs Q E hr h => ?_)
  · obtain ⟨p, y, a, b, rfl, ⟨hb, dx, hp⟩, hy⟩ := h
    rfl
  · obtain ⟨p, y, a, b, rfl, ⟨hb, dx, hp⟩, hy⟩ := h
    refine ⟨_, (PSs.nox (pss_one (ps_ret (pe_and (pe_callB call_isi (by rfl) T.isinstance (by decide +kernel) (pa_cons (pv 1) (pa_cons (pe_glob (v := .ref R0) (by rfl) RQ.mgR rfl) pa_nil))) (pe_and (pe_cmpR op_eq (pe_fld (pv 0) rfl) (pe_fld (pv 1) rfl) (nomark _)) (pe_one (pe_cmpR op_eq (pe_fld (pv 0) rfl) (pe_fld (pv 1) rfl) (nomark _)))))))), ?_⟩
    rcases hy with ⟨q, c, d, rfl, ⟨hd, dq, hq⟩, k⟩ | ⟨t, ty, hk, k⟩
    · refine ⟨_, rfl, .ref q, _, _, _, true, rfl, .own R0, tyx_rat RQ ⟨dq, hq⟩, RQ.kR, true, rfl, iteT ?_⟩
      have re := red_eq (a := a) (b := b) (c := c) (d := d) (by omega) (by omega)
      refine ⟨_, rfl, p, R0, dx, _, _, rfl, hp, RQ.cl, RQ.nT, fl_top _ _, _, rfl, q, R0, dq, _, _, rfl, hq, RQ.cl, RQ.nT, fl_top _ _, rfl, _, rfl, ite2 (fun h1 => ?_) (fun h1 => ?_)⟩
      · have h1 := V.int.inj (of_decide_eq_true h1)
        refine ⟨_, rfl, p, R0, dx, _, _, rfl, hp, RQ.cl, RQ.nB, fl_bottom _ _, _, rfl, q, R0, dq, _, _, rfl, hq, RQ.cl, RQ.nB, fl_bottom _ _, rfl, ?_⟩
        have e : decide (V.int (redD a b) = V.int (redD c d)) = decide (a * d = c * b) := decide_eq_decide.mpr ⟨fun z => re.mp ⟨h1, V.int.inj z⟩, fun z => congrArg V.int (re.mpr z).2⟩
        rw [e]
        exact k
      · rw [decide_eq_false (fun z => h1 (decide_eq_true (congrArg V.int (re.mpr z).1)))] at k
        exact k
    · exact ⟨_, rfl, y, _, _, _, false, rfl, .own R0, ty, hk, false, rfl, iteF k⟩
def spIsNumV (R0 : Addr) : Sp := fun vs H Q _ => ∃ (x : V) (a b : Int), vs = [x] ∧ NumV R0 H x a b ∧ Q (.bl true) H

def spAboveR (R0 : Addr) : Sp := fun vs H Q _ => ∃ (x : V) (a b : Int), vs = [x] ∧ NumV R0 H x a b ∧ ∀ H', Ext H H' → Q (.bl (decide (0 < a))) H'

end
end Mc

set_option Elab.async false
set_option linter.all false
set_option maxRecDepth 100000
set_option maxHeartbeats 4000000
namespace Mc
/-! ### counts, rounds taken apart, moved on, turned -/
theorem csA_len (rs : List (List Cut)) (i : Nat) : csA rs (i + rs.length) = csA rs i := by
  unfold csA
  rw [Nat.add_mod_right]
theorem dc_shift (rs : List (List Cut)) (k : Nat) : ∀ m, dcF rs (k + rs.length) m = dcF rs k m ∧ drF rs (k + rs.length) m = drF rs k m
  | 0 => ⟨rfl, rfl⟩
  | m + 1 => by
    obtain ⟨h1, h2⟩ := dc_shift rs k m
    have e : csA rs (k + rs.length + m) = csA rs (k + m) := by rw [Nat.add_right_comm, csA_len]
    constructor
    · show dcF rs (k + rs.length) m * colsF (csA rs (k + rs.length + m)) = dcF rs k m * colsF (csA rs (k + m))
      rw [h1, e]
    · show drF rs (k + rs.length) m * rowsF (csA rs (k + rs.length + m)) = drF rs k m * rowsF (csA rs (k + m))
      rw [h2, e]
theorem dc_shifts (rs : List (List Cut)) (m : Nat) : ∀ q, dcF rs (rs.length * q) m = dcF rs 0 m ∧ drF rs (rs.length * q) m = drF rs 0 m
  | 0 => ⟨rfl, rfl⟩
  | q + 1 => by
    have h := dc_shift rs (rs.length * q) m
    rw [Nat.mul_succ, h.1, h.2]
    exact dc_shifts rs m q
theorem dc_pows (rs : List (List Cut)) : ∀ q, dcF rs 0 (rs.length * q) = dcF rs 0 rs.length ^ q ∧ drF rs 0 (rs.length * q) = drF rs 0 rs.length ^ q
  | 0 => ⟨rfl, rfl⟩
  | q + 1 => by
    obtain ⟨h1, h2⟩ := dc_pows rs q
    obtain ⟨a1, a2⟩ := dc_add rs 0 (rs.length * q) rs.length
    obtain ⟨s1, s2⟩ := dc_shifts rs rs.length q
    rw [Nat.mul_succ, a1, a2, h1, h2, Nat.zero_add, s1, s2, Nat.pow_succ, Nat.pow_succ]
    exact ⟨rfl, rfl⟩
theorem csA_at {rs : List (List Cut)} {r : Nat} (h : r < rs.length) : rs[r]? = some (csA rs r) := by
  have := csA_get (Nat.lt_of_le_of_lt (Nat.zero_le _) h) r
  rwa [Nat.mod_eq_of_lt h] at this
theorem mul_take (rs : List (List Cut)) : ∀ r, r ≤ rs.length → mulF ((partsF rs).take r) = (((dcF rs 0 r : Nat) : Int), ((drF rs 0 r : Nat) : Int))
  | 0, _ => by rw [List.take_zero]; rfl
  | r + 1, h => by
    have hp : (partsF rs)[r]? = some ((colsF (csA rs r) : Int), (rowsF (csA rs r) : Int)) := by
      unfold partsF
      rw [List.getElem?_map, csA_at (show r < rs.length by omega)]
      rfl
    have e : (partsF rs).take (r + 1) = (partsF rs).take r ++ [((colsF (csA rs r) : Int), (rowsF (csA rs r) : Int))] := by
      rw [List.take_add_one, hp]
      rfl
    have ih := mul_take rs r (by omega)
    rw [e]
    unfold mulF at ih ⊢
    rw [List.foldl_append, ih]
    show ((dcF rs 0 r : Int) * (colsF (csA rs r) : Int), (drF rs 0 r : Int) * (rowsF (csA rs r) : Int)) = (((dcF rs 0 r * colsF (csA rs (0 + r)) : Nat) : Int), ((drF rs 0 r * rowsF (csA rs (0 + r)) : Nat) : Int))
    rw [Nat.zero_add, Int.natCast_mul, Int.natCast_mul]
theorem growth_eq (rs : List (List Cut)) : mulF (partsF rs) = (((dcF rs 0 rs.length : Nat) : Int), ((drF rs 0 rs.length : Nat) : Int)) := by
  have := mul_take rs rs.length (Nat.le_refl _)
  rwa [List.take_of_length_le (by unfold partsF; rw [List.length_map]; exact Nat.le_refl _)] at this
theorem counts_eq {rs : List (List Cut)} (l1 : 0 < rs.length) (bal : (mulF (partsF rs)).1 = (mulF (partsF rs)).2) (n : Nat) : countsF rs n = (((dcF rs 0 n : Nat) : Int), ((drF rs 0 n : Nat) : Int)) := by
  unfold countsF
  have g := growth_eq rs
  rw [g] at bal ⊢
  have bal : ((dcF rs 0 rs.length : Nat) : Int) = ((drF rs 0 rs.length : Nat) : Int) := bal
  have ml := Nat.mod_lt n l1
  rw [mul_take rs (n % rs.length) (by omega)]
  obtain ⟨p1, p2⟩ := dc_pows rs (n / rs.length)
  obtain ⟨a1, a2⟩ := dc_add rs 0 (rs.length * (n / rs.length)) (n % rs.length)
  obtain ⟨s1, s2⟩ := dc_shifts rs (n % rs.length) (n / rs.length)
  rw [Nat.zero_add, s1, p1] at a1
  rw [Nat.zero_add, s2, p2] at a2
  have e : rs.length * (n / rs.length) + n % rs.length = n := Nat.div_add_mod n rs.length
  rw [e] at a1 a2
  rw [a1, a2]
  refine Prod.ext ?_ ?_
  · show ((dcF rs 0 (n % rs.length) : Nat) : Int) * ((dcF rs 0 rs.length : Nat) : Int) ^ (n / rs.length) = _
    rw [Int.natCast_mul, Int.natCast_pow, Int.mul_comm]
  · show ((drF rs 0 (n % rs.length) : Nat) : Int) * ((dcF rs 0 rs.length : Nat) : Int) ^ (n / rs.length) = ((drF rs 0 rs.length ^ (n / rs.length) * drF rs 0 (n % rs.length) : Nat) : Int)
    rw [Int.natCast_mul, Int.natCast_pow, ← bal, Int.mul_comm]
/-! taken apart -/
theorem cols_app (a b : List Cut) : colsF (a ++ b) = colsF a * colsF b ∧ rowsF (a ++ b) = rowsF a * rowsF b := by
  induction a with
  | nil => exact ⟨(Nat.one_mul _).symm, (Nat.one_mul _).symm⟩
  | cons c r ih =>
    constructor
    · show (if c.1 then c.2 else 1) * colsF (r ++ b) = (if c.1 then c.2 else 1) * colsF r * colsF b
      rw [ih.1, Nat.mul_assoc]
    · show (if c.1 then 1 else c.2) * rowsF (r ++ b) = (if c.1 then 1 else c.2) * rowsF r * rowsF b
      rw [ih.2, Nat.mul_assoc]
theorem place_app (a : List Cut) : ∀ b : List Cut, (∀ c ∈ b, okC c) → ∀ (g : Nat) (p q : Pr), (placesF a)[g / (placesF b).length]? = some p → (placesF b)[g % (placesF b).length]? = some q → (placesF (a ++ b))[g]? = some (p.1 * (colsF b : Int) + q.1, p.2 * (rowsF b : Int) + q.2) := by
  refine fun b => snoc_ind (P := fun b => (∀ c ∈ b, okC c) → ∀ (g : Nat) (p q : Pr), (placesF a)[g / (placesF b).length]? = some p → (placesF b)[g % (placesF b).length]? = some q → (placesF (a ++ b))[g]? = some (p.1 * (colsF b : Int) + q.1, p.2 * (rowsF b : Int) + q.2)) ?_ (fun b c ih ok g p q hp hq => ?_) b
  · intro _ g p q hp hq
    have e : (placesF []).length = 1 := rfl
    rw [e, Nat.div_one] at hp
    rw [e, Nat.mod_one] at hq
    cases hq
    rw [List.append_nil, hp]
    simp [colsF, rowsF]
  · have hc := (ok c (List.mem_append_right _ List.mem_cons_self)).1
    have h0 : 0 < c.2 := by omega
    have el : (placesF (b ++ [c])).length = (placesF b).length * c.2 := by rw [placesF_snoc, spread_length]
    rw [el] at hp hq
    rw [placesF_get b h0] at hq
    obtain ⟨q0, h1, h2⟩ := Option.map_eq_some_iff.mp hq
    have e1 : g % ((placesF b).length * c.2) / c.2 = g / c.2 % (placesF b).length := by
      rw [Nat.mul_comm (placesF b).length, Nat.mod_mul_right_div_self]
    have e2 : g % ((placesF b).length * c.2) % c.2 = g % c.2 := Nat.mod_mul_left_mod _ _ _
    rw [e1] at h1
    rw [e2] at h2
    have e3 : g / ((placesF b).length * c.2) = g / c.2 / (placesF b).length := by rw [Nat.mul_comm, Nat.div_div_eq_div_mul]
    rw [e3] at hp
    have := ih (fun d hd => ok d (List.mem_append_left _ hd)) (g / c.2) p q0 hp h1
    rw [← List.append_assoc, placesF_get (a ++ b) h0, this, ← h2]
    show some (stepC _ c (g % c.2)) = _
    rw [colsF_snoc, rowsF_snoc]
    unfold stepC
    cases c.1
    · simp only [Bool.false_eq_true, if_false, Nat.mul_one]
      rw [Int.add_mul, Int.mul_assoc, ← Int.natCast_mul, Int.add_assoc]
    · simp only [if_true, Nat.mul_one]
      rw [Int.add_mul, Int.mul_assoc, ← Int.natCast_mul, Int.add_assoc]
/-- rs with its k-th round cut behind s cuts -/
def cutR (rs : List (List Cut)) (k s : Nat) : List (List Cut) := rs.take k ++ [(csA rs k).take s, (csA rs k).drop s] ++ rs.drop (k + 1)
def posF (n k : Nat) : Nat → Nat
  | 0 => 0
  | i + 1 => posF n k i + (if i % n = k then 2 else 1)
theorem pos_mod {n k : Nat} (hk : k < n) : ∀ i, posF n k i % (n + 1) = if i % n ≤ k then i % n else i % n + 1
  | 0 => by
    rw [Nat.zero_mod, if_pos (Nat.zero_le _)]
    rfl
  | i + 1 => by
    have ih := pos_mod hk i
    have hn : 0 < n := by omega
    have hl := Nat.mod_lt i hn
    have es : (i + 1) % n = if i % n + 1 = n then 0 else i % n + 1 := by
      rw [Nat.add_mod]
      by_cases h1 : n = 1
      · subst h1
        have : i % 1 = 0 := Nat.mod_one i
        simp [this]
      · rw [Nat.mod_eq_of_lt (show 1 < n by omega)]
        by_cases h2 : i % n + 1 = n
        · rw [if_pos h2, h2, Nat.mod_self]
        · rw [if_neg h2, Nat.mod_eq_of_lt (by omega)]
    show (posF n k i + _) % (n + 1) = _
    rw [Nat.add_mod, ih, es]
    by_cases h : i % n = k
    · rw [if_pos h, if_pos (by omega)]
      by_cases h2 : i % n + 1 = n
      · rw [if_pos h2, if_pos (Nat.zero_le _)]
        by_cases h3 : n = 1
        · subst h3
          rw [h]
          have : k = 0 := by omega
          subst this
          rfl
        · rw [Nat.mod_eq_of_lt (show 2 < n + 1 by omega), show i % n + 2 = n + 1 by omega, Nat.mod_self]
      · rw [if_neg h2, if_neg (by omega), Nat.mod_eq_of_lt (show 2 < n + 1 by omega), Nat.mod_eq_of_lt (by omega)]
    · rw [if_neg h]
      have h1 : 1 < n + 1 := by omega
      rw [Nat.mod_eq_of_lt h1]
      by_cases h3 : i % n ≤ k
      · rw [if_pos h3, if_neg (show ¬ (i % n + 1 = n) by omega), if_pos (show i % n + 1 ≤ k by omega), Nat.mod_eq_of_lt (show i % n + 1 < n + 1 by omega)]
      · rw [if_neg h3]
        by_cases h2 : i % n + 1 = n
        · rw [if_pos h2, if_pos (Nat.zero_le _), show i % n + 1 + 1 = n + 1 by omega, Nat.mod_self]
        · rw [if_neg h2, if_neg (show ¬ (i % n + 1 ≤ k) by omega), Nat.mod_eq_of_lt (show i % n + 1 + 1 < n + 1 by omega)]
theorem cutR_len {rs : List (List Cut)} {k s : Nat} (hk : k < rs.length) : (cutR rs k s).length = rs.length + 1 := by
  unfold cutR
  rw [List.length_append, List.length_append, List.length_take, List.length_drop]
  show min k rs.length + 2 + _ = _
  omega
theorem cutR_at {rs : List (List Cut)} {k s : Nat} (hk : k < rs.length) (p : Nat) (hp : p < rs.length + 1) : (cutR rs k s)[p]? = some (if p < k then csA rs p else if p = k then (csA rs k).take s else if p = k + 1 then (csA rs k).drop s else csA rs (p - 1)) := by
  have tl : (rs.take k).length = k := by rw [List.length_take]; omega
  unfold cutR
  rw [List.append_assoc]
  by_cases h1 : p < k
  · rw [if_pos h1, List.getElem?_append_left (by omega), List.getElem?_take_of_lt h1]
    exact csA_at (by omega)
  · rw [if_neg h1, List.getElem?_append_right (by omega), tl]
    by_cases h2 : p = k
    · subst h2
      rw [if_pos rfl, Nat.sub_self]
      rfl
    · rw [if_neg h2]
      by_cases h3 : p = k + 1
      · subst h3
        rw [if_pos rfl, show k + 1 - k = 1 by omega]
        rfl
      · rw [if_neg h3, List.getElem?_append_right (by show 2 ≤ p - k; omega), List.getElem?_drop]
        show rs[k + 1 + (p - k - 2)]? = _
        rw [show k + 1 + (p - k - 2) = p - 1 by omega]
        exact csA_at (by omega)
theorem csA_cut {rs : List (List Cut)} {k s : Nat} (hk : k < rs.length) (i : Nat) : (i % rs.length = k → csA (cutR rs k s) (posF rs.length k i) = (csA rs k).take s ∧ csA (cutR rs k s) (posF rs.length k i + 1) = (csA rs k).drop s) ∧ (i % rs.length ≠ k → csA (cutR rs k s) (posF rs.length k i) = csA rs i) := by
  have hn : 0 < rs.length := by omega
  have cl := cutR_len (s := s) hk
  have pm := pos_mod hk i
  have hl := Nat.mod_lt i hn
  have get : ∀ j, (cutR rs k s)[j % (rs.length + 1)]? = some (csA (cutR rs k s) j) := fun j => by
    have := csA_get (rs := cutR rs k s) (by omega) j
    rwa [cl] at this
  have ci : csA rs i = csA rs (i % rs.length) := by unfold csA; rw [Nat.mod_mod]
  constructor
  · intro h
    have g1 := get (posF rs.length k i)
    rw [pm, if_pos (by omega), h, cutR_at hk k (by omega), if_neg (Nat.lt_irrefl k), if_pos rfl] at g1
    have g2 := get (posF rs.length k i + 1)
    rw [Nat.add_mod, pm, if_pos (by omega), h, Nat.mod_eq_of_lt (show 1 < rs.length + 1 by omega), Nat.mod_eq_of_lt (show k + 1 < rs.length + 1 by omega), cutR_at hk (k + 1) (by omega), if_neg (by omega), if_neg (by omega), if_pos rfl] at g2
    exact ⟨(Option.some.inj g1).symm, (Option.some.inj g2).symm⟩
  · intro h
    have g1 := get (posF rs.length k i)
    rw [pm] at g1
    by_cases h1 : i % rs.length ≤ k
    · rw [if_pos h1, cutR_at hk _ (by omega), if_pos (by omega)] at g1
      rw [ci]
      exact (Option.some.inj g1).symm
    · rw [if_neg h1, cutR_at hk _ (by omega), if_neg (by omega), if_neg (by omega)] at g1
      by_cases h2 : i % rs.length + 1 = k + 1
      · omega
      · rw [if_neg h2, Nat.add_sub_cancel] at g1
        rw [ci]
        exact (Option.some.inj g1).symm
/-- the signs of a name, each of the cut round as two -/
def apF (rs : List (List Cut)) (k s : Nat) : Nat → List Nat → List Nat
  | _, [] => []
  | i, z :: r => (if i % rs.length = k then [z / (placesF ((csA rs k).drop s)).length, z % (placesF ((csA rs k).drop s)).length] else [z]) ++ apF rs k s (i + 1) r
structure CutOk (rs : List (List Cut)) (k : Nat) : Prop where
  hk : k < rs.length
  hc : ∀ cs ∈ rs, ∀ c ∈ cs, okC c
theorem CutOk.pos {rs : List (List Cut)} {k : Nat} (o : CutOk rs k) (s : Nat) : 0 < (placesF ((csA rs k).drop s)).length := by
  have h := pos_cols (cs := (csA rs k).drop s) fun d hd => o.hc _ (csA_mem (Nat.lt_of_le_of_lt (Nat.zero_le _) o.hk) k) d (List.mem_of_mem_drop hd)
  rw [placesF_length]
  exact Nat.mul_pos h.1 h.2
theorem size_cut (cs : List Cut) (s : Nat) : (placesF cs).length = (placesF (cs.take s)).length * (placesF (cs.drop s)).length := by
  have := cols_app (cs.take s) (cs.drop s)
  rw [List.take_append_drop] at this
  rw [placesF_length, placesF_length, placesF_length, this.1, this.2]
  simp only [Nat.mul_assoc, Nat.mul_left_comm]
theorem csA_k {rs : List (List Cut)} {k i : Nat} (hk : k < rs.length) (h : i % rs.length = k) : csA rs i = csA rs k := by
  unfold csA
  rw [h, Nat.mod_eq_of_lt hk]
theorem ap_step {rs : List (List Cut)} {k : Nat} (o : CutOk rs k) (s i z : Nat) (h : i % rs.length = k) (hz : z < sgF rs i) (q : Pr) :
    stepN (cutR rs k s) (stepN (cutR rs k s) q (posF rs.length k i) (z / (placesF ((csA rs k).drop s)).length)) (posF rs.length k i + 1) (z % (placesF ((csA rs k).drop s)).length) = stepN rs q i z ∧
    z / (placesF ((csA rs k).drop s)).length < sgF (cutR rs k s) (posF rs.length k i) ∧ z % (placesF ((csA rs k).drop s)).length < sgF (cutR rs k s) (posF rs.length k i + 1) := by
  obtain ⟨c1, c2⟩ := (csA_cut (s := s) o.hk i).1 h
  have ck := csA_k o.hk h
  have p0 := o.pos s
  have hz2 : z < (placesF (csA rs k)).length := by
    have : z < (placesF (csA rs i)).length := hz
    rwa [ck] at this
  have hs := size_cut (csA rs k) s
  have b1 : z / (placesF ((csA rs k).drop s)).length < (placesF ((csA rs k).take s)).length := by
    rw [Nat.div_lt_iff_lt_mul p0]
    omega
  have b2 := Nat.mod_lt z p0
  refine ⟨?_, ?_, ?_⟩
  · have g1 : (placesF ((csA rs k).take s))[z / (placesF ((csA rs k).drop s)).length]? = some (plA (cutR rs k s) (posF rs.length k i) (z / (placesF ((csA rs k).drop s)).length)) := by
      have := plA_get (rs := cutR rs k s) (i := posF rs.length k i) (z := z / (placesF ((csA rs k).drop s)).length) (by show _ < (placesF (csA (cutR rs k s) (posF rs.length k i))).length; rw [c1]; exact b1)
      rwa [c1] at this
    have g2 : (placesF ((csA rs k).drop s))[z % (placesF ((csA rs k).drop s)).length]? = some (plA (cutR rs k s) (posF rs.length k i + 1) (z % (placesF ((csA rs k).drop s)).length)) := by
      have := plA_get (rs := cutR rs k s) (i := posF rs.length k i + 1) (z := z % (placesF ((csA rs k).drop s)).length) (by show _ < (placesF (csA (cutR rs k s) (posF rs.length k i + 1))).length; rw [c2]; exact b2)
      rwa [c2] at this
    have g3 := place_app ((csA rs k).take s) ((csA rs k).drop s) (fun d hd => o.hc _ (csA_mem (Nat.lt_of_le_of_lt (Nat.zero_le _) o.hk) k) d (List.mem_of_mem_drop hd)) z _ _ g1 g2
    rw [List.take_append_drop, ← ck] at g3
    have g4 := plA_get hz
    rw [g3] at g4
    have g5 := (Option.some.inj g4).symm
    have ca := cols_app ((csA rs k).take s) ((csA rs k).drop s)
    rw [List.take_append_drop] at ca
    unfold stepN
    rw [c1, c2, g5, ck, ca.1, ca.2]
    refine Prod.ext ?_ ?_
    · show (q.1 * _ + _) * _ + _ = q.1 * _ + (_ * _ + _)
      rw [Int.add_mul, Int.mul_assoc, ← Int.natCast_mul, Int.add_assoc]
    · show (q.2 * _ + _) * _ + _ = q.2 * _ + (_ * _ + _)
      rw [Int.add_mul, Int.mul_assoc, ← Int.natCast_mul, Int.add_assoc]
  · show _ < (placesF (csA (cutR rs k s) (posF rs.length k i))).length
    rw [c1]
    exact b1
  · show _ < (placesF (csA (cutR rs k s) (posF rs.length k i + 1))).length
    rw [c2]
    exact b2
theorem ap_pair {rs : List (List Cut)} {k : Nat} (o : CutOk rs k) (s : Nat) : ∀ (zs : List Nat) (i : Nat) (q : Pr), (∀ j z, zs[j]? = some z → z < sgF rs (i + j)) →
    pairFrom (cutR rs k s) (posF rs.length k i) q (apF rs k s i zs) = pairFrom rs i q zs ∧ (∀ j z, (apF rs k s i zs)[j]? = some z → z < sgF (cutR rs k s) (posF rs.length k i + j)) ∧ (apF rs k s i zs).length ≤ 2 * zs.length
  | [], i, q, _ => ⟨rfl, fun j z h => by simp [apF] at h, Nat.le_refl 0⟩
  | z :: r, i, q, h => by
    have hz : z < sgF rs i := h 0 z rfl
    have hr : ∀ j y, r[j]? = some y → y < sgF rs (i + 1 + j) := fun j y e => by
      have := h (j + 1) y (by simpa using e)
      rwa [show i + (j + 1) = i + 1 + j by omega] at this
    by_cases hk : i % rs.length = k
    · obtain ⟨e1, e2, e3⟩ := ap_step o s i z hk hz q
      obtain ⟨h1, h2, h3⟩ := ap_pair o s r (i + 1) (stepN rs q i z) hr
      have ep : posF rs.length k (i + 1) = posF rs.length k i + 1 + 1 := by
        show posF rs.length k i + _ = _
        rw [if_pos hk]
      have ea : apF rs k s i (z :: r) = (z / (placesF ((csA rs k).drop s)).length) :: (z % (placesF ((csA rs k).drop s)).length) :: apF rs k s (i + 1) r := by
        show (if i % rs.length = k then _ else _) ++ _ = _
        rw [if_pos hk]
        rfl
      rw [ea]
      refine ⟨?_, fun j y e => ?_, ?_⟩
      · show pairFrom (cutR rs k s) (posF rs.length k i + 1 + 1) (stepN _ (stepN _ _ _ _) _ _) (apF rs k s (i + 1) r) = pairFrom rs (i + 1) (stepN rs q i z) r
        rw [e1, ← ep]
        exact h1
      · match j, e with
        | 0, e => cases e; exact e2
        | 1, e => cases e; exact e3
        | j + 2, e =>
          have := h2 j y (by simpa using e)
          rw [ep] at this
          rwa [show posF rs.length k i + (j + 2) = posF rs.length k i + 1 + 1 + j by omega]
      · show (apF rs k s (i + 1) r).length + 1 + 1 ≤ 2 * (r.length + 1)
        omega
    · have c := (csA_cut (s := s) o.hk i).2 hk
      obtain ⟨h1, h2, h3⟩ := ap_pair o s r (i + 1) (stepN rs q i z) hr
      have ep : posF rs.length k (i + 1) = posF rs.length k i + 1 := by
        show posF rs.length k i + _ = _
        rw [if_neg hk]
      have ea : apF rs k s i (z :: r) = z :: apF rs k s (i + 1) r := by
        show (if i % rs.length = k then _ else _) ++ _ = _
        rw [if_neg hk]
        rfl
      have es : stepN (cutR rs k s) q (posF rs.length k i) z = stepN rs q i z := by
        unfold stepN plA
        rw [c]
      rw [ea]
      refine ⟨?_, fun j y e => ?_, ?_⟩
      · show pairFrom (cutR rs k s) (posF rs.length k i + 1) (stepN _ q _ z) (apF rs k s (i + 1) r) = pairFrom rs (i + 1) (stepN rs q i z) r
        rw [es, ← ep]
        exact h1
      · match j, e with
        | 0, e =>
          cases e
          show z < (placesF (csA (cutR rs k s) (posF rs.length k i))).length
          rw [c]
          exact hz
        | j + 1, e =>
          have := h2 j y (by simpa using e)
          rw [ep] at this
          rwa [show posF rs.length k i + (j + 1) = posF rs.length k i + 1 + j by omega]
      · show (apF rs k s (i + 1) r).length + 1 ≤ 2 * (r.length + 1)
        omega
theorem ap_prefix {rs : List (List Cut)} {k : Nat} (s : Nat) : ∀ (ws zs : List Nat) (i : Nat), apF rs k s i ws <+: apF rs k s i zs ↔ ws <+: zs
  | [], zs, i => ⟨fun _ => List.nil_prefix, fun _ => List.nil_prefix⟩
  | w :: ws, [], i => by
    constructor
    · intro h
      have hl := h.length_le
      have : 1 ≤ (apF rs k s i (w :: ws)).length := by
        show 1 ≤ ((if i % rs.length = k then _ else _) ++ _ : List Nat).length
        rw [List.length_append]
        split <;> simp <;> omega
      have e : (apF rs k s i []).length = 0 := rfl
      omega
    · intro h
      have := h.length_le
      simp at this
  | w :: ws, z :: zs, i => by
    show ((if i % rs.length = k then _ else _) ++ apF rs k s (i + 1) ws) <+: ((if i % rs.length = k then _ else _) ++ apF rs k s (i + 1) zs) ↔ _
    have ih := ap_prefix s ws zs (i + 1) (rs := rs) (k := k)
    by_cases hk : i % rs.length = k
    · simp only [if_pos hk, List.cons_append, List.nil_append, List.cons_prefix_cons, ih]
      constructor
      · rintro ⟨h1, h2, h3⟩
        refine ⟨?_, h3⟩
        rw [← Nat.div_add_mod w (placesF ((csA rs k).drop s)).length, h1, h2, Nat.div_add_mod]
      · rintro ⟨rfl, h⟩
        exact ⟨rfl, rfl, h⟩
    · simp only [if_neg hk, List.cons_append, List.nil_append, List.cons_prefix_cons, ih]
theorem lcp_greatest : ∀ {c x y : List Nat}, c <+: x → c <+: y → c <+: lcp x y
  | [], _, _, _, _ => List.nil_prefix
  | a :: c, [], y, h, _ => by simp at h
  | a :: c, x :: xs, [], _, h => by simp at h
  | a :: c, x :: xs, y :: ys, h1, h2 => by
    obtain ⟨e1, g1⟩ := List.cons_prefix_cons.mp h1
    obtain ⟨e2, g2⟩ := List.cons_prefix_cons.mp h2
    have ih := lcp_greatest g1 g2
    unfold lcp at ih ⊢
    unfold lcpN
    rw [if_pos (e1.symm.trans e2), List.take_succ_cons]
    exact List.cons_prefix_cons.mpr ⟨e1, ih⟩
theorem take_iff (zs ws : List Nat) : zs.take ws.length = ws ↔ ws <+: zs := by
  rw [List.prefix_iff_eq_take]
  exact eq_comm
/-! moved on by one round -/
def rotR (rs : List (List Cut)) : List (List Cut) := rs.drop 1 ++ rs.take 1
theorem csA_rot {rs : List (List Cut)} (l1 : 0 < rs.length) (i : Nat) : csA (rotR rs) i = csA rs (i + 1) := by
  match rs, l1 with
  | c :: r, _ =>
    have hn : 0 < r.length + 1 := by omega
    have hl := Nat.mod_lt i hn
    have el : (rotR (c :: r)).length = r.length + 1 := by
      unfold rotR
      show (r ++ [c]).length = _
      rw [List.length_append]
      rfl
    have g1 := csA_get (rs := rotR (c :: r)) (by omega) i
    have g2 := csA_get (rs := c :: r) (by simp) (i + 1)
    rw [el] at g1
    have e2 : (c :: r).length = r.length + 1 := rfl
    rw [e2] at g2
    have g1' : (r ++ [c])[i % (r.length + 1)]? = some (csA (rotR (c :: r)) i) := g1
    have es : (i + 1) % (r.length + 1) = if i % (r.length + 1) = r.length then 0 else i % (r.length + 1) + 1 := by
      rw [Nat.add_mod]
      by_cases h1 : r.length = 0
      · rw [h1]
        have : i % 1 = 0 := Nat.mod_one i
        simp [this]
      · rw [Nat.mod_eq_of_lt (show 1 < r.length + 1 by omega)]
        by_cases h2 : i % (r.length + 1) = r.length
        · rw [if_pos h2, h2, Nat.mod_self]
        · rw [if_neg h2, Nat.mod_eq_of_lt (by omega)]
    rw [es] at g2
    by_cases h : i % (r.length + 1) = r.length
    · rw [if_pos h] at g2
      rw [h, List.getElem?_append_right (Nat.le_refl _), Nat.sub_self] at g1'
      have a1 : c = csA (rotR (c :: r)) i := Option.some.inj g1'
      have a2 : c = csA (c :: r) (i + 1) := Option.some.inj g2
      rw [← a1]
      exact a2
    · rw [if_neg h, List.getElem?_cons_succ] at g2
      rw [List.getElem?_append_left (by omega), g2] at g1'
      exact (Option.some.inj g1').symm
theorem pair_rot {rs : List (List Cut)} (l1 : 0 < rs.length) : ∀ (t : List Nat) (k : Nat) (q : Pr), pairFrom rs (k + 1) q t = pairFrom (rotR rs) k q t
  | [], k, q => rfl
  | z :: r, k, q => by
    show pairFrom rs (k + 1 + 1) (stepN rs q (k + 1) z) r = pairFrom (rotR rs) (k + 1) (stepN (rotR rs) q k z) r
    have e : stepN (rotR rs) q k z = stepN rs q (k + 1) z := by
      unfold stepN plA
      rw [csA_rot l1]
    rw [e]
    exact pair_rot l1 r (k + 1) _
theorem pair_lin (rs : List (List Cut)) : ∀ (t : List Nat) (k : Nat) (q : Pr), pairFrom rs k q t = (q.1 * (dcF rs k t.length : Int) + (pairFrom rs k (0, 0) t).1, q.2 * (drF rs k t.length : Int) + (pairFrom rs k (0, 0) t).2)
  | [], k, q => by simp [pairFrom, dcF, drF]
  | z :: r, k, q => by
    obtain ⟨d1, d2⟩ := dc_add rs k 1 r.length
    have e1 : dcF rs k 1 = colsF (csA rs k) := by
      show 1 * colsF (csA rs (k + 0)) = _
      rw [Nat.one_mul]
      rfl
    have e2 : drF rs k 1 = rowsF (csA rs k) := by
      show 1 * rowsF (csA rs (k + 0)) = _
      rw [Nat.one_mul]
      rfl
    rw [Nat.add_comm 1, e1] at d1
    rw [Nat.add_comm 1, e2] at d2
    have h1 := pair_lin rs r (k + 1) (stepN rs q k z)
    have h2 := pair_lin rs r (k + 1) (stepN rs (0, 0) k z)
    show pairFrom rs (k + 1) (stepN rs q k z) r = (q.1 * (dcF rs k (r.length + 1) : Int) + (pairFrom rs (k + 1) (stepN rs (0, 0) k z) r).1, q.2 * (drF rs k (r.length + 1) : Int) + (pairFrom rs (k + 1) (stepN rs (0, 0) k z) r).2)
    rw [h1, h2, d1, d2, Int.natCast_mul, Int.natCast_mul]
    refine Prod.ext ?_ ?_
    · show (q.1 * _ + (plA rs k z).1) * _ + _ = q.1 * (_ * _) + ((0 * _ + (plA rs k z).1) * _ + _)
      rw [Int.add_mul, Int.zero_mul, Int.zero_add, Int.mul_assoc, Int.add_assoc]
    · show (q.2 * _ + (plA rs k z).2) * _ + _ = q.2 * (_ * _) + ((0 * _ + (plA rs k z).2) * _ + _)
      rw [Int.add_mul, Int.zero_mul, Int.zero_add, Int.mul_assoc, Int.add_assoc]
theorem rot_name {rs : List (List Cut)} (l1 : 0 < rs.length) {zs : List Nat} (h : NameOk rs zs) : NameOk (rotR rs) (zs.drop 1) := fun i z e => by
  rw [List.getElem?_drop] at e
  have := h (1 + i) z e
  show z < (placesF (csA (rotR rs) i)).length
  rw [csA_rot l1, Nat.add_comm i]
  exact this
theorem moved_eq {rs : List (List Cut)} (l1 : 0 < rs.length) {zs : List Nat} (h1 : 1 ≤ zs.length) :
    pairF rs zs = ((pairF rs (zs.take 1)).1 * (dcF rs 1 (zs.length - 1) : Int) + (pairF (rotR rs) (zs.drop 1)).1, (pairF rs (zs.take 1)).2 * (drF rs 1 (zs.length - 1) : Int) + (pairF (rotR rs) (zs.drop 1)).2) := by
  have tl : (zs.take 1).length = 1 := by rw [List.length_take]; omega
  have e : pairF rs zs = pairFrom rs 1 (pairF rs (zs.take 1)) (zs.drop 1) := by
    conv => lhs; rw [← List.take_append_drop 1 zs]
    unfold pairF
    rw [pairFrom_append, Nat.zero_add, tl]
  rw [e, pair_lin, List.length_drop]
  have := pair_rot l1 (zs.drop 1) 0 (0, 0)
  rw [Nat.zero_add] at this
  rw [this]
  rfl
/-! turned -/
theorem places_turn (cs : List Cut) : placesF (turnF cs) = (placesF cs).map fun q => (q.2, q.1) := by
  refine snoc_ind (P := fun cs => placesF (turnF cs) = (placesF cs).map fun q => (q.2, q.1)) rfl (fun cs c ih => ?_) cs
  have e : turnF (cs ++ [c]) = turnF cs ++ [(!c.1, c.2)] := by unfold turnF; rw [List.map_append]; rfl
  rw [e, placesF_snoc, placesF_snoc, ih]
  unfold spread
  rw [List.flatMap_map, List.map_flatMap]
  congr 1
  funext p
  rw [List.map_map]
  refine List.map_congr_left fun j _ => ?_
  show stepC (p.2, p.1) (!c.1, c.2) j = ((stepC p c j).2, (stepC p c j).1)
  unfold stepC
  cases c.1 <;> rfl
theorem csA_turn (rs : List (List Cut)) (i : Nat) : csA (rs.map turnF) i = turnF (csA rs i) := by
  unfold csA
  rw [List.length_map, List.getD_eq_getElem?_getD, List.getD_eq_getElem?_getD, List.getElem?_map]
  cases rs[i % rs.length]? <;> rfl
theorem pair_turn (rs : List (List Cut)) : ∀ (zs : List Nat) (k : Nat) (q : Pr), pairFrom (rs.map turnF) k (q.2, q.1) zs = ((pairFrom rs k q zs).2, (pairFrom rs k q zs).1)
  | [], k, q => rfl
  | z :: r, k, q => by
    show pairFrom (rs.map turnF) (k + 1) (stepN (rs.map turnF) (q.2, q.1) k z) r = _
    have e : stepN (rs.map turnF) (q.2, q.1) k z = ((stepN rs q k z).2, (stepN rs q k z).1) := by
      unfold stepN plA
      rw [csA_turn, places_turn, (cols_turn (csA rs k)).1, (cols_turn (csA rs k)).2, List.getD_eq_getElem?_getD, List.getD_eq_getElem?_getD, List.getElem?_map]
      cases (placesF (csA rs k))[z]? <;> rfl
    rw [e]
    exact pair_turn rs r (k + 1) _
theorem turn_name {rs : List (List Cut)} {zs : List Nat} (h : NameOk rs zs) : NameOk (rs.map turnF) zs := fun i z e => by
  have := h i z e
  show z < (placesF (csA (rs.map turnF) i)).length
  rw [csA_turn, places_turn, List.length_map]
  exact this
theorem turn_turn (rs : List (List Cut)) : (rs.map turnF).map turnF = rs := by
  rw [List.map_map]
  conv => rhs; rw [← List.map_id rs]
  refine List.map_congr_left fun cs _ => ?_
  show turnF (turnF cs) = cs
  unfold turnF
  rw [List.map_map]
  conv => rhs; rw [← List.map_id cs]
  refine List.map_congr_left fun c _ => ?_
  show (!(!c.1), c.2) = c
  rw [Bool.not_not]

theorem counts_ok {rs : List (List Cut)} (ok : OkR rs) (n : Nat) : countsF rs n = (((dcF rs 0 n : Nat) : Int), ((drF rs 0 n : Nat) : Int)) := counts_eq ok.l1 ok.bal n
end Mc

set_option Elab.async false
set_option linter.all false
set_option maxRecDepth 100000
set_option maxHeartbeats 4000000
set_option exponentiation.threshold 20000
namespace Mc
open PySem PySem.Spec PyProof.Rows L2 ClX StX
section
variable {P : Program} {w : World} {K : PySem.W.Frag} {mg : Str → Option Value} {base : Heap} {f C0 aX : Addr} {mc : Value} {fd : FuncData}
theorem sc_name_with : FnScope ["plan", "f", "pair", "x", "y", "signs", "at", "phase", "columns", "rows"] ["plan", "f", "pair"] (defScope s_name_with) := ⟨rfl, rfl, rfl, by decide +kernel, rfl, by decide +kernel, by decide +kernel⟩
def spNameWith (C0 : Addr) : Sp := fun vs H Q _ => ∃ (p : Addr) (rs : List (List Cut)) (n : Nat) (a : Addr) (zs : List Nat), vs = [.ref p, .int n, .ref a] ∧ PlanAt C0 H p rs ∧ OkR rs ∧ H a = some (.tup [.int (pairF rs zs).1, .int (pairF rs zs).2]) ∧ NameOk rs zs ∧ zs.length = n ∧ n ≤ 1000 ∧ ∀ t H', Ext H H' → H' t = some (.tup (zs.map fun z : Nat => V.int z)) → Q (.ref t) H'
theorem ok_name_with (F : FunD K "name_with" "name_with" (defArgs s_name_with) (defBody s_name_with) (defScope s_name_with) [] [] f fd) (T : TB mg) (R : PlanT K mg C0 aX mc) (T2 : TB2 mg) {fLen : Addr} {fdLen : FuncData} (mLen : Meth K C0 "__len__" fLen) (Glen : FnOk P w K mg base CX0 1 fLen fdLen ["self"] (spLen C0)) (bLen : Binds K fdLen ["self"] []) {fPa : Addr} {fdPa : FuncData} (mPa : Meth K C0 "parts" fPa) (Gpa : FnOk P w K mg base CX0 5 fPa fdPa ["self", "phase"] (spPartsM C0)) (bPa : Binds K fdPa ["self", "phase"] []) {fSa : Addr} {fdSa : FuncData} (mSa : Meth K C0 "sign_at" fSa) (Gsa : FnOk P w K mg base CX0 6 fSa fdSa ["self", "phase", "pair"] (spSignAt C0)) (bSa : Binds K fdSa ["self", "phase", "pair"] []) : FnOk P w K mg base CX0 7 f fd ["plan", "f", "pair"] (spNameWith C0) := by
  refine F.ok sc_name_with (fun vs H Q E h => ?_) (fun cdv A outer s H vs Q E hr h => ?_)
  · obtain ⟨p, rs, n, a, zs, rfl, hp, ok, ha, nm, hn, h1000, k⟩ := h
    rfl
  · obtain ⟨p, rs, n, a, zs, rfl, hp, ok, ha, nm, hn, h1000, k⟩ := h
    refine ⟨_, (PSs.nox (pss_cons (ps_asg (pv 2) (pg_tup rfl (pgs_cons (pg_name (i := 3) sc_name_with.nd rfl (.inl rfl)) (pgs_cons (pg_name (i := 4) sc_name_with.nd rfl (.inl rfl)) pgs_nil))))
      (pss_cons (ps_set (i := 5) sc_name_with.nd rfl (.inl rfl) (pe_lst pa_nil))
      (pss_cons (ps_for PassesOwn.never rfl (pi_revR (by rfl) T2.reversed (prg_1 (by rfl) T.range (pv 1))) (pg_name (i := 6) sc_name_with.nd rfl (.inl rfl)) (pss_cons (ps_set (i := 7) sc_name_with.nd rfl (.inl rfl) (pe_op op_mod (pv 6) (pe_callB (call_lenO mLen Glen bLen (hr.mono (by decide))) (by rfl) T.len PySem.boot_len (pa_cons (pv 0) pa_nil))))
      (pss_cons (ps_asg (pe_meth (pv 0) R.cl mPa Gpa (hr.mono (by decide)) bPa .nil pass0 (pa_cons (pv 7) pa_nil)) (pg_tup rfl (pgs_cons (pg_name (i := 8) sc_name_with.nd rfl (.inl rfl)) (pgs_cons (pg_name (i := 9) sc_name_with.nd rfl (.inl rfl)) pgs_nil))))
      (pss_cons (ps_expr (pe_bm PySem.F.plainAttrs_list PySem.F.slot_list_append PySem.F.type_list_append mt_append (pv 5) (pa_cons (pe_meth (pv 0) R.cl mSa Gsa (hr.mono (by decide)) bSa .nil pass0 (pa_cons (pv 7) (pa_cons (pe_tup (pa_cons (pe_op op_mod (pv 3) (pv 8)) (pa_cons (pe_op op_mod (pv 4) (pv 9)) pa_nil))) pa_nil))) pa_nil)))
      (pss_cons (ps_set (i := 3) sc_name_with.nd rfl (.inl rfl) (pe_op op_fdiv (pv 3) (pv 8)))
      (pss_one (ps_set (i := 4) sc_name_with.nd rfl (.inl rfl) (pe_op op_fdiv (pv 4) (pv 9)))))))))
      (pss_one (ps_ret (pe_callTy call_tuple_of (by rfl) T.tuple (by decide +kernel) (pa_cons (pe_revL (pv 5)) pa_nil)))))))), ?_⟩
    obtain ⟨dx, lr, lp, ll, g, h1, h2⟩ := id hp
    have l3 := ok.l3
    have l1 := ok.l1
    refine ⟨_, rfl, a, _, rfl, SqT.of ha, rfl, _, _, rfl, _, _, rfl, rfl, (by show 0 ≤ sizeLine; decide), fun q hq => ⟨_, rfl, (n : Int), rfl, by omega, by omega, by omega, by omega, ?_⟩⟩
    refine for_walk walk_rc (fun i σ H' => ∃ (u6 u7 u8 u9 : Option V), σ = [some (.ref p), some (.int n), some (.ref a), some (.int (pairF rs (zs.take (n - i))).1), some (.int (pairF rs (zs.take (n - i))).2), some (.ref q), u6, u7, u8, u9] ∧ H' q = some (.lst ((zs.drop (n - i)).reverse.map fun z : Nat => V.int z)) ∧ Ext H H') ⟨none, none, none, none, ?_, ?_, Ext.upd hq⟩ (fun _ _ _ _ => trivial) ?_ ?_
    · rw [Nat.sub_zero, List.take_of_length_le (by omega)]
      rfl
    · rw [upd_same, Nat.sub_zero, List.drop_eq_nil_of_le (by omega)]
      rfl
    · rintro i x σ H' hx ⟨u6, u7, u8, u9, rfl, b1, e⟩
      have hi : i < n := by
        have := (List.getElem?_eq_some_iff.mp hx).1
        rw [List.length_map, List.length_range] at this
        omega
      obtain ⟨m, hm⟩ : ∃ m, m = n - 1 - i := ⟨_, rfl⟩
      have hx5 : x = .int (m : Nat) := by
        rw [List.getElem?_map, List.getElem?_range (by omega)] at hx
        rw [← Option.some.inj hx]
        show V.int _ = V.int _
        congr 1
        omega
      subst hx5
      have em : n - i = m + 1 := by omega
      have em2 : n - (i + 1) = m := by omega
      have hml : m < zs.length := by omega
      have hzi : zs[m]? = some zs[m] := List.getElem?_eq_getElem hml
      have hsg := nm m _ hzi
      obtain ⟨p1, p2, p3, p4⟩ := pl_in hsg
      have l32 := ok.n.le m
      have pos := ok.n.pos m
      have hp2 := hp.ext e
      rw [em] at b1 ⊢
      rw [em2, pairF_take hzi]
      have ex : stepN rs (pairF rs (zs.take m)) m zs[m] = ((pairF rs (zs.take m)).1 * (colsF (csA rs m) : Int) + (plA rs m zs[m]).1, (pairF rs (zs.take m)).2 * (rowsF (csA rs m) : Int) + (plA rs m zs[m]).2) := rfl
      rw [ex]
      have m1 : ((pairF rs (zs.take m)).1 * (colsF (csA rs m) : Int) + (plA rs m zs[m]).1) % (colsF (csA rs m) : Int) = (plA rs m zs[m]).1 := by
        rw [Int.add_comm, Int.add_mul_emod_self_right, Int.emod_eq_of_lt p1 p2]
      have m2 : ((pairF rs (zs.take m)).2 * (rowsF (csA rs m) : Int) + (plA rs m zs[m]).2) % (rowsF (csA rs m) : Int) = (plA rs m zs[m]).2 := by
        rw [Int.add_comm, Int.add_mul_emod_self_right, Int.emod_eq_of_lt p3 p4]
      have d1 : ((pairF rs (zs.take m)).1 * (colsF (csA rs m) : Int) + (plA rs m zs[m]).1) / (colsF (csA rs m) : Int) = (pairF rs (zs.take m)).1 := by
        rw [Int.add_comm, Int.add_mul_ediv_right _ _ (by omega), Int.ediv_eq_zero_of_lt p1 p2, Int.zero_add]
      have d2 : ((pairF rs (zs.take m)).2 * (rowsF (csA rs m) : Int) + (plA rs m zs[m]).2) / (rowsF (csA rs m) : Int) = (pairF rs (zs.take m)).2 := by
        rw [Int.add_comm, Int.add_mul_ediv_right _ _ (by omega), Int.ediv_eq_zero_of_lt p3 p4, Int.zero_add]
      generalize hX : (pairF rs (zs.take m)).1 * (colsF (csA rs m) : Int) + (plA rs m zs[m]).1 = X at *
      generalize hY : (pairF rs (zs.take m)).2 * (rowsF (csA rs m) : Int) + (plA rs m zs[m]).2 = Y at *
      refine ⟨_, rfl, _, rfl, p, dx, _, rfl, e _ _ h1, p, rs, rfl, hp2, rs.length, rfl, by omega, (m : Int), (rs.length : Int), rfl, rfl, (by show (0 : Int) < (rs.length : Int); omega), ?_⟩
      refine ⟨_, rfl, p, dx, _, rfl, e _ _ h1, rfl, _, rfl, p, rs, m % rs.length, csA rs m, rfl, hp2, csA_get l1 m, l3, fun b hb => ⟨b, _, rfl, SqT.of hb, rfl, _, _, rfl, _, _, rfl, rfl, ?_⟩⟩
      refine ⟨_, rfl, .inl ⟨rfl, _, SqL.of b1⟩, _, rfl, p, dx, _, rfl, e _ _ h1, rfl, _, rfl, _, rfl, _, rfl, _, _, rfl, rfl, (by show (0 : Int) < ((colsF (csA rs m) : Nat) : Int); omega), _, rfl, _, rfl, _, _, rfl, rfl, (by show (0 : Int) < ((rowsF (csA rs m) : Nat) : Int); omega), (by show 2 ≤ sizeLine; decide), fun tp htp => ?_⟩
      have e2 := Ext.upd (H := H') (o := .tup [.int (X % (colsF (csA rs m) : Int)), .int (Y % (rowsF (csA rs m) : Int))]) htp
      have htp2 : (upd H' tp (.tup [.int (X % (colsF (csA rs m) : Int)), .int (Y % (rowsF (csA rs m) : Int))])) tp = some (.tup [.int (plA rs m zs[m]).1, .int (plA rs m zs[m]).2]) := by rw [upd_same, m1, m2]
      generalize upd H' tp (.tup [.int (X % (colsF (csA rs m) : Int)), .int (Y % (rowsF (csA rs m) : Int))]) = H2 at *
      refine ⟨p, rs, m % rs.length, csA rs m, tp, plA rs m zs[m], zs[m], rfl, hp2.ext e2, csA_get l1 m, l3, htp2, ok.hc _ (csA_mem l1 m), plA_get hsg, fun j hj hj2 => ?_, fun H3 e3 => ?_⟩
      · exact absurd (place_inj (ok.hc _ (csA_mem l1 m)) hj2 (plA_get hsg)) (by omega)
      refine ⟨q, _, _, rfl, rfl, e3 _ _ (e2 _ _ b1), ?_, ?_⟩
      · rw [List.length_map, List.length_reverse, List.length_drop, sizeLine_eq]
        omega
      refine ⟨_, rfl, _, rfl, _, _, rfl, rfl, ⟨by omega, by omega⟩, ?_⟩
      refine ⟨_, rfl, _, rfl, _, _, rfl, rfl, ⟨by omega, by omega⟩, ?_⟩
      refine ⟨_, _, _, _, (by rw [← d1, ← d2]; rfl), ?_, ext_put ((e.trans e2).trans e3) hq⟩
      rw [upd_same, List.drop_eq_getElem_cons hml, List.reverse_cons, List.map_append]
      rfl
    · rintro σ H' ⟨u6, u7, u8, u9, rfl, b1, e⟩
      have en : n - (List.map (fun k : Nat => V.int (0 + ((((n : Int) - 0).toNat : Nat) : Int) - 1 + (k : Int) * -1)) (List.range ((n : Int) - 0).toNat)).length = 0 := by simp
      rw [en, List.drop_zero] at b1
      refine ⟨_, rfl, q, _, rfl, SqL.of b1, fun rl hrl => ⟨rl, _, rfl, .inl ⟨SqL.of upd_same, fun t ht => ?_⟩⟩⟩
      have e2 := (Ext.upd (H := H') (o := .lst ((zs.reverse.map fun z : Nat => V.int z).reverse)) hrl).trans (Ext.upd (o := .tup ((zs.reverse.map fun z : Nat => V.int z).reverse)) ht)
      refine k t _ (e.trans e2) ?_
      rw [upd_same, ← List.map_reverse, List.reverse_reverse]
theorem sc_name_of : FnScope ["plan", "f", "pair"] ["plan", "f", "pair"] (defScope s_name_of) := ⟨rfl, rfl, rfl, by decide +kernel, rfl, by decide +kernel, by decide +kernel⟩
theorem ok_name_of (F : FunD K "name_of" "name_of" (defArgs s_name_of) (defBody s_name_of) (defScope s_name_of) [] [] f fd) (T : TB mg) {fcheck_plan : Addr} {fdcheck_plan : FuncData} (Dcheck_plan : Gd P w K mg base "check_plan" 1 ["plan"] (spChkPlan C0) fcheck_plan fdcheck_plan) {fcheck_fineness : Addr} {fdcheck_fineness : FuncData} (Dcheck_fineness : Gd P w K mg base "check_fineness" 3 ["f"] (spFine) fcheck_fineness fdcheck_fineness) {fcheck_pair : Addr} {fdcheck_pair : FuncData} (Dcheck_pair : Gd P w K mg base "check_pair" 4 ["pair", "parts"] (spPairOk) fcheck_pair fdcheck_pair) {fcounts_at : Addr} {fdcounts_at : FuncData} (Dcounts_at : Gd P w K mg base "counts_at" 6 ["plan", "f"] (spCounts C0) fcounts_at fdcounts_at) {fname_with : Addr} {fdname_with : FuncData} (Dname_with : Gd P w K mg base "name_with" 7 ["plan", "f", "pair"] (spNameWith C0) fname_with fdname_with) : FnOk P w K mg base CX0 8 f fd ["plan", "f", "pair"] (spNameWith C0) := by
  refine F.ok sc_name_of (fun vs H Q E h => ?_) (fun cdv A outer s H vs Q E hr h => ?_)
  · obtain ⟨p, rs, n, a, zs, rfl, hp, ok, ha, nm, hn, h1000, k⟩ := h
    rfl
  · obtain ⟨p, rs, n, a, zs, rfl, hp, ok, ha, nm, hn, h1000, k⟩ := h
    refine ⟨_, (PSs.nox (pss_cons (ps_expr (pe_gd Dcheck_plan hr (by decide) (by rfl) (pa_cons (pv 0) pa_nil)))
      (pss_cons (ps_expr (pe_gd Dcheck_fineness hr (by decide) (by rfl) (pa_cons (pv 1) pa_nil)))
      (pss_cons (ps_expr (pe_gd Dcheck_pair hr (by decide) (by rfl) (pa_cons (pv 2) (pa_cons (pe_gd Dcounts_at hr (by decide) (by rfl) (pa_cons (pv 0) (pa_cons (pv 1) pa_nil))) pa_nil))))
      (pss_one (ps_ret (pe_gd Dname_with hr (by decide) (by rfl) (pa_cons (pv 0) (pa_cons (pv 1) (pa_cons (pv 2) pa_nil)))))))))), ?_⟩
    obtain ⟨a1, a2, a3, a4⟩ := pairF_in ok.n nm
    refine ⟨_, rfl, p, rs, rfl, hp, _, rfl, n, rfl, by omega, by omega, _, rfl, _, rfl, _, rfl, p, rs, n, rfl, hp, ok, h1000, fun t H1 e1 ht => ?_⟩
    rw [counts_ok ok n] at ht
    rw [hn] at a2 a4
    refine ⟨a, t, (pairF rs zs).1, (pairF rs zs).2, _, _, rfl, e1 _ _ ha, ht, a1, a2, a3, a4, fun H2 e2 => ?_⟩
    exact ⟨_, rfl, _, rfl, _, rfl, p, rs, n, a, zs, rfl, hp.ext (e1.trans e2), ok, e2 _ _ (e1 _ _ ha), nm, hn, h1000, fun t H3 e3 h => k t H3 ((e1.trans e2).trans e3) h⟩
end
end Mc

set_option Elab.async false
set_option linter.all false
set_option maxRecDepth 100000
set_option maxHeartbeats 4000000
set_option exponentiation.threshold 20000
namespace Mc
open PySem PySem.Spec PyProof.Rows L2 TL
/-! ### texts of numbers -/
theorem log1920 {i : Int} (h : i.natAbs < 2 ^ 1900) : i.natAbs.log2 < 1920 := Nat.lt_of_lt_of_le (PySem.Flt.log2_lt_of (by decide) h) (by decide)
def stI (i : Int) : Str := Str.ofString (toString i)
theorem stI_len {i : Int} (h : i.natAbs < 2 ^ 1900) : (stI i).length ≤ 1921 := int_text_len_1921 (log1920 h)
theorem stI_len6 {i : Int} (h : i.natAbs < 2 ^ 600) : (stI i).length ≤ 601 := by
  have := int_text_length_le (a := i) (k := 600) (by decide) (PySem.Flt.log2_lt_of (by decide) h)
  have e : (stI i).length = (toString i).length := by
    unfold stI
    exact PySem.ofString_length _
  omega
def strR (n d : Int) : Str := if d = 1 then stI n else Str.empty ++ stI n ++ Str.ofString "/" ++ stI d
def repR (n d : Int) : Str := Str.empty ++ Str.ofString "Ratio(" ++ stI n ++ Str.ofString ", " ++ stI d ++ Str.ofString ")"
theorem stI_tl (m : Nat) : tl (stI (m : Int)) = numL m := tl_num m
theorem stI_neg {n : Int} (h : n < 0) : tl (stI n) = 45 :: numL n.natAbs := by
  rw [← stI_tl n.natAbs]
  unfold stI tl
  rw [toString_neg h, show (0 - n : Int) = (n.natAbs : Int) by omega]
  rw [PyProof.Rows.signs_ofString, PyProof.Rows.signs_ofString, String.toList_append, List.map_append]
  rfl
theorem numL_head : ∀ m : Nat, 0 < m → (numL m).head? ≠ some 48 := by
  intro m
  induction m using Nat.strongRecOn with
  | _ m ih =>
    intro h0
    by_cases h : m < 10
    · rw [numL_lt h]
      simp
      omega
    · rw [numL_step (by omega)]
      have := ih (m / 10) (by omega) (by omega)
      cases e : numL (m / 10) with
      | nil => exact absurd e (numL_ne _)
      | cons c r =>
        rw [e] at this
        simpa using this
theorem dig_ascii (m : Nat) : Txt.isascii (stI (m : Int)) = true := by
  unfold Txt.isascii
  rw [← Array.all_toList, List.all_eq_true]
  intro c hc
  have := numL_digits m c (by rw [← stI_tl]; exact hc)
  exact decide_eq_true (by omega)
theorem dig_digit (m : Nat) : Txt.isdigit (stI (m : Int)) = true := by
  unfold Txt.isdigit
  rw [← Array.all_toList, Bool.and_eq_true, List.all_eq_true]
  refine ⟨?_, fun c hc => ?_⟩
  · have := numL_ne m
    rw [← stI_tl] at this
    have h2 : 0 < (tl (stI (m : Int))).length := List.length_pos_iff.mpr this
    rw [len_tl]
    exact decide_eq_true h2
  · have hd := numL_digits m c (by rw [← stI_tl]; exact hc)
    obtain ⟨k, hk, rfl⟩ : ∃ k, k < 10 ∧ c = 48 + k := ⟨c - 48, by omega, by omega⟩
    have : ∀ k < 10, Unicode.isDigit (48 + k) = true := by decide +kernel
    exact this k hk
theorem dig_start {m : Nat} (h : 0 < m) : Txt.startswith (stI (m : Int)) (Str.ofString "0") = false := by
  cases e : Txt.startswith (stI (m : Int)) (Str.ofString "0") with
  | false => rfl
  | true =>
    exfalso
    unfold Txt.startswith at e
    rw [Bool.and_eq_true] at e
    have e2 := e.2
    unfold Builtin.Str.subAt at e2
    have e3 := eq_of_beq e2
    have e4 := congrArg Array.toList e3
    have h1 : (stI (m : Int)).cps.toList = numL m := stI_tl m
    rw [Array.toList_extract, h1] at e4
    have hh := numL_head m h
    cases q : numL m with
    | nil => exact absurd q (numL_ne _)
    | cons c r =>
      rw [q] at e4 hh
      have : c = 48 := by
        have z : (Str.ofString "0").cps.toList = [48] := by decide +kernel
        rw [z] at e4
        have z2 : (0 + (Str.ofString "0").length) = 1 := by decide +kernel
        rw [z2] at e4
        simpa using e4
      subst this
      exact hh rfl

theorem stI_free (n : Int) : 47 ∉ tl (stI n) := by
  by_cases h0 : n < 0
  · rw [stI_neg h0]
    intro z
    rcases List.mem_cons.mp z with z | z
    · cases z
    · exact numL_free (.inl (by decide)) z
  · obtain ⟨m, rfl⟩ := Int.eq_ofNat_of_zero_le (Int.not_lt.mp h0)
    rw [stI_tl]
    exact numL_free (.inl (by decide))
/-- a text without the sign in front, if there is one -/
theorem cut_minus {x : Str} {cs : List Nat} (h : tl x = 45 :: cs) : tl (Txt.removeprefix x (Str.ofString "-")) = cs := by
  have hx : x.cps.toList = 45 :: cs := h
  have z : (Str.ofString "-").cps.toList = [45] := by decide +kernel
  have z2 : (Str.ofString "-").length = 1 := by decide +kernel
  have hl : x.length = cs.length + 1 := by rw [len_tl, h] <;> rfl
  have hs : Builtin.Str.subAt x (Str.ofString "-") 0 = true := by
    unfold Builtin.Str.subAt
    rw [z2]
    refine beq_iff_eq.mpr (Array.toList_inj.mp ?_)
    rw [Array.toList_extract, hx, z]
    rfl
  unfold Txt.removeprefix
  rw [hs, if_pos rfl, z2]
  show tl (if x.length - 1 == x.length then x else Builtin.Str.strSub x 1 x.length) = cs
  rw [if_neg (by simp; omega)]
  show (x.cps.extract 1 x.length).toList = cs
  rw [Array.toList_extract, hx, hl]
  simp [List.extract]
theorem cut_stI {n : Int} : Txt.removeprefix (stI n) (Str.ofString "-") = stI (n.natAbs : Int) ∨ 0 ≤ n := by
  by_cases h0 : n < 0
  · refine .inl (PyProof.Rows.ext_toList ?_)
    show tl _ = tl _
    rw [cut_minus (stI_neg h0), stI_tl]
  · exact .inr (by omega)
theorem cut_none {m : Nat} : Txt.removeprefix (stI (m : Int)) (Str.ofString "-") = stI (m : Int) := by
  unfold Txt.removeprefix
  have : Builtin.Str.subAt (stI (m : Int)) (Str.ofString "-") 0 = false := by
    cases e : Builtin.Str.subAt (stI (m : Int)) (Str.ofString "-") 0 with
    | false => rfl
    | true =>
      exfalso
      unfold Builtin.Str.subAt at e
      have e4 := congrArg Array.toList (eq_of_beq e)
      have h1 : (stI (m : Int)).cps.toList = numL m := stI_tl m
      rw [Array.toList_extract, h1] at e4
      cases q : numL m with
      | nil => exact absurd q (numL_ne _)
      | cons c r =>
        rw [q] at e4
        have : c = 45 := by
          have z : (Str.ofString "-").cps.toList = [45] := by decide +kernel
          rw [z] at e4
          have z2 : (0 + (Str.ofString "-").length) = 1 := by decide +kernel
          rw [z2] at e4
          simpa using e4
        have := numL_digits m c (by rw [q]; exact List.mem_cons_self)
        omega
  rw [this] <;> rfl
theorem cut_all (n : Int) : Txt.removeprefix (stI n) (Str.ofString "-") = stI (n.natAbs : Int) := by
  rcases cut_stI (n := n) with h | h
  · exact h
  · obtain ⟨m, rfl⟩ := Int.eq_ofNat_of_zero_le h
    exact cut_none
/-- int of such a text -/
theorem int_stI {i : Int} (h : i.natAbs < 2 ^ 600) : intText? (stI i) = some i := by
  have hl := stI_len6 h
  by_cases h0 : i < 0
  · have e := PySem.intText_neg (x := stI i) (stI_neg h0) (numL_digits _) (numL_ne _) (by omega)
    rw [numL_val] at e
    rw [e]
    exact congrArg some (by omega)
  · obtain ⟨m, rfl⟩ := Int.eq_ofNat_of_zero_le (Int.not_lt.mp h0)
    have e : (numL m).length ≤ 4300 := by
      have := len_tl (stI (m : Int))
      rw [stI_tl] at this
      omega
    exact int_num e
theorem part_stI (n d : Int) (y : Str) : Txt.partition (stI n ++ Str.ofString "/" ++ y) (Str.ofString "/") = (stI n, Str.ofString "/", y) :=
  partition_app (s := 47) (S := []) (by decide +kernel) (stI_free n)
end Mc

set_option Elab.async false
set_option linter.all false
set_option maxRecDepth 100000
set_option maxHeartbeats 4000000
/-! repr of tuples that hold objects of one's own -/
namespace Mc
open PySem PySem.Spec PyProof.Rows L2
open PySem.Builtin PySem.Builtin.Tuple
theorem pd_lenT {α β : Type} {F : α → β → Prop} : ∀ {l : List α} {m : List β}, Paired F l m → l.length = m.length
  | _, _, .nil => rfl
  | _, _, .cons _ t => congrArg (· + 1) (pd_lenT t)
theorem depth_tup (A : Around) (args : Args) : (A.under (.builtin "tuple.__repr__" args)).depth = A.depth + 1 := by
  simp [Around.under, Code.weight, Code.isCreation, Code.isGuard, Code.isCaller, Code.frames, Code.isFrame, guardIds]
theorem frames_tup (A : Around) (args : Args) : (A.under (.builtin "tuple.__repr__" args)).frames = A.frames := by
  simp [Around.under, Code.envs, Code.isFrame, pushEnvs]
theorem depth_tupU (A : Around) (args : Args) : (A.under (.builtin "tuple.__repr__.under" args)).depth = A.depth + 1 := by
  simp [Around.under, Code.weight, Code.isCreation, Code.isGuard, Code.isCaller, Code.frames, Code.isFrame, guardIds]
theorem frames_tupU (A : Around) (args : Args) : (A.under (.builtin "tuple.__repr__.under" args)).frames = A.frames := by
  simp [Around.under, Code.envs, Code.isFrame, pushEnvs]
theorem SubG.tup {X : Cx} {n : Nat} {A : Around} {g : List Code} {c : Code} (s : SubG X (n + 1) A g) (hg : c.isGuard = true) (hd : (A.under c).depth = A.depth + 1) (hu : (A.under c).units = A.units + 1) (hf : (A.under c).frames = A.frames) (hh : (A.under c).handled = A.handled := by rfl) : SubG X n (A.under c) (c :: g) :=
  ⟨⟨hh.trans s.room.hd, by have := s.room.dp; rw [hd]; omega, by have := s.room.un; rw [hu]; omega⟩, hf.trans s.fr, guards_under_guard hg s.gs⟩
section
variable {X : Cx} {n : Nat} {as : List Addr} {a : Addr} {H0 H : Hp} {pins : List (Addr × Obj)} {σ : L2.St} {g : List Code} {A : Around}
theorem rp_fold (sg : SubG X n A g) (hcl : ∀ c ∈ as, Clear g c) (e0 : Ext H0 H) : ∀ (xs : List V) (us : List Value) (ts : List Str) (acc : Array Str) (m : Nat) (s : Shared) (H1 : Hp) (Q : (Array Str × Nat) → Shared → Prop), Vals xs us → Paired (fun x t => RpG X n as x t H0) xs ts → m + piled ts ≤ sizeLine → Inv X pins σ H1 s → Ext H H1 →
    (∀ s' H2, Inv X pins σ H2 s' → Ext H H2 → Q ⟨acc ++ ts.toArray, m + piled ts⟩ s') → wpAny (model X.prog X.w) A (forIn us (⟨acc, m⟩ : (Array Str × Nat)) tupBody) Q X.xe s := by
  intro xs
  induction xs with
  | nil =>
    intro us ts acc m s H1 Q r hT _ I e1 h
    cases r
    cases hT
    have h0 := h s H1 I e1
    simp only [List.forIn_nil]
    exact wpAny_pure (by simpa [piled] using h0)
  | cons x xs ih =>
    intro us ts acc m s H1 Q r hT hm I e1 h
    cases r with
    | cons rx rr =>
      cases hT with
      | cons hx hl =>
        rename_i u us' t ts'
        rw [piled_cons] at hm
        rw [List.forIn_cons]
        refine wpAny_bind (wpAny_bind (wpAny_mono (hx A g pins s σ H1 u (m + 1) sg hcl I (e0.trans e1) rx (by omega)) (fun q s' hq => ?_) fun _ _ z => z))
        obtain ⟨rfl, H2, I2, e2⟩ := hq
        refine wpAny_pure ?_
        refine ih us' ts' (acc.push q) (m + (q.length + 2)) _ H2 Q rr hl (by omega) I2 (e1.trans e2) fun s'' H3 I3 e3 => ?_
        have h1 := h s'' H3 I3 e3
        have e : m + piled (q :: ts') = m + (q.length + 2) + piled ts' := by rw [piled_cons]; omega
        rw [e] at h1
        simpa using h1
theorem rp_tupleAt {xs : List V} {ts : List Str} {s : Shared} {R : Result → Shared → Prop} {b : Nat} {id : String} {rest : List Value} (sg : SubG X n (A.under (.builtin id ⟨.ref a :: rest, []⟩)) (.builtin id ⟨.ref a :: rest, []⟩ :: g)) (hg : A.guards = some g) (hcl : ∀ c ∈ a :: as, Clear g c) (hna : a ∉ as) (hl : SqT X.K H0 a xs) (hT : Paired (fun x t => RpG X n as x t H0) xs ts) (hsz : b + (tupleText ts).length ≤ sizeLine)
    (hR : ∀ u s' H', Inv X pins σ H' s' → Ext H H' → R (.ok (.ret (.str (tupleText ts) u))) s') (hE : ∀ e s', X.xe e s' → R (.error e) s') (e0 : Ext H0 H) (I : Inv X pins σ H s) :
    wpOwn (model X.prog X.w) A (.builtin id ⟨.ref a :: rest, []⟩) (Builtin.tupleReprAt b ⟨[.ref a], []⟩) (fun fin s' => match fin with | .done f => R (.ok f) s' | .again c' => c'.quiet = true ∧ codeAny (model X.prog X.w) A c' R s') (fun e s' => R (.error e) s') s := by
  have hca : Clear g a := hcl a (.head _)
  obtain ⟨its, r, ⟨o, ho, hc, m, hd⟩, _⟩ := I.tuple (hl.ext e0)
  have lx : ts.length = xs.length := (pd_lenT hT).symm
  have li : its.toArray.size = ts.length := by rw [List.size_toArray, ← r.length, lx]
  have hp := piled_le_tupleText ts
  have hsz0 : (tupleText ts).length ≤ sizeLine := by omega
  rw [tuple_repr_tree, tupleReprUnderWay_eq]
  refine wpOwn_bind (wpOwn_stackTailAny hg (tupGuardF_off _) (tupGuardF_pos _) ?_)
  have hn : (g.any fun c => tupGuardF (.ref a) (c, default)) = false := by
    rw [List.any_eq_false]
    intro c hm
    rw [tupGuardF_of_clear hca c hm]
    exact Bool.false_ne_true
  rw [hn]
  refine wpOwn_of_wpAny ?_
  show wpAny _ _ (tupleReprRest b (.ref a)) _ _ s
  unfold tupleReprRest Builtin.Tuple.tupleItemsOf
  refine wpAny_bind (wpAny_bind (wpAny_seqItems ho hd (wpAny_pure ?_)))
  rw [← Array.forIn_toList]
  refine wpAny_bind (wpAny_mono (rp_fold sg (fun c hm => (hcl c (.tail _ hm)).cons (a := a) fun z => hna (z ▸ hm)) e0 xs its ts _ b s H (fun q s' => q = ⟨#[] ++ ts.toArray, b + piled ts⟩ ∧ ∃ H2, Inv X pins σ H2 s' ∧ Ext H H2) r hT (by omega) I Ext.rfl' fun s' H2 I2 e2 => ⟨rfl, H2, I2, e2⟩) (fun q s' hq => ?_) fun e s' z => hE e s' z)
  obtain ⟨rfl, H2, I2, e2⟩ := hq
  refine wpAny_bind (wpAny_mkStr (wpAny_pure ?_) (by simpa [tupleText, li] using hsz0))
  have h1 := hR s'.toks _ H2 (I2.tok (s'.toks + 1)) e2
  have et : ("(" : Str) ++ Str.join ", " ((#[] : Array Str) ++ ts.toArray).toList ++ ((if its.toArray.size == 1 then ",)" else ")" : String) : Str) = tupleText ts := by simp [tupleText, li]
  show R (.ok (.ret (.str (("(" : Str) ++ Str.join ", " ((#[] : Array Str) ++ ts.toArray).toList ++ ((if its.toArray.size == 1 then ",)" else ")" : String) : Str)) s'.toks))) _
  rw [et]
  exact h1
theorem rpG_tuple {xs : List V} {ts : List Str} (hna : a ∉ as) (hl : SqT X.K H0 a xs) (hT : Paired (fun x t => RpG X n as x t H0) xs ts) : RpG X (n + 1) (a :: as) (.ref a) (tupleText ts) H0 := by
  intro A g pins s σ H u b sg hcl I e0 rx hb
  cases (show u = Value.ref a from rx)
  obtain ⟨its, r, ⟨o, ho, hc, m, hd⟩, _⟩ := I.tuple (hl.ext e0)
  have hTy : s.TypeIs (.ref a) "tuple" := ⟨o, ho, hc⟩
  refine wpAny_pyReprUnder_ref (by omega) ?_
  refine wpAny_pyReprObjUnder_twin (twin := "tuple.__repr__.under") hTy F.slot_tuple_repr rfl sg.room.units0 ?_
  exact call_twin_own (F.quiet_tuple_repr_under _) F.entry_tuple_repr_under F.check_tuple_repr_under hTy F.slot_tuple_repr (F.args_tuple_repr_1 _)
    (rp_tupleAt (R := callEnd _ _) (sg.tup (isGuard_tuple_repr_under _) (depth_tupU _ _) (units_under_tuple_repr_under _ _) (frames_tupU _ _)) sg.gs hcl hna hl hT hb (fun u s' H' I' e' => ⟨⟨_, _, rfl⟩, _, _, rfl, rfl, H', I', e'⟩) (fun e s' z => z) e0 I)
/-- repr of a tuple -/
theorem call_reprT {hr : RoomG (n + 3) X.A} : CallR X (.builtin "repr") (fun vs H Q => ∃ (a : Addr) (xs : List V) (as : List Addr) (ts : List Str), vs = [.ref a] ∧ SqT X.K H a xs ∧ a ∉ as ∧ Paired (fun x t => RpG X n as x t H) xs ts ∧ (tupleText ts).length ≤ sizeLine ∧ ∀ H', Ext H H' → Q (.str (tupleText ts)) H') := by
  intro pins s σ H vs us Q I r h
  obtain ⟨a, xs, as, ts, rfl, hl, hna, hT, hz, q⟩ := h
  obtain ⟨u, rfl, ru⟩ := vals1 r
  cases (show u = Value.ref a from ru)
  obtain ⟨its, rv, ⟨o, ho, hc, m, hd⟩, _⟩ := I.tuple hl
  have hTy : s.TypeIs (.ref a) "tuple" := ⟨o, ho, hc⟩
  have hu : X.A.units + 1 < cLine := hr.room.in1.units0
  refine call_repr_slot hu hTy F.slot_tuple_repr ?_
  have sg : SubG X (n + 1) X.A.in1 [] := ⟨(hr.room.mono (by omega)).in1, rfl, hr.gs⟩
  exact wpAny_call (codeAny_call_builtin_own (Code.quiet_builtin _ (by decide +kernel)) F.entry_tuple_repr (F.slot_tuple_repr.check _ _ _ _ _ _ _ _ hTy (F.args_tuple_repr_1 _)
      (rp_tupleAt (b := 0) (R := callEnd _ _) (sg.tup (isGuard_tuple_repr _) (depth_tup _ _) (units_under_tuple_repr _ _) (frames_tup _ _)) sg.gs (fun c _ => Clear.nil c) hna hl hT (by omega) (fun u s' H' I' e' => ⟨_, _, rfl, .str (tupleText ts), H', I', ⟨_, rfl⟩, q H' e'⟩) (fun e s' z => z) Ext.rfl' I)))
end
end Mc

set_option Elab.async false
set_option linter.all false
set_option maxRecDepth 100000
set_option maxHeartbeats 4000000
/-! repr of whatever a law passes: numbers, texts, small dicts, lists and tuples, with objects of one's own in them -/
namespace Mc
open PySem PySem.Spec PyProof.Rows L2
/-- x is shown as t; O tells the objects of one's own -/
def It (K : PySem.W.Frag) (O : Hp → Addr → Str → Prop) (H : Hp) : Nat → List Addr → V → Str → Prop
  | 0, _, x, t => shOk x ∧ t = shT x
  | n + 1, as, x, t => (shOk x ∧ t = shT x) ∨ (∃ p, x = .ref p ∧ O H p t) ∨
      (∃ a as' xs ts, x = .ref a ∧ a ∈ as ∧ (∀ c ∈ as', c ∈ as) ∧ a ∉ as' ∧ SqL K H a xs ∧ Paired (It K O H n as') xs ts ∧ t = listText ts) ∨
      (∃ a as' xs ts, x = .ref a ∧ a ∈ as ∧ (∀ c ∈ as', c ∈ as) ∧ a ∉ as' ∧ SqT K H a xs ∧ Paired (It K O H n as') xs ts ∧ t = tupleText ts)
theorem pd_impT {α β : Type} {F G : α → β → Prop} (h : ∀ a b, F a b → G a b) : ∀ {l : List α} {m : List β}, Paired F l m → Paired G l m
  | _, _, .nil => .nil
  | _, _, .cons r t => .cons (h _ _ r) (pd_impT h t)
theorem It.ext {K : PySem.W.Frag} {O : Hp → Addr → Str → Prop} {H H' : Hp} (hO : ∀ p t, O H p t → O H' p t) (e : Ext H H') : ∀ {n : Nat} {as : List Addr} {x : V} {t : Str}, It K O H n as x t → It K O H' n as x t
  | 0, _, _, _, h => h
  | n + 1, as, x, t, h => by
    rcases h with h | ⟨p, e1, h⟩ | ⟨a, as', xs, ts, e1, m, s, na, hl, hp, et⟩ | ⟨a, as', xs, ts, e1, m, s, na, hl, hp, et⟩
    · exact .inl h
    · exact .inr (.inl ⟨p, e1, hO _ _ h⟩)
    · exact .inr (.inr (.inl ⟨a, as', xs, ts, e1, m, s, na, hl.ext e, pd_impT (fun _ _ w => It.ext hO e w) hp, et⟩))
    · exact .inr (.inr (.inr ⟨a, as', xs, ts, e1, m, s, na, hl.ext e, pd_impT (fun _ _ w => It.ext hO e w) hp, et⟩))
section
variable {X : Cx} {O : Hp → Addr → Str → Prop} {H H0 : Hp}
theorem It.rp {j : Nat} (hO : ∀ p t, O H p t → RpG X j [] (.ref p) t H) : ∀ {n : Nat} {as : List Addr} {x : V} {t : Str}, It X.K O H n as x t → RpG X (n + j) as x t H
  | 0, as, x, t, ⟨h, e⟩ => by
    rw [e]
    exact (rpG_flat h).mono (Nat.zero_le _) (fun _ z => nomatch z) Ext.rfl'
  | n + 1, as, x, t, h => by
    rcases h with ⟨h, e⟩ | ⟨p, e1, h⟩ | ⟨a, as', xs, ts, e1, m, s, na, hl, hp, et⟩ | ⟨a, as', xs, ts, e1, m, s, na, hl, hp, et⟩
    · rw [e]
      exact (rpG_flat h).mono (Nat.zero_le _) (fun _ z => nomatch z) Ext.rfl'
    · rw [e1]
      exact (hO _ _ h).mono (show j ≤ n + 1 + j by omega) (fun _ z => nomatch z) Ext.rfl'
    · rw [e1, et]
      have q : Paired (fun x t => RpG X (n + j) as' x t H) xs ts := pd_impT (fun _ _ w => It.rp hO w) hp
      refine (rpG_list na hl (pd_lenT q).symm fun i x hx => ?_).mono (show n + j + 1 ≤ n + 1 + j by omega) (fun c hc => ?_) Ext.rfl'
      · clear hl hp et
        induction q generalizing i with
        | nil => cases hx
        | cons r _ ih =>
          cases i with
          | zero => cases hx; exact ⟨_, rfl, r⟩
          | succ i => exact ih i hx
      · rcases List.mem_cons.mp hc with rfl | hc
        · exact m
        · exact s c hc
    · rw [e1, et]
      have q : Paired (fun x t => RpG X (n + j) as' x t H) xs ts := pd_impT (fun _ _ w => It.rp hO w) hp
      refine (rpG_tuple na hl q).mono (show n + j + 1 ≤ n + 1 + j by omega) (fun c hc => ?_) Ext.rfl'
      rcases List.mem_cons.mp hc with rfl | hc
      · exact m
      · exact s c hc
/-- repr of a number, a text, None, a bool -/
theorem call_reprI : CallR X (.builtin "repr") (fun vs H Q => ∃ x, vs = [x] ∧ shOk x ∧ ∀ H', Ext H H' → Q (.str (shT x)) H') := by
  intro pins s σ H vs us Q I r h
  obtain ⟨x, rfl, hs, q⟩ := h
  obtain ⟨u, rfl, ru⟩ := vals1 r
  cases x with
  | non =>
    cases ru
    exact PySem.P.repr_of_none ⟨.str _, H, I.tok _, ⟨_, rfl⟩, q H Ext.rfl'⟩
  | bl b =>
    cases ru
    refine PySem.P.repr_of_bool ⟨.str (shT (.bl b)), H, I.tok _, ⟨s.toks, ?_⟩, q H Ext.rfl'⟩
    cases b <;> rfl
  | int i =>
    obtain ⟨t, rfl⟩ := ru
    exact PySem.P.repr_of_int (big1920 hs) ⟨.str (shT (.int i)), H, I.tok _, ⟨_, rfl⟩, q H Ext.rfl'⟩
  | str y =>
    obtain ⟨t, rfl⟩ := ru
    exact PySem.P.repr_of_str ⟨.str (shT (.str y)), H, I.tok _, ⟨_, rfl⟩, q H Ext.rfl'⟩ (by rw [sizeLine_eq]; exact Nat.le_trans hs (by decide))
  | _ => exact hs.elim
theorem reads_ints {P : Program} {w : World} {h : Heap} : ∀ {kvs : List (Int × Int)} {vs : List (Key × Value)} {es : List DictEntry}, KV (kvs.map fun p => (Sum.inl p.1, V.int p.2)) vs → Pairs (mixKind P w) es vs → ReadsAll h (es.map (·.key)) (kvs.map fun p => PyData.int p.1) [] ∧ ReadsAll h (es.map (·.val)) (kvs.map fun p => PyData.int p.2) []
  | [], _, _, .nil, .nil => ⟨.nil, .nil⟩
  | p :: kvs, _, _, .cons r rr, .cons k v ps => by
    obtain ⟨i1, i2⟩ := reads_ints (h := h) rr ps
    obtain ⟨e1, e2⟩ := r
    rw [← e1] at k
    obtain ⟨t, ek⟩ := Value.isInt_shape (show Value.isInt p.1 _ = true from k)
    obtain ⟨u, ev⟩ := (show ∃ u, _ = Value.int p.2 u from e2)
    refine ⟨?_, ?_⟩
    · rw [List.map_cons, List.map_cons, ek]
      exact ReadsAll.cons (as := []) (bs := []) (Reads.int _ _) i1
    · rw [List.map_cons, List.map_cons, v, ev]
      exact ReadsAll.cons (as := []) (bs := []) (Reads.int _ _) i2
/-- a dict of ints -/
def dI (kvs : List (Int × Int)) : PyData := .dict (kvs.map fun p => (.int p.1, .int p.2))
theorem call_reprDI {k : Nat} (hr : RoomG k X.A) : CallR X (.builtin "repr") (fun vs H Q => ∃ (a : Addr) (kvs : List (Int × Int)), vs = [.ref a] ∧ H a = some (.dK (kvs.map fun p => (Sum.inl p.1, V.int p.2))) ∧ (dI kvs).showable = true ∧ (dI kvs).depth ≤ 64 ∧ (dI kvs).shown.length ≤ sizeLine ∧ ∀ H', Ext H H' → Q (.str (dI kvs).shown) H') := by
  intro pins s σ H vs us Q I r h
  obtain ⟨a, kvs, rfl, ha, hs, h64, hz, q⟩ := h
  obtain ⟨u, rfl, ru⟩ := vals1 r
  cases (show u = Value.ref a from ru)
  obtain ⟨_, hsys, vs, rel, o, es, ep, ho, hex, hd, hko, hpr, hnd⟩ := dk_of I.hok ha
  obtain ⟨r1, r2⟩ := reads_ints (h := s.heap) rel hpr
  have rr : Reads s.heap (.ref a) (dI kvs) [a] := by
    have := Reads.dict (kvs := kvs.map fun p => (PyData.int p.1, PyData.int p.2)) ho hex.1 hd (by rw [List.map_map]; exact r1) (by rw [List.map_map]; exact r2)
    exact this
  have un := hr.room.un
  refine repr_of_reads' rr hs (fun _ z => ?_) hr.gs (by omega) (fun _ _ e => e) (fun h2 u tk hk => ⟨.str (dI kvs).shown, H, I.kept hk, ⟨u, rfl⟩, q H Ext.rfl'⟩) hz
  rw [← List.mem_singleton.mp z] at hsys
  simp at hsys
end
end Mc

set_option Elab.async false
set_option linter.all false
set_option maxRecDepth 100000
set_option maxHeartbeats 4000000
set_option exponentiation.threshold 20000
namespace Mc
open PySem PySem.Spec PyProof.Rows L2 ClX StX
section
variable {P : Program} {w : World} {K : PySem.W.Frag} {mg : Str → Option Value} {base : Heap} {f R0 C0 aX : Addr} {mc : Value} {fd : FuncData}
def rCatU (K : PySem.W.Frag) : R2 := fun x y H Q => ∃ a b xs ys, x = .ref a ∧ y = .ref b ∧ SqT K H a xs ∧ SqT K H b ys ∧ xs.length + ys.length ≤ sizeLine ∧ ∀ p H', Ext H H' → SqT K H' p (xs ++ ys) → Q (.ref p) H'
theorem op_catU {X : Cx} {K : PySem.W.Frag} (hK : X.K = K) : OpR X (binaryOp .Add) (rCatU K) := by
  subst hK
  intro pins s σ H x y v u Q I rx ry h
  obtain ⟨a, b, xs, ys, rfl, rfl, ha, hb, hz, q⟩ := h
  refine op_catA pins s σ H _ _ v u Q I rx ry ⟨a, b, xs, ys, rfl, rfl, ha, hb, hz, fun e => q b H Ext.rfl' (by rw [e]; exact hb), fun _ e => q a H Ext.rfl' (by rw [e, List.append_nil]; exact ha), fun _ _ p hp => q p _ (Ext.upd hp) (SqT.of upd_same)⟩
/-- a sign of any kind: o tells the INTEGER that it is, if it is one -/
def ElK (K : PySem.W.Frag) (H : Hp) (x : V) (o : Option Int) : Prop := (∃ n, x = .int n ∧ o = some n) ∨ (o = none ∧ ∃ t, TyX K H x t ∧ (PySem.W.kitOne K t (.type "int") = some false ∨ (PySem.W.kitOne K t (.type "int") = some true ∧ PySem.W.kitOne K t (.type "bool") = some true)))
theorem tyof_ext {K : PySem.W.Frag} {H H' : Hp} {x : V} {t : Value} (h : TyOf K H x t) (e : Ext H H') : TyOf K H' x t := by
  cases h with
  | non => exact .non
  | bl b => exact .bl b
  | int i => exact .int i
  | str s => exact .str s
  | flt x => exact .flt x
  | lst h => exact .lst (e _ _ h)
  | tup h => exact .tup (e _ _ h)
  | frz h => exact .frz (e _ _ h)
  | dK h => exact .dK (e _ _ h)
  | dT h => exact .dT (e _ _ h)
  | ins h c a b d f => exact .ins (e _ _ h) c a b d f
theorem tyx_ext {K : PySem.W.Frag} {H H' : Hp} {x : V} {t : Value} (h : TyX K H x t) (e : Ext H H') : TyX K H' x t := by
  cases h with
  | base h => exact .base (tyof_ext h e)
  | byt b => exact .byt b
  | set h => exact .set (e _ _ h)
  | kList h c => exact .kList h c
  | kTuple h c => exact .kTuple h c
  | kDict h c => exact .kDict h c
  | fTuple h => exact .fTuple (e _ _ h)
  | fDict h => exact .fDict (e _ _ h)
theorem ElK.ext {K : PySem.W.Frag} {H H' : Hp} {x : V} {o : Option Int} (h : ElK K H x o) (e : Ext H H') : ElK K H' x o := by
  rcases h with h | ⟨h, t, ty, q⟩
  · exact .inl h
  · exact .inr ⟨h, t, tyx_ext ty e, q⟩
/-- a value of any kind: a tuple of signs, or none -/
def ThK (K : PySem.W.Frag) (H : Hp) (x : V) (os : Option (List (Option Int))) : Prop := (os = none ∧ ∃ t, TyX K H x t ∧ PySem.W.kitOne K t (.type "tuple") = some false) ∨ (∃ a xs os', x = .ref a ∧ os = some os' ∧ SqT K H a xs ∧ Paired (ElK K H) xs os' ∧ xs.length ≤ 1000)
theorem ThK.ext {K : PySem.W.Frag} {H H' : Hp} {x : V} {os : Option (List (Option Int))} (h : ThK K H x os) (e : Ext H H') : ThK K H' x os := by
  rcases h with ⟨h, t, ty, q⟩ | ⟨a, xs, os', e1, e2, hl, hp, z⟩
  · exact .inl ⟨h, t, tyx_ext ty e, q⟩
  · exact .inr ⟨a, xs, os', e1, e2, hl.ext e, pd_imp (fun _ _ w => ElK.ext w e) hp, z⟩
def cntB (o : Option Int) : Bool := match o with
  | some n => decide (n ≥ 0)
  | none => false
def belB (o : Option Int) (b : Int) : Bool := match o with
  | some n => decide (n ≥ 0) && decide (n < b)
  | none => false
/-- which of the first i signs are right -/
def nmL (rs : List (List Cut)) (os : List (Option Int)) (i : Nat) : List Bool := (List.range i).map fun j => belB (os.getD j none) (sgF rs j)
def nmB (rs : List (List Cut)) : Option (List (Option Int)) → Bool
  | none => false
  | some os => (nmL rs os os.length).all id
theorem nmL_len (rs : List (List Cut)) (os : List (Option Int)) (i : Nat) : (nmL rs os i).length = i := by unfold nmL; rw [List.length_map, List.length_range]
theorem nmL_succ {rs : List (List Cut)} {os : List (Option Int)} {i : Nat} {o : Option Int} (h : os[i]? = some o) : nmL rs os (i + 1) = nmL rs os i ++ [belB o (sgF rs i)] := by
  unfold nmL
  rw [List.range_succ, List.map_append, List.map_cons, List.map_nil, List.getD_eq_getElem?_getD, h]
  rfl
theorem pd_get1 {α β : Type} {F : α → β → Prop} : ∀ {l : List α} {m : List β}, Paired F l m → ∀ {i : Nat} {x : α}, l[i]? = some x → ∃ y, m[i]? = some y ∧ F x y
  | _, _, .nil, _, _, h => nomatch h
  | _, _, .cons r t, 0, x, h => by cases h; exact ⟨_, rfl, r⟩
  | _, _, .cons r t, i + 1, x, h => pd_get1 t (i := i) h
def spIntE (K : PySem.W.Frag) : Sp := fun vs H Q _ => ∃ (x : V) (o : Option Int), vs = [x] ∧ ElK K H x o ∧ Q (.bl o.isSome) H
def spCountE (K : PySem.W.Frag) : Sp := fun vs H Q _ => ∃ (x : V) (o : Option Int), vs = [x] ∧ ElK K H x o ∧ Q (.bl (cntB o)) H
def spBelowE (K : PySem.W.Frag) : Sp := fun vs H Q _ => ∃ (x : V) (o : Option Int) (b : Int), vs = [x, .int b] ∧ ElK K H x o ∧ Q (.bl (belB o b)) H
def spIsNameE (K : PySem.W.Frag) (C0 : Addr) : Sp := fun vs H Q _ => ∃ (p : Addr) (rs : List (List Cut)) (x : V) (os : Option (List (Option Int))), vs = [.ref p, x] ∧ PlanAt C0 H p rs ∧ OkR rs ∧ ThK K H x os ∧ ∀ H', Ext H H' → Q (.bl (nmB rs os)) H'
theorem ok_is_intE (F : FunD K "is_int" "is_int" (defArgs s_is_int) (defBody s_is_int) (defScope s_is_int) [] [] f fd) (T : TB mg) : FnOk P w K mg base CX0 1 f fd ["value"] (spIntE K) := by
  refine F.ok sc_is_int (fun vs H Q E h => ?_) (fun cdv A outer s H vs Q E hr h => ?_)
  · obtain ⟨x, o, rfl, hx, k⟩ := h
    rfl
  · obtain ⟨x, o, rfl, hx, k⟩ := h
    refine ⟨_, (PSs.nox (pss_one (ps_ret (pe_and (pe_callB call_isi (by rfl) T.isinstance (by decide +kernel) (pa_cons (pv 0) (pa_cons (pe_bltn (v := .ty "int") (by rfl) T.int (by decide +kernel) rfl) pa_nil))) (pe_one (pe_not (pe_callB call_isi (by rfl) T.isinstance (by decide +kernel) (pa_cons (pv 0) (pa_cons (pe_bltn (v := .ty "bool") (by rfl) T.bool (by decide +kernel) rfl) pa_nil))))))))), ?_⟩
    rcases hx with ⟨n, rfl, rfl⟩ | ⟨rfl, t, ty, h | ⟨h, h2⟩⟩
    · refine ⟨_, rfl, .int n, _, _, _, true, rfl, .ty "int", .base (.int n), kit_ty (by decide +kernel), true, rfl, iteT ?_⟩
      exact ⟨_, rfl, .int n, _, _, _, false, rfl, .ty "bool", .base (.int n), kit_ty (by decide +kernel), false, rfl, k⟩
    · exact ⟨_, rfl, x, _, _, _, false, rfl, .ty "int", ty, h, false, rfl, iteF k⟩
    · refine ⟨_, rfl, x, _, _, _, true, rfl, .ty "int", ty, h, true, rfl, iteT ?_⟩
      exact ⟨_, rfl, x, _, _, _, true, rfl, .ty "bool", ty, h2, true, rfl, k⟩
theorem ok_is_countE (F : FunD K "is_count" "is_count" (defArgs s_is_count) (defBody s_is_count) (defScope s_is_count) [] [] f fd) (T : TB mg) {fis_intE : Addr} {fdis_intE : FuncData} (Dis_intE : Gd P w K mg base "is_int" 1 ["value"] (spIntE K) fis_intE fdis_intE) : FnOk P w K mg base CX0 2 f fd ["value"] (spCountE K) := by
  refine F.ok sc_is_count (fun vs H Q E h => ?_) (fun cdv A outer s H vs Q E hr h => ?_)
  · obtain ⟨x, o, rfl, hx, k⟩ := h
    rfl
  · obtain ⟨x, o, rfl, hx, k⟩ := h
    refine ⟨_, (PSs.nox (pss_one (ps_ret (pe_and (pe_gd Dis_intE hr (by decide) (by rfl) (pa_cons (pv 0) pa_nil)) (pe_one (pe_cmpR op_ge (pv 0) pe_int (nomark _))))))), ?_⟩
    refine ⟨_, rfl, x, o, rfl, hx, ?_⟩
    rcases hx with ⟨n, rfl, rfl⟩ | ⟨rfl, hx⟩
    · refine ⟨_, rfl, iteT ⟨_, rfl, _, _, rfl, rfl, ?_⟩⟩
      exact k
    · exact ⟨_, rfl, iteF k⟩
theorem ok_is_count_belowE (F : FunD K "is_count_below" "is_count_below" (defArgs s_is_count_below) (defBody s_is_count_below) (defScope s_is_count_below) [] [] f fd) (T : TB mg) {fis_countE : Addr} {fdis_countE : FuncData} (Dis_countE : Gd P w K mg base "is_count" 2 ["value"] (spCountE K) fis_countE fdis_countE) : FnOk P w K mg base CX0 3 f fd ["value", "bound"] (spBelowE K) := by
  refine F.ok sc_is_count_below (fun vs H Q E h => ?_) (fun cdv A outer s H vs Q E hr h => ?_)
  · obtain ⟨x, o, b, rfl, hx, k⟩ := h
    rfl
  · obtain ⟨x, o, b, rfl, hx, k⟩ := h
    refine ⟨_, (PSs.nox (pss_one (ps_ret (pe_and (pe_gd Dis_countE hr (by decide) (by rfl) (pa_cons (pv 0) pa_nil)) (pe_one (pe_cmpR op_lt (pv 0) (pv 1) (nomark _))))))), ?_⟩
    refine ⟨_, rfl, x, o, rfl, hx, ?_⟩
    rcases hx with ⟨n, rfl, rfl⟩ | ⟨rfl, hx⟩
    · refine ⟨_, rfl, ite2 (fun hz => ?_) (fun hz => ?_)⟩
      · refine ⟨_, rfl, _, rfl, _, _, rfl, rfl, ?_⟩
        have k : Q (.bl (decide (n ≥ 0) && decide (n < b))) H := k
        rw [show decide (n ≥ 0) = true from hz, Bool.true_and] at k
        exact k
      · have k : Q (.bl (decide (n ≥ 0) && decide (n < b))) H := k
        have e : decide (n ≥ 0) = false := by cases h : decide (n ≥ 0) with | false => rfl | true => exact absurd h hz
        rw [e, Bool.false_and] at k
        exact k
    · exact ⟨_, rfl, iteF k⟩
theorem ok_is_nameE (F : FunD K "is_name" "is_name" (defArgs s_is_name) (defBody s_is_name) (defScope s_is_name) [] [] f fd) (T : TB mg) {fcheck_plan : Addr} {fdcheck_plan : FuncData} (Dcheck_plan : Gd P w K mg base "check_plan" 1 ["plan"] (spChkPlan C0) fcheck_plan fdcheck_plan) {fis_count_belowE : Addr} {fdis_count_belowE : FuncData} (Dis_count_belowE : Gd P w K mg base "is_count_below" 3 ["value", "bound"] (spBelowE K) fis_count_belowE fdis_count_belowE) {fsigns_at : Addr} {fdsigns_at : FuncData} (Dsigns_at : Gd P w K mg base "signs_at" 6 ["plan", "at"] (spSignsAt C0) fsigns_at fdsigns_at) : FnOk P w K mg base CX0 7 f fd ["plan", "value"] (spIsNameE K C0) := by
  refine F.ok sc_is_name (fun vs H Q E h => ?_) (fun cdv A outer s H vs Q E hr h => ?_)
  · obtain ⟨p, rs, x, os, rfl, hp, ok, hx, k⟩ := h
    rfl
  · obtain ⟨p, rs, x, os, rfl, hp, ok, hx, k⟩ := h
    refine ⟨_, (PSs.nox (pss_cons (ps_expr (pe_gd Dcheck_plan hr (by decide) (by rfl) (pa_cons (pv 0) pa_nil)))
      (pss_cons (ps_if (pt_not (pt_val (pe_callB call_isi (by rfl) T.isinstance (by decide +kernel) (pa_cons (pv 1) (pa_cons (pe_bltn (v := .ty "tuple") (by rfl) T.tuple (by decide +kernel) rfl) pa_nil))))) (pss_one (ps_ret pe_bl)) pss_nil)
      (pss_one (ps_ret (pe_callB (cr_all rfl) (by rfl) T.all (by decide +kernel) (pa_cons (pe_lc (own := [("at", 2), ("sign", 3)]) (g := gTup K 2 (gCons (gName 2) (gCons (gName 3) gNil))) (tt := tYes) rfl sc_is_name.nd (pi_enumT (by rfl) T.enumerate (pa_cons (pv 1) pa_nil)) (blkOk_by (own := [("at", 2), ("sign", 3)]) (N := ["plan", "value", "at", "sign"]) (sc := defScope s_is_name) (by decide +kernel)) (fun _ _ _ _ _ => (pg_tup rfl (pgs_cons (pg_name (i := 2) sc_is_name.nd rfl (.inl rfl)) (pgs_cons (pg_name (i := 3) sc_is_name.nd rfl (.inl rfl)) pgs_nil)))) (fun _ _ _ _ _ => pts_nil) (fun _ _ _ _ _ => (pe_gd Dis_count_belowE hr (by decide) (by rfl) (pa_cons (pv 3) (pa_cons (pe_gd Dsigns_at hr (by decide) (by rfl) (pa_cons (pv 0) (pa_cons (pv 2) pa_nil))) pa_nil))))) pa_nil))))))), ?_⟩
    refine ⟨_, rfl, p, rs, rfl, hp, ?_⟩
    rcases hx with ⟨rfl, t, ty, h⟩ | ⟨a, xs, os', rfl, rfl, ha, pos, hz⟩
    · exact ⟨_, rfl, x, _, _, _, false, rfl, .ty "tuple", ty, h, _, rfl, iteT (k H Ext.rfl')⟩
    refine ⟨_, rfl, .ref a, _, _, _, true, rfl, .ty "tuple", tyx_tup ha, kit_ty (by decide +kernel), _, rfl, iteF ?_⟩
    refine ⟨_, rfl, a, _, rfl, ha, fun D hD => lc_enumT (fun i H' => H' D = some (.lst ((nmL rs os' i).map V.bl)) ∧ Ext H H') ⟨upd_same, Ext.upd hD⟩ (fun _ _ q => ha.ext q.2) ?_ ?_⟩
    · rintro i x T2 H' hx hT ⟨hD', e⟩
      obtain ⟨o, ho, hel⟩ := pd_get1 pos hx
      have eT : Ext H' (upd H' T2 (.tup [.int (i : Nat), x])) := Ext.upd hT
      have hi := (List.getElem?_eq_some_iff.mp hx).1
      refine ⟨T2, _, rfl, SqT.of upd_same, rfl, _, _, rfl, _, _, rfl, rfl, rfl, lc_yes ⟨_, rfl, _, rfl, _, rfl, p, rs, i, rfl, hp.ext (e.trans eT), ok.l1, ok.l3, ?_⟩⟩
      refine ⟨x, o, (sgF rs i : Int), rfl, hel.ext (e.trans eT), ?_⟩
      refine ⟨_, eT _ _ hD', ?_, ?_, ext_put (e.trans eT) hD⟩
      · rw [List.length_map, nmL_len, sizeLine_eq]
        omega
      · rw [upd_same, nmL_succ ho, List.map_append]
        rfl
    · rintro H' ⟨hD', e⟩
      refine ⟨D, nmL rs os' xs.length, rfl, SqL.of hD', ?_⟩
      rw [pd_lenT pos]
      exact k H' e
theorem sc_children : FnScope ["plan", "name", "sign"] ["plan", "name"] (defScope s_children) := ⟨rfl, rfl, rfl, by decide +kernel, rfl, by decide +kernel, by decide +kernel⟩
theorem sqT_put {K : PySem.W.Frag} {H : Hp} {a D : Addr} {xs ys : List V} {o : HO} (h : SqT K H a xs) (hD : H D = some (.lst ys)) : SqT K (upd H D o) a xs := by
  rcases h with (h | ⟨u, h⟩) | h
  · exact .inl (.inl (by rw [upd_ne (fun z => by rw [z, hD] at h; cases h)]; exact h))
  · exact .inl (.inr ⟨u, by rw [upd_ne (fun z => by rw [z, hD] at h; cases h)]; exact h⟩)
  · exact .inr h
def spChildren (K : PySem.W.Frag) (C0 : Addr) : Sp := fun vs H Q _ => ∃ (p : Addr) (rs : List (List Cut)) (a : Addr) (zs : List Nat), vs = [.ref p, .ref a] ∧ PlanAt C0 H p rs ∧ OkR rs ∧ SqT K H a (zs.map fun z : Nat => V.int z) ∧ NameOk rs zs ∧ zs.length ≤ 900 ∧ ∀ l H', Ext H H' → (∃ cs : List Addr, H' l = some (.lst (cs.map V.ref)) ∧ cs.length ≤ 32 ∧ ∀ c ∈ cs, ∃ s : Nat, s < 32 ∧ SqT K H' c ((zs ++ [s]).map fun z : Nat => V.int z)) → Q (.ref l) H'
theorem ok_children (F : FunD K "children" "children" (defArgs s_children) (defBody s_children) (defScope s_children) [] [] f fd) (T : TB mg) {fcheck_plan : Addr} {fdcheck_plan : FuncData} (Dcheck_plan : Gd P w K mg base "check_plan" 1 ["plan"] (spChkPlan C0) fcheck_plan fdcheck_plan) {fcheck_name : Addr} {fdcheck_name : FuncData} (Dcheck_name : Gd P w K mg base "check_name" 8 ["plan", "name"] (spChkName K C0) fcheck_name fdcheck_name) {fsigns_at : Addr} {fdsigns_at : FuncData} (Dsigns_at : Gd P w K mg base "signs_at" 6 ["plan", "at"] (spSignsAt C0) fsigns_at fdsigns_at) : FnOk P w K mg base CX0 9 f fd ["plan", "name"] (spChildren K C0) := by
  refine F.ok sc_children (fun vs H Q E h => ?_) (fun cdv A outer s H vs Q E hr h => ?_)
  · obtain ⟨p, rs, a, zs, rfl, hp, ok, ha, nm, hz, k⟩ := h
    rfl
  · obtain ⟨p, rs, a, zs, rfl, hp, ok, ha, nm, hz, k⟩ := h
    refine ⟨_, (PSs.nox (pss_cons (ps_expr (pe_gd Dcheck_plan hr (by decide) (by rfl) (pa_cons (pv 0) pa_nil)))
      (pss_cons (ps_expr (pe_gd Dcheck_name hr (by decide) (by rfl) (pa_cons (pv 0) (pa_cons (pv 1) pa_nil))))
      (pss_one (ps_ret (pe_lc (own := [("sign", 2)]) (g := gName 2) (tt := tYes) rfl sc_children.nd (pi_range1 (by rfl) T.range (pa_cons (pe_gd Dsigns_at hr (by decide) (by rfl) (pa_cons (pv 0) (pa_cons (pe_callB call_len_seq (by rfl) T.len PySem.boot_len (pa_cons (pv 1) pa_nil)) pa_nil))) pa_nil)) (blkOk_by (own := [("sign", 2)]) (N := ["plan", "name", "sign"]) (sc := defScope s_children) (by decide +kernel)) (fun _ _ _ _ _ => (pg_name (i := 2) sc_children.nd rfl (.inl rfl))) (fun _ _ _ _ _ => pts_nil) (fun _ _ _ _ _ => (pe_op (op_catU (K := K) rfl) (pv 1) (pe_tup (pa_cons (pv 2) pa_nil)))))))))), ?_⟩
    refine ⟨_, rfl, p, rs, rfl, hp, _, rfl, _, rfl, p, rs, a, zs, rfl, hp, ok, ha, nm, by omega, fun H1 e1 => ?_⟩
    have lz : (zs.map fun z : Nat => V.int z).length = zs.length := List.length_map ..
    refine ⟨_, rfl, _, rfl, a, _, rfl, .inr (ha.ext e1), p, rs, (zs.map fun z : Nat => V.int z).length, rfl, hp.ext e1, ok.l1, ok.l3, ?_⟩
    rw [lz]
    have s32 : sgF rs zs.length ≤ 32 := by
      show (placesF (csA rs zs.length)).length ≤ 32
      rw [placesF_length]
      exact ok.h32 _ (csA_mem ok.l1 _)
    refine ⟨((sgF rs zs.length : Nat) : Int), rfl, by omega, by omega, fun D hD => lc_walk (walk_r (lo := 0)) (fun i H' => (∃ cs : List Addr, H' D = some (.lst (cs.map V.ref)) ∧ cs.length = i ∧ ∀ c ∈ cs, ∃ s : Nat, s < 32 ∧ SqT K H' c ((zs ++ [s]).map fun z : Nat => V.int z)) ∧ Ext H1 H') ⟨⟨[], upd_same, rfl, fun _ z => nomatch z⟩, Ext.upd hD⟩ (fun _ _ _ => trivial) ?_ ?_⟩
    · rintro i y H2 hy ⟨⟨cs, h1, h2, h3⟩, e2⟩
      obtain ⟨hi, rfl⟩ := range_get hy
      have hi : i < sgF rs zs.length := by simpa using hi
      refine ⟨rfl, lc_yes ⟨_, rfl, _, rfl, (by show 1 ≤ sizeLine; decide), fun t1 ht1 => ?_⟩⟩
      have et := Ext.upd (o := .tup [.int (i : Nat)]) ht1
      refine ⟨a, t1, _, [.int (i : Nat)], rfl, rfl, ((ha.ext e1).ext e2).ext et, SqT.of upd_same, by rw [lz, sizeLine_eq]; show zs.length + 1 ≤ _; omega, fun q H3 e3 hq => ?_⟩
      have h13 := e3 _ _ (et _ _ h1)
      refine ⟨_, h13, by rw [List.length_map, h2, sizeLine_eq]; omega, ⟨cs ++ [q], by rw [upd_same, List.map_append]; rfl, by rw [List.length_append, h2]; rfl, fun c hc => ?_⟩, ext_put ((e2.trans et).trans e3) hD⟩
      rcases List.mem_append.mp hc with hc | hc
      · obtain ⟨s, s1, s2⟩ := h3 c hc
        exact ⟨s, s1, sqT_put ((s2.ext et).ext e3) h13⟩
      · refine ⟨i, by omega, ?_⟩
        rw [List.mem_singleton.mp hc, List.map_append]
        exact sqT_put hq h13
    rintro H2 ⟨⟨cs, h1, h2, h3⟩, e2⟩
    refine k D H2 (e1.trans e2) ⟨cs, h1, ?_, h3⟩
    rw [h2]
    simp
    omega
theorem sc_Ratio___repr : FnScope ["self"] ["self"] (defScope s_Ratio___repr) := ⟨rfl, rfl, rfl, by decide +kernel, rfl, by decide +kernel, by decide +kernel⟩
def spReprRa (R0 : Addr) : Sp := fun vs H Q _ => ∃ (p : Addr) (n d : Int), vs = [.ref p] ∧ RatAt R0 H p n d ∧ n.natAbs < 2 ^ 1900 ∧ d.natAbs < 2 ^ 1900 ∧ Q (.str (repR n d)) H
theorem ok_Ratio___repr (F : FunD K "__repr__" "Ratio.__repr__" (defArgs s_Ratio___repr) (defBody s_Ratio___repr) (defScope s_Ratio___repr) [] [] f fd) (T : TB mg) (RQ : RatT K mg R0) : FnOk P w K mg base CX0 1 f fd ["self"] (spReprRa R0) := by
  refine F.ok sc_Ratio___repr (fun vs H Q E h => ?_) (fun cdv A outer s H vs Q E hr h => ?_)
  · obtain ⟨p, n, d, rfl, ⟨dx, hp⟩, hn, hd, k⟩ := h
    rfl
  · obtain ⟨p, n, d, rfl, ⟨dx, hp⟩, hn, hd, k⟩ := h
    refine ⟨_, (PSs.nox (pss_one (ps_ret (pe_joined (PJ.cons pe_str (PJ.cons (pe_fmt (pe_fld (pv 0) rfl)) (PJ.cons pe_str (PJ.cons (pe_fmt (pe_fld (pv 0) rfl)) (PJ.cons pe_str PJ.nil))))))))), ?_⟩
    have l1 := stI_len hn
    have l2 := stI_len hd
    have c0 : (Str.empty : Str).length = 0 := rfl
    have c1 : (Str.ofString "Ratio(").length = 6 := rfl
    have c2 : (Str.ofString ", ").length = 2 := rfl
    have c3 : (Str.ofString ")").length = 1 := rfl
    refine ⟨_, rfl, ?_, _, rfl, p, R0, dx, _, _, rfl, hp, RQ.cl, RQ.nT, fl_top _ _, .inr ⟨n, rfl, log1920 hn, _, rfl, ?_, _, rfl, ?_, ?_⟩⟩
    · show (Str.empty ++ Str.ofString "Ratio(").length ≤ sizeLine
      rw [Str.length_append, sizeLine_eq]
      omega
    · show (Str.empty ++ Str.ofString "Ratio(" ++ stI n).length ≤ sizeLine
      rw [Str.length_append, Str.length_append, sizeLine_eq]
      omega
    · show (Str.empty ++ Str.ofString "Ratio(" ++ stI n ++ Str.ofString ", ").length ≤ sizeLine
      rw [Str.length_append, Str.length_append, Str.length_append, sizeLine_eq]
      omega
    · refine ⟨_, rfl, p, R0, dx, _, _, rfl, hp, RQ.cl, RQ.nB, fl_bottom _ _, .inr ⟨d, rfl, log1920 hd, _, rfl, ?_, _, rfl, ?_, k⟩⟩
      · show (Str.empty ++ Str.ofString "Ratio(" ++ stI n ++ Str.ofString ", " ++ stI d).length ≤ sizeLine
        rw [Str.length_append, Str.length_append, Str.length_append, Str.length_append, sizeLine_eq]
        omega
      · show (Str.empty ++ Str.ofString "Ratio(" ++ stI n ++ Str.ofString ", " ++ stI d ++ Str.ofString ")").length ≤ sizeLine
        rw [Str.length_append, Str.length_append, Str.length_append, Str.length_append, Str.length_append, sizeLine_eq]
        omega
end
end Mc

set_option Elab.async false
set_option linter.all false
set_option maxRecDepth 100000
set_option maxHeartbeats 4000000
set_option exponentiation.threshold 20000
namespace Mc
open PySem PySem.Spec PyProof.Rows L2 ClX StX
section
variable {P : Program} {w : World} {K : PySem.W.Frag} {mg : Str → Option Value} {base : Heap} {f R0 C0 aX : Addr} {mc : Value} {fd : FuncData}
theorem sc_is_right : FnScope ["_law_rounds_here", "_law_some", "_law_k", "_law_glyph"] ["_law_rounds_here", "_law_some"] (defScope s_is_right) := ⟨rfl, rfl, rfl, by decide +kernel, rfl, by decide +kernel, by decide +kernel⟩
def rCatW (K : PySem.W.Frag) : R2 := fun x y H Q => ∃ a b xs ys, x = .ref a ∧ y = .ref b ∧ SqT K H a xs ∧ SqT K H b ys ∧ xs.length + ys.length ≤ sizeLine ∧ ∀ p H', Ext H H' → SqT K H' p (xs ++ ys) → ((p = a ∧ ys = []) ∨ (p = b ∧ xs = []) ∨ (H p = none ∧ H' p = some (.tup (xs ++ ys)))) → Q (.ref p) H'
theorem op_catW {X : Cx} {K : PySem.W.Frag} (hK : X.K = K) : OpR X (binaryOp .Add) (rCatW K) := by
  subst hK
  intro pins s σ H x y v u Q I rx ry h
  obtain ⟨a, b, xs, ys, rfl, rfl, ha, hb, hz, q⟩ := h
  exact op_catA pins s σ H _ _ v u Q I rx ry ⟨a, b, xs, ys, rfl, rfl, ha, hb, hz, fun e => q b H Ext.rfl' (by rw [e]; exact hb) (.inr (.inl ⟨rfl, e⟩)), fun _ e => q a H Ext.rfl' (by rw [e, List.append_nil]; exact ha) (.inl ⟨rfl, e⟩), fun _ _ p hp => q p _ (Ext.upd hp) (SqT.of upd_same) (.inr (.inr ⟨hp, upd_same⟩))⟩
theorem op_eqT0 {X : Cx} {K : PySem.W.Frag} (hK : X.K = K) (hu : X.A.units + 64 < cLine) : OpR X (compareOp .Eq) (fun x y H Q => ∃ a b xs, x = .ref a ∧ y = .ref b ∧ SqT K H a xs ∧ SqT K H b [] ∧ Q (.bl xs.isEmpty) H) := by
  subst hK
  intro pins s σ H x y v u Q I rx ry h
  obtain ⟨a, b, xs, rfl, rfl, ha, hb, q⟩ := h
  cases (show v = Value.ref a from rx)
  cases (show u = Value.ref b from ry)
  obtain ⟨its, rv, ta, _⟩ := I.tuple ha
  obtain ⟨its2, rv2, tb, _⟩ := I.tuple hb
  cases rv2
  have e : ((List.range (min its.toArray.size ([] : List Value).toArray.size)).all (fun _ => true) && its.toArray.size == ([] : List Value).toArray.size) = xs.isEmpty := by
    cases rv <;> simp
  have q2 : EP X pins σ Q (.bool ((List.range (min its.toArray.size ([] : List Value).toArray.size)).all (fun _ => true) && its.toArray.size == ([] : List Value).toArray.size)) s := by
    rw [e]
    exact ⟨.bl _, H, I, rfl, q⟩
  exact PySem.SeqAt.RcAt.tuples (e := fun _ => true) ta tb (by omega) (fun j h1 h2 => absurd h2 (by simp)) _ _ _ _ q2
def spIsRight (K : PySem.W.Frag) : Sp := fun vs H Q _ => ∃ (l : Addr) (x : V) (rs : List (List Cut)) (os : Option (List (Option Int))), vs = [.ref l, x] ∧ RndL H l rs ∧ OkR rs ∧ ThK K H x os ∧ ∀ H', Ext H H' → Q (.bl (nmB rs os)) H'
theorem nmB_false {rs : List (List Cut)} {os : List (Option Int)} {i : Nat} {o : Option Int} (h : os[i]? = some o) (b : belB o (sgF rs i) = false) : nmB rs (some os) = false := by
  unfold nmB nmL
  rw [List.all_eq_false]
  refine ⟨belB (os.getD i none) (sgF rs i), List.mem_map.mpr ⟨i, List.mem_range.mpr (List.getElem?_eq_some_iff.mp h).1, rfl⟩, ?_⟩
  rw [List.getD_eq_getElem?_getD, h]
  show ¬ id (belB o (sgF rs i)) = true
  rw [b]
  decide
theorem nmB_true {rs : List (List Cut)} {os : List (Option Int)} (h : ∀ i o, os[i]? = some o → belB o (sgF rs i) = true) : nmB rs (some os) = true := by
  unfold nmB nmL
  rw [List.all_eq_true]
  intro b hb
  obtain ⟨i, hi, rfl⟩ := List.mem_map.mp hb
  have hi := List.mem_range.mp hi
  have := h i _ (List.getElem?_eq_getElem hi)
  rw [List.getD_eq_getElem?_getD, List.getElem?_eq_getElem hi]
  exact this
theorem ok_is_right (F : FunD K "_law_is_right" "_law_is_right" (defArgs s_is_right) (defBody s_is_right) (defScope s_is_right) [] [] f fd) (T : TB mg) {fsize : Addr} {fdsize : FuncData} (Dsize : Gd P w K mg base "_law_size" 1 ["_law_cuts"] (spSize) fsize fdsize) : FnOk P w K mg base CX0 2 f fd ["_law_rounds_here", "_law_some"] (spIsRight K) := by
  refine F.ok sc_is_right (fun vs H Q E h => ?_) (fun cdv A outer s H vs Q E hr h => ?_)
  · obtain ⟨l, x, rs, os, rfl, hl, ok, hx, k⟩ := h
    rfl
  · obtain ⟨l, x, rs, os, rfl, hl, ok, hx, k⟩ := h
    refine ⟨_, (PSs.nox (pss_cons (ps_if (pt_not (pt_val (pe_callB call_isi (by rfl) T.isinstance (by decide +kernel) (pa_cons (pv 1) (pa_cons (pe_bltn (v := .ty "tuple") (by rfl) T.tuple (by decide +kernel) rfl) pa_nil))))) (pss_one (ps_ret pe_bl)) pss_nil)
      (pss_cons (ps_for PassesOwn.never rfl (pi_enumT (by rfl) T.enumerate (pa_cons (pv 1) pa_nil)) (pg_tup rfl (pgs_cons (pg_name (i := 2) sc_is_right.nd rfl (.inl rfl)) (pgs_cons (pg_name (i := 3) sc_is_right.nd rfl (.inl rfl)) pgs_nil))) (pss_cons (ps_if (PW.pt (pw_or (pt_not (pt_val (pe_callB call_isi (by rfl) T.isinstance (by decide +kernel) (pa_cons (pv 3) (pa_cons (pe_bltn (v := .ty "int") (by rfl) T.int (by decide +kernel) rfl) pa_nil))))) (pw_or1 (pt_val (pe_callB call_isi (by rfl) T.isinstance (by decide +kernel) (pa_cons (pv 3) (pa_cons (pe_bltn (v := .ty "bool") (by rfl) T.bool (by decide +kernel) rfl) pa_nil))))))) (pss_one (ps_ret pe_bl)) pss_nil)
      (pss_one (ps_if (pt_not (pt_chain op_le op_lt pe_int (pv 3) (pe_gd Dsize hr (by decide) (by rfl) (pa_cons (pe_ix ix_seq (pv 0) (pe_op op_mod (pv 2) (pe_callB call_len_seq (by rfl) T.len PySem.boot_len (pa_cons (pv 0) pa_nil))) (fun _ _ => rfl)) pa_nil)))) (pss_one (ps_ret pe_bl)) pss_nil))))
      (pss_one (ps_ret pe_bl))))), ?_⟩
    have l1 := ok.l1
    rcases hx with ⟨rfl, t, ty, h⟩ | ⟨a, xs, os', rfl, rfl, ha, pos, hz⟩
    · exact ⟨_, rfl, x, _, _, _, false, rfl, .ty "tuple", ty, h, _, rfl, iteT (k H Ext.rfl')⟩
    refine ⟨_, rfl, .ref a, _, _, _, true, rfl, .ty "tuple", tyx_tup ha, kit_ty (by decide +kernel), _, rfl, iteF ?_⟩
    refine ⟨_, rfl, a, _, rfl, ha, for_enumT (fun i σ H' => ∃ u2 u3, σ = [some (.ref l), some (.ref a), u2, u3] ∧ (∀ j o, j < i → os'[j]? = some o → belB o (sgF rs j) = true) ∧ Ext H H') ⟨none, none, rfl, fun _ _ z => absurd z (Nat.not_lt_zero _), Ext.rfl'⟩ (fun _ _ _ ⟨_, _, _, _, e⟩ => ha.ext e) ?_ ?_⟩
    · rintro i x T2 σ H' hx hT ⟨u2, u3, rfl, hall, e⟩
      obtain ⟨o, ho, hel⟩ := pd_get1 pos hx
      have eT : Ext H' (upd H' T2 (.tup [.int (i : Nat), x])) := Ext.upd hT
      have hel2 := hel.ext (e.trans eT)
      refine ⟨T2, _, rfl, SqT.of upd_same, rfl, _, _, rfl, _, _, rfl, rfl, ?_⟩
      have hE := e.trans eT
      generalize upd H' T2 (.tup [.int (i : Nat), x]) = H2 at eT hel2 hE ⊢
      have no : o = none → nmB rs (some os') = false := fun z => nmB_false ho (by rw [z]; rfl)
      rcases hel2 with ⟨n, rfl, rfl⟩ | ⟨rfl, t, ty, h | ⟨h, h2⟩⟩
      · refine ⟨_, rfl, .int n, _, _, _, true, rfl, .ty "int", .base (.int n), kit_ty (by decide +kernel), _, rfl, iteF ?_⟩
        refine ⟨_, rfl, .int n, _, _, _, false, rfl, .ty "bool", .base (.int n), kit_ty (by decide +kernel), _, rfl, iteF ?_⟩
        obtain ⟨xs2, g1, g2, ca, g3, g4⟩ := (hl.ext hE).ix l1 i
        refine ⟨_, rfl, _, _, rfl, rfl, _, rfl, ite2 (fun hz => ?_) (fun hz => ?_)⟩
        · refine ⟨_, rfl, _, rfl, _, rfl, l, _, rfl, .inl (SqL.of g1), (i : Int), ((xs2.length : Nat) : Int), rfl, rfl, (by show (0 : Int) < ((xs2.length : Nat) : Int); omega), .inl ⟨l, _, _, _, rfl, rfl, SqL.of g1, g3, ca, csA rs i, rfl, g4, ok.h5 _ (csA_mem l1 i), ok.hc _ (csA_mem l1 i), ?_⟩⟩
          have hsz : ((placesF (csA rs i)).length : Nat) = sgF rs i := rfl
          rw [hsz]
          have h0 : decide (n ≥ 0) = true := hz
          refine ⟨_, _, rfl, rfl, _, rfl, ite2 (fun hy => ?_) (fun hy => ?_)⟩
          · have kk := k H2 hE
            have e1 : decide (n < ((sgF rs i : Nat) : Int)) = false := by cases h : decide (n < ((sgF rs i : Nat) : Int)) with | false => rfl | true => rw [h] at hy; cases hy
            rw [nmB_false ho (by show (decide (n ≥ 0) && decide (n < ((sgF rs i : Nat) : Int))) = false; rw [h0, e1]; rfl)] at kk
            exact kk
          · have e1 : decide (n < ((sgF rs i : Nat) : Int)) = true := by cases h : decide (n < ((sgF rs i : Nat) : Int)) with | true => rfl | false => rw [h] at hy; exact absurd rfl hy
            refine ⟨_, _, rfl, fun j o hj ho2 => ?_, hE⟩
            rcases Nat.lt_or_ge j i with lt | ge
            · exact hall j o lt ho2
            · have ej : j = i := by omega
              rw [ej] at ho2 ⊢
              rw [ho] at ho2
              cases ho2
              show (decide (n ≥ 0) && decide (n < ((sgF rs i : Nat) : Int))) = true
              rw [h0, e1]
              rfl
        · have kk := k H2 hE
          have h0 : decide (n ≥ 0) = false := by cases h : decide (n ≥ 0) with | false => rfl | true => exact absurd h hz
          rw [nmB_false ho (by show (decide (n ≥ 0) && decide (n < ((sgF rs i : Nat) : Int))) = false; rw [h0]; rfl)] at kk
          exact ⟨_, rfl, iteT kk⟩
      · refine ⟨_, rfl, x, _, _, _, false, rfl, .ty "int", ty, h, _, rfl, iteT ?_⟩
        have kk := k H2 hE
        rw [no rfl] at kk
        exact kk
      · refine ⟨_, rfl, x, _, _, _, true, rfl, .ty "int", ty, h, _, rfl, iteF ?_⟩
        refine ⟨_, rfl, x, _, _, _, true, rfl, .ty "bool", ty, h2, _, rfl, iteT ?_⟩
        have kk := k H2 hE
        rw [no rfl] at kk
        exact kk
    rintro σ H' ⟨u2, u3, rfl, hall, e⟩
    have kk := k H' e
    rw [nmB_true fun i o ho => hall i o (by rw [pd_lenT pos]; exact (List.getElem?_eq_some_iff.mp ho).1) ho] at kk
    exact kk
end
end Mc

set_option Elab.async false
set_option linter.all false
set_option maxRecDepth 100000
set_option maxHeartbeats 4000000
set_option exponentiation.threshold 20000
namespace Mc
open PySem PySem.Spec PyProof.Rows L2 ClX StX
section
variable {P : Program} {w : World} {K : PySem.W.Frag} {mg : Str → Option Value} {base : Heap} {f R0 C0 aX : Addr} {mc : Value} {fd : FuncData}
def RatO (R0 : Addr) (H : Hp) (p : Addr) (t : Str) : Prop := ∃ c d : Int, RatAt R0 H p c d ∧ c.natAbs < 2 ^ 200 ∧ d.natAbs < 2 ^ 200 ∧ t = repR c d
theorem RatO.ext {R0 : Addr} {H H' : Hp} (e : Ext H H') : ∀ p t, RatO R0 H p t → RatO R0 H' p t := fun p t ⟨c, d, ⟨dx, h⟩, r⟩ => ⟨c, d, ⟨dx, e _ _ h⟩, r⟩
theorem It.as {K : PySem.W.Frag} {O : Hp → Addr → Str → Prop} {H : Hp} : ∀ {n : Nat} {as as' : List Addr} {x : V} {t : Str}, It K O H n as x t → (∀ c ∈ as, c ∈ as') → It K O H n as' x t
  | 0, _, _, _, _, h, _ => h
  | n + 1, as, as', x, t, h, s => by
    rcases h with h | h | ⟨a, bs, xs, ts, e1, m, s2, na, hl, hp, et⟩ | ⟨a, bs, xs, ts, e1, m, s2, na, hl, hp, et⟩
    · exact .inl h
    · exact .inr (.inl h)
    · exact .inr (.inr (.inl ⟨a, bs, xs, ts, e1, s a m, fun c hc => s c (s2 c hc), na, hl, hp, et⟩))
    · exact .inr (.inr (.inr ⟨a, bs, xs, ts, e1, s a m, fun c hc => s c (s2 c hc), na, hl, hp, et⟩))
/-- one value as a sign: o the INTEGER that it is, as the containers that it holds -/
def Cel (K : PySem.W.Frag) (R0 : Addr) (H : Hp) (as : List Addr) (x : V) (o : Option Int) : Prop := ElK K H x o ∧ ∃ t, It K (RatO R0) H 1 as x t ∧ t.length ≤ 2010
theorem Cel.ext {K : PySem.W.Frag} {R0 : Addr} {H H' : Hp} {as : List Addr} {x : V} {o : Option Int} (h : Cel K R0 H as x o) (e : Ext H H') : Cel K R0 H' as x o := by
  obtain ⟨h1, t, h2, h3⟩ := h
  exact ⟨h1.ext e, t, h2.ext (RatO.ext e) e, h3⟩
theorem Cel.as {K : PySem.W.Frag} {R0 : Addr} {H : Hp} {as as' : List Addr} {x : V} {o : Option Int} (h : Cel K R0 H as x o) (s : ∀ c ∈ as, c ∈ as') : Cel K R0 H as' x o := by
  obtain ⟨h1, t, h2, h3⟩ := h
  exact ⟨h1, t, h2.as s, h3⟩
/-- a row of signs of any kind -/
def Row (K : PySem.W.Frag) (R0 : Addr) (H : Hp) (a : Addr) (os : List (Option Int)) : Prop := ∃ (xs : List V) (as : List Addr), SqT K H a xs ∧ Paired (Cel K R0 H as) xs os ∧ (∀ c ∈ as, H c ≠ none) ∧ a ∉ as
theorem Row.ext {K : PySem.W.Frag} {R0 : Addr} {H H' : Hp} {a : Addr} {os : List (Option Int)} (h : Row K R0 H a os) (e : Ext H H') : Row K R0 H' a os := by
  obtain ⟨xs, as, h1, h2, h3, h4⟩ := h
  refine ⟨xs, as, h1.ext e, pd_imp (fun _ _ w => w.ext e) h2, fun c hc z => ?_, h4⟩
  cases w : H c with
  | none => exact h3 c hc w
  | some o => rw [e _ _ w] at z; cases z
theorem bare2 {p : Addr} {H H' : Hp} (f : Frm [p] H H') : Ext (Mc.bare p H) (Mc.bare p H') := fun a o e => by
  by_cases z : a = p
  · rw [z] at e
    have : Mc.bare p H p = none := if_pos rfl
    rw [this] at e
    cases e
  · exact bare_at (bare_frm f _ _ e) z
theorem cel_int {K : PySem.W.Frag} {R0 : Addr} {H : Hp} {as : List Addr} {n : Int} (h : n.natAbs < 2 ^ 1900) : Cel K R0 H as (.int n) (some n) := ⟨.inl ⟨n, rfl, rfl⟩, shT (.int n), .inl ⟨h, rfl⟩, Nat.le_trans (shT_len (x := .int n) h) (by decide)⟩
theorem cel_bl {K : PySem.W.Frag} {R0 : Addr} {H : Hp} {as : List Addr} (b : Bool) : Cel K R0 H as (.bl b) none := ⟨.inr ⟨rfl, _, .base (.bl b), .inr ⟨kit_ty (by decide +kernel), kit_ty (by decide +kernel)⟩⟩, shT (.bl b), .inl ⟨trivial, rfl⟩, Nat.le_trans (shT_len (x := .bl b) trivial) (by decide)⟩
theorem cel_non {K : PySem.W.Frag} {R0 : Addr} {H : Hp} {as : List Addr} : Cel K R0 H as .non none := ⟨.inr ⟨rfl, _, .base .non, .inl (kit_ty (by decide +kernel))⟩, shT .non, .inl ⟨trivial, rfl⟩, Nat.le_trans (shT_len (x := .non) trivial) (by decide)⟩
theorem cel_str {K : PySem.W.Frag} {R0 : Addr} {H : Hp} {as : List Addr} {z : Str} (h : (reprText z).length ≤ 2000) : Cel K R0 H as (.str z) none := ⟨.inr ⟨rfl, _, .base (.str z), .inl (kit_ty (by decide +kernel))⟩, shT (.str z), .inl ⟨h, rfl⟩, Nat.le_trans (shT_len (x := .str z) h) (by decide)⟩
theorem lst1_len (x : V) (h : (shT x).length ≤ 2000) : (listText [shT x]).length ≤ 2010 := by
  have := listText_le [shT x]
  have e : piled [shT x] = (shT x).length + 2 := by simp [piled]
  omega
theorem tup1_len (x : V) (h : (shT x).length ≤ 2000) : (tupleText [shT x]).length ≤ 2010 := by
  unfold tupleText
  rw [strLen_append, strLen_append]
  have e1 : ((("(" : String) : Str)).length = 1 := rfl
  have e3 : (((if ([shT x] : List Str).length == 1 then ",)" else ")" : String) : Str)).length = 2 := rfl
  have e2 : (Str.join ", " [shT x]).length = (shT x).length := rfl
  rw [e1, e2, e3]
  omega
theorem cel_tup0 {K : PySem.W.Frag} {R0 : Addr} {H : Hp} {b : Addr} {n : Int} (hb : H b = some (.tup [.int n])) (hn : n.natAbs < 2 ^ 1900) : Cel K R0 H [b] (.ref b) none :=
  ⟨.inr ⟨rfl, _, .base (.tup hb), .inl (kit_ty (by decide +kernel))⟩, tupleText [shT (.int n)], .inr (.inr (.inr ⟨b, [], [.int n], [shT (.int n)], rfl, List.mem_cons_self, (fun _ z => nomatch z), (fun z => nomatch z), SqT.of hb, .cons ⟨hn, rfl⟩ .nil, rfl⟩)), tup1_len _ (shT_len (x := .int n) hn)⟩
theorem cel_lst0 {K : PySem.W.Frag} {R0 : Addr} {H : Hp} {b : Addr} {n : Int} (hb : H b = some (.lst [.int n])) (hn : n.natAbs < 2 ^ 1900) : Cel K R0 H [b] (.ref b) none :=
  ⟨.inr ⟨rfl, _, .base (.lst hb), .inl (kit_ty (by decide +kernel))⟩, listText [shT (.int n)], .inr (.inr (.inl ⟨b, [], [.int n], [shT (.int n)], rfl, List.mem_cons_self, (fun _ z => nomatch z), (fun z => nomatch z), SqL.of hb, .cons ⟨hn, rfl⟩ .nil, rfl⟩)), lst1_len _ (shT_len (x := .int n) hn)⟩
theorem stI_len2 {i : Int} (h : i.natAbs < 2 ^ 200) : (stI i).length ≤ 700 := Nat.le_trans (stI_len6 (Nat.lt_of_lt_of_le h (Nat.pow_le_pow_right (by decide) (by decide)))) (by decide)
theorem repR_small {c d : Int} (hc : c.natAbs < 2 ^ 200) (hd : d.natAbs < 2 ^ 200) : (repR c d).length ≤ 2010 := by
  have l1 := stI_len2 hc
  have l2 := stI_len2 hd
  have c0 : (Str.empty : Str).length = 0 := rfl
  have c1 : (Str.ofString "Ratio(").length = 6 := rfl
  have c2 : (Str.ofString ", ").length = 2 := rfl
  have c3 : (Str.ofString ")").length = 1 := rfl
  unfold repR
  rw [Str.length_append, Str.length_append, Str.length_append, Str.length_append, Str.length_append]
  omega
theorem cel_rat {K : PySem.W.Frag} {mg : Str → Option Value} {R0 : Addr} {H : Hp} {as : List Addr} {p : Addr} {c d : Int} (RQ : RatT K mg R0) (h : RatAt R0 H p c d) (hc : c.natAbs < 2 ^ 200) (hd : d.natAbs < 2 ^ 200) : Cel K R0 H as (.ref p) none :=
  ⟨.inr ⟨rfl, _, tyx_rat RQ h, .inl RQ.kI⟩, repR c d, .inr (.inl ⟨p, rfl, c, d, h, hc, hd, rfl⟩), repR_small hc hd⟩
theorem row_one {K : PySem.W.Frag} {R0 : Addr} {H : Hp} {a : Addr} {x : V} {o : Option Int} (h : H a = some (.tup [x])) (hc : Cel K R0 H [] x o) : Row K R0 H a [o] := ⟨[x], [], SqT.of h, .cons hc .nil, fun _ z => (nomatch z), fun z => nomatch z⟩
theorem row_nats {K : PySem.W.Frag} {R0 : Addr} {H : Hp} {a : Addr} {zs : List Nat} (h : SqT K H a (zs.map fun z : Nat => V.int z)) (hz : ∀ z ∈ zs, z < 2 ^ 64) : Row K R0 H a (zs.map fun z : Nat => some (z : Int)) := by
  refine ⟨_, [], h, ?_, fun _ z => (nomatch z), fun z => nomatch z⟩
  clear h
  induction zs with
  | nil => exact .nil
  | cons z zs ih => exact .cons (cel_int (Nat.lt_of_lt_of_le (show ((z : Int)).natAbs < 2 ^ 64 from hz z List.mem_cons_self) (Nat.pow_le_pow_right (by decide) (by decide)))) (ih fun y hy => hz y (List.mem_cons_of_mem _ hy))
theorem pd_takeT {α β : Type} {F : α → β → Prop} : ∀ {l : List α} {m : List β}, Paired F l m → ∀ n, Paired F (l.take n) (m.take n)
  | _, _, .nil, n => by rw [List.take_nil, List.take_nil]; exact .nil
  | _, _, .cons r t, 0 => .nil
  | _, _, .cons r t, n + 1 => .cons r (pd_takeT t n)
theorem pd_dropT {α β : Type} {F : α → β → Prop} : ∀ {l : List α} {m : List β}, Paired F l m → ∀ n, Paired F (l.drop n) (m.drop n)
  | _, _, .nil, n => by rw [List.drop_nil, List.drop_nil]; exact .nil
  | _, _, .cons r t, 0 => .cons r t
  | _, _, .cons r t, n + 1 => pd_dropT t n
theorem pd_appT {α β : Type} {F : α → β → Prop} {l : List α} {m : List β} {l' : List α} {m' : List β} (a : Paired F l m) (b : Paired F l' m') : Paired F (l ++ l') (m ++ m') := by
  induction a with
  | nil => exact b
  | cons r _ ih => exact .cons r ih
def spTurnedR (K : PySem.W.Frag) (R0 : Addr) : Sp := fun vs H Q _ => ∃ (p l a : Addr) (rs : List (List Cut)) (os : List (Option Int)), vs = [.ref p, .ref l, .ref a] ∧ Pot H p ∧ RndL H l rs ∧ OkR rs ∧ Row K R0 (Mc.bare p H) a os ∧ os.length ≤ 60 ∧ ∀ b H' os', Frm [p] H H' → Pot H' p → H b = none → H' b ≠ none → Row K R0 (Mc.bare p H') b os' → os'.length ≤ 60 → Q (.ref b) H'
theorem sc_turned : FnScope ["_law_pot_here", "_law_rounds_here", "_law_glyphs_here", "_law_at", "_law_size_here", "_law_far", "_law_menu"] ["_law_pot_here", "_law_rounds_here", "_law_glyphs_here"] (defScope s_turned) := ⟨rfl, rfl, rfl, by decide +kernel, rfl, by decide +kernel, by decide +kernel⟩
theorem ok_turned (F : FunD K "_law_turned" "_law_turned" (defArgs s_turned) (defBody s_turned) (defScope s_turned) [] [] f fd) (T : TB mg) (RQ : RatT K mg R0) {fdraw : Addr} {fddraw : FuncData} (Ddraw : Gd P w K mg base "_law_draw" 1 ["_law_pot_here", "_law_many"] (spDraw) fdraw fddraw) {fpick : Addr} {fdpick : FuncData} (Dpick : Gd P w K mg base "_law_pick" 2 ["_law_pot_here", "_law_some"] (spPick) fpick fdpick) {fsize : Addr} {fdsize : FuncData} (Dsize : Gd P w K mg base "_law_size" 1 ["_law_cuts"] (spSize) fsize fdsize) {fI : Addr} {fdI : FuncData} {dsI : List Value} (MI : Mk K R0 fI) (GI : FnOk P w K mg base CX0 2 fI fdI ["self", "top", "bottom"] (spInitR R0)) (bI2 : Binds K fdI ["self", "top", "bottom"] []) (hdI : Vals [.int 1] dsI) (bI1 : Binds K fdI ["self", "top", "bottom"] dsI) : FnOk P w K mg base CX0 4 f fd ["_law_pot_here", "_law_rounds_here", "_law_glyphs_here"] (spTurnedR K R0) := by
  refine F.ok sc_turned (fun vs H Q E h => ?_) (fun cdv A outer s H vs Q E hr h => ?_)
  · obtain ⟨p, l, a, rs, os, rfl, hp, hl, ok, hr_, z60, k⟩ := h
    rfl
  · obtain ⟨p, l, a, rs, os, rfl, hp, hl, ok, hr_, z60, k⟩ := h
    refine ⟨_, (PSs.nox (pss_cons (ps_if (pt_cmpR (op_eqT0 (K := K) rfl (hu64 hr)) (pv 2) (pe_tup pa_nil) (nomark _)) (pss_one (ps_ret (pe_gd Dpick hr (by decide) (by rfl) (pa_cons (pv 0) (pa_cons (pe_lst (pa_cons (pe_tup (pa_cons pe_non pa_nil)) (pa_cons (pe_tup (pa_cons pe_int pa_nil)) (pa_cons (pe_tup (pa_cons pe_str pa_nil)) (pa_cons (pe_tup (pa_cons pe_bl pa_nil)) (pa_cons (pe_tup (pa_cons pe_int pa_nil)) pa_nil)))))) pa_nil))))) pss_nil)
      (pss_cons (ps_set (i := 3) sc_turned.nd rfl (.inl rfl) (pe_gd Dpick hr (by decide) (by rfl) (pa_cons (pv 0) (pa_cons (pe_lst (pa_cons pe_int (pa_cons (pe_op op_sub (pe_callB call_len_seq (by rfl) T.len PySem.boot_len (pa_cons (pv 2) pa_nil)) pe_int) (pa_cons (pe_gd Ddraw hr (by decide) (by rfl) (pa_cons (pv 0) (pa_cons (pe_callB call_len_seq (by rfl) T.len PySem.boot_len (pa_cons (pv 2) pa_nil)) pa_nil))) pa_nil)))) pa_nil))))
      (pss_cons (ps_set (i := 4) sc_turned.nd rfl (.inl rfl) (pe_gd Dsize hr (by decide) (by rfl) (pa_cons (pe_ix ix_seq (pv 1) (pe_op op_mod (pv 3) (pe_callB call_len_seq (by rfl) T.len PySem.boot_len (pa_cons (pv 1) pa_nil))) (fun _ _ => rfl)) pa_nil)))
      (pss_cons (ps_set (i := 5) sc_turned.nd rfl (.inl rfl) (pe_gd Dsize hr (by decide) (by rfl) (pa_cons (pe_ix ix_seq (pv 1) (pe_op op_mod (pe_op op_add (pv 3) pe_int) (pe_callB call_len_seq (by rfl) T.len PySem.boot_len (pa_cons (pv 1) pa_nil))) (fun _ _ => rfl)) pa_nil)))
      (pss_cons (ps_set (i := 6) sc_turned.nd rfl (.inl rfl) (pe_lst (pa_cons (pe_op op_sub (pv 4) pe_int) (pa_cons (pv 4) (pa_cons (pe_op op_sub (pv 5) pe_int) (pa_cons (pv 5) (pa_cons (pe_un un_neg pe_int) (pa_cons pe_bl (pa_cons pe_bl (pa_cons pe_non (pa_cons pe_str (pa_cons (pe_tup (pa_cons pe_int pa_nil)) (pa_cons (pe_lst (pa_cons pe_int pa_nil)) (pa_cons (pe_make MI GI (hr.mono (by decide)) (by rfl) RQ.mgR bI1 hdI pass0 (pa_cons pe_int pa_nil)) (pa_cons (pe_op op_pow pe_int pe_int) (pa_cons pe_int (pa_cons pe_int pa_nil)))))))))))))))))
      (pss_one (ps_ret (pe_op (op_catW (K := K) rfl) (pe_op (op_catW (K := K) rfl) (pe_slice (sl_tupU (K := K) rfl) (pv 2) po_none (po_some (pv 3))) (pe_tup (pa_cons (pe_gd Dpick hr (by decide) (by rfl) (pa_cons (pv 0) (pa_cons (pv 6) pa_nil))) pa_nil))) (pe_slice (sl_tupU (K := K) rfl) (pv 2) (po_some (pe_op op_add (pv 3) pe_int)) po_none)))))))))), ?_⟩
    have l1 := ok.l1
    obtain ⟨xs, as, ha, pos, has, nas⟩ := id hr_
    have lx := pd_lenT pos
    have ha0 := ha.ext (bare_ext p H)
    refine ⟨_, rfl, (by show 0 ≤ sizeLine; decide), fun t0 ht0 => ?_⟩
    have e1 := Ext.upd (H := H) (o := .tup []) ht0
    have ht1 : (upd H t0 (.tup [])) t0 = some (.tup []) := upd_same
    have hp1 := hp.new (o := .tup []) ht0
    have hl1 := hl.ext e1
    generalize upd H t0 (.tup []) = H1 at e1 ht1 hp1 hl1 ⊢
    have F1 : Frm [p] H H1 := Frm.ext e1
    refine ⟨a, t0, xs, rfl, rfl, ha0.ext e1, SqT.of ht1, _, rfl, ite2 (fun hz => ?_) (fun hz => ?_)⟩
    · refine ⟨_, rfl, (by show 1 ≤ sizeLine; decide), fun a2 g2 => ?_⟩
      have e2 := Ext.upd (H := H1) (o := .tup [.non]) g2
      have v2 : (upd H1 a2 (.tup [.non])) a2 = some (.tup [.non]) := upd_same
      have hp2 := hp1.new (o := .tup [.non]) g2
      have b2 : H a2 = none := none_ext (e1) g2
      have E2 := e1.trans e2
      generalize upd H1 a2 (.tup [.non]) = H2 at e2 v2 hp2 E2  ⊢
      refine ⟨(by show 1 ≤ sizeLine; decide), fun a3 g3 => ?_⟩
      have e3 := Ext.upd (H := H2) (o := .tup [.int 0]) g3
      have v3 : (upd H2 a3 (.tup [.int 0])) a3 = some (.tup [.int 0]) := upd_same
      have hp3 := hp2.new (o := .tup [.int 0]) g3
      replace v2 := e3 _ _ v2
      have b3 : H a3 = none := none_ext (E2) g3
      have E3 := E2.trans e3
      generalize upd H2 a3 (.tup [.int 0]) = H3 at e3 v3 hp3 E3 v2 ⊢
      refine ⟨(by show 1 ≤ sizeLine; decide), fun a4 g4 => ?_⟩
      have e4 := Ext.upd (H := H3) (o := .tup [.str ""]) g4
      have v4 : (upd H3 a4 (.tup [.str ""])) a4 = some (.tup [.str ""]) := upd_same
      have hp4 := hp3.new (o := .tup [.str ""]) g4
      replace v2 := e4 _ _ v2
      replace v3 := e4 _ _ v3
      have b4 : H a4 = none := none_ext (E3) g4
      have E4 := E3.trans e4
      generalize upd H3 a4 (.tup [.str ""]) = H4 at e4 v4 hp4 E4 v2 v3 ⊢
      refine ⟨(by show 1 ≤ sizeLine; decide), fun a5 g5 => ?_⟩
      have e5 := Ext.upd (H := H4) (o := .tup [.bl true]) g5
      have v5 : (upd H4 a5 (.tup [.bl true])) a5 = some (.tup [.bl true]) := upd_same
      have hp5 := hp4.new (o := .tup [.bl true]) g5
      replace v2 := e5 _ _ v2
      replace v3 := e5 _ _ v3
      replace v4 := e5 _ _ v4
      have b5 : H a5 = none := none_ext (E4) g5
      have E5 := E4.trans e5
      generalize upd H4 a5 (.tup [.bl true]) = H5 at e5 v5 hp5 E5 v2 v3 v4 ⊢
      refine ⟨(by show 1 ≤ sizeLine; decide), fun a6 g6 => ?_⟩
      have e6 := Ext.upd (H := H5) (o := .tup [.int 99]) g6
      have v6 : (upd H5 a6 (.tup [.int 99])) a6 = some (.tup [.int 99]) := upd_same
      have hp6 := hp5.new (o := .tup [.int 99]) g6
      replace v2 := e6 _ _ v2
      replace v3 := e6 _ _ v3
      replace v4 := e6 _ _ v4
      replace v5 := e6 _ _ v5
      have b6 : H a6 = none := none_ext (E5) g6
      have E6 := E5.trans e6
      generalize upd H5 a6 (.tup [.int 99]) = H6 at e6 v6 hp6 E6 v2 v3 v4 v5 ⊢
      refine ⟨(by show 5 ≤ sizeLine; decide), fun ml hml => ⟨p, ml, _, rfl, hp6.new hml, upd_same, hp6.ne hml, (by show 0 < 5; decide), (by show 5 ≤ 1000; decide), fun i v Hz hv Fz hpz => ?_⟩⟩
      have F6 : Frm [p] H Hz := ((Frm.ext E6).trans (Frm.new hml)).trans Fz
      obtain ⟨c, x, o, rfl, hc, cel, cn⟩ : ∃ c x o, v = .ref c ∧ H6 c = some (.tup [x]) ∧ Cel K R0 (Mc.bare p Hz) [] x o ∧ H c = none := by
        match i, hv with
        | 0, hv => cases hv; exact ⟨a2, .non, _, rfl, v2, cel_non, b2⟩
        | 1, hv => cases hv; exact ⟨a3, .int 0, _, rfl, v3, cel_int (by decide), b3⟩
        | 2, hv => cases hv; exact ⟨a4, .str "", _, rfl, v4, cel_str (by decide +kernel), b4⟩
        | 3, hv => cases hv; exact ⟨a5, .bl true, _, rfl, v5, cel_bl true, b5⟩
        | 4, hv => cases hv; exact ⟨a6, .int 99, _, rfl, v6, cel_int (by decide), b6⟩
      have hcz := ((Frm.new (o := .lst [.ref a2, .ref a3, .ref a4, .ref a5, .ref a6]) (p := ml) hml : Frm [p] H6 _).trans Fz) _ _ hc (fun z => by
        obtain ⟨_, _, w, _⟩ := hp6
        rw [List.mem_singleton.mp z, w] at hc
        cases hc)
      have ncp : c ≠ p := fun z => by
        obtain ⟨_, _, w, _⟩ := hp6
        rw [z, w] at hc
        cases hc
      exact k c Hz [o] F6 hpz cn (by rw [hcz]; exact fun z => nomatch z) (row_one (bare_at hcz ncp) cel) (by show 1 ≤ 60; decide)
    have n0 : 0 < xs.length := by
      cases xs with
      | nil => exact absurd rfl hz
      | cons x r => simp
    have hr1 : Row K R0 (Mc.bare p H1) a os := hr_.ext (bare2 F1)
    have a1 := ha0.ext e1
    clear hz ht1 ha0
    refine ⟨_, rfl, _, rfl, a, _, rfl, .inr a1, _, _, rfl, rfl, _, rfl, _, rfl, a, _, rfl, .inr a1, p, _, rfl, hp1, by omega, small_log (n := 7) (by omega) (by decide) (by decide), fun r H4 r0 r1 F4 hp4 => ⟨(by show 3 ≤ sizeLine; decide), fun ml hml => ⟨p, ml, _, rfl, hp4.new hml, upd_same, hp4.ne hml, (by show 0 < 3; decide), (by show 3 ≤ 1000; decide), fun i v H5 hv F5 hp5 => ?_⟩⟩⟩
    obtain ⟨m, rfl, hm⟩ : ∃ m : Nat, v = .int (m : Nat) ∧ m < xs.length := by
      obtain ⟨r, rfl⟩ := Int.eq_ofNat_of_zero_le r0
      match i, hv with
      | 0, hv => exact ⟨0, by cases hv; rfl, n0⟩
      | 1, hv => exact ⟨xs.length - 1, by cases hv; show V.int _ = V.int _; congr 1; omega, by omega⟩
      | 2, hv => exact ⟨r, by cases hv; rfl, by omega⟩
    have F15 : Frm [p] H1 H5 := F4.trans ((Frm.new hml).trans F5)
    have hr5 := hr1.ext (bare2 F15)
    have hl5 := hl1.frm ok hp1 F15
    have FH5 := F1.trans F15
    clear F15 F4 F5 hml hv r0 r1 hr1 hl1 a1 hp1
    obtain ⟨ys, g1, g2, ca, g3, g4⟩ := hl5.ix l1 m
    obtain ⟨ys', g1', g2', cb, g3', g4'⟩ := hl5.ix l1 (m + 1)
    rw [g1] at g1'
    cases g1'
    have s32 : ∀ j, sgF rs j ≤ 32 := fun j => by
      show (placesF (csA rs j)).length ≤ 32
      rw [placesF_length]
      exact ok.h32 _ (csA_mem l1 j)
    have hsz : ∀ j, ((placesF (csA rs j)).length : Nat) = sgF rs j := fun _ => rfl
    refine ⟨_, rfl, _, rfl, _, rfl, l, _, rfl, .inl (SqL.of g1), (m : Int), ((ys.length : Nat) : Int), rfl, rfl, (by show (0 : Int) < ((ys.length : Nat) : Int); omega), .inl ⟨l, _, _, _, rfl, rfl, SqL.of g1, g3, ca, csA rs m, rfl, g4, ok.h5 _ (csA_mem l1 m), ok.hc _ (csA_mem l1 m), ?_⟩⟩
    refine ⟨_, rfl, _, rfl, _, _, rfl, rfl, _, rfl, l, _, rfl, .inl (SqL.of g1), (m : Int) + 1, ((ys.length : Nat) : Int), rfl, rfl, (by show (0 : Int) < ((ys.length : Nat) : Int); omega), .inl ⟨l, _, _, _, rfl, rfl, SqL.of g1, g3', cb, csA rs (m + 1), rfl, g4', ok.h5 _ (csA_mem l1 (m + 1)), ok.hc _ (csA_mem l1 (m + 1)), ?_⟩⟩
    rw [hsz, hsz]
    have z1 := s32 m
    have z2 := s32 (m + 1)
    generalize sgF rs m = s1 at z1 ⊢
    generalize sgF rs (m + 1) = s2 at z2 ⊢
    refine ⟨_, rfl, _, _, rfl, rfl, _, rfl, _, rfl, _, _, rfl, rfl, _, rfl, _, rfl, (by show 1 ≤ sizeLine; decide), fun q1 hq1 => ?_⟩
    have e6 := Ext.upd (H := H5) (o := .tup [.int 0]) hq1
    have v6 : (upd H5 q1 (.tup [.int 0])) q1 = some (.tup [.int 0]) := upd_same
    have hp6 := hp5.new (o := .tup [.int 0]) hq1
    generalize upd H5 q1 (.tup [.int 0]) = H6 at e6 v6 hp6 ⊢
    refine ⟨(by show 1 ≤ sizeLine; decide), fun q2 hq2 => ?_⟩
    have e7 := Ext.upd (H := H6) (o := .lst [.int 0]) hq2
    have v7 : (upd H6 q2 (.lst [.int 0])) q2 = some (.lst [.int 0]) := upd_same
    have hp7 := hp6.new (o := .lst [.int 0]) hq2
    have w6 := e7 _ _ v6
    have n2p : q2 ≠ p := hp6.ne hq2
    generalize upd H6 q2 (.lst [.int 0]) = H7 at e7 v7 hp7 w6 ⊢
    refine fun x dx hx hdx ne => ?_
    refine ⟨x, dx, 0, 1, rfl, upd_same, by decide, by decide, fun H8 F8 h8 => ⟨rfl, ?_⟩⟩
    have e8 := made_ext hx hdx F8
    have hp8 := hp7.frm (M := []) (Frm.ext e8) (fun z => nomatch z)
    refine ⟨_, _, rfl, rfl, ⟨by decide, by decide, by decide⟩, (by show 15 ≤ sizeLine; decide), fun ml hml => ?_⟩
    have v7' := e8 _ _ v7
    have v6' := e8 _ _ w6
    have e9 := Ext.upd (o := .lst [.int ((s1 : Int) - 1), .int (s1 : Nat), .int ((s2 : Int) - 1), .int (s2 : Nat), .int (-1), .bl true, .bl false, .non, .str "0", .ref q1, .ref q2, .ref x, .int (10 ^ (20 : Int).toNat), .int 31, .int 32]) hml
    have hml9 : (upd H8 ml (.lst [.int ((s1 : Int) - 1), .int (s1 : Nat), .int ((s2 : Int) - 1), .int (s2 : Nat), .int (-1), .bl true, .bl false, .non, .str "0", .ref q1, .ref q2, .ref x, .int (10 ^ (20 : Int).toNat), .int 31, .int 32])) ml = some (.lst [.int ((s1 : Int) - 1), .int (s1 : Nat), .int ((s2 : Int) - 1), .int (s2 : Nat), .int (-1), .bl true, .bl false, .non, .str "0", .ref q1, .ref q2, .ref x, .int (10 ^ (20 : Int).toNat), .int 31, .int 32]) := upd_same
    have hp9 := hp8.new (o := .lst [.int ((s1 : Int) - 1), .int (s1 : Nat), .int ((s2 : Int) - 1), .int (s2 : Nat), .int (-1), .bl true, .bl false, .non, .str "0", .ref q1, .ref q2, .ref x, .int (10 ^ (20 : Int).toNat), .int 31, .int 32]) hml
    have npm : ml ≠ p := hp8.ne hml
    generalize upd H8 ml (.lst [.int ((s1 : Int) - 1), .int (s1 : Nat), .int ((s2 : Int) - 1), .int (s2 : Nat), .int (-1), .bl true, .bl false, .non, .str "0", .ref q1, .ref q2, .ref x, .int (10 ^ (20 : Int).toNat), .int 31, .int 32]) = H9 at e9 hml9 hp9 ⊢
    have e59 := ((e6.trans e7).trans e8).trans e9
    have F9 := FH5.trans (Frm.ext e59)
    have ha9 := (ha.ext (bare2 F9)).ext (bare_ext p H9)
    have np : ∀ {c : Addr} {o : HO}, H9 c = some o → (∀ x y, o ≠ .lst [.int x, .int y]) → c ≠ p := fun {c o} h no z => by
      obtain ⟨u, w, e, _⟩ := hp9
      rw [z, e] at h
      exact no _ _ (Option.some.inj h).symm
    have k1 := bare_at (e9 _ _ v6') (np (e9 _ _ v6') (fun _ _ z => nomatch z))
    have k2 := bare_at (e9 _ _ v7') (np (e9 _ _ v7') (fun _ _ z => by cases z))
    have k3 := bare_at (e9 _ _ h8) (np (e9 _ _ h8) (fun _ _ z => nomatch z))
    clear hq1 hq2 hx hdx ne F8 h8 v6' v7' w6 v6 v7 e6 e7 e8 e9 e59 hp5 hp6 hp7 hp8 hr5 hl5 FH5
    refine ⟨_, rfl, _, rfl, _, rfl, a, xs, rfl, ha9, fun t1 H10 e10 ht1 => ⟨_, rfl, _, rfl, p, ml, _, rfl, hp9.frm (M := []) (Frm.ext e10) (fun z => nomatch z), e10 _ _ hml9, npm, (by show 0 < 15; decide), (by show 15 ≤ 1000; decide), fun i v H11 hv F11 hp11 => ?_⟩⟩
    rw [cut_takeU] at ht1
    have ht11 := sqT_frm ht1 (hp9.frm (M := []) (Frm.ext e10) (fun z => nomatch z)) F11
    have F911 := (Frm.ext e10 : Frm [p] H9 H10).trans F11
    have B := bare2 F911
    obtain ⟨o, as2, hcel, has2⟩ : ∃ o as2, Cel K R0 (Mc.bare p H11) as2 v o ∧ ∀ c ∈ as2, Mc.bare p H11 c ≠ none := by
      have no : ∀ c ∈ ([] : List Addr), Mc.bare p H11 c ≠ none := fun _ z => nomatch z
      have sm : ∀ n : Int, n.natAbs ≤ 100 → n.natAbs < 2 ^ 1900 := fun n h => Nat.lt_of_lt_of_le (show n.natAbs < 2 ^ 7 by omega) (Nat.pow_le_pow_right (by decide) (by decide))
      match i, hv with
      | 0, hv => cases hv; exact ⟨_, [], cel_int (sm _ (by omega)), no⟩
      | 1, hv => cases hv; exact ⟨_, [], cel_int (sm _ (by omega)), no⟩
      | 2, hv => cases hv; exact ⟨_, [], cel_int (sm _ (by omega)), no⟩
      | 3, hv => cases hv; exact ⟨_, [], cel_int (sm _ (by omega)), no⟩
      | 4, hv => cases hv; exact ⟨_, [], cel_int (by decide), no⟩
      | 5, hv => cases hv; exact ⟨_, [], cel_bl true, no⟩
      | 6, hv => cases hv; exact ⟨_, [], cel_bl false, no⟩
      | 7, hv => cases hv; exact ⟨_, [], cel_non, no⟩
      | 8, hv => cases hv; exact ⟨_, [], cel_str (by decide +kernel), no⟩
      | 9, hv => cases hv; exact ⟨_, [q1], cel_tup0 (B _ _ k1) (by decide), fun c hc => by rw [List.mem_singleton.mp hc, B _ _ k1]; exact fun z => nomatch z⟩
      | 10, hv => cases hv; exact ⟨_, [q2], cel_lst0 (B _ _ k2) (by decide), fun c hc => by rw [List.mem_singleton.mp hc, B _ _ k2]; exact fun z => nomatch z⟩
      | 11, hv => cases hv; exact ⟨_, [], cel_rat RQ (c := redN 0 1) (d := redD 0 1) ⟨_, B _ _ k3⟩ (by decide) (by decide), no⟩
      | 12, hv => cases hv; exact ⟨_, [], cel_int (by decide), no⟩
      | 13, hv => cases hv; exact ⟨_, [], cel_int (by decide), no⟩
      | 14, hv => cases hv; exact ⟨_, [], cel_int (by decide), no⟩
    have F11' := F9.trans F911
    have has1 : ∀ c ∈ as, Mc.bare p H11 c ≠ none := fun c hc z => by
      cases w : Mc.bare p H c with
      | none => exact has c hc w
      | some u => rw [bare2 F11' _ _ w] at z; cases z
    have pos11 := pd_imp (fun _ _ w => Cel.ext w (bare2 F11')) pos
    have ha11 := (ha.ext (bare2 F11')).ext (bare_ext p H11)
    have lt : (xs.take m).length ≤ 60 := by rw [List.length_take]; omega
    refine ⟨(by show 1 ≤ sizeLine; decide), fun tp htp => ⟨t1, tp, _, [v], rfl, rfl, ht11.ext (Ext.upd htp), SqT.of upd_same, by rw [sizeLine_eq]; show _ + 1 ≤ _; omega, fun t2 H12 e12 ht2 nt2 => ?_⟩⟩
    have e13 := (Ext.upd (o := .tup [v]) htp).trans e12
    obtain ⟨t2n, t2s⟩ : H11 t2 = none ∧ H12 t2 ≠ none := by
      rcases nt2 with ⟨_, z⟩ | ⟨z, _⟩ | ⟨z, y⟩
      · cases z
      · rw [z]; exact ⟨htp, by rw [e12 _ _ upd_same]; exact fun z => nomatch z⟩
      · exact ⟨none_ext (Ext.upd htp) z, by rw [y]; exact fun z => nomatch z⟩
    refine ⟨_, rfl, _, rfl, _, _, rfl, rfl, _, rfl, a, xs, rfl, ha11.ext e13, fun t3 H13 e14 ht3 => ⟨t2, t3, _, _, rfl, rfl, ht2.ext e14, ht3, ?_, fun t4 H14 e15 ht4 nt4 => ?_⟩⟩
    · have := L2.cutV_length xs (some ((m : Int) + 1)) Option.none
      rw [List.length_append, List.length_take, sizeLine_eq]
      show _ + 1 + _ ≤ _
      omega
    rw [show ((m : Nat) : Int) + 1 = ((m + 1 : Nat) : Int) from rfl, cut_dropU] at ht4 nt4
    have e1114 := (e13.trans e14).trans e15
    obtain ⟨t4n, t4s⟩ : H11 t4 = none ∧ H14 t4 ≠ none := by
      rcases nt4 with ⟨z, _⟩ | ⟨_, z⟩ | ⟨z, y⟩
      · rw [z]
        refine ⟨t2n, fun z => ?_⟩
        cases w : H12 t2 with
        | none => exact t2s w
        | some u => rw [(e14.trans e15) _ _ w] at z; cases z
      · exact absurd z (by simp)
      · exact ⟨none_ext (e13.trans e14) z, by rw [y]; exact fun z => nomatch z⟩
    have hp14 := hp11.frm (M := []) (Frm.ext e1114) (fun z => nomatch z)
    have n4p : t4 ≠ p := hp11.ne t4n
    have B14 := bare2 (Frm.ext e1114 : Frm [p] H11 H14)
    refine k t4 H14 (os.take m ++ [o] ++ os.drop (m + 1)) (F11'.trans (Frm.ext e1114)) hp14 ?_ t4s ⟨_, as ++ as2, ?_, pd_appT (pd_appT (pd_takeT (pd_imp (fun _ _ w => Cel.as (Cel.ext w B14) fun c hc => List.mem_append_left _ hc) pos11) m) (.cons (Cel.as (hcel.ext B14) fun c hc => List.mem_append_right _ hc) .nil)) (pd_dropT (pd_imp (fun _ _ w => Cel.as (Cel.ext w B14) fun c hc => List.mem_append_left _ hc) pos11) (m + 1)), fun c hc z => ?_, fun hc => ?_⟩ ?_
    · cases w : H t4 with
      | none => rfl
      | some u => rw [F11' _ _ w (fun z => n4p (List.mem_singleton.mp z))] at t4n; cases t4n
    · rcases ht4 with (h | ⟨u, h⟩) | h
      · exact .inl (.inl (bare_at h n4p))
      · exact .inl (.inr ⟨u, bare_at h n4p⟩)
      · exact .inr h
    · have : Mc.bare p H11 c ≠ none := (List.mem_append.mp hc).elim (has1 c) (has2 c)
      cases w : Mc.bare p H11 c with
      | none => exact this w
      | some u => rw [B14 _ _ w] at z; cases z
    · have : Mc.bare p H11 t4 ≠ none := (List.mem_append.mp hc).elim (has1 t4) (has2 t4)
      cases w : Mc.bare p H11 t4 with
      | none => exact this w
      | some u => rw [bare_ext _ _ _ _ w] at t4n; cases t4n
    · rw [List.length_append, List.length_append, List.length_take, List.length_drop]
      show min m os.length + 1 + _ ≤ 60
      omega
end
end Mc

set_option Elab.async false
set_option linter.all false
set_option maxRecDepth 100000
set_option maxHeartbeats 4000000
set_option exponentiation.threshold 20000
namespace Mc
open PySem PySem.Spec PyProof.Rows L2 ClX StX
section
variable {P : Program} {w : World} {K : PySem.W.Frag} {mg : Str → Option Value} {base : Heap} {f R0 C0 aX : Addr} {mc : Value} {fd : FuncData}
theorem run_ownG {X : Cx} {f : Addr} {k : Nat} {fd : FuncData} {ps : List Str} {sp : Sp} {A : Around} {pins : List (Addr × Obj)} {σ : L2.St} {H : Hp} {s : Shared} {Q : VK} {us : List Value} {vs : List V} (F : FnOkG X.prog X.w X.K X.mg X.base CX0 k f fd ps sp) (hb : Binds X.K fd ps []) (hr : RoomG k A) (hf : A.frames = X.A.frames)
    (I : Inv X pins σ H s) (r : Vals vs us) (h : sp vs H Q E0) : wpAny (model X.prog X.w) A (call (.ref f) us) (EP X pins σ Q) X.xe s := by
  have hl : (us ++ []).length = ps.length := by rw [List.append_nil, ← r.length]; exact F.len _ _ _ _ h
  have hbi := hb s us I.kIn hl
  rw [List.append_nil] at hbi
  have e := I.env0
  have e0 : Env0 X.prog X.w X.K X.mg X.base A X.stack s H := ⟨by rw [hf]; exact e.frames, e.mod, e.bs, e.bsz, e.funs, e.frf, e.hok, e.bare⟩
  refine wpAny_call (codeAny_mono (F.run A X.stack s H ⟨us, []⟩ us vs Q E0 hr e0 hbi r h) fun r s' hq => ?_)
  cases r with
  | error e => exact hq.elim
  | ok fl =>
    cases fl with
    | ret u => exact I.after hq
    | next => exact hq.elim
    | brk => exact hq.elim
    | cont => exact hq.elim
theorem call_reprOG {X : Cx} {C f : Addr} {k : Nat} {fd : FuncData} {ps : List Str} {sp : Sp} (m : Meth X.K C "__repr__" f) (F : FnOkG X.prog X.w X.K X.mg X.base CX0 k f fd ps sp) (hb : Binds X.K fd ps []) (hr : RoomG (k + 1) X.A) : CallR X (.builtin "repr") (rStrO C sp) := by
  intro pins s σ H vs us Q I r h
  obtain ⟨a, dx, fs, rfl, ha, q⟩ := h
  obtain ⟨u, rfl, ru⟩ := vals1 r
  cases (show u = Value.ref a from ru)
  obtain ⟨mA, J, _⟩ := ins_get I.hok ha
  obtain ⟨od, J, _⟩ := J.look
  obtain ⟨mm, hF⟩ := I.fr
  refine PySem.W.repr_K hr.room.in1.units0 hF I.ok.mod.kin J m.at_ m.fn ?_
  refine wpAny_mono (run_ownG (vs := [V.ref a]) (us := [Value.ref a]) F hb ⟨hr.room.in1, hr.gs⟩ rfl I (.cons rfl .nil) q) (fun z s' hz => ?_) fun _ _ z => z
  obtain ⟨v', H', I', r', t, rfl, q'⟩ := hz
  obtain ⟨tk, rfl⟩ := (show ∃ tk, z = Value.str t tk from r')
  exact ⟨.str t, H', I', ⟨tk, rfl⟩, q'⟩
/-- how a value is shown -/
def Shw (K : PySem.W.Frag) (R0 C0 : Addr) (H : Hp) (x : V) (t : Str) : Prop := (shOk x ∧ t = shT x) ∨ (∃ p, x = .ref p ∧ RatO R0 H p t) ∨ (∃ p rs, x = .ref p ∧ PlanAt C0 H p rs ∧ OkR rs ∧ t = planText rs) ∨
  (∃ (a : Addr) (kvs : List (Int × Int)), x = .ref a ∧ H a = some (.dK (kvs.map fun p => (Sum.inl p.1, V.int p.2))) ∧ (kvs = [] ∨ kvs = [(0, 0)]) ∧ t = (dI kvs).shown) ∨
  (∃ a as xs ts, x = .ref a ∧ a ∉ as ∧ SqL K H a xs ∧ Paired (It K (RatO R0) H 2 as) xs ts ∧ t = listText ts ∧ t.length ≤ sizeLine) ∨ (∃ a as xs ts, x = .ref a ∧ a ∉ as ∧ SqT K H a xs ∧ Paired (It K (RatO R0) H 2 as) xs ts ∧ t = tupleText ts ∧ t.length ≤ sizeLine)
theorem Shw.ext {K : PySem.W.Frag} {R0 C0 : Addr} {H H' : Hp} {x : V} {t : Str} (h : Shw K R0 C0 H x t) (e : Ext H H') : Shw K R0 C0 H' x t := by
  rcases h with h | ⟨p, e1, h⟩ | ⟨p, rs, e1, h, r⟩ | ⟨a, kvs, e1, h, r⟩ | ⟨a, as, xs, ts, e1, n, hl, hp, r⟩ | ⟨a, as, xs, ts, e1, n, hl, hp, r⟩
  · exact .inl h
  · exact .inr (.inl ⟨p, e1, RatO.ext e _ _ h⟩)
  · exact .inr (.inr (.inl ⟨p, rs, e1, h.ext e, r⟩))
  · exact .inr (.inr (.inr (.inl ⟨a, kvs, e1, e _ _ h, r⟩)))
  · exact .inr (.inr (.inr (.inr (.inl ⟨a, as, xs, ts, e1, n, hl.ext e, pd_imp (fun _ _ w => It.ext (RatO.ext e) e w) hp, r⟩))))
  · exact .inr (.inr (.inr (.inr (.inr ⟨a, as, xs, ts, e1, n, hl.ext e, pd_imp (fun _ _ w => It.ext (RatO.ext e) e w) hp, r⟩))))
def rReprS (K : PySem.W.Frag) (R0 C0 : Addr) : List V → Hp → VK → Prop := fun vs H Q => ∃ x t, vs = [x] ∧ Shw K R0 C0 H x t ∧ ∀ H', Ext H H' → Q (.str t) H'
theorem call_reprS {X : Cx} {K : PySem.W.Frag} {R0 C0 fq fp : Addr} {fdq fdp : FuncData} (hK : X.K = K) (mq : Meth K R0 "__repr__" fq) (gq : FnOk X.prog X.w K X.mg X.base CX0 1 fq fdq ["self"] (spReprRa R0)) (bq : Binds K fdq ["self"] [])
    (mp : Meth K C0 "__repr__" fp) (gp : FnOkG X.prog X.w K X.mg X.base CX0 3 fp fdp ["self"] (spReprP C0)) (bp : Binds K fdp ["self"] []) (hr : RoomG 9 X.A) : CallR X (.builtin "repr") (rReprS K R0 C0) := by
  subst hK
  intro pins s σ H vs us Q I r h
  obtain ⟨x, t, rfl, hs, q⟩ := h
  have up : ∀ {z : Int}, z.natAbs < 2 ^ 200 → z.natAbs < 2 ^ 1900 := fun h => Nat.lt_of_lt_of_le h (Nat.pow_le_pow_right (by decide) (by decide))
  have hO : ∀ p t, RatO R0 H p t → RpG X 1 [] (.ref p) t H := fun p t ⟨c, d, h, hc, hd, e⟩ => by
    obtain ⟨dx, hp⟩ := id h
    rw [e]
    exact rpG_own mq gq bq hp fun H' Q e k => ⟨p, c, d, rfl, ⟨dx, e _ _ hp⟩, up hc, up hd, k H' Ext.rfl'⟩
  rcases hs with ⟨h, rfl⟩ | ⟨p, rfl, c, d, h, hc, hd, rfl⟩ | ⟨p, rs, rfl, h, ok, rfl⟩ | ⟨a, kvs, rfl, h, hk, rfl⟩ | ⟨a, as, xs, ts, rfl, n, hl, hp, rfl, hz⟩ | ⟨a, as, xs, ts, rfl, n, hl, hp, rfl, hz⟩
  · exact call_reprI pins s σ H _ us Q I r ⟨x, rfl, h, q⟩
  · obtain ⟨dx, hp⟩ := id h
    exact call_reprO mq gq bq (hr.room.mono (by decide)) pins s σ H _ us Q I r ⟨p, dx, _, rfl, hp, p, c, d, rfl, h, up hc, up hd, _, rfl, q H Ext.rfl'⟩
  · obtain ⟨dx, lr, lp, ll, g, h1, h2⟩ := id h
    exact call_reprOG mp gp bp (hr.mono (by decide)) pins s σ H _ us Q I r ⟨p, dx, _, rfl, h1, p, rs, rfl, h, ok, fun H' e => ⟨_, rfl, q H' e⟩⟩
  · refine call_reprDI hr pins s σ H _ us Q I r ⟨a, kvs, rfl, h, ?_, ?_, ?_, q⟩
    · rcases hk with rfl | rfl <;> decide +kernel
    · rcases hk with rfl | rfl <;> decide +kernel
    · rcases hk with rfl | rfl <;> (rw [sizeLine_eq]; decide +kernel)
  · have rp : Paired (fun x t => RpG X 3 as x t H) xs ts := pd_imp (fun _ _ w => It.rp hO w) hp
    refine call_reprL (n := 3) (hr.mono (by decide)) pins s σ H _ us Q I r ⟨a, xs, as, ts, rfl, hl, n, (pd_lenT rp).symm, fun i x hx => ?_, hz, q⟩
    obtain ⟨t, h1, h2⟩ := pd_get1 rp hx
    exact ⟨t, h1, h2⟩
  · exact call_reprT (n := 3) (hr := hr.mono (by decide)) pins s σ H _ us Q I r ⟨a, xs, as, ts, rfl, hl, n, pd_imp (fun _ _ w => It.rp hO w) hp, hz, q⟩
theorem sm_b3 (b : Bool) : (PyData.list [.bool b, .bool b, .bool b]).showable = true ∧ (PyData.list [.bool b, .bool b, .bool b]).hasDict = false ∧ (PyData.list [.bool b, .bool b, .bool b]).depth ≤ 64 ∧ (PyData.list [.bool b, .bool b, .bool b]).shown.length ≤ sizeLine := by
  rw [sizeLine_eq]
  cases b <;> exact ⟨by decide +kernel, by decide +kernel, by decide +kernel, by decide +kernel⟩
def spAsked (K : PySem.W.Frag) (R0 C0 : Addr) : Sp := fun vs H Q _ => ∃ (x l : Addr) (v : V) (rs : List (List Cut)) (os : Option (List (Option Int))) (t : Str), vs = [.ref x, .ref l, v] ∧ PlanAt C0 H x rs ∧ RndL H l rs ∧ OkR rs ∧ ThK K H v os ∧ Shw K R0 C0 H v t ∧ ∀ H', Ext H H' → Q (.bl true) H'
theorem sc_asked : FnScope ["_law_tome", "_law_rounds_here", "_law_thing", "_law_due", "_law_shown", "_law_told"] ["_law_tome", "_law_rounds_here", "_law_thing"] (defScope s_asked) := ⟨rfl, rfl, rfl, by decide +kernel, rfl, by decide +kernel, by decide +kernel⟩
theorem ok_asked (F : FunD K "_law_asked" "_law_asked" (defArgs s_asked) (defBody s_asked) (defScope s_asked) [] [] f fd) (T : TB mg) {fis_right : Addr} {fdis_right : FuncData} (Dis_right : Gd P w K mg base "_law_is_right" 2 ["_law_rounds_here", "_law_some"] (spIsRight K) fis_right fdis_right) {fis_nameE : Addr} {fdis_nameE : FuncData} (Dis_nameE : Gd P w K mg base "is_name" 7 ["plan", "value"] (spIsNameE K C0) fis_nameE fdis_nameE) (kb_is_name_value_plan : KBn K fdis_nameE ["plan", "value"] 0 ["value", "plan"] (fun us ws => us ++ pm [1, 0] ws) (fun vs zs => vs ++ pm [1, 0] zs)) {fq_ fp_ : Addr} {fdq_ fdp_ : FuncData} (m_Ratio___repr__ : Meth K R0 "__repr__" fq_) (g_Ratio___repr__ : FnOk P w K mg base CX0 1 fq_ fdq_ ["self"] (spReprRa R0)) (b_Ratio___repr__ : Binds K fdq_ ["self"] []) (mRp : Meth K C0 "__repr__" fp_) (Grp : FnOkG P w K mg base CX0 3 fp_ fdp_ ["self"] (spReprP C0)) (bRp : Binds K fdp_ ["self"] []) : FnOkG P w K mg base CX0 11 f fd ["_law_tome", "_law_rounds_here", "_law_thing"] (spAsked K R0 C0) := by
  refine okG F sc_asked (fun vs H Q E h => ?_) (fun cdv A outer s H vs Q E hr h => ?_)
  · obtain ⟨x, l, v, rs, os, t, rfl, hp, hl, ok, hth, hsh, k⟩ := h
    rfl
  · obtain ⟨x, l, v, rs, os, t, rfl, hp, hl, ok, hth, hsh, k⟩ := h
    refine ⟨_, (pss_cons (ps_par (i := 3) (j := 4) (by rfl) sc_asked.nd rfl rfl (by decide) rfl rfl (pa_cons (pe_gd Dis_right hr.room (by decide) (by rfl) (pa_cons (pv 1) (pa_cons (pv 2) pa_nil))) (pa_cons (pe_callB (call_reprS (K := K) rfl m_Ratio___repr__ g_Ratio___repr__ b_Ratio___repr__ mRp Grp bRp (RoomG.mono hr (by decide))) (by rfl) T.repr boot_repr (pa_cons (pv 2) pa_nil)) pa_nil)) (by rfl))
      (pss_cons (ps_set (i := 5) sc_asked.nd rfl (.inl rfl) (pe_lst (pa_cons (pe_gd Dis_nameE hr.room (by decide) (by rfl) (pa_cons (pv 0) (pa_cons (pv 2) pa_nil))) (pa_cons (pe_gdK Dis_nameE kb_is_name_value_plan hr.room (by decide) (by rfl) (pk_cons (pv 2) (pk_cons (pv 0) pk_nil))) (pa_cons (pe_gd Dis_nameE hr.room (by decide) (by rfl) (pa_cons (pv 0) (pa_cons (pv 2) pa_nil))) pa_nil)))))
      (pss_one (ps_ret (pe_and (pe_cmpR op_eq (pe_callB (call_reprDK (K := K) hr rfl) (by rfl) T.repr boot_repr (pa_cons (pv 5) pa_nil)) (pe_callB (call_reprDK (K := K) hr rfl) (by rfl) T.repr boot_repr (pa_cons (pe_op op_rep (pe_lst (pa_cons (pv 3) pa_nil)) pe_int) pa_nil)) (nomark _)) (pe_one (pe_cmpR op_eq (pe_callB (call_reprS (K := K) rfl m_Ratio___repr__ g_Ratio___repr__ b_Ratio___repr__ mRp Grp bRp (RoomG.mono hr (by decide))) (by rfl) T.repr boot_repr (pa_cons (pv 2) pa_nil)) (pv 4) (nomark _)))))))), ?_⟩
    refine ⟨_, rfl, _, rfl, l, v, rs, os, rfl, hl, ok, hth, fun H1 e1 => ⟨_, rfl, v, t, rfl, hsh.ext e1, fun H2 e2 => ⟨_, _, rfl, ?_⟩⟩⟩
    have e12 := e1.trans e2
    refine ⟨_, rfl, _, rfl, x, rs, v, os, rfl, hp.ext e12, ok, hth.ext e12, fun H3 e3 => ?_⟩
    have e13 := e12.trans e3
    refine ⟨_, rfl, _, rfl, rfl, x, rs, v, os, rfl, hp.ext e13, ok, hth.ext e13, fun H4 e4 => ?_⟩
    have e14 := e13.trans e4
    refine ⟨_, rfl, _, rfl, x, rs, v, os, rfl, hp.ext e14, ok, hth.ext e14, fun H5 e5 => ⟨(by show 3 ≤ sizeLine; decide), fun tl htl => ?_⟩⟩
    have e15 := e14.trans e5
    obtain ⟨b, hb⟩ : ∃ b, b = nmB rs os := ⟨_, rfl⟩
    rw [← hb]
    have e6 := Ext.upd (H := H5) (o := .lst [.bl b, .bl b, .bl b]) htl
    have v6 : (upd H5 tl (.lst [.bl b, .bl b, .bl b])) tl = some (.lst [.bl b, .bl b, .bl b]) := upd_same
    generalize upd H5 tl (.lst [.bl b, .bl b, .bl b]) = H6 at e6 v6 ⊢
    have sm := sm_b3 b
    have dp3 : ∀ {H : Hp} {a : Addr}, H a = some (.lst [.bl b, .bl b, .bl b]) → Dp K H (.ref a) (.list [.bool b, .bool b, .bool b]) := fun h => .lst (SqL.of h) (.cons (.bl b) (.cons (.bl b) (.cons (.bl b) .nil)))
    refine ⟨_, rfl, tl, _, rfl, dp3 v6, sm.1, sm.2.1, sm.2.2.1, sm.2.2.2, ?_⟩
    refine ⟨_, rfl, (by show 1 ≤ sizeLine; decide), fun l1 hl1 => ⟨l1, 3, [.bl b], rfl, rfl, upd_same, by decide, by decide, (by show 3 ≤ sizeLine; decide), fun l2 hl2 => ?_⟩⟩
    have e7 := (Ext.upd (o := .lst [.bl b]) hl1).trans (Ext.upd (o := .lst (List.replicate (3 : Int).toNat [V.bl b]).flatten) hl2)
    have v7 : (upd (upd H6 l1 (.lst [.bl b])) l2 (.lst (List.replicate (3 : Int).toNat [V.bl b]).flatten)) l2 = some (.lst [.bl b, .bl b, .bl b]) := upd_same
    generalize upd (upd H6 l1 (.lst [.bl b])) l2 (.lst (List.replicate (3 : Int).toNat [V.bl b]).flatten) = H7 at e7 v7 ⊢
    have e17 := (e15.trans e6).trans e7
    refine ⟨l2, _, rfl, dp3 v7, sm.1, sm.2.1, sm.2.2.1, sm.2.2.2, rfl, true, ?_, ?_⟩
    · rw [decide_eq_true rfl]
    rw [if_pos rfl]
    refine ⟨_, rfl, v, t, rfl, hsh.ext e17, fun H8 e8 => ⟨_, rfl, rfl, ?_⟩⟩
    rw [decide_eq_true rfl]
    exact k H8 (e17.trans e8)
end
end Mc

set_option Elab.async false
set_option linter.all false
set_option maxRecDepth 100000
set_option maxHeartbeats 4000000
set_option exponentiation.threshold 20000
namespace Mc
open PySem PySem.Spec PyProof.Rows L2 ClX StX
section
variable {P : Program} {w : World} {K : PySem.W.Frag} {mg : Str → Option Value} {base : Heap} {f R0 C0 aX : Addr} {mc : Value} {fd : FuncData}
theorem sg2 {rs : List (List Cut)} (ok : OkR rs) (i : Nat) : 2 ≤ sgF rs i := by
  have h1 := ok.h1 _ (csA_mem ok.l1 i)
  have hc := ok.hc _ (csA_mem ok.l1 i)
  show 2 ≤ (placesF (csA rs i)).length
  generalize csA rs i = cs at *
  obtain ⟨a, c, rfl⟩ : ∃ a c, cs = a ++ [c] := by
    have ne : cs ≠ [] := ne_of_len h1
    exact ⟨cs.dropLast, cs.getLast ne, (List.dropLast_concat_getLast ne).symm⟩
  rw [placesF_snoc, spread_length, placesF_length]
  have p := pos_cols fun d hd => hc d (List.mem_append_left _ hd)
  exact Nat.le_trans (hc c (List.mem_append_right _ List.mem_cons_self)).1 (Nat.le_mul_of_pos_left _ (Nat.mul_pos p.1 p.2))
theorem It.up {K : PySem.W.Frag} {O : Hp → Addr → Str → Prop} {H : Hp} : ∀ {n : Nat} {as : List Addr} {x : V} {t : Str}, It K O H n as x t → It K O H (n + 1) as x t
  | 0, _, _, _, h => .inl h
  | n + 1, as, x, t, h => by
    rcases h with h | h | ⟨a, bs, xs, ts, e1, m, s2, na, hl, hp, et⟩ | ⟨a, bs, xs, ts, e1, m, s2, na, hl, hp, et⟩
    · exact .inl h
    · exact .inr (.inl h)
    · exact .inr (.inr (.inl ⟨a, bs, xs, ts, e1, m, s2, na, hl, pd_impT (fun _ _ w => It.up w) hp, et⟩))
    · exact .inr (.inr (.inr ⟨a, bs, xs, ts, e1, m, s2, na, hl, pd_impT (fun _ _ w => It.up w) hp, et⟩))
/-- a thing that is asked about: of what kind it is, and how it is shown -/
def Tg (K : PySem.W.Frag) (R0 C0 : Addr) (H : Hp) (v : V) : Prop := ∃ os t, ThK K H v os ∧ Shw K R0 C0 H v t
theorem Tg.ext {K : PySem.W.Frag} {R0 C0 : Addr} {H H' : Hp} {v : V} (h : Tg K R0 C0 H v) (e : Ext H H') : Tg K R0 C0 H' v := by
  obtain ⟨os, t, h1, h2⟩ := h
  exact ⟨os, t, h1.ext e, h2.ext e⟩
theorem cel_texts {K : PySem.W.Frag} {R0 : Addr} {H : Hp} {as : List Addr} : ∀ {xs : List V} {os : List (Option Int)}, Paired (Cel K R0 H as) xs os → ∃ ts, Paired (It K (RatO R0) H 1 as) xs ts ∧ (∀ t ∈ ts, t.length ≤ 2010)
  | _, _, .nil => ⟨[], .nil, fun _ z => nomatch z⟩
  | _, _, .cons ⟨_, t, h, l⟩ r => by
    obtain ⟨ts, h1, h2⟩ := cel_texts r
    refine ⟨t :: ts, .cons h h1, fun u hu => ?_⟩
    rcases List.mem_cons.mp hu with rfl | hu
    · exact l
    · exact h2 u hu
theorem joinL_le : ∀ ts : List Str, (Str.join ", " ts).length ≤ piled ts
  | [] => by decide +kernel
  | [t] => by
    rw [piled_cons]
    show t.length ≤ _
    omega
  | t :: u :: r => by
    have ih := joinL_le (u :: r)
    have e : (Str.join ", " (t :: u :: r)).length = t.length + 2 + (Str.join ", " (u :: r)).length := by
      show (t ++ ((", " : String) : Str) ++ Str.join ", " (u :: r)).length = _
      rw [strLen_append, strLen_append]
      rfl
    rw [e, piled_cons]
    omega
theorem tup_le (ts : List Str) : (tupleText ts).length ≤ piled ts + 3 := by
  have h := joinL_le ts
  unfold tupleText
  rw [strLen_append, strLen_append]
  have e1 : ((("(" : String) : Str)).length = 1 := rfl
  have e3 : (((if ts.length == 1 then ",)" else ")" : String) : Str)).length ≤ 2 := by split <;> decide
  have e2 := h
  omega
theorem pd_lenC {α β : Type} {F : α → β → Prop} {l : List α} {m : List β} (h : Paired F l m) : l.length = m.length := pd_lenT h
theorem row_texts {K : PySem.W.Frag} {R0 : Addr} {H : Hp} {as : List Addr} {xs : List V} {os : List (Option Int)} (h : Paired (Cel K R0 H as) xs os) (l : os.length ≤ 60) : ∃ ts, Paired (It K (RatO R0) H 1 as) xs ts ∧ (tupleText ts).length ≤ 121000 ∧ (listText ts).length ≤ 121000 := by
  obtain ⟨ts, h1, h2⟩ := cel_texts h
  have n1 := pd_lenC h
  have n2 := pd_lenC h1
  have p := piled_le h2
  have p2 : ts.length * (2010 + 2) ≤ 60 * (2010 + 2) := Nat.mul_le_mul_right _ (by omega)
  have q1 := tup_le ts
  have q2 := listText_le ts
  exact ⟨ts, h1, by omega, by omega⟩
theorem tg_row {K : PySem.W.Frag} {R0 C0 : Addr} {H : Hp} {a : Addr} {os : List (Option Int)} (h : Row K R0 H a os) (l : os.length ≤ 60) : Tg K R0 C0 H (.ref a) := by
  obtain ⟨xs, as, h1, h2, h3, h4⟩ := h
  obtain ⟨ts, p1, p2, _⟩ := row_texts h2 l
  have n1 := pd_lenC h2
  refine ⟨some os, tupleText ts, .inr ⟨a, xs, os, rfl, rfl, h1, pd_imp (fun _ _ w => w.1) h2, by omega⟩, .inr (.inr (.inr (.inr (.inr ⟨a, as, xs, ts, rfl, h4, h1, pd_imp (fun _ _ w => It.up w) p1, rfl, ?_⟩))))⟩
  rw [sizeLine_eq]
  exact Nat.le_trans p2 (by decide)
theorem tg_list {K : PySem.W.Frag} {R0 C0 : Addr} {H : Hp} {a : Addr} {zs : List Nat} (h : H a = some (.lst (zs.map fun z : Nat => V.int z))) (l : zs.length ≤ 60) (hz : ∀ z ∈ zs, z < 2 ^ 64) : Tg K R0 C0 H (.ref a) := by
  have h2 : Paired (Cel K R0 H []) (zs.map fun z : Nat => V.int z) (zs.map fun z : Nat => some (z : Int)) := by
    clear h l
    induction zs with
    | nil => exact .nil
    | cons z zs ih => exact .cons (cel_int (Nat.lt_of_lt_of_le (show ((z : Int)).natAbs < 2 ^ 64 from hz z List.mem_cons_self) (Nat.pow_le_pow_right (by decide) (by decide)))) (ih fun y hy => hz y (List.mem_cons_of_mem _ hy))
  obtain ⟨ts, p1, _, p2⟩ := row_texts h2 (by rw [List.length_map]; exact l)
  refine ⟨none, listText ts, .inl ⟨rfl, _, .base (.lst h), kit_ty (by decide +kernel)⟩, .inr (.inr (.inr (.inr (.inl ⟨a, [], _, ts, rfl, (fun z => nomatch z), SqL.of h, pd_imp (fun _ _ w => It.up w) p1, rfl, ?_⟩))))⟩
  rw [sizeLine_eq]
  exact Nat.le_trans p2 (by decide)
theorem one_le {t : Str} (h : t.length ≤ 121000) : (tupleText [t]).length ≤ sizeLine ∧ (listText [t]).length ≤ sizeLine := by
  have q1 := tup_le [t]
  have q2 := listText_le [t]
  have e : piled [t] = t.length + 2 := by simp [piled]
  have z : (130000 : Nat) ≤ sizeLine := by rw [sizeLine_eq]; decide
  exact ⟨by omega, by omega⟩
theorem tg_tup1 {K : PySem.W.Frag} {R0 C0 : Addr} {H : Hp} {a b : Addr} {os : List (Option Int)} (r : Row K R0 H a os) (l : os.length ≤ 60) (ha : H a ≠ none) (hb : H b = none) : Tg K R0 C0 (upd H b (.tup [.ref a])) (.ref b) := by
  have e := Ext.upd (H := H) (o := .tup [.ref a]) hb
  have v : (upd H b (.tup [.ref a])) b = some (.tup [.ref a]) := upd_same
  obtain ⟨xs, as, h1, h2, h3, h4⟩ := r
  have nb : b ∉ a :: as := fun m => by
    rcases List.mem_cons.mp m with rfl | m
    · exact ha hb
    · exact h3 b m hb
  generalize upd H b (.tup [.ref a]) = H' at e v ⊢
  have h1 := h1.ext e
  have h2 := pd_imp (fun _ _ w => Cel.ext w e) h2
  obtain ⟨ts, p1, p2, _⟩ := row_texts h2 l
  refine ⟨some [none], tupleText [tupleText ts], .inr ⟨b, [.ref a], [none], rfl, rfl, SqT.of v, .cons (.inr ⟨rfl, _, tyx_tup h1, .inl (kit_ty (by decide +kernel))⟩) .nil, (show 1 ≤ 1000 by decide)⟩, .inr (.inr (.inr (.inr (.inr ⟨b, a :: as, [.ref a], [tupleText ts], rfl, nb, SqT.of v, .cons (.inr (.inr (.inr ⟨a, as, xs, ts, rfl, List.mem_cons_self, fun c hc => List.mem_cons_of_mem _ hc, h4, h1, p1, rfl⟩))) .nil, rfl, (one_le p2).1⟩))))⟩
theorem tg_lst1 {K : PySem.W.Frag} {R0 C0 : Addr} {H : Hp} {a b : Addr} {os : List (Option Int)} (r : Row K R0 H a os) (l : os.length ≤ 60) (ha : H a ≠ none) (hb : H b = none) : Tg K R0 C0 (upd H b (.lst [.ref a])) (.ref b) := by
  have e := Ext.upd (H := H) (o := .lst [.ref a]) hb
  have v : (upd H b (.lst [.ref a])) b = some (.lst [.ref a]) := upd_same
  obtain ⟨xs, as, h1, h2, h3, h4⟩ := r
  have nb : b ∉ a :: as := fun m => by
    rcases List.mem_cons.mp m with rfl | m
    · exact ha hb
    · exact h3 b m hb
  generalize upd H b (.lst [.ref a]) = H' at e v ⊢
  have h1 := h1.ext e
  have h2 := pd_imp (fun _ _ w => Cel.ext w e) h2
  obtain ⟨ts, p1, p2, _⟩ := row_texts h2 l
  refine ⟨none, listText [tupleText ts], .inl ⟨rfl, _, .base (.lst v), kit_ty (by decide +kernel)⟩, .inr (.inr (.inr (.inr (.inl ⟨b, a :: as, [.ref a], [tupleText ts], rfl, nb, SqL.of v, .cons (.inr (.inr (.inr ⟨a, as, xs, ts, rfl, List.mem_cons_self, fun c hc => List.mem_cons_of_mem _ hc, h4, h1, p1, rfl⟩))) .nil, rfl, (one_le p2).2⟩))))⟩
theorem tg_imm {K : PySem.W.Frag} {R0 C0 : Addr} {H : Hp} {x : V} (h : shOk x) : Tg K R0 C0 H x := by
  refine ⟨none, shT x, .inl ⟨rfl, ?_⟩, .inl ⟨h, rfl⟩⟩
  cases x with
  | non => exact ⟨_, .base .non, kit_ty (by decide +kernel)⟩
  | bl b => exact ⟨_, .base (.bl b), kit_ty (by decide +kernel)⟩
  | int i => exact ⟨_, .base (.int i), kit_ty (by decide +kernel)⟩
  | str s => exact ⟨_, .base (.str s), kit_ty (by decide +kernel)⟩
  | _ => exact h.elim
theorem tg_dict {K : PySem.W.Frag} {R0 C0 : Addr} {H : Hp} {a : Addr} {kvs : List (Int × Int)} (h : H a = some (.dK (kvs.map fun p => (Sum.inl p.1, V.int p.2)))) (k : kvs = [] ∨ kvs = [(0, 0)]) : Tg K R0 C0 H (.ref a) :=
  ⟨none, _, .inl ⟨rfl, _, .base (.dK h), kit_ty (by decide +kernel)⟩, .inr (.inr (.inr (.inl ⟨a, kvs, rfl, h, k, rfl⟩)))⟩
theorem PairsAt.frm {H H' : Hp} {p l : Addr} {ps : List Pr} (h : PairsAt H l ps) (ne : ps ≠ []) (hp : Pot H p) (f : Frm [p] H H') : PairsAt H' l ps := by
  obtain ⟨as, h1, h2⟩ := h
  exact ⟨as, f _ _ h1 (hp.ne_refs h1 (pd_ne h2 ne)), pd_imp (fun _ _ q => f.tup hp q) h2⟩
theorem plan_frm {C0 : Addr} {H H' : Hp} {p t : Addr} {rs : List (List Cut)} (h : PlanAt C0 H t rs) (ok : OkR rs) (hp : Pot H p) (f : Frm [p] H H') : PlanAt C0 H' t rs := by
  obtain ⟨dx, lr, lp, ll, g, h1, ⟨⟨a1, r1, r2⟩, ⟨a2, p1, p2⟩, ⟨a3, q1, q2⟩, hg⟩⟩ := h
  have ne := ne_of_len ok.l1
  have nt : t ∉ [p] := fun z => by
    obtain ⟨x, y, e, _⟩ := hp
    rw [List.mem_singleton.mp z, e] at h1
    cases h1
  have ne2 : partsF rs ≠ [] := fun e => ne (by unfold partsF at e; exact List.map_eq_nil_iff.mp e)
  refine ⟨dx, lr, lp, ll, g, f _ _ h1 nt, ⟨a1, f _ _ r1 (hp.ne_refs r1 (pd_ne r2 ne)), pd_impM (fun a cs m q => cutsL_pot q (ne_of_len (ok.h1 cs m)) hp f) r2⟩, ⟨a2, f _ _ p1 (hp.ne_refs p1 (pd_ne p2 ne2)), pd_imp (fun _ _ q => f.tup hp q) p2⟩, ⟨a3, f _ _ q1 (hp.ne_refs q1 (pd_ne q2 ne)), pd_impM (fun a cs m q => q.frm (fun e => ?_) hp f) q2⟩, hg⟩
  have h1 := placesF_length cs
  have h2 := pos_cols (ok.hc cs m)
  have h3 := Nat.mul_pos h2.1 h2.2
  rw [e] at h1
  have : (0 : Nat) = colsF cs * rowsF cs := h1
  omega
theorem placesF_head {cs : List Cut} (h : ∀ c ∈ cs, okC c) : (placesF cs)[0]? = some (0, 0) := by
  revert h
  refine snoc_ind (P := fun cs => (∀ c ∈ cs, okC c) → (placesF cs)[0]? = some (0, 0)) (fun _ => rfl) (fun cs c ih h => ?_) cs
  have h0 := ih fun d hd => h d (List.mem_append_left _ hd)
  have hc := h c (List.mem_append_right _ List.mem_cons_self)
  have c1 := hc.1
  rw [placesF_get cs (by omega), Nat.zero_div, h0, Nat.zero_mod]
  unfold stepC
  simp
theorem pairF_zeros {rs : List (List Cut)} (ok : OkR rs) (n : Nat) : pairF rs (List.replicate n 0) = (0, 0) := by
  have key : ∀ n k, pairFrom rs k (0, 0) (List.replicate n 0) = (0, 0) := fun n => by
    induction n with
    | zero => intro k; rfl
    | succ n ih =>
      intro k
      rw [List.replicate_succ]
      show pairFrom rs (k + 1) (stepN rs (0, 0) k 0) (List.replicate n 0) = _
      have e : stepN rs (0, 0) k 0 = (0, 0) := by
        unfold stepN plA
        rw [List.getD_eq_getElem?_getD, placesF_head (ok.hc _ (csA_mem ok.l1 k))]
        simp
      rw [e]
      exact ih (k + 1)
  exact key n 0
theorem zeros_ok {rs : List (List Cut)} (ok : OkR rs) (n : Nat) : NameOk rs (List.replicate n 0) := fun i z h => by
  have := sg2 ok i
  rw [List.getElem?_replicate] at h
  split at h
  · cases h; omega
  · cases h
theorem name_lt {rs : List (List Cut)} (ok : OkR rs) {zs : List Nat} (nm : NameOk rs zs) : ∀ z ∈ zs, z < 32 := fun z hz => by
  obtain ⟨i, hi, e⟩ := List.mem_iff_getElem.mp hz
  have h1 := nm i z (by rw [List.getElem?_eq_getElem hi, e])
  have h2 : sgF rs i ≤ 32 := by
    show (placesF (csA rs i)).length ≤ 32
    rw [placesF_length]
    exact ok.h32 _ (csA_mem ok.l1 i)
  omega
theorem Frm.domP {p : Addr} {H H' : Hp} (f : Frm [p] H H') (hp : Pot H' p) {b : Addr} (h : H b ≠ none) : H' b ≠ none := fun z => by
  by_cases e : b = p
  · obtain ⟨_, _, w, _⟩ := hp
    rw [e, w] at z
    cases z
  · cases w : H b with
    | none => exact h w
    | some o => rw [f _ _ w (fun m => e (List.mem_singleton.mp m))] at z; cases z
theorem nm_0 {rs : List (List Cut)} (ok : OkR rs) : nmB rs (some [some 0]) = true := nmB_true fun i o h => by
  match i, h with
  | 0, h =>
    cases h
    have := sg2 ok 0
    unfold belB
    simp
    omega
theorem nm_1 {rs : List (List Cut)} (ok : OkR rs) : nmB rs (some [some 1]) = true := nmB_true fun i o h => by
  match i, h with
  | 0, h =>
    cases h
    have := sg2 ok 0
    unfold belB
    simp
    omega
theorem nm_n {rs : List (List Cut)} : nmB rs (some [none]) = false := nmB_false (i := 0) rfl rfl
theorem take_bl {bs : List Bool} {j : Nat} {b : Bool} (h : bs[j]? = some b) : (bs.take j).map V.bl ++ [V.bl b] = (bs.take (j + 1)).map V.bl := by
  rw [List.take_add_one, h, List.map_append]
  rfl
theorem sc_right : FnScope ["_law_pot_here", "_law_rounds_here", "_law_tome", "_law_turn", "_law_glyphs_here", "_law_near", "_law_things", "_law_told", "_law_thing"] ["_law_pot_here"] (defScope s_right) := ⟨rfl, rfl, rfl, by decide +kernel, rfl, by decide +kernel, by decide +kernel⟩
/-- neither a plan nor a ratio is a tuple -/
structure KindT (K : PySem.W.Frag) (C0 R0 : Addr) : Prop where
  p : PySem.W.kitOne K (.ref C0) (.type "tuple") = some false
  r : PySem.W.kitOne K (.ref R0) (.type "tuple") = some false
def spRight : Sp := fun vs H Q _ => ∃ p : Addr, vs = [.ref p] ∧ Pot H p ∧ ∀ H', Frm [p] H H' → Pot H' p → Q (.bl true) H'
theorem ok_right (F : FunD K "_law_right" "_law_right" (defArgs s_right) (defBody s_right) (defScope s_right) [] [] f fd) (T : TB mg) (RQ : RatT K mg R0) (R : PlanT K mg C0 aX mc) (RE : PlanE K C0) (KT : KindT K C0 R0) {fdraw : Addr} {fddraw : FuncData} (Ddraw : Gd P w K mg base "_law_draw" 1 ["_law_pot_here", "_law_many"] (spDraw) fdraw fddraw) {fpick : Addr} {fdpick : FuncData} (Dpick : Gd P w K mg base "_law_pick" 2 ["_law_pot_here", "_law_some"] (spPick) fpick fdpick) {frounds : Addr} {fdrounds : FuncData} (Drounds : Gd P w K mg base "_law_rounds" 3 ["_law_pot_here"] (spRoundsL) frounds fdrounds) {freal : Addr} {fdreal : FuncData} (Dreal : Gd P w K mg base "_law_real" 8 ["_law_pot_here", "_law_rounds_here"] (spReal C0) freal fdreal) {fglyphs : Addr} {fdglyphs : FuncData} (Dglyphs : Gd P w K mg base "_law_glyphs" 2 ["_law_pot_here", "_law_rounds_here", "_law_many"] (spGlyphs K) fglyphs fdglyphs) {fturned : Addr} {fdturned : FuncData} (Dturned : Gd P w K mg base "_law_turned" 4 ["_law_pot_here", "_law_rounds_here", "_law_glyphs_here"] (spTurnedR K R0) fturned fdturned) {fasked : Addr} {fdasked : FuncData} (Dasked : Gg P w K mg base "_law_asked" 11 ["_law_tome", "_law_rounds_here", "_law_thing"] (spAsked K R0 C0) fasked fdasked) {fchildren : Addr} {fdchildren : FuncData} (Dchildren : Gd P w K mg base "children" 9 ["plan", "name"] (spChildren K C0) fchildren fdchildren) {fname_of : Addr} {fdname_of : FuncData} (Dname_of : Gd P w K mg base "name_of" 8 ["plan", "f", "pair"] (spNameWith C0) fname_of fdname_of) {fis_nameE : Addr} {fdis_nameE : FuncData} (Dis_nameE : Gd P w K mg base "is_name" 7 ["plan", "value"] (spIsNameE K C0) fis_nameE fdis_nameE) {fI : Addr} {fdI : FuncData} {dsI : List Value} (MI : Mk K R0 fI) (GI : FnOk P w K mg base CX0 2 fI fdI ["self", "top", "bottom"] (spInitR R0)) (bI2 : Binds K fdI ["self", "top", "bottom"] []) (hdI : Vals [.int 1] dsI) (bI1 : Binds K fdI ["self", "top", "bottom"] dsI) : FnOkG P w K mg base CX0 12 f fd ["_law_pot_here"] (spRight) := by
  refine okG F sc_right (fun vs H Q E h => ?_) (fun cdv A outer s H vs Q E hr h => ?_)
  · obtain ⟨p, rfl, hp, k⟩ := h
    rfl
  · obtain ⟨p, rfl, hp, k⟩ := h
    refine ⟨_, (pss_cons (ps_set (i := 1) sc_right.nd rfl (.inr rfl) (pe_gd Drounds hr.room (by decide) (by rfl) (pa_cons (pv 0) pa_nil)))
      (pss_cons (ps_set (i := 2) sc_right.nd rfl (.inr rfl) (pe_gd Dreal hr.room (by decide) (by rfl) (pa_cons (pv 0) (pa_cons (pv 1) pa_nil))))
      (pss_cons (ps_for PassesOwn.never rfl (pi_range1 (by rfl) T.range (pa_cons pe_int pa_nil)) (pg_name (i := 3) sc_right.nd rfl (.inl rfl)) (pss_cons (ps_set (i := 4) sc_right.nd rfl (.inl rfl) (pe_gd Dglyphs hr.room (by decide) (by rfl) (pa_cons (pv 0) (pa_cons (pv 1) (pa_cons (pe_gd Dpick hr.room (by decide) (by rfl) (pa_cons (pv 0) (pa_cons (pe_lst (pa_cons pe_int (pa_cons pe_int (pa_cons pe_int (pa_cons (pe_gd Ddraw hr.room (by decide) (by rfl) (pa_cons (pv 0) (pa_cons pe_int pa_nil))) (pa_cons (pe_gd Ddraw hr.room (by decide) (by rfl) (pa_cons (pv 0) (pa_cons pe_int pa_nil))) pa_nil)))))) pa_nil))) pa_nil)))))
      (pss_cons (ps_set (i := 5) sc_right.nd rfl (.inl rfl) (pe_gd Dturned hr.room (by decide) (by rfl) (pa_cons (pv 0) (pa_cons (pv 1) (pa_cons (pv 4) pa_nil)))))
      (pss_cons (ps_set (i := 6) sc_right.nd rfl (.inl rfl) (pe_lst (pa_cons (pv 4) (pa_cons (pv 5) (pa_cons (pe_gd Dturned hr.room (by decide) (by rfl) (pa_cons (pv 0) (pa_cons (pv 1) (pa_cons (pv 5) pa_nil)))) (pa_cons (pe_callTy (call_listK (K := K) rfl) (by rfl) T.list (by decide +kernel) (pa_cons (pv 4) pa_nil)) (pa_cons (pe_op (op_catW (K := K) rfl) (pv 4) (pe_tup (pa_cons pe_int pa_nil))) (pa_cons (pe_tup (pa_cons (pv 4) pa_nil)) (pa_cons (pe_lst (pa_cons (pv 5) pa_nil)) pa_nil)))))))))
      (pss_cons (ps_set (i := 6) sc_right.nd rfl (.inl rfl) (pe_op op_cat (pv 6) (pe_lst (pa_cons pe_non (pa_cons pe_int (pa_cons (pe_op op_pow pe_int pe_int) (pa_cons pe_bl (pa_cons pe_str (pa_cons pe_str (pa_cons pe_str (pa_cons pe_dnewK (pa_cons (pe_disp (pps_cons pe_int pe_int pps_nil) (by rfl) (by rfl) (fun z => by cases z) (by decide)) (pa_cons (pv 2) (pa_cons (pe_make MI GI (hr.room.mono (by decide)) (by rfl) RQ.mgR bI2 .nil pass0 (pa_cons pe_int (pa_cons pe_int pa_nil))) pa_nil))))))))))))))
      (pss_cons (ps_if (pt_not (pt_val (pe_callB (cr_all rfl) (by rfl) T.all (by decide +kernel) (pa_cons (pe_lc (own := [("_law_thing", 8)]) (g := gName 8) (tt := tYes) rfl sc_right.nd (pi_list (pv 6)) (blkOk_by (own := [("_law_thing", 8)]) (N := ["_law_pot_here", "_law_rounds_here", "_law_tome", "_law_turn", "_law_glyphs_here", "_law_near", "_law_things", "_law_told", "_law_thing"]) (sc := defScope s_right) (by decide +kernel)) (fun _ _ _ _ _ => (pg_name (i := 8) sc_right.nd rfl (.inl rfl))) (fun _ _ _ _ _ => pts_nil) (fun _ _ _ _ _ => (pe_gg Dasked hr (by decide) (by rfl) (pa_cons (pv 2) (pa_cons (pv 1) (pa_cons (pv 8) pa_nil)))))) pa_nil)))) (pss_one (ps_ret pe_bl)) pss_nil)
      (pss_cons (ps_if (pt_not (pt_val (pe_callB (cr_all rfl) (by rfl) T.all (by decide +kernel) (pa_cons (pe_lc (own := [("_law_thing", 8)]) (g := gName 8) (tt := tYes) rfl sc_right.nd (pi_list (pe_gd Dchildren hr.room (by decide) (by rfl) (pa_cons (pv 2) (pa_cons (pv 4) pa_nil)))) (blkOk_by (own := [("_law_thing", 8)]) (N := ["_law_pot_here", "_law_rounds_here", "_law_tome", "_law_turn", "_law_glyphs_here", "_law_near", "_law_things", "_law_told", "_law_thing"]) (sc := defScope s_right) (by decide +kernel)) (fun _ _ _ _ _ => (pg_name (i := 8) sc_right.nd rfl (.inl rfl))) (fun _ _ _ _ _ => pts_nil) (fun _ _ _ _ _ => (pe_gg Dasked hr (by decide) (by rfl) (pa_cons (pv 2) (pa_cons (pv 1) (pa_cons (pv 8) pa_nil)))))) pa_nil)))) (pss_one (ps_ret pe_bl)) pss_nil)
      (pss_one (ps_if (pt_not (pt_val (pe_gg Dasked hr (by decide) (by rfl) (pa_cons (pv 2) (pa_cons (pv 1) (pa_cons (pe_gd Dname_of hr.room (by decide) (by rfl) (pa_cons (pv 2) (pa_cons (pe_callB call_len_seq (by rfl) T.len PySem.boot_len (pa_cons (pv 4) pa_nil)) (pa_cons (pe_tup (pa_cons pe_int (pa_cons pe_int pa_nil))) pa_nil)))) pa_nil)))))) (pss_one (ps_ret pe_bl)) pss_nil)))))))))
      (pss_cons (ps_setLc (i := 7) (own := [("_law_thing", 8)]) (g := gName 8) (tt := tYes) rfl sc_right.nd rfl rfl (sw_true rfl rfl rfl (by decide +kernel)) (pi_list (pe_lst (pa_cons (pe_tup (pa_cons pe_int pa_nil)) (pa_cons (pe_tup (pa_cons pe_int pa_nil)) (pa_cons (pe_tup (pa_cons pe_bl pa_nil)) (pa_cons (pe_tup (pa_cons pe_bl pa_nil)) (pa_cons (pe_tup (pa_cons pe_int pa_nil)) (pa_cons (pe_tup (pa_cons pe_int pa_nil)) pa_nil)))))))) (blkOk_by (own := [("_law_thing", 8)]) (N := ["_law_pot_here", "_law_rounds_here", "_law_tome", "_law_turn", "_law_glyphs_here", "_law_near", "_law_things", "_law_told", "_law_thing"]) (sc := defScope s_right) (by decide +kernel)) (fun _ _ _ _ _ => (pg_name (i := 8) sc_right.nd rfl (.inl rfl))) (fun _ _ _ _ _ => pts_nil) (fun _ _ _ _ _ => (pe_gd Dis_nameE hr.room (by decide) (by rfl) (pa_cons (pv 2) (pa_cons (pv 8) pa_nil)))))
      (pss_one (ps_ret (pe_and (pe_cmpR op_is_bl (pe_gd Dis_nameE hr.room (by decide) (by rfl) (pa_cons (pv 2) (pa_cons (pe_tup pa_nil) pa_nil))) pe_bl (nomark _)) (pe_one (pe_cmpR (op_eqD (hu64 hr.room)) (pv 7) (pe_lst (pa_cons pe_bl (pa_cons pe_bl (pa_cons pe_bl (pa_cons pe_bl (pa_cons pe_bl (pa_cons pe_bl pa_nil))))))) (nomark _)))))))))), ?_⟩
    refine ⟨_, rfl, p, rfl, hp, fun l H1 rs F1 hp1 hlH hl ok => ?_⟩
    refine ⟨_, rfl, _, rfl, p, l, rs, rfl, hp1, hl, ok, fun x H2 F2 hp2 hx ht => ?_⟩
    have hl2 := hl.frm ok hp1 F2
    have l3 := ok.l3
    refine ⟨6, rfl, by decide, by decide, for_walk (walk_r (lo := 0)) (fun i σ H' => ∃ u3 u4 u5 u6 u8, σ = [some (.ref p), some (.ref l), some (.ref x), u3, u4, u5, u6, none, u8] ∧ Pot H' p ∧ Frm [p] H2 H') ⟨none, none, none, none, none, rfl, hp2, Frm.refl _ _⟩ (fun _ _ _ _ => trivial) ?_ ?_⟩
    · rintro i y σ H3 hy ⟨u3, u4, u5, u6, u8, rfl, hp3, F3⟩
      refine ⟨_, rfl, _, rfl, _, rfl, _, rfl, p, 10, rfl, hp3, by decide, by decide, fun r1 H4 a0 a1 F4 hp4 => ⟨_, rfl, p, 48, rfl, hp4, by decide, by decide, fun r2 H5 b0 b1 F5 hp5 => ⟨(by show 5 ≤ sizeLine; decide), fun ml hml => ⟨p, ml, _, rfl, hp5.new hml, upd_same, hp5.ne hml, (by show 0 < 5; decide), (by show 5 ≤ 1000; decide), fun j v H6 hv F6 hp6 => ?_⟩⟩⟩⟩
      have hm : ∃ m : Nat, v = .int (m : Nat) ∧ m ≤ 48 := by
        obtain ⟨r1, rfl⟩ := Int.eq_ofNat_of_zero_le a0
        obtain ⟨r2, rfl⟩ := Int.eq_ofNat_of_zero_le b0
        match j, hv with
        | 0, hv => exact ⟨0, by cases hv; rfl, by omega⟩
        | 1, hv => exact ⟨1, by cases hv; rfl, by omega⟩
        | 2, hv => exact ⟨2, by cases hv; rfl, by omega⟩
        | 3, hv => exact ⟨r1, by cases hv; rfl, by omega⟩
        | 4, hv => exact ⟨r2, by cases hv; rfl, by omega⟩
      obtain ⟨m, rfl, hm⟩ := hm
      have F26 : Frm [p] H2 H6 := F3.trans ((F4.trans F5).trans ((Frm.new hml).trans F6))
      refine ⟨p, l, rs, m, rfl, hp6, hl2.frm ok hp2 F26, ok, by omega, fun a H7 zs F7 hp7 ha nm lz => ?_⟩
      have F27 := F26.trans F7
      clear F3 F4 F5 F6 hp3 hp4 hp5 hv hml F26 F7 hp6
      have zb : ∀ z ∈ zs, z < 2 ^ 64 := fun z hz => Nat.lt_of_lt_of_le (name_lt ok nm z hz) (by decide)
      have nap : a ≠ p := fun e => by
        obtain ⟨_, _, z, _⟩ := hp7
        rw [e, z] at ha
        cases ha
      have ra : Row K R0 (Mc.bare p H7) a _ := row_nats (SqT.of (bare_at ha nap)) zb
      refine ⟨_, rfl, _, rfl, _, rfl, p, l, a, rs, _, rfl, hp7, hl2.frm ok hp2 F27, ok, ra, (by rw [List.length_map]; omega), fun b H8 os1 F8 hp8 nb domb rb lb => ?_⟩
      have F28 := F27.trans F8
      have ha8 := F8.tup hp7 ha
      refine ⟨_, rfl, _, rfl, _, rfl, _, rfl, _, rfl, p, l, b, rs, _, rfl, hp8, hl2.frm ok hp2 F28, ok, rb, lb, fun c H9 os2 F9 hp9 nc domc rc lc => ?_⟩
      have F29 := F28.trans F9
      have ha9 := F9.tup hp8 ha8
      have rb9 := (rb.ext (bare2 F9)).ext (bare_ext p H9)
      have rc9 := rc.ext (bare_ext p H9)
      have ra9 : Row K R0 H9 a _ := row_nats (SqT.of ha9) zb
      have ht9 := plan_frm ht ok hp2 F29
      have hl9 := hl2.frm ok hp2 F29
      have da : H9 a ≠ none := fun z => by rw [ha9] at z; cases z
      have db : H9 b ≠ none := Frm.domP F9 hp9 domb
      clear ra rb rc F28 F27 F8 F9 ha ha8 hp7 hp8 nb nc domb domc
      have g1 : Tg K R0 C0 H9 (.ref a) := tg_row ra9 (by rw [List.length_map]; omega)
      have g2 : Tg K R0 C0 H9 (.ref b) := tg_row rb9 lb
      have g3 : Tg K R0 C0 H9 (.ref c) := tg_row rc9 lc
      refine ⟨_, rfl, a, _, rfl, .inr (SqT.of ha9), fun ll hll => ?_⟩
      have eA := Ext.upd (H := H9) (o := .lst (zs.map fun z : Nat => V.int z)) hll
      have g4 : Tg K R0 C0 (upd H9 ll (.lst (zs.map fun z : Nat => V.int z))) (.ref ll) := tg_list upd_same (by omega) zb
      generalize upd H9 ll (.lst (zs.map fun z : Nat => V.int z)) = HA at eA g4 ⊢
      refine ⟨_, rfl, (by show 1 ≤ sizeLine; decide), fun t0 ht0 => ?_⟩
      have eB := Ext.upd (H := HA) (o := .tup [.int 0]) ht0
      have v0 : (upd HA t0 (.tup [.int 0])) t0 = some (.tup [.int 0]) := upd_same
      generalize upd HA t0 (.tup [.int 0]) = HB at eB v0 ⊢
      have eAB := eA.trans eB
      refine ⟨a, t0, _, _, rfl, rfl, SqT.of (eAB _ _ ha9), SqT.of v0, (by rw [List.length_map, sizeLine_eq]; show zs.length + 1 ≤ _; omega), fun q HC eC hq _ => ?_⟩
      have g5 : Tg K R0 C0 HC (.ref q) := by
        have : SqT K HC q ((zs ++ [0]).map fun z : Nat => V.int z) := by rw [List.map_append]; exact hq
        refine tg_row (row_nats this fun z hz => ?_) (by rw [List.length_map, List.length_append]; show zs.length + 1 ≤ _; omega)
        rcases List.mem_append.mp hz with hz | hz
        · exact zb z hz
        · rw [List.mem_singleton.mp hz]; decide
      have eAC := eAB.trans eC
      refine ⟨_, rfl, (by show 1 ≤ sizeLine; decide), fun t6 ht6 => ?_⟩
      have eD := Ext.upd (H := HC) (o := .tup [.ref a]) ht6
      have g6 : Tg K R0 C0 (upd HC t6 (.tup [.ref a])) (.ref t6) := tg_tup1 (ra9.ext eAC) (by rw [List.length_map]; omega) (fun z => by rw [eAC _ _ ha9] at z; cases z) ht6
      generalize upd HC t6 (.tup [.ref a]) = HD at eD g6 ⊢
      have eAD := eAC.trans eD
      refine ⟨_, rfl, (by show 1 ≤ sizeLine; decide), fun t7 ht7 => ?_⟩
      have eE := Ext.upd (H := HD) (o := .lst [.ref b]) ht7
      have g7 : Tg K R0 C0 (upd HD t7 (.lst [.ref b])) (.ref t7) := tg_lst1 (rb9.ext eAD) lb (fun z => by
        cases w : H9 b with
        | none => exact db w
        | some o => rw [eAD _ _ w] at z; cases z) ht7
      generalize upd HD t7 (.lst [.ref b]) = HE at eE g7 ⊢
      have eAE := eAD.trans eE
      refine ⟨(by show 7 ≤ sizeLine; decide), fun tl htl => ?_⟩
      have eF := Ext.upd (H := HE) (o := .lst [.ref a, .ref b, .ref c, .ref ll, .ref q, .ref t6, .ref t7]) htl
      have vF : (upd HE tl (.lst [.ref a, .ref b, .ref c, .ref ll, .ref q, .ref t6, .ref t7])) tl = some (.lst [.ref a, .ref b, .ref c, .ref ll, .ref q, .ref t6, .ref t7]) := upd_same
      generalize upd HE tl (.lst [.ref a, .ref b, .ref c, .ref ll, .ref q, .ref t6, .ref t7]) = HF at eF vF ⊢
      have G7 : ∀ v ∈ ([.ref a, .ref b, .ref c, .ref ll, .ref q, .ref t6, .ref t7] : List V), Tg K R0 C0 HF v := by
        have e7 := eF
        have e6 := eE.trans e7
        have e5 := eD.trans e6
        have e4 := ((eB.trans eC).trans e5)
        have e1 := eA.trans e4
        intro v hv
        simp only [List.mem_cons, List.not_mem_nil, or_false] at hv
        rcases hv with rfl | rfl | rfl | rfl | rfl | rfl | rfl
        · exact g1.ext e1
        · exact g2.ext e1
        · exact g3.ext e1
        · exact g4.ext e4
        · exact g5.ext e5
        · exact g6.ext e6
        · exact g7.ext e7
      have eAF := eAE.trans eF
      clear g1 g2 g3 g4 g5 g6 g7 eE eD eC eB eA eF
      refine ⟨_, rfl, _, _, rfl, rfl, ⟨by decide, by decide, by decide⟩, fun d0 hd0 d1 hd1 => ⟨upd_same, [(.inl 0, .int 0)], rfl, by decide, _, rfl, fun x2 dx hx2 hdx ne => ⟨x2, dx, 1, 2, rfl, upd_same, by decide, by decide, fun HI FI hxi => ⟨rfl, ?_⟩⟩⟩⟩
      have eI := made_ext hx2 hdx FI
      have eG := Ext.upd (H := HF) (o := .dK []) hd0
      have vG : (upd HF d0 (.dK [])) d0 = some (.dK []) := upd_same
      have eH := ext_put (o := .dK (mergeK [] [(.inl 0, .int 0)])) (Ext.upd (H := upd HF d0 (.dK [])) (o := .dK []) hd1) hd1
      have vH : (upd (upd (upd HF d0 (.dK [])) d1 (.dK [])) d1 (.dK (mergeK [] [(.inl 0, .int 0)]))) d1 = some (.dK [(.inl 0, .int 0)]) := by rw [upd_same]; rfl
      clear hx2 hdx FI
      generalize upd (upd (upd HF d0 (.dK [])) d1 (.dK [])) d1 (.dK (mergeK [] [(.inl 0, .int 0)])) = HH at eI eH vH
      generalize upd HF d0 (.dK []) = HG at eG vG eH
      have eFI := (eG.trans eH).trans eI
      refine ⟨(by show 11 ≤ sizeLine; decide), fun l2 hl2 => ⟨tl, l2, _, _, rfl, rfl, (Ext.upd hl2) _ _ (eFI _ _ vF), upd_same, (by show 18 ≤ sizeLine; decide), fun l3 hl3 => ?_⟩⟩
      have eK := (Ext.upd (o := .lst [.non, .int 0, .int (10 ^ (20 : Int).toNat), .bl true, .str "", .str "0", .str "()", .ref d0, .ref d1, .ref x, .ref x2]) hl2).trans (Ext.upd (o := .lst ([.ref a, .ref b, .ref c, .ref ll, .ref q, .ref t6, .ref t7] ++ [.non, .int 0, .int (10 ^ (20 : Int).toNat), .bl true, .str "", .str "0", .str "()", .ref d0, .ref d1, .ref x, .ref x2])) hl3)
      have v3 : (upd (upd HI l2 (.lst [.non, .int 0, .int (10 ^ (20 : Int).toNat), .bl true, .str "", .str "0", .str "()", .ref d0, .ref d1, .ref x, .ref x2])) l3 (.lst ([.ref a, .ref b, .ref c, .ref ll, .ref q, .ref t6, .ref t7] ++ [.non, .int 0, .int (10 ^ (20 : Int).toNat), .bl true, .str "", .str "0", .str "()", .ref d0, .ref d1, .ref x, .ref x2]))) l3 = some (.lst ([.ref a, .ref b, .ref c, .ref ll, .ref q, .ref t6, .ref t7] ++ [.non, .int 0, .int (10 ^ (20 : Int).toNat), .bl true, .str "", .str "0", .str "()", .ref d0, .ref d1, .ref x, .ref x2])) := upd_same
      have htI := ht9.ext (eAF.trans eFI)
      have G18 : ∀ v ∈ ([.ref a, .ref b, .ref c, .ref ll, .ref q, .ref t6, .ref t7] ++ [.non, .int 0, .int (10 ^ (20 : Int).toNat), .bl true, .str "", .str "0", .str "()", .ref d0, .ref d1, .ref x, .ref x2] : List V), Tg K R0 C0 HI v := by
        intro v hv
        rcases List.mem_append.mp hv with hv | hv
        · exact (G7 v hv).ext eFI
        · simp only [List.mem_cons, List.not_mem_nil, or_false] at hv
          rcases hv with rfl | rfl | rfl | rfl | rfl | rfl | rfl | rfl | rfl | rfl | rfl
          · exact tg_imm trivial
          · exact tg_imm (show (0 : Int).natAbs < 2 ^ 1900 by decide)
          · exact tg_imm (show (10 ^ (20 : Int).toNat : Int).natAbs < 2 ^ 1900 by decide)
          · exact tg_imm trivial
          · exact tg_imm (show (reprText "").length ≤ 2000 by decide +kernel)
          · exact tg_imm (show (reprText "0").length ≤ 2000 by decide +kernel)
          · exact tg_imm (show (reprText "()").length ≤ 2000 by decide +kernel)
          · exact (tg_dict (kvs := []) vG (.inl rfl)).ext (eH.trans eI)
          · exact (tg_dict (kvs := [(0, 0)]) vH (.inr rfl)).ext eI
          · obtain ⟨dx1, lr, lp, ll1, g, h1, _⟩ := id htI
            exact ⟨none, _, .inl ⟨rfl, _, .base (.ins h1 R.cl RE.ca RE.cn RE.ct RE.cm), KT.p⟩, .inr (.inr (.inl ⟨x, rs, rfl, htI, ok, rfl⟩))⟩
          · have hr : RatAt R0 HI x2 (redN 1 2) (redD 1 2) := ⟨dx, hxi⟩
            exact ⟨none, _, .inl ⟨rfl, _, tyx_rat RQ hr, KT.r⟩, .inr (.inl ⟨x2, rfl, _, _, hr, by decide +kernel, by decide +kernel, rfl⟩)⟩
      obtain ⟨ths, hths⟩ : ∃ ths, ths = ([.ref a, .ref b, .ref c, .ref ll, .ref q, .ref t6, .ref t7] ++ [.non, .int 0, .int (10 ^ (20 : Int).toNat), .bl true, .str "", .str "0", .str "()", .ref d0, .ref d1, .ref x, .ref x2] : List V) := ⟨_, rfl⟩
      have lths : ths.length = 18 := by rw [hths]; rfl
      dsimp only
      rw [← hths] at eK v3 G18 ⊢
      clear hths
      have eIK := eK
      generalize upd (upd HI l2 (.lst [.non, .int 0, .int (10 ^ (20 : Int).toNat), .bl true, .str "", .str "0", .str "()", .ref d0, .ref d1, .ref x, .ref x2])) l3 (.lst ths) = HK at eIK eK v3 ⊢
      have G : ∀ v ∈ ths, Tg K R0 C0 HK v := fun v hv => (G18 v hv).ext eIK
      have e9K := (eAF.trans eFI).trans eIK
      have htK := ht9.ext e9K
      have hlK := hl9.ext e9K
      have haK := e9K _ _ ha9
      have hp9K : Pot HK p := hp9.frm (M := []) (Frm.ext e9K) (fun z => nomatch z)
      have F2K : Frm [p] H2 HK := F29.trans (Frm.ext e9K)
      clear G18 G7 eI vG vH eG eH hxi hl3 hl2 htl ht7 ht6 ht0 hll eFI eAF eAE eAD eAC eAB v0 hq vF eK eIK htI
      refine ⟨_, rfl, l3, rfl, ⟨_, SqL.of v3⟩, fun D hD => lc_walk walk_l (fun j H' => H' D = some (.lst (List.replicate j (.bl true))) ∧ Ext HK H') ⟨upd_same, Ext.upd hD⟩ (fun _ _ ⟨_, e⟩ => SqL.of (e _ _ v3)) ?_ ?_⟩
      · rintro j v Hb hv ⟨d1, eb⟩
        have hj := (List.getElem?_eq_some_iff.mp hv).1
        obtain ⟨os, t, th, sh⟩ := G v (List.mem_of_getElem? hv)
        refine ⟨rfl, lc_yes ⟨_, rfl, _, rfl, _, rfl, x, l, v, rs, os, t, rfl, htK.ext eb, hlK.ext eb, ok, th.ext eb, sh.ext eb, fun Hc ec => ?_⟩⟩
        refine ⟨_, ec _ _ d1, ?_, ?_, ext_put (eb.trans ec) hD⟩
        · rw [List.length_replicate, sizeLine_eq]; omega
        · rw [upd_same, rep_put]
      rintro HL ⟨dL, eL⟩
      refine ⟨D, List.replicate ths.length true, rfl, SqL.of (by rw [dL, List.map_replicate]), ?_⟩
      rw [all_rep]
      refine ⟨_, rfl, iteF ?_⟩
      have htL := htK.ext eL
      have haL := eL _ _ haK
      refine ⟨_, rfl, _, rfl, x, rs, a, zs, rfl, htL, ok, SqT.of haL, nm, by omega, fun cl HM eM ⟨cs, hcl, lcs, pcs⟩ => ⟨cl, rfl, ⟨_, SqL.of hcl⟩, fun D2 hD2 => lc_walk walk_l (fun j H' => H' D2 = some (.lst (List.replicate j (.bl true))) ∧ Ext HM H') ⟨upd_same, Ext.upd hD2⟩ (fun _ _ ⟨_, e⟩ => SqL.of (e _ _ hcl)) ?_ ?_⟩⟩
      · rintro j v Hb hv ⟨d1, eb⟩
        rw [List.getElem?_map] at hv
        cases hc : cs[j]? with
        | none => rw [hc] at hv; cases hv
        | some cj =>
          rw [hc] at hv
          cases hv
          have hj := (List.getElem?_eq_some_iff.mp hc).1
          obtain ⟨s1, s32, hs⟩ := pcs cj (List.mem_of_getElem? hc)
          obtain ⟨os, t, th, sh⟩ : Tg K R0 C0 HM (.ref cj) := by
            refine tg_row (row_nats hs fun z hz => ?_) (by rw [List.length_map, List.length_append]; show zs.length + 1 ≤ _; omega)
            rcases List.mem_append.mp hz with hz | hz
            · exact zb z hz
            · rw [List.mem_singleton.mp hz]; exact Nat.lt_trans s32 (by decide)
          have eLb := (eL.trans eM).trans eb
          refine ⟨rfl, lc_yes ⟨_, rfl, _, rfl, _, rfl, x, l, .ref cj, rs, os, t, rfl, htK.ext eLb, hlK.ext eLb, ok, th.ext eb, sh.ext eb, fun Hc ec => ?_⟩⟩
          refine ⟨_, ec _ _ d1, ?_, ?_, ext_put (eb.trans ec) hD2⟩
          · rw [List.length_replicate, sizeLine_eq]; omega
          · rw [upd_same, rep_put]
      rintro HN ⟨dN, eN⟩
      refine ⟨D2, List.replicate (cs.map V.ref).length true, rfl, SqL.of (by rw [dN, List.map_replicate]), ?_⟩
      rw [all_rep]
      refine ⟨_, rfl, iteF ?_⟩
      have eKN := (eL.trans eM).trans eN
      refine ⟨_, rfl, _, rfl, _, rfl, _, rfl, a, _, rfl, .inr (SqT.of (eKN _ _ haK)), (by show 2 ≤ sizeLine; decide), fun t2 ht2 => ⟨x, rs, zs.length, t2, List.replicate zs.length 0, (by rw [List.length_map]; rfl), (htK.ext eKN).ext (Ext.upd ht2), ok, (by rw [pairF_zeros ok]; exact upd_same), zeros_ok ok _, List.length_replicate, (by omega), fun t HO2 eO ht => ?_⟩⟩
      have eKO := (eKN.trans (Ext.upd ht2)).trans eO
      obtain ⟨os, tx, th, sh⟩ : Tg K R0 C0 HO2 (.ref t) := tg_row (row_nats (SqT.of ht) fun z hz => by rw [(List.mem_replicate.mp hz).2]; decide) (by rw [List.length_map, List.length_replicate]; omega)
      refine ⟨x, l, .ref t, rs, os, tx, rfl, htK.ext eKO, hlK.ext eKO, ok, th, sh, fun HP eP => ⟨_, rfl, iteF ?_⟩⟩
      have eKP := eKO.trans eP
      exact ⟨_, _, _, _, _, rfl, hp9K.frm (M := []) (Frm.ext eKP) (fun z => nomatch z), F2K.trans (Frm.ext eKP)⟩
    · rintro σ H3 ⟨u3, u4, u5, u6, u8, rfl, hp3, F3⟩
      have htq := plan_frm ht ok hp2 F3
      have e0 : Ext H3 H3 := Ext.rfl'
      refine ⟨(by show 1 ≤ sizeLine; decide), fun q0 hq0 => ?_⟩
      have f0 := Ext.upd (H := H3) (o := .tup [.int 0]) hq0
      have v0 : (upd H3 q0 (.tup [.int 0])) q0 = some (.tup [.int 0]) := upd_same
      generalize upd H3 q0 (.tup [.int 0]) = Q0 at f0 v0 ⊢
      have e1 := e0.trans f0
      refine ⟨(by show 1 ≤ sizeLine; decide), fun q1 hq1 => ?_⟩
      have f1 := Ext.upd (H := Q0) (o := .tup [.int 1]) hq1
      have v1 : (upd Q0 q1 (.tup [.int 1])) q1 = some (.tup [.int 1]) := upd_same
      generalize upd Q0 q1 (.tup [.int 1]) = Q1 at f1 v1 ⊢
      have e2 := e1.trans f1
      replace v0 := f1 _ _ v0
      refine ⟨(by show 1 ≤ sizeLine; decide), fun q2 hq2 => ?_⟩
      have f2 := Ext.upd (H := Q1) (o := .tup [.bl false]) hq2
      have v2 : (upd Q1 q2 (.tup [.bl false])) q2 = some (.tup [.bl false]) := upd_same
      generalize upd Q1 q2 (.tup [.bl false]) = Q2 at f2 v2 ⊢
      have e3 := e2.trans f2
      replace v0 := f2 _ _ v0
      replace v1 := f2 _ _ v1
      refine ⟨(by show 1 ≤ sizeLine; decide), fun q3 hq3 => ?_⟩
      have f3 := Ext.upd (H := Q2) (o := .tup [.bl true]) hq3
      have v3 : (upd Q2 q3 (.tup [.bl true])) q3 = some (.tup [.bl true]) := upd_same
      generalize upd Q2 q3 (.tup [.bl true]) = Q3 at f3 v3 ⊢
      have e4 := e3.trans f3
      replace v0 := f3 _ _ v0
      replace v1 := f3 _ _ v1
      replace v2 := f3 _ _ v2
      refine ⟨(by show 1 ≤ sizeLine; decide), fun q4 hq4 => ?_⟩
      have f4 := Ext.upd (H := Q3) (o := .tup [.int 0]) hq4
      have v4 : (upd Q3 q4 (.tup [.int 0])) q4 = some (.tup [.int 0]) := upd_same
      generalize upd Q3 q4 (.tup [.int 0]) = Q4 at f4 v4 ⊢
      have e5 := e4.trans f4
      replace v0 := f4 _ _ v0
      replace v1 := f4 _ _ v1
      replace v2 := f4 _ _ v2
      replace v3 := f4 _ _ v3
      refine ⟨(by show 1 ≤ sizeLine; decide), fun q5 hq5 => ?_⟩
      have f5 := Ext.upd (H := Q4) (o := .tup [.int 1]) hq5
      have v5 : (upd Q4 q5 (.tup [.int 1])) q5 = some (.tup [.int 1]) := upd_same
      generalize upd Q4 q5 (.tup [.int 1]) = Q5 at f5 v5 ⊢
      have e6 := e5.trans f5
      replace v0 := f5 _ _ v0
      replace v1 := f5 _ _ v1
      replace v2 := f5 _ _ v2
      replace v3 := f5 _ _ v3
      replace v4 := f5 _ _ v4
      refine ⟨(by show 6 ≤ sizeLine; decide), fun ql hql => ?_⟩
      have f6 := Ext.upd (H := Q5) (o := .lst [.ref q0, .ref q1, .ref q2, .ref q3, .ref q4, .ref q5]) hql
      have vl : (upd Q5 ql (.lst [.ref q0, .ref q1, .ref q2, .ref q3, .ref q4, .ref q5])) ql = some (.lst [.ref q0, .ref q1, .ref q2, .ref q3, .ref q4, .ref q5]) := upd_same
      generalize upd Q5 ql (.lst [.ref q0, .ref q1, .ref q2, .ref q3, .ref q4, .ref q5]) = Q6 at f6 vl ⊢
      have e7 := e6.trans f6
      have G6 : ∀ (j : Nat) (v : V), ([.ref q0, .ref q1, .ref q2, .ref q3, .ref q4, .ref q5] : List V)[j]? = some v → ∃ os, ThK K Q6 v (some os) ∧ ([true, true, false, false, true, true] : List Bool)[j]? = some (nmB rs (some os)) := by
        intro j v hv
        match j, hv with
        | 0, hv => cases hv; exact ⟨[some 0], .inr ⟨q0, [.int 0], [some 0], rfl, rfl, SqT.of (f6 _ _ v0), .cons (.inl ⟨_, rfl, rfl⟩) .nil, (show 1 ≤ 1000 by decide)⟩, by rw [nm_0 ok]; rfl⟩
        | 1, hv => cases hv; exact ⟨[some 1], .inr ⟨q1, [.int 1], [some 1], rfl, rfl, SqT.of (f6 _ _ v1), .cons (.inl ⟨_, rfl, rfl⟩) .nil, (show 1 ≤ 1000 by decide)⟩, by rw [nm_1 ok]; rfl⟩
        | 2, hv => cases hv; exact ⟨[none], .inr ⟨q2, [.bl false], [none], rfl, rfl, SqT.of (f6 _ _ v2), .cons ((cel_bl (K := K) (R0 := R0) (H := Q6) (as := []) false).1) .nil, (show 1 ≤ 1000 by decide)⟩, by rw [nm_n]; rfl⟩
        | 3, hv => cases hv; exact ⟨[none], .inr ⟨q3, [.bl true], [none], rfl, rfl, SqT.of (f6 _ _ v3), .cons ((cel_bl (K := K) (R0 := R0) (H := Q6) (as := []) true).1) .nil, (show 1 ≤ 1000 by decide)⟩, by rw [nm_n]; rfl⟩
        | 4, hv => cases hv; exact ⟨[some 0], .inr ⟨q4, [.int 0], [some 0], rfl, rfl, SqT.of (f6 _ _ v4), .cons (.inl ⟨_, rfl, rfl⟩) .nil, (show 1 ≤ 1000 by decide)⟩, by rw [nm_0 ok]; rfl⟩
        | 5, hv => cases hv; exact ⟨[some 1], .inr ⟨q5, [.int 1], [some 1], rfl, rfl, SqT.of (f6 _ _ v5), .cons (.inl ⟨_, rfl, rfl⟩) .nil, (show 1 ≤ 1000 by decide)⟩, by rw [nm_1 ok]; rfl⟩
      refine ⟨ql, rfl, ⟨_, SqL.of vl⟩, fun D hD => lc_walk walk_l (fun j H' => H' D = some (.lst ((([true, true, false, false, true, true] : List Bool).take j).map V.bl)) ∧ Ext Q6 H') ⟨upd_same, Ext.upd hD⟩ (fun _ _ ⟨_, e⟩ => SqL.of (e _ _ vl)) ?_ ?_⟩
      · rintro j v Hb hv ⟨d1, eb⟩
        obtain ⟨os, th, hb⟩ := G6 j v hv
        refine ⟨rfl, lc_yes ⟨_, rfl, _, rfl, x, rs, v, some os, rfl, (htq.ext e7).ext eb, ok, th.ext eb, fun Hc ec => ?_⟩⟩
        refine ⟨_, ec _ _ d1, ?_, ?_, ext_put (eb.trans ec) hD⟩
        · rw [List.length_map, List.length_take, sizeLine_eq]; show min j 6 < _; omega
        · rw [upd_same, take_bl hb]
      rintro HL ⟨dL, eL⟩
      have e7L := e7.trans eL
      refine ⟨_, rfl, (by show 0 ≤ sizeLine; decide), fun te hte => ⟨x, rs, .ref te, some [], rfl, (htq.ext e7L).ext (Ext.upd hte), ok, .inr ⟨te, [], [], rfl, rfl, SqT.of upd_same, .nil, Nat.zero_le _⟩, fun HZ eZ => ⟨_, _, rfl, rfl, true, ?_, ?_⟩⟩⟩
      · rw [show nmB rs (some []) = true from rfl, decide_eq_true rfl]
      rw [if_pos rfl]
      have eLZ := (Ext.upd (o := .tup []) hte).trans eZ
      refine ⟨_, rfl, (by show 6 ≤ sizeLine; decide), fun tb htb => ⟨.list [.bool true, .bool true, .bool false, .bool false, .bool true, .bool true], .list [.bool true, .bool true, .bool false, .bool false, .bool true, .bool true], .lst (SqL.of ((Ext.upd htb) _ _ (eLZ _ _ dL))) ?_, .lst (SqL.of upd_same) ?_, rfl, rfl, ?_⟩⟩
      · exact .cons (.bl _) (.cons (.bl _) (.cons (.bl _) (.cons (.bl _) (.cons (.bl _) (.cons (.bl _) .nil)))))
      · exact .cons (.bl _) (.cons (.bl _) (.cons (.bl _) (.cons (.bl _) (.cons (.bl _) (.cons (.bl _) .nil)))))
      rw [show PyData.eqv (.list [.bool true, .bool true, .bool false, .bool false, .bool true, .bool true]) (.list [.bool true, .bool true, .bool false, .bool false, .bool true, .bool true]) = true by decide +kernel]
      have eF := (e7L.trans eLZ).trans (Ext.upd (o := .lst [.bl true, .bl true, .bl false, .bl false, .bl true, .bl true]) htb)
      exact k _ (F1.trans (F2.trans (F3.trans (Frm.ext eF)))) (hp3.frm (M := []) (Frm.ext eF) (fun z => nomatch z))
theorem sc_law : FnScope ["_law_script", "_law_k"] ["_law_script"] (defScope s_law) := ⟨rfl, rfl, rfl, by decide +kernel, rfl, by decide +kernel, by decide +kernel⟩
theorem ext_frm {H H1 H2 : Hp} {q : Addr} (e : Ext H H1) (f : Frm [q] H1 H2) (hq : H q = none) : Ext H H2 := fun a o z => f a o (e a o z) fun m => by
  rw [List.mem_singleton.mp m, hq] at z
  cases z
theorem span4 (n : Int) : 1 ≤ (if (if n < 4 then n else 4) > 1 then (if n < 4 then n else 4) else 1) ∧ (if (if n < 4 then n else 4) > 1 then (if n < 4 then n else 4) else 1) ≤ 4 := by
  constructor <;> (split <;> split <;> omega)
theorem ok_law (F : FunD K "law" "law" (defArgs s_law) (defBody s_law) (defScope s_law) [] [] f fd) (T : TB mg) {fpot : Addr} {fdpot : FuncData} (Dpot : Gd P w K mg base "_law_pot" 1 ["_law_script", "_law_k"] (spPot K) fpot fdpot) {fright : Addr} {fdright : FuncData} (Dright : Gg P w K mg base "_law_right" 12 ["_law_pot_here"] (spRight) fright fdright) : FnOkG P w K mg base CX0 13 f fd ["_law_script"] (spLaw K) := by
  refine okG F sc_law (fun vs H Q E h => ?_) (fun cdv A outer s H vs Q E hr h => ?_)
  · obtain ⟨l, ns, rfl, hl, k⟩ := h
    rfl
  · obtain ⟨l, ns, rfl, hl, k⟩ := h
    refine ⟨_, (pss_one (ps_ret (pe_callB (cr_all rfl) (by rfl) T.all (by decide +kernel) (pa_cons (pe_lc (own := [("_law_k", 1)]) (g := gName 1) (tt := tYes) rfl sc_law.nd (pi_range1 (by rfl) T.range (pa_cons (pe_callB (call_max2 rfl) (by rfl) T.max (by decide +kernel) (pa_cons pe_int (pa_cons (pe_callB (call_min2 rfl) (by rfl) T.min (by decide +kernel) (pa_cons pe_int (pa_cons (pe_callB call_len_seq (by rfl) T.len PySem.boot_len (pa_cons (pv 0) pa_nil)) pa_nil))) pa_nil))) pa_nil)) (blkOk_by (own := [("_law_k", 1)]) (N := ["_law_script", "_law_k"]) (sc := defScope s_law) (by decide +kernel)) (fun _ _ _ _ _ => (pg_name (i := 1) sc_law.nd rfl (.inl rfl))) (fun _ _ _ _ _ => pts_nil) (fun _ _ _ _ _ => (pe_gg Dright hr (by decide) (by rfl) (pa_cons (pe_gd Dpot hr.room (by decide) (by rfl) (pa_cons (pv 0) (pa_cons (pv 1) pa_nil))) pa_nil)))) pa_nil)))), ?_⟩
    refine ⟨_, rfl, l, _, rfl, .inl hl, _, _, rfl, _, _, rfl, _, rfl, Int.le_trans (by decide) (span4 _).1, Int.lt_of_le_of_lt (span4 _).2 (by decide), fun D hD => lc_walk (walk_r (lo := 0)) (fun i H' => H' D = some (.lst (List.replicate i (.bl true))) ∧ Ext H H') ⟨upd_same, Ext.upd hD⟩ (fun _ _ _ => trivial) ?_ ?_⟩
    · rintro i x H' hx ⟨hD2, e⟩
      obtain ⟨hi, rfl⟩ := range_get hx
      have hs := (span4 ((List.map V.int ns).length : Int)).2
      have hi4 : i < 64 := Nat.lt_of_lt_of_le hi (Nat.le_trans (Int.toNat_le.mpr hs) (by decide))
      refine ⟨rfl, lc_yes ⟨_, rfl, _, rfl, l, ns, i, rfl, hl.ext e, hi4, fun q H1 hq F1 hp1 => ?_⟩⟩
      have e1 : Ext H' H1 := fun a o z => F1 a o z (fun m => nomatch m)
      refine ⟨q, rfl, hp1, fun H3 F3 hp3 => ?_⟩
      have e3 := ext_frm e1 F3 hq
      refine ⟨_, e3 _ _ hD2, by rw [List.length_replicate, sizeLine_eq]; omega, ?_, ext_put (e.trans e3) hD⟩
      rw [upd_same, rep_put]
    · rintro H2 ⟨hD2, e⟩
      obtain ⟨N, hN⟩ : ∃ N, H2 D = some (.lst (List.replicate N (.bl true))) := ⟨_, hD2⟩
      refine ⟨D, List.replicate N true, rfl, SqL.of (by rw [hN, List.map_replicate]), ?_⟩
      rw [all_rep]
      exact k H2
end
end Mc

set_option Elab.async false
set_option linter.all false
set_option maxRecDepth 100000
set_option maxHeartbeats 4000000
set_option exponentiation.threshold 20000
namespace Mc
open PySem PySem.Spec PyProof.Rows L2 He
/-- Ratio's __init__: the bottom by default, or given -/
theorem bind_d1 {K : PySem.W.Frag} {f : Addr} {fd : FuncData} (F : FunD K "__init__" "Ratio.__init__" (defArgs s_Ratio___init) (defBody s_Ratio___init) (defScope s_Ratio___init) [.int 1] [] f fd) : ∃ ds, Vals [V.int 1] ds ∧ Binds K fd ["self", "top", "bottom"] ds :=
  F.binds1 (ps := ["self", "top", "bottom"]) 2 0 (by simp) rfl fun _ _ _ _ _ _ _ us its h1 h2 => match us, h1, its, h2 with | [_, _], _, [_], _ => ⟨_, rfl, rfl⟩
theorem bind_d2 {K : PySem.W.Frag} {f : Addr} {fd : FuncData} (F : FunD K "__init__" "Ratio.__init__" (defArgs s_Ratio___init) (defBody s_Ratio___init) (defScope s_Ratio___init) [.int 1] [] f fd) : Binds K fd ["self", "top", "bottom"] [] := by
  obtain ⟨d0, v0, bI⟩ := F.binds1 (ps := ["self", "top", "bottom"]) 3 1 (by simp) rfl fun _ _ _ _ _ _ _ us its h1 h2 => match us, h1, its, h2 with | [_, _, _], _, [_], _ => ⟨_, rfl, rfl⟩
  cases v0
  exact bI
section
variable {P : Program} {w : World} {K : PySem.W.Frag} {mg : Str → Option Value} {base h : Heap}
open PySem.W (Frag)
theorem all_law {fa : Addr} (X : K.In h) (G : h.Ns mainGlobals mg) (hfa : mg "law" = some (.ref fa)) (c : SaysP fcts dfs K) :
    ∃ fd : FuncData, (∀ (s : Shared) (v : Value), BindsTo s fd ⟨[v], []⟩ [("_law_script", v)]) ∧ ∀ base : Heap, K.In base → base.Ns mainGlobals mg → FnOkG P w K mg base CX0 13 fa fd ["_law_script"] (spLaw K) := by
  have R : PlanT K mg (ga K "Plan") (ga K "AXES") (.type "type") := ⟨clsB_ok (c.fact 0), noatB_ok (c.fact 1), noatB_ok (c.fact 2), noatB_ok (c.fact 3), noatB_ok (c.fact 4), gloB_ok X G (c.fact 5), intB_ok X G (c.fact 6), intB_ok X G (c.fact 7), intB_ok X G (c.fact 8), gloB_ok X G (c.fact 9), (tupPB_ok (c.fact 10)).1, (tupPB_ok (c.fact 10)).2, crdB_ok (c.fact 11), cvB_ok (c.fact 12), cvB_ok (c.fact 13), cvB_ok (c.fact 14)⟩
  have RE : PlanE K (ga K "Plan") := ⟨of_decide_eq_true (c.fact 17), of_decide_eq_true (c.fact 18), of_decide_eq_true (c.fact 19), of_decide_eq_true (c.fact 20), of_decide_eq_true (c.fact 21), of_decide_eq_true (c.fact 22), fun x hx => of_decide_eq_true (List.all_eq_true.mp (c.fact 15) x hx), fun x hx => List.all_eq_true.mp (c.fact 16) x hx⟩
  have RQ : RatT K mg (ga K "Ratio") := ⟨clsB_ok (c.fact 23), noatB_ok (c.fact 24), noatB_ok (c.fact 25), gloB_ok X G (c.fact 26), blB_ok X G (c.fact 27), of_decide_eq_true (c.fact 28), of_decide_eq_true (c.fact 18), of_decide_eq_true (c.fact 19), of_decide_eq_true (c.fact 29), of_decide_eq_true (c.fact 30), of_decide_eq_true (c.fact 31), of_decide_eq_true (c.fact 32), of_decide_eq_true (c.fact 33), of_decide_eq_true (c.fact 34)⟩
  have KT : KindT K (ga K "Plan") (ga K "Ratio") := ⟨of_decide_eq_true (c.fact 35), of_decide_eq_true (c.fact 36)⟩
  have T2 : TB2 mg := ⟨freeB_ok X G (c.fact 37), freeB_ok X G (c.fact 38), freeB_ok X G (c.fact 39), freeB_ok X G (c.fact 40), freeB_ok X G (c.fact 41)⟩
  have T : TB mg := tbB_ok X G (c.fact 42)
  have hL : mg "law" = some (.ref (ga K "law")) := gloB_ok X G (c.fact 91)
  have e := hfa.symm.trans hL
  cases e
  obtain ⟨fdl, Fl⟩ : ∃ fd, FD K "law" "law" s_law (gAt "law" K) fd := c.def_ 48 (d := ⟨gAt "law", "law", "law", s_law, []⟩) rfl
  refine ⟨fdl, fun s v => Fl.bindsA (ps := ["_law_script"]) (fun _ _ _ _ _ _ us hl => match us, hl with | [_], _ => rfl) s [v] rfl, fun base hK hG => ?_⟩
  obtain ⟨fd__law_pot, F__law_pot⟩ : ∃ fd, FD K "_law_pot" "_law_pot" sPot (gAt "_law_pot" K) fd := c.def_ 0 (d := ⟨gAt "_law_pot", "_law_pot", "_law_pot", sPot, []⟩) rfl
  have Dpot : Gd P w K mg base "_law_pot" 1 ["_law_script", "_law_k"] (spPot K) (gAt "_law_pot" K) fd__law_pot := ⟨gloB_ok X G (c.fact 43), F__law_pot.kp, F__law_pot.bindsN fun _ _ _ _ _ _ us hl => match us, hl with | [_, _], _ => rfl, ok_pot F__law_pot.fun T⟩
  obtain ⟨fd__law_draw, F__law_draw⟩ : ∃ fd, FD K "_law_draw" "_law_draw" sDraw (gAt "_law_draw" K) fd := c.def_ 1 (d := ⟨gAt "_law_draw", "_law_draw", "_law_draw", sDraw, []⟩) rfl
  have Ddraw : Gd P w K mg base "_law_draw" 1 ["_law_pot_here", "_law_many"] (spDraw) (gAt "_law_draw" K) fd__law_draw := ⟨gloB_ok X G (c.fact 44), F__law_draw.kp, F__law_draw.bindsN fun _ _ _ _ _ _ us hl => match us, hl with | [_, _], _ => rfl, ok_draw F__law_draw.fun T.divmod T.int⟩
  obtain ⟨fd__law_pick, F__law_pick⟩ : ∃ fd, FD K "_law_pick" "_law_pick" sPick (gAt "_law_pick" K) fd := c.def_ 2 (d := ⟨gAt "_law_pick", "_law_pick", "_law_pick", sPick, []⟩) rfl
  have Dpick : Gd P w K mg base "_law_pick" 2 ["_law_pot_here", "_law_some"] (spPick) (gAt "_law_pick" K) fd__law_pick := ⟨gloB_ok X G (c.fact 45), F__law_pick.kp, F__law_pick.bindsN fun _ _ _ _ _ _ us hl => match us, hl with | [_, _], _ => rfl, ok_pick F__law_pick.fun Ddraw T.len⟩
  obtain ⟨fd__law_mixed, F__law_mixed⟩ : ∃ fd, FD K "_law_mixed" "_law_mixed" s_mixed (gAt "_law_mixed" K) fd := c.def_ 3 (d := ⟨gAt "_law_mixed", "_law_mixed", "_law_mixed", s_mixed, []⟩) rfl
  have Dmixed : Gd P w K mg base "_law_mixed" 2 ["_law_pot_here", "_law_some"] (spMixed) (gAt "_law_mixed" K) fd__law_mixed := ⟨gloB_ok X G (c.fact 46), F__law_mixed.kp, F__law_mixed.bindsN fun _ _ _ _ _ _ us hl => match us, hl with | [_, _], _ => rfl, ok_mixed F__law_mixed T Ddraw⟩
  obtain ⟨fd__law_rounds, F__law_rounds⟩ : ∃ fd, FD K "_law_rounds" "_law_rounds" s_rounds (gAt "_law_rounds" K) fd := c.def_ 4 (d := ⟨gAt "_law_rounds", "_law_rounds", "_law_rounds", s_rounds, []⟩) rfl
  have Drounds : Gd P w K mg base "_law_rounds" 3 ["_law_pot_here"] (spRoundsL) (gAt "_law_rounds" K) fd__law_rounds := ⟨gloB_ok X G (c.fact 47), F__law_rounds.kp, F__law_rounds.bindsN fun _ _ _ _ _ _ us hl => match us, hl with | [_], _ => rfl, ok_rounds F__law_rounds T Ddraw Dpick Dmixed⟩
  obtain ⟨fd_is_list, F_is_list⟩ : ∃ fd, FD K "is_list" "is_list" s_is_list (gAt "is_list" K) fd := c.def_ 5 (d := ⟨gAt "is_list", "is_list", "is_list", s_is_list, []⟩) rfl
  have Dis_list : Gd P w K mg base "is_list" 1 ["value"] (spIsList K) (gAt "is_list" K) fd_is_list := ⟨gloB_ok X G (c.fact 48), F_is_list.kp, F_is_list.bindsN fun _ _ _ _ _ _ us hl => match us, hl with | [_], _ => rfl, ok_is_list F_is_list T ⟩
  obtain ⟨fd_is_tuple_of, F_is_tuple_of⟩ : ∃ fd, FD K "is_tuple_of" "is_tuple_of" s_is_tuple_of (gAt "is_tuple_of" K) fd := c.def_ 6 (d := ⟨gAt "is_tuple_of", "is_tuple_of", "is_tuple_of", s_is_tuple_of, []⟩) rfl
  have Dis_tuple_of : Gd P w K mg base "is_tuple_of" 1 ["value", "many"] (spTupOf) (gAt "is_tuple_of" K) fd_is_tuple_of := ⟨gloB_ok X G (c.fact 49), F_is_tuple_of.kp, F_is_tuple_of.bindsN fun _ _ _ _ _ _ us hl => match us, hl with | [_, _], _ => rfl, ok_is_tuple_of F_is_tuple_of T ⟩
  obtain ⟨fd_is_axis, F_is_axis⟩ : ∃ fd, FD K "is_axis" "is_axis" s_is_axis (gAt "is_axis" K) fd := c.def_ 7 (d := ⟨gAt "is_axis", "is_axis", "is_axis", s_is_axis, []⟩) rfl
  have Dis_axis : Gd P w K mg base "is_axis" 1 ["value"] (spAxis) (gAt "is_axis" K) fd_is_axis := ⟨gloB_ok X G (c.fact 50), F_is_axis.kp, F_is_axis.bindsN fun _ _ _ _ _ _ us hl => match us, hl with | [_], _ => rfl, ok_is_axis F_is_axis T R⟩
  obtain ⟨fd_is_int, F_is_int⟩ : ∃ fd, FD K "is_int" "is_int" s_is_int (gAt "is_int" K) fd := c.def_ 8 (d := ⟨gAt "is_int", "is_int", "is_int", s_is_int, []⟩) rfl
  have Dis_int : Gd P w K mg base "is_int" 1 ["value"] (spIsInt) (gAt "is_int" K) fd_is_int := ⟨gloB_ok X G (c.fact 51), F_is_int.kp, F_is_int.bindsN fun _ _ _ _ _ _ us hl => match us, hl with | [_], _ => rfl, ok_is_int F_is_int T ⟩
  obtain ⟨fd__is_parts, F__is_parts⟩ : ∃ fd, FD K "_is_parts" "_is_parts" s_is_parts (gAt "_is_parts" K) fd := c.def_ 9 (d := ⟨gAt "_is_parts", "_is_parts", "_is_parts", s_is_parts, []⟩) rfl
  have Dis_parts : Gd P w K mg base "_is_parts" 2 ["value"] (spParts) (gAt "_is_parts" K) fd__is_parts := ⟨gloB_ok X G (c.fact 52), F__is_parts.kp, F__is_parts.bindsN fun _ _ _ _ _ _ us hl => match us, hl with | [_], _ => rfl, ok_is_parts F__is_parts T R Dis_int⟩
  obtain ⟨fd__is_cut, F__is_cut⟩ : ∃ fd, FD K "_is_cut" "_is_cut" s_is_cut (gAt "_is_cut" K) fd := c.def_ 10 (d := ⟨gAt "_is_cut", "_is_cut", "_is_cut", s_is_cut, []⟩) rfl
  have Dis_cut : Gd P w K mg base "_is_cut" 3 ["value"] (spCut) (gAt "_is_cut" K) fd__is_cut := ⟨gloB_ok X G (c.fact 53), F__is_cut.kp, F__is_cut.bindsN fun _ _ _ _ _ _ us hl => match us, hl with | [_], _ => rfl, ok_is_cut F__is_cut T Dis_tuple_of Dis_axis Dis_parts⟩
  obtain ⟨fd__is_cuts, F__is_cuts⟩ : ∃ fd, FD K "_is_cuts" "_is_cuts" s_is_cuts (gAt "_is_cuts" K) fd := c.def_ 11 (d := ⟨gAt "_is_cuts", "_is_cuts", "_is_cuts", s_is_cuts, []⟩) rfl
  have Dis_cuts : Gd P w K mg base "_is_cuts" 4 ["value"] (spCuts K) (gAt "_is_cuts" K) fd__is_cuts := ⟨gloB_ok X G (c.fact 54), F__is_cuts.kp, F__is_cuts.bindsN fun _ _ _ _ _ _ us hl => match us, hl with | [_], _ => rfl, ok_is_cuts F__is_cuts T R Dis_list Dis_cut⟩
  obtain ⟨fd__within, F__within⟩ : ∃ fd, FD K "_within" "_within" s_within (gAt "_within" K) fd := c.def_ 12 (d := ⟨gAt "_within", "_within", "_within", s_within, []⟩) rfl
  have Dwithin : Gd P w K mg base "_within" 1 ["place", "axis", "parts", "part"] (spWithin) (gAt "_within" K) fd__within := ⟨gloB_ok X G (c.fact 55), F__within.kp, F__within.bindsN fun _ _ _ _ _ _ us hl => match us, hl with | [_, _, _, _], _ => rfl, ok_within F__within T ⟩
  obtain ⟨fd__places_of, F__places_of⟩ : ∃ fd, FD K "_places_of" "_places_of" s_places_of (gAt "_places_of" K) fd := c.def_ 13 (d := ⟨gAt "_places_of", "_places_of", "_places_of", s_places_of, []⟩) rfl
  have Dplaces_of : Gd P w K mg base "_places_of" 2 ["cuts"] (spPlaces K) (gAt "_places_of" K) fd__places_of := ⟨gloB_ok X G (c.fact 56), F__places_of.kp, F__places_of.bindsN fun _ _ _ _ _ _ us hl => match us, hl with | [_], _ => rfl, ok_places_of F__places_of T Dwithin⟩
  obtain ⟨fd__parts_of, F__parts_of⟩ : ∃ fd, FD K "_parts_of" "_parts_of" s_parts_of (gAt "_parts_of" K) fd := c.def_ 14 (d := ⟨gAt "_parts_of", "_parts_of", "_parts_of", s_parts_of, []⟩) rfl
  have Dparts_of : Gd P w K mg base "_parts_of" 3 ["cuts"] (spPartsOf K) (gAt "_parts_of" K) fd__parts_of := ⟨gloB_ok X G (c.fact 57), F__parts_of.kp, F__parts_of.bindsN fun _ _ _ _ _ _ us hl => match us, hl with | [_], _ => rfl, ok_parts_of F__parts_of T Dplaces_of⟩
  obtain ⟨fd__multiplied, F__multiplied⟩ : ∃ fd, FD K "_multiplied" "_multiplied" s_multiplied (gAt "_multiplied" K) fd := c.def_ 15 (d := ⟨gAt "_multiplied", "_multiplied", "_multiplied", s_multiplied, []⟩) rfl
  have Dmultiplied : Gd P w K mg base "_multiplied" 1 ["all_parts"] (spMul K) (gAt "_multiplied" K) fd__multiplied := ⟨gloB_ok X G (c.fact 58), F__multiplied.kp, F__multiplied.bindsN fun _ _ _ _ _ _ us hl => match us, hl with | [_], _ => rfl, ok_multiplied F__multiplied T ⟩
  obtain ⟨fd__check_rounds, F__check_rounds⟩ : ∃ fd, FD K "_check_rounds" "_check_rounds" s_check_rounds (gAt "_check_rounds" K) fd := c.def_ 16 (d := ⟨gAt "_check_rounds", "_check_rounds", "_check_rounds", s_check_rounds, []⟩) rfl
  have Dcheck_rounds : Gd P w K mg base "_check_rounds" 5 ["rounds"] (spCheck K) (gAt "_check_rounds" K) fd__check_rounds := ⟨gloB_ok X G (c.fact 59), F__check_rounds.kp, F__check_rounds.bindsN fun _ _ _ _ _ _ us hl => match us, hl with | [_], _ => rfl, ok_check_rounds F__check_rounds T R Dis_cuts Dparts_of Dmultiplied⟩
  obtain ⟨fd__plain_cuts, F__plain_cuts⟩ : ∃ fd, FD K "_plain_cuts" "_plain_cuts" s_plain_cuts (gAt "_plain_cuts" K) fd := c.def_ 17 (d := ⟨gAt "_plain_cuts", "_plain_cuts", "_plain_cuts", s_plain_cuts, []⟩) rfl
  have Dplain_cuts : Gd P w K mg base "_plain_cuts" 1 ["cuts"] (spPlain K) (gAt "_plain_cuts" K) fd__plain_cuts := ⟨gloB_ok X G (c.fact 60), F__plain_cuts.kp, F__plain_cuts.bindsN fun _ _ _ _ _ _ us hl => match us, hl with | [_], _ => rfl, ok_plain_cuts F__plain_cuts T R⟩
  obtain ⟨fd_Plan___init__, F_Plan___init__⟩ : ∃ fd, FD K "__init__" "Plan.__init__" s_Plan___init (mAt "Plan" "__init__" K) fd := c.def_ 18 (d := ⟨mAt "Plan" "__init__", "__init__", "Plan.__init__", s_Plan___init, []⟩) rfl
  have MkP : Mk K (ga K "Plan") (mAt "Plan" "__init__" K) := mkB_ok (c.fact 61)
  have GP : FnR P w K mg base CX0 6 (mAt "Plan" "__init__" K) (spPlanI K (ga K "Plan")) := ok_Plan___init F_Plan___init__ T R Dcheck_rounds Dplain_cuts Dparts_of Dplaces_of Dmultiplied
  obtain ⟨fd__law_real, F__law_real⟩ : ∃ fd, FD K "_law_real" "_law_real" s_real (gAt "_law_real" K) fd := c.def_ 19 (d := ⟨gAt "_law_real", "_law_real", "_law_real", s_real, []⟩) rfl
  have Dreal : Gd P w K mg base "_law_real" 8 ["_law_pot_here", "_law_rounds_here"] (spReal (ga K "Plan")) (gAt "_law_real" K) fd__law_real := ⟨gloB_ok X G (c.fact 62), F__law_real.kp, F__law_real.bindsN fun _ _ _ _ _ _ us hl => match us, hl with | [_, _], _ => rfl, ok_real F__law_real T R MkP GP Ddraw⟩
  obtain ⟨fd__law_size, F__law_size⟩ : ∃ fd, FD K "_law_size" "_law_size" s_size (gAt "_law_size" K) fd := c.def_ 20 (d := ⟨gAt "_law_size", "_law_size", "_law_size", s_size, []⟩) rfl
  have Dsize : Gd P w K mg base "_law_size" 1 ["_law_cuts"] (spSize) (gAt "_law_size" K) fd__law_size := ⟨gloB_ok X G (c.fact 63), F__law_size.kp, F__law_size.bindsN fun _ _ _ _ _ _ us hl => match us, hl with | [_], _ => rfl, ok_size F__law_size T ⟩
  obtain ⟨fd__law_glyphs, F__law_glyphs⟩ : ∃ fd, FD K "_law_glyphs" "_law_glyphs" s_glyphs (gAt "_law_glyphs" K) fd := c.def_ 21 (d := ⟨gAt "_law_glyphs", "_law_glyphs", "_law_glyphs", s_glyphs, []⟩) rfl
  have Dglyphs : Gd P w K mg base "_law_glyphs" 2 ["_law_pot_here", "_law_rounds_here", "_law_many"] (spGlyphs K) (gAt "_law_glyphs" K) fd__law_glyphs := ⟨gloB_ok X G (c.fact 64), F__law_glyphs.kp, F__law_glyphs.bindsN fun _ _ _ _ _ _ us hl => match us, hl with | [_, _, _], _ => rfl, ok_glyphs F__law_glyphs T Ddraw Dsize⟩
  obtain ⟨fd_Ratio___init__, F_Ratio___init__⟩ : ∃ fd, FunD K "__init__" "Ratio.__init__" (defArgs s_Ratio___init) (defBody s_Ratio___init) (defScope s_Ratio___init) [.int 1] [] (mAt "Ratio" "__init__" K) fd := c.def_ 22 (d := ⟨mAt "Ratio" "__init__", "__init__", "Ratio.__init__", s_Ratio___init, [.int 1]⟩) rfl
  have MI : Mk K (ga K "Ratio") (mAt "Ratio" "__init__" K) := mkB_ok (c.fact 65)
  have GI : FnOk P w K mg base CX0 2 (mAt "Ratio" "__init__" K) fd_Ratio___init__ ["self", "top", "bottom"] (spInitR (ga K "Ratio")) := ok_Ratio___init F_Ratio___init__ T RQ Dis_int
  obtain ⟨dsI, hdI, bI1⟩ := bind_d1 F_Ratio___init__
  have bI2 := bind_d2 F_Ratio___init__
  obtain ⟨fd__law_turned, F__law_turned⟩ : ∃ fd, FD K "_law_turned" "_law_turned" s_turned (gAt "_law_turned" K) fd := c.def_ 23 (d := ⟨gAt "_law_turned", "_law_turned", "_law_turned", s_turned, []⟩) rfl
  have Dturned : Gd P w K mg base "_law_turned" 4 ["_law_pot_here", "_law_rounds_here", "_law_glyphs_here"] (spTurnedR K (ga K "Ratio")) (gAt "_law_turned" K) fd__law_turned := ⟨gloB_ok X G (c.fact 66), F__law_turned.kp, F__law_turned.bindsN fun _ _ _ _ _ _ us hl => match us, hl with | [_, _, _], _ => rfl, ok_turned F__law_turned T RQ Ddraw Dpick Dsize MI GI bI2 hdI bI1⟩
  obtain ⟨fd__law_is_right, F__law_is_right⟩ : ∃ fd, FD K "_law_is_right" "_law_is_right" s_is_right (gAt "_law_is_right" K) fd := c.def_ 24 (d := ⟨gAt "_law_is_right", "_law_is_right", "_law_is_right", s_is_right, []⟩) rfl
  have Dis_right : Gd P w K mg base "_law_is_right" 2 ["_law_rounds_here", "_law_some"] (spIsRight K) (gAt "_law_is_right" K) fd__law_is_right := ⟨gloB_ok X G (c.fact 67), F__law_is_right.kp, F__law_is_right.bindsN fun _ _ _ _ _ _ us hl => match us, hl with | [_, _], _ => rfl, ok_is_right F__law_is_right T Dsize⟩
  obtain ⟨fd_check_plan, F_check_plan⟩ : ∃ fd, FD K "check_plan" "check_plan" s_check_plan (gAt "check_plan" K) fd := c.def_ 25 (d := ⟨gAt "check_plan", "check_plan", "check_plan", s_check_plan, []⟩) rfl
  have Dcheck_plan : Gd P w K mg base "check_plan" 1 ["plan"] (spChkPlan (ga K "Plan")) (gAt "check_plan" K) fd_check_plan := ⟨gloB_ok X G (c.fact 68), F_check_plan.kp, F_check_plan.bindsN fun _ _ _ _ _ _ us hl => match us, hl with | [_], _ => rfl, ok_check_plan F_check_plan T R RE⟩
  have Dis_intE : Gd P w K mg base "is_int" 1 ["value"] (spIntE K) (gAt "is_int" K) fd_is_int := ⟨gloB_ok X G (c.fact 51), F_is_int.kp, F_is_int.bindsN fun _ _ _ _ _ _ us hl => match us, hl with | [_], _ => rfl, ok_is_intE F_is_int T ⟩
  obtain ⟨fd_is_count, F_is_count⟩ : ∃ fd, FD K "is_count" "is_count" s_is_count (gAt "is_count" K) fd := c.def_ 26 (d := ⟨gAt "is_count", "is_count", "is_count", s_is_count, []⟩) rfl
  have Dis_countE : Gd P w K mg base "is_count" 2 ["value"] (spCountE K) (gAt "is_count" K) fd_is_count := ⟨gloB_ok X G (c.fact 69), F_is_count.kp, F_is_count.bindsN fun _ _ _ _ _ _ us hl => match us, hl with | [_], _ => rfl, ok_is_countE F_is_count T Dis_intE⟩
  obtain ⟨fd_is_count_below, F_is_count_below⟩ : ∃ fd, FD K "is_count_below" "is_count_below" s_is_count_below (gAt "is_count_below" K) fd := c.def_ 27 (d := ⟨gAt "is_count_below", "is_count_below", "is_count_below", s_is_count_below, []⟩) rfl
  have Dis_count_belowE : Gd P w K mg base "is_count_below" 3 ["value", "bound"] (spBelowE K) (gAt "is_count_below" K) fd_is_count_below := ⟨gloB_ok X G (c.fact 70), F_is_count_below.kp, F_is_count_below.bindsN fun _ _ _ _ _ _ us hl => match us, hl with | [_, _], _ => rfl, ok_is_count_belowE F_is_count_below T Dis_countE⟩
  obtain ⟨fd_Plan___len__, F_Plan___len__⟩ : ∃ fd, FD K "__len__" "Plan.__len__" s_Plan___len (mAt "Plan" "__len__" K) fd := c.def_ 28 (d := ⟨mAt "Plan" "__len__", "__len__", "Plan.__len__", s_Plan___len, []⟩) rfl
  have mLen : Meth K (ga K "Plan") "__len__" (mAt "Plan" "__len__" K) := metB_ok (c.fact 71)
  have Glen : FnOk P w K mg base CX0 1 (mAt "Plan" "__len__" K) fd_Plan___len__ ["self"] (spLen (ga K "Plan")) := ok_Plan___len F_Plan___len__ T R
  have bLen : Binds K fd_Plan___len__ ["self"] [] := F_Plan___len__.bindsN fun _ _ _ _ _ _ us hl => match us, hl with | [_], _ => rfl
  have Dis_count : Gd P w K mg base "is_count" 2 ["value"] (spCount) (gAt "is_count" K) fd_is_count := ⟨gloB_ok X G (c.fact 69), F_is_count.kp, F_is_count.bindsN fun _ _ _ _ _ _ us hl => match us, hl with | [_], _ => rfl, ok_is_count F_is_count T Dis_int⟩
  have Dis_count_below : Gd P w K mg base "is_count_below" 3 ["value", "bound"] (spBelow) (gAt "is_count_below" K) fd_is_count_below := ⟨gloB_ok X G (c.fact 70), F_is_count_below.kp, F_is_count_below.bindsN fun _ _ _ _ _ _ us hl => match us, hl with | [_, _], _ => rfl, ok_is_count_below F_is_count_below T Dis_count⟩
  obtain ⟨fd_check_phase, F_check_phase⟩ : ∃ fd, FD K "check_phase" "check_phase" s_check_phase (gAt "check_phase" K) fd := c.def_ 29 (d := ⟨gAt "check_phase", "check_phase", "check_phase", s_check_phase, []⟩) rfl
  have Dcheck_phase : Gd P w K mg base "check_phase" 4 ["plan", "phase"] (spPhaseOk (ga K "Plan")) (gAt "check_phase" K) fd_check_phase := ⟨gloB_ok X G (c.fact 72), F_check_phase.kp, F_check_phase.bindsN fun _ _ _ _ _ _ us hl => match us, hl with | [_, _], _ => rfl, ok_check_phase F_check_phase T R Dis_count_below mLen Glen bLen⟩
  obtain ⟨fd_Plan_signs, F_Plan_signs⟩ : ∃ fd, FD K "signs" "Plan.signs" s_Plan_signs (mAt "Plan" "signs" K) fd := c.def_ 30 (d := ⟨mAt "Plan" "signs", "signs", "Plan.signs", s_Plan_signs, []⟩) rfl
  have mSg : Meth K (ga K "Plan") "signs" (mAt "Plan" "signs" K) := metB_ok (c.fact 73)
  have Gsg : FnOk P w K mg base CX0 5 (mAt "Plan" "signs" K) fd_Plan_signs ["self", "phase"] (spSigns (ga K "Plan")) := ok_Plan_signs F_Plan_signs T R Dcheck_phase
  have bSg : Binds K fd_Plan_signs ["self", "phase"] [] := F_Plan_signs.bindsN fun _ _ _ _ _ _ us hl => match us, hl with | [_, _], _ => rfl
  obtain ⟨fd_signs_at, F_signs_at⟩ : ∃ fd, FD K "signs_at" "signs_at" s_signs_at (gAt "signs_at" K) fd := c.def_ 31 (d := ⟨gAt "signs_at", "signs_at", "signs_at", s_signs_at, []⟩) rfl
  have Dsigns_at : Gd P w K mg base "signs_at" 6 ["plan", "at"] (spSignsAt (ga K "Plan")) (gAt "signs_at" K) fd_signs_at := ⟨gloB_ok X G (c.fact 74), F_signs_at.kp, F_signs_at.bindsN fun _ _ _ _ _ _ us hl => match us, hl with | [_, _], _ => rfl, ok_signs_at F_signs_at T R mLen Glen bLen mSg Gsg bSg⟩
  obtain ⟨fd_is_name, F_is_name⟩ : ∃ fd, FD K "is_name" "is_name" s_is_name (gAt "is_name" K) fd := c.def_ 32 (d := ⟨gAt "is_name", "is_name", "is_name", s_is_name, []⟩) rfl
  have Dis_nameE : Gd P w K mg base "is_name" 7 ["plan", "value"] (spIsNameE K (ga K "Plan")) (gAt "is_name" K) fd_is_name := ⟨gloB_ok X G (c.fact 75), F_is_name.kp, F_is_name.bindsN fun _ _ _ _ _ _ us hl => match us, hl with | [_, _], _ => rfl, ok_is_nameE F_is_name T Dcheck_plan Dis_count_belowE Dsigns_at⟩
  have kb_is_name_value_plan : KBn K fd_is_name ["plan", "value"] 0 ["value", "plan"] (fun us ws => us ++ pm [1, 0] ws) (fun vs zs => vs ++ pm [1, 0] zs) := F_is_name.kb 0 ["value", "plan"] (fun _ _ _ _ _ _ us ws h1 h2 => match us, h1, ws, h2 with | [], _, [_, _], _ => rfl) fun a b => a.append (pm_vals b _)
  obtain ⟨fd_Ratio___repr__, F_Ratio___repr__⟩ : ∃ fd, FD K "__repr__" "Ratio.__repr__" s_Ratio___repr (mAt "Ratio" "__repr__" K) fd := c.def_ 33 (d := ⟨mAt "Ratio" "__repr__", "__repr__", "Ratio.__repr__", s_Ratio___repr, []⟩) rfl
  have m_Ratio___repr__ : Meth K (ga K "Ratio") "__repr__" (mAt "Ratio" "__repr__" K) := metB_ok (c.fact 76)
  have g_Ratio___repr__ : FnOk P w K mg base CX0 1 (mAt "Ratio" "__repr__" K) fd_Ratio___repr__ ["self"] (spReprRa (ga K "Ratio")) := ok_Ratio___repr F_Ratio___repr__ T RQ
  have b_Ratio___repr__ : Binds K fd_Ratio___repr__ ["self"] [] := F_Ratio___repr__.bindsN fun _ _ _ _ _ _ us hl => match us, hl with | [_], _ => rfl
  obtain ⟨fd_Plan___repr__, F_Plan___repr__⟩ : ∃ fd, FD K "__repr__" "Plan.__repr__" s_Plan___repr (mAt "Plan" "__repr__" K) fd := c.def_ 34 (d := ⟨mAt "Plan" "__repr__", "__repr__", "Plan.__repr__", s_Plan___repr, []⟩) rfl
  have mRp : Meth K (ga K "Plan") "__repr__" (mAt "Plan" "__repr__" K) := metB_ok (c.fact 77)
  have Grp : FnOkG P w K mg base CX0 3 (mAt "Plan" "__repr__" K) fd_Plan___repr__ ["self"] (spReprP (ga K "Plan")) := ok_Plan___repr F_Plan___repr__ T R
  have bRp : Binds K fd_Plan___repr__ ["self"] [] := F_Plan___repr__.bindsN fun _ _ _ _ _ _ us hl => match us, hl with | [_], _ => rfl
  obtain ⟨fd__law_asked, F__law_asked⟩ : ∃ fd, FD K "_law_asked" "_law_asked" s_asked (gAt "_law_asked" K) fd := c.def_ 35 (d := ⟨gAt "_law_asked", "_law_asked", "_law_asked", s_asked, []⟩) rfl
  have Dasked : Gg P w K mg base "_law_asked" 11 ["_law_tome", "_law_rounds_here", "_law_thing"] (spAsked K (ga K "Ratio") (ga K "Plan")) (gAt "_law_asked" K) fd__law_asked := ⟨gloB_ok X G (c.fact 78), F__law_asked.kp, F__law_asked.bindsN fun _ _ _ _ _ _ us hl => match us, hl with | [_, _, _], _ => rfl, ok_asked F__law_asked T Dis_right Dis_nameE kb_is_name_value_plan m_Ratio___repr__ g_Ratio___repr__ b_Ratio___repr__ mRp Grp bRp⟩
  have Dis_name : Gd P w K mg base "is_name" 7 ["plan", "value"] (spIsName K (ga K "Plan")) (gAt "is_name" K) fd_is_name := ⟨gloB_ok X G (c.fact 75), F_is_name.kp, F_is_name.bindsN fun _ _ _ _ _ _ us hl => match us, hl with | [_, _], _ => rfl, ok_is_name F_is_name T Dcheck_plan Dis_count_below Dsigns_at⟩
  obtain ⟨fd_check_name, F_check_name⟩ : ∃ fd, FD K "check_name" "check_name" s_check_name (gAt "check_name" K) fd := c.def_ 36 (d := ⟨gAt "check_name", "check_name", "check_name", s_check_name, []⟩) rfl
  have Dcheck_name : Gd P w K mg base "check_name" 8 ["plan", "name"] (spChkName K (ga K "Plan")) (gAt "check_name" K) fd_check_name := ⟨gloB_ok X G (c.fact 79), F_check_name.kp, F_check_name.bindsN fun _ _ _ _ _ _ us hl => match us, hl with | [_, _], _ => rfl, ok_check_name F_check_name T Dis_name⟩
  obtain ⟨fd_children, F_children⟩ : ∃ fd, FD K "children" "children" s_children (gAt "children" K) fd := c.def_ 37 (d := ⟨gAt "children", "children", "children", s_children, []⟩) rfl
  have Dchildren : Gd P w K mg base "children" 9 ["plan", "name"] (spChildren K (ga K "Plan")) (gAt "children" K) fd_children := ⟨gloB_ok X G (c.fact 80), F_children.kp, F_children.bindsN fun _ _ _ _ _ _ us hl => match us, hl with | [_, _], _ => rfl, ok_children F_children T Dcheck_plan Dcheck_name Dsigns_at⟩
  obtain ⟨fd_check_fineness, F_check_fineness⟩ : ∃ fd, FD K "check_fineness" "check_fineness" s_check_fineness (gAt "check_fineness" K) fd := c.def_ 38 (d := ⟨gAt "check_fineness", "check_fineness", "check_fineness", s_check_fineness, []⟩) rfl
  have Dcheck_fineness : Gd P w K mg base "check_fineness" 3 ["f"] (spFine) (gAt "check_fineness" K) fd_check_fineness := ⟨gloB_ok X G (c.fact 81), F_check_fineness.kp, F_check_fineness.bindsN fun _ _ _ _ _ _ us hl => match us, hl with | [_], _ => rfl, ok_check_fineness F_check_fineness T R Dis_count⟩
  obtain ⟨fd_check_pair, F_check_pair⟩ : ∃ fd, FD K "check_pair" "check_pair" s_check_pair (gAt "check_pair" K) fd := c.def_ 39 (d := ⟨gAt "check_pair", "check_pair", "check_pair", s_check_pair, []⟩) rfl
  have Dcheck_pair : Gd P w K mg base "check_pair" 4 ["pair", "parts"] (spPairOk) (gAt "check_pair" K) fd_check_pair := ⟨gloB_ok X G (c.fact 82), F_check_pair.kp, F_check_pair.bindsN fun _ _ _ _ _ _ us hl => match us, hl with | [_, _], _ => rfl, ok_check_pair F_check_pair T R Dis_tuple_of Dis_count_below⟩
  obtain ⟨fd_Plan_parts, F_Plan_parts⟩ : ∃ fd, FD K "parts" "Plan.parts" s_Plan_parts (mAt "Plan" "parts" K) fd := c.def_ 40 (d := ⟨mAt "Plan" "parts", "parts", "Plan.parts", s_Plan_parts, []⟩) rfl
  have mPa : Meth K (ga K "Plan") "parts" (mAt "Plan" "parts" K) := metB_ok (c.fact 83)
  have Gpa : FnOk P w K mg base CX0 5 (mAt "Plan" "parts" K) fd_Plan_parts ["self", "phase"] (spPartsM (ga K "Plan")) := ok_Plan_parts F_Plan_parts T R Dcheck_phase
  have bPa : Binds K fd_Plan_parts ["self", "phase"] [] := F_Plan_parts.bindsN fun _ _ _ _ _ _ us hl => match us, hl with | [_, _], _ => rfl
  obtain ⟨fd_Plan_growth, F_Plan_growth⟩ : ∃ fd, FD K "growth" "Plan.growth" s_Plan_growth (wAt "property" "Plan" "growth" K) fd := c.def_ 41 (d := ⟨wAt "property" "Plan" "growth", "growth", "Plan.growth", s_Plan_growth, []⟩) rfl
  have pGr : PropOf K (ga K "Plan") "growth" (mAt "Plan" "growth" K) (wAt "property" "Plan" "growth" K) := prpB_ok (c.fact 84)
  have Ggr : FnOk P w K mg base CX0 1 (wAt "property" "Plan" "growth" K) fd_Plan_growth ["self"] (spGrowth (ga K "Plan")) := ok_Plan_growth F_Plan_growth T R
  have bGr : Binds K fd_Plan_growth ["self"] [] := F_Plan_growth.bindsN fun _ _ _ _ _ _ us hl => match us, hl with | [_], _ => rfl
  obtain ⟨fd__power, F__power⟩ : ∃ fd, FD K "_power" "_power" s_power (gAt "_power" K) fd := c.def_ 42 (d := ⟨gAt "_power", "_power", "_power", s_power, []⟩) rfl
  have Dpower : Gd P w K mg base "_power" 1 ["base", "exponent"] (spPower) (gAt "_power" K) fd__power := ⟨gloB_ok X G (c.fact 85), F__power.kp, F__power.bindsN fun _ _ _ _ _ _ us hl => match us, hl with | [_, _], _ => rfl, ok_power F__power T ⟩
  obtain ⟨fd_counts_at, F_counts_at⟩ : ∃ fd, FD K "counts_at" "counts_at" s_counts_at (gAt "counts_at" K) fd := c.def_ 43 (d := ⟨gAt "counts_at", "counts_at", "counts_at", s_counts_at, []⟩) rfl
  have Dcounts_at : Gd P w K mg base "counts_at" 6 ["plan", "f"] (spCounts (ga K "Plan")) (gAt "counts_at" K) fd_counts_at := ⟨gloB_ok X G (c.fact 86), F_counts_at.kp, F_counts_at.bindsN fun _ _ _ _ _ _ us hl => match us, hl with | [_, _], _ => rfl, ok_counts_at F_counts_at T R mLen Glen bLen mPa Gpa bPa pGr Ggr bGr Dmultiplied Dpower⟩
  obtain ⟨fd_Plan_sign_at, F_Plan_sign_at⟩ : ∃ fd, FD K "sign_at" "Plan.sign_at" s_Plan_sign_at (mAt "Plan" "sign_at" K) fd := c.def_ 44 (d := ⟨mAt "Plan" "sign_at", "sign_at", "Plan.sign_at", s_Plan_sign_at, []⟩) rfl
  have mSa : Meth K (ga K "Plan") "sign_at" (mAt "Plan" "sign_at" K) := metB_ok (c.fact 87)
  have Gsa : FnOk P w K mg base CX0 6 (mAt "Plan" "sign_at" K) fd_Plan_sign_at ["self", "phase", "pair"] (spSignAt (ga K "Plan")) := ok_Plan_sign_at F_Plan_sign_at T R Dcheck_phase Dcheck_pair
  have bSa : Binds K fd_Plan_sign_at ["self", "phase", "pair"] [] := F_Plan_sign_at.bindsN fun _ _ _ _ _ _ us hl => match us, hl with | [_, _, _], _ => rfl
  obtain ⟨fd_name_with, F_name_with⟩ : ∃ fd, FD K "name_with" "name_with" s_name_with (gAt "name_with" K) fd := c.def_ 45 (d := ⟨gAt "name_with", "name_with", "name_with", s_name_with, []⟩) rfl
  have Dname_with : Gd P w K mg base "name_with" 7 ["plan", "f", "pair"] (spNameWith (ga K "Plan")) (gAt "name_with" K) fd_name_with := ⟨gloB_ok X G (c.fact 88), F_name_with.kp, F_name_with.bindsN fun _ _ _ _ _ _ us hl => match us, hl with | [_, _, _], _ => rfl, ok_name_with F_name_with T R T2 mLen Glen bLen mPa Gpa bPa mSa Gsa bSa⟩
  obtain ⟨fd_name_of, F_name_of⟩ : ∃ fd, FD K "name_of" "name_of" s_name_of (gAt "name_of" K) fd := c.def_ 46 (d := ⟨gAt "name_of", "name_of", "name_of", s_name_of, []⟩) rfl
  have Dname_of : Gd P w K mg base "name_of" 8 ["plan", "f", "pair"] (spNameWith (ga K "Plan")) (gAt "name_of" K) fd_name_of := ⟨gloB_ok X G (c.fact 89), F_name_of.kp, F_name_of.bindsN fun _ _ _ _ _ _ us hl => match us, hl with | [_, _, _], _ => rfl, ok_name_of F_name_of T Dcheck_plan Dcheck_fineness Dcheck_pair Dcounts_at Dname_with⟩
  obtain ⟨fd__law_right, F__law_right⟩ : ∃ fd, FD K "_law_right" "_law_right" s_right (gAt "_law_right" K) fd := c.def_ 47 (d := ⟨gAt "_law_right", "_law_right", "_law_right", s_right, []⟩) rfl
  have Dright : Gg P w K mg base "_law_right" 12 ["_law_pot_here"] (spRight) (gAt "_law_right" K) fd__law_right := ⟨gloB_ok X G (c.fact 90), F__law_right.kp, F__law_right.bindsN fun _ _ _ _ _ _ us hl => match us, hl with | [_], _ => rfl, ok_right F__law_right T RQ R RE KT Ddraw Dpick Drounds Dreal Dglyphs Dturned Dasked Dchildren Dname_of Dis_nameE MI GI bI2 hdI bI1⟩
  exact (ok_law Fl T Dpot Dright)
end
end Mc

set_option Elab.async false
set_option linter.all false
set_option maxRecDepth 100000
set_option maxHeartbeats 0
open PySem PySem.W PySem.Calls PyProof.Rows
theorem PySem.Challenge.cw_movecells_k24_what_is_a_name_holds : PySem.Challenge.rw_movecells_k24_what_is_a_name.Holds := by
  w_on; o_law
  refine HandSHeadRun.head_imp (r := OpenLaw.row PySem.Challenge.rw_movecells_k24_what_is_a_name) (q := view (OpenLaw.row PySem.Challenge.rw_movecells_k24_what_is_a_name).prog [0, 69]) (H := Mc.hkk) (ob := Mc.hob) (M := 12000) (loose := Mc.hnames) (d := HandSHeadRun.topDef (OpenLaw.row PySem.Challenge.rw_movecells_k24_what_is_a_name).prog 69) (kwd := []) Mc.hob_eq Mc.hrun (by kernel_rfl) (by kernel_rfl) (by kernel_rfl) (by rfl) (by first | assumption | decide +kernel) (by decide +kernel) ⟨rfl, rfl, rfl, rfl, rfl, by decide +kernel⟩ ?hw ?hc
  case hw => w_witness2
  case hc =>
    refine Mc.walkGE (l := PySem.Challenge.rw_movecells_k24_what_is_a_name) (n := 63) (k := 13) (x := "_law_script") rfl (by decide) (by kernel_rfl) ⟨⟨rfl, by decide, by decide⟩, rfl⟩ ?F
    intro w mg fa h Y G hmg0
    obtain ⟨K, KX, c⟩ := Y
    have hmg : mg ("law" : PySem.Str) = some (.ref fa) := by
      have e : (HandSHeadRun.topDef (OpenLaw.row PySem.Challenge.rw_movecells_k24_what_is_a_name).prog 69).name = ("law" : PySem.Str) := by kernel_rfl
      rw [← e]
      exact hmg0
    obtain ⟨fd, hb, hF⟩ := Mc.all_law (P := (PySem.Challenge.rw_movecells_k24_what_is_a_name).prog) (w := w) KX G hmg c
    exact ⟨K, fd, KX, hb, hF⟩

