import PyProof.Rows.All
import Wide.All
import OpenK.AllK
import Wide.FinOn
import KE.KStateDown
import Lean
import HandS.Head0
import HandS.Head1
import HandS.Head2
import HandS.Head3
import HandS.HeadEnd
import HandS.HeadHook1
import HandS.HeadHook2
import HandS.Star
import HandS.Words
import HandS.ForMost
import HandS.Wide
import HandS.WideBits
import HandS.Gcd
import HandS.Defaults
import HandS.Property
import HandS.OwnEq
import HandS.IsInst
import HandS.FStr
import HandS.StrMore
import HandS.RaiseMore
import HandS.EndBits
import HandS.MakeKw
import HandS.ClsMeth
import PyProof.ReprNest
import PyProof.ReprHeads
import PyProof.ReprHeadsEmpty
import PyProof.ReprHeadsTuple
import KE.KFmtOwn
import KE.KCallOwn
import KE.KIsAll
import HandS.SlotsOwn
import PyProof.InstEq
import PyProof.InstNe
import HandS.MakeKwOnly
import HandS.Deep
import KE.KOpsOwn
import HandS.Iter
import KE.GoesMore
import HandS.Style
import HandS.TupAny
import HandS.TupLe
import HandS.Text
import HandS.Comp
import HandS.RevRange
import HandS.RevTup
import HandS.Sort
import HandS.Walk
import HandS.Strs
import HandS.Zip
import HandS.NoneIn
import HandS.Conv
import PyProof.Rows.TupMore
import HandS.Small
import HandS.ListItems
import HandS.TupSets
import HandS.SortRule
import PySem.Challenge.RW_movecells_k54_reached_moves
set_option Elab.async false
set_option Elab.async false
set_option linter.all false
set_option maxRecDepth 100000
set_option maxHeartbeats 4000000
namespace Mc
open PySem PySem.Spec PyProof.Rows L2
open PySem.W (Frag)
/-- a def by a path: where it stands, its names, its statement, its defaults -/
structure DefP where
  at_ : Frag → Addr
  name : Str
  qual : Str
  st : Stmt
  dfl : List V := []
def DefP.val (d : DefP) : He.FnW := some (d.name, d.qual, defArgs d.st, .stmts (defBody d.st), defScope d.st, mainGlobals, [], builtinsNs)
def fnAt (K : Frag) (a : Addr) : He.FnW := match K.lookup a with
  | some ⟨_, _, .func fd, _⟩ => some (fd.name, fd.qualname, fd.params, fd.body, fd.scope, fd.globals, fd.closure, fd.builtins)
  | _ => none
def DefP.ok (K : Frag) (d : DefP) : Bool := PySem.W.keepIn K (.ref (d.at_ K)) && (match K.lookup (d.at_ K) with
  | some ⟨_, _, .func fd, _⟩ => PySem.W.codeIn K fd.code d.qual && He.dflB K fd.defaults d.dfl
  | _ => false)
abbrev AlP : Type := Bool × List He.FnW
def obsP (fs : List (Frag → Bool)) (ds : List DefP) (K : Frag) : AlP := ((fs.all fun f => f K) && ds.all fun d => d.ok K, ds.map fun d => fnAt K (d.at_ K))
def valP (ds : List DefP) : AlP := (true, ds.map DefP.val)
def SaysP (fs : List (Frag → Bool)) (ds : List DefP) (K : Frag) : Prop := obsP fs ds K = valP ds
open He (ga ma eqO eqO_ok ba)
/-- a global def; a class's method; the getter of a property, the def of a static method (T: "property", "staticmethod") -/
def gAt (x : Str) (K : Frag) : Addr := ga K x
def mAt (c m : Str) (K : Frag) : Addr := ma K (ga K c) m
def wAt (T : String) (c m : Str) (K : Frag) : Addr := match PySem.W.recIn K (ma K (ga K c) m) T with
  | some (.ref a :: _) => a
  | _ => 0
def gloB (x : Str) (K : Frag) : Bool := eqO (PySem.W.nsIn K mainGlobals x) (some (some (.ref (ga K x))))
def blB (x : Str) (id : String) (K : Frag) : Bool := eqO (PySem.W.nsIn K mainGlobals x) (some (some (.builtin id)))
def freeB (x : Str) (K : Frag) : Bool := eqO (PySem.W.nsIn K mainGlobals x) (some none)
def intB (x : Str) (i : Int) (K : Frag) : Bool := (match PySem.W.nsIn K mainGlobals x with
  | some (some (.int j _)) => decide (j = i)
  | _ => false)
def clsB (c : Str) (K : Frag) : Bool := PySem.W.plainGet K (ga K c) Str.empty && (PySem.W.hasDictIn K (ga K c) && (PySem.W.plainOver K (ga K c) && eqO (PySem.W.findIn K (.ref (ga K c)) "__setattr__") (some (some (.builtin "object.__setattr__")))))
def noatB (c f : Str) (K : Frag) : Bool := eqO (PySem.W.findIn K (.ref (ga K c)) f) (some none)
def metB (c m : Str) (K : Frag) : Bool := eqO (PySem.W.findIn K (.ref (ga K c)) m) (some (some (.ref (mAt c m K)))) && (PySem.W.isFn K (.ref (mAt c m K)) && PySem.W.keepIn K (.ref (mAt c m K)))
def mkB (c : Str) (K : Frag) : Bool := PySem.W.makesIn K (ga K c) && (eqO (PySem.W.findIn K (.ref (ga K c)) "__init__") (some (some (.ref (mAt c "__init__" K)))) && (PySem.W.isFn K (.ref (mAt c "__init__" K)) && PySem.W.keepIn K (.ref (ga K c))))
def prpB (c m : Str) (K : Frag) : Bool := eqO (PySem.W.findIn K (.ref (ga K c)) m) (some (some (.ref (mAt c m K)))) && (eqO (PySem.W.specialIn K (.ref (mAt c m K)) "__get__") (some (some (.builtin "property.__get__"))) && (decide (PySem.W.takesIn K (.ref (mAt c m K)) = some true) && (match PySem.W.recIn K (mAt c m K) "property" with
  | some (.ref _ :: _) => true
  | _ => false)))
def ownOB (c : Str) (nm : String) (K : Frag) : Bool := (eqO (PySem.W.findIn K (.ref (ga K c)) (PySem.dunder nm)) (some (some (.ref (mAt c (PySem.dunder nm) K)))) && PySem.W.isFn K (.ref (mAt c (PySem.dunder nm) K))) && (PySem.W.selfFirst K (ga K c) && ((match PySem.W.findIn K (.ref (ga K c)) (dunderR nm) with
  | some (some (.ref _)) => true
  | _ => false) && ((PySem.W.findIn K (.type "int") (PySem.dunder nm)).isSome && ((PySem.W.findIn K (.type "int") (dunderR nm)).isSome && decide (PySem.W.subIn K (.type "int") (.ref (ga K c)) = some false)))))
def tupPB (x : Str) (vs : List V) (K : Frag) : Bool := match K.lookup (ga K x) with
  | some ⟨.type c, none, .seq its _, _⟩ => decide (c = "tuple") && (decide (its.size ≤ sizeLine) && He.relAll vs its.toList)
  | _ => false
def cvB (c f : Str) (i : Int) (K : Frag) : Bool := match PySem.W.findCls K (.ref (ga K c)) (.type "type") f with
  | some (.val u) => He.relB (.int i) u
  | _ => false
def crdB (c : Str) (K : Frag) : Bool := PySem.W.readsIn K (ga K c) (.type "type") && eqO (PySem.W.specialIn K (.ref (ga K c)) "__getattribute__") (some (some (.builtin "type.__getattribute__")))
/-- what the top leaves of the built-in names -/
def callB (c : Str) (K : Frag) : Bool := eqO (PySem.W.findIn K (.ref (ga K c)) "__call__") (some (some (.ref (mAt c "__call__" K)))) && (PySem.W.isFn K (.ref (mAt c "__call__" K)) && PySem.W.fnIn K (mAt c "__call__" K))
def tbNames : List Str := ["len", "abs", "max", "min", "int", "str", "bool", "divmod", "range", "all", "any", "repr", "isinstance", "list", "tuple", "enumerate", "zip"]
def tbB (K : Frag) : Bool := tbNames.all fun x => freeB x K
/-- what stands at the addresses that are named -/
def obsL (as : List Addr) (fs : List (Frag → Bool)) (ds : List DefP) (g : Addr → Option Obj) : AlP := obsP fs ds (He.frG g as)
def hookL (as : List Addr) (fs : List (Frag → Bool)) (ds : List DefP) : PySem.W.Hook where
  α := AlP
  obs := fun s => obsL as fs ds s.heap.get?
  val := fun _ => valP ds
  says := fun _ h => ∃ K : Frag, K.In h ∧ SaysP fs ds K
  of := fun _ _ e => ⟨_, He.frG_in, e⟩
  keeps := fun _ _ _ ⟨K, hK, c⟩ k => ⟨K, PySem.W.Frag.In.keeps hK k, c⟩
theorem obsL_eq {as : List Addr} {fs : List (Frag → Bool)} {ds : List DefP} {g : Addr → Option Obj} {s : Shared} (h : ∀ a, g a = s.heap.get? a) : obsL as fs ds g = (hookL as fs ds).obs s := by
  have e : g = s.heap.get? := funext h
  rw [e] <;> rfl
/-- the run, seen by f -/
def RunO {β : Type} (p : Program) (M : Nat) (f : PySem.W.SharedT → β) (b : β) (w : World) : Prop := (HandSHeadRun.wholeF (fun p => HandSHeadRun.stepQ (HandSHeadRun.denQ HandSHeadRun.tabQ) p w) HandSHeadRun.fenceQ M p).map (fun x => f x.2) = some b
/-- two looks at one run -/
theorem run_join {r : PySem.W.OpenRow} {q : Program} {as : List Addr} {fs : List (Frag → Bool)} {ds : List DefP} {M : Nat} {loose : List PySem.Str} {w : World} (h1 : HandSHeadRun.RunEqI r q (hookL as [] []) (fun s => obsL as [] [] (HandSHeadRun.getT s)) M loose w) (h2 : RunO r.prog M (fun s => obsL as fs ds (HandSHeadRun.getT s)) (valP ds) w) :
    HandSHeadRun.RunEqI r q (hookL as fs ds) (fun s => obsL as fs ds (HandSHeadRun.getT s)) M loose w := by
  unfold HandSHeadRun.RunEqI at h1 ⊢
  unfold RunO at h2
  obtain ⟨x, hx, e1⟩ := Option.map_eq_some_iff.mp h1
  obtain ⟨y, hy, e2⟩ := Option.map_eq_some_iff.mp h2
  rw [hx] at hy
  cases hy
  rw [hx]
  obtain ⟨a, b⟩ := Prod.mk.inj e1
  obtain ⟨b, _⟩ := Prod.mk.inj b
  exact congrArg some (Prod.ext a (Prod.ext b e2))
end Mc

set_option Elab.async false
set_option linter.all false
set_option maxRecDepth 100000
set_option maxHeartbeats 4000000
namespace Mc
open PySem PySem.Spec PyProof.Rows L2
open PySem.W (Frag)
open He (ga)
/-- a tuple of tuples of two ints, by its name -/
def mvA (K : Frag) : List Addr := match K.lookup (ga K "MOVES") with
  | some ⟨_, _, .seq its _, _⟩ => its.toList.filterMap fun v => match v with
    | .ref a => some a
    | _ => none
  | _ => []
def tupAB (a : Addr) (vs : List V) (K : Frag) : Bool := match K.lookup a with
  | some ⟨.type c, none, .seq its _, _⟩ => decide (c = "tuple") && (decide (its.size ≤ sizeLine) && He.relAll vs its.toList)
  | _ => false
def mv9 : List (Int × Int) := [(-1, -1), (-1, 0), (-1, 1), (0, -1), (0, 0), (0, 1), (1, -1), (1, 0), (1, 1)]
def movB (K : Frag) : Bool := tupAB (ga K "MOVES") ((mvA K).map V.ref) K && (decide ((mvA K).length = 9) && ((mvA K).zip mv9).all fun q => tupAB q.1 [.int q.2.1, .int q.2.2] K)
end Mc

namespace Mc
open PySem PySem.Spec PyProof.Rows L2
def top (i : Nat) : Stmt := PySem.Challenge.pw_movecells_k54_reached_moves.main.body.getD i (.Pass ⟨0, 0, 0, 0⟩)
abbrev sPot : Stmt := top 85
abbrev sDraw : Stmt := top 86
abbrev sPick : Stmt := top 87
abbrev s_wall : Stmt := top 1
abbrev s_is_int : Stmt := top 24
abbrev s_is_count : Stmt := top 25
abbrev s_is_count_below : Stmt := top 26
abbrev s_is_list : Stmt := top 27
abbrev s_is_tuple_of : Stmt := top 28
abbrev s_check_fineness : Stmt := top 29
abbrev s_Plan___init : Stmt := inClass (top 34) 3
abbrev s_Plan_squares : Stmt := inClass (top 34) 4
abbrev s_Plan_codes : Stmt := inClass (top 34) 5
abbrev s_Plan_rounds : Stmt := inClass (top 34) 6
abbrev s_Plan___len : Stmt := inClass (top 34) 7
abbrev s_Plan_phase : Stmt := inClass (top 34) 8
abbrev s_Plan_signs : Stmt := inClass (top 34) 9
abbrev s_Plan_parts : Stmt := inClass (top 34) 10
abbrev s_Plan_place_of : Stmt := inClass (top 34) 11
abbrev s_Plan_sign_at : Stmt := inClass (top 34) 12
abbrev s_Plan_counts : Stmt := inClass (top 34) 13
abbrev s_Plan_growth : Stmt := inClass (top 34) 14
abbrev s_Plan_turned : Stmt := inClass (top 34) 15
abbrev s_Plan___eq : Stmt := inClass (top 34) 16
abbrev s_Plan___repr : Stmt := inClass (top 34) 17
abbrev s_check_plan : Stmt := top 35
abbrev s_is_axis : Stmt := top 36
abbrev s_counts_at : Stmt := top 37
abbrev s_check_phase : Stmt := top 38
abbrev s_check_sign : Stmt := top 39
abbrev s_is_parts : Stmt := top 40
abbrev s_is_cut : Stmt := top 41
abbrev s_is_cuts : Stmt := top 42
abbrev s_check_rounds : Stmt := top 43
abbrev s_plain_cuts : Stmt := top 44
abbrev s_parts_of : Stmt := top 45
abbrev s_places_of : Stmt := top 46
abbrev s_within : Stmt := top 47
abbrev s_multiplied : Stmt := top 48
abbrev s_power : Stmt := top 49
abbrev s_Ratio___init : Stmt := inClass (top 52) 0
abbrev s_Ratio_read : Stmt := inClass (top 52) 1
abbrev s_Ratio_top : Stmt := inClass (top 52) 2
abbrev s_Ratio_bottom : Stmt := inClass (top 52) 3
abbrev s_Ratio_sign : Stmt := inClass (top 52) 4
abbrev s_Ratio___add : Stmt := inClass (top 52) 5
abbrev s_Ratio___radd : Stmt := inClass (top 52) 6
abbrev s_Ratio___sub : Stmt := inClass (top 52) 7
abbrev s_Ratio___rsub : Stmt := inClass (top 52) 8
abbrev s_Ratio___mul : Stmt := inClass (top 52) 9
abbrev s_Ratio___rmul : Stmt := inClass (top 52) 10
abbrev s_Ratio___neg : Stmt := inClass (top 52) 11
abbrev s_Ratio_over : Stmt := inClass (top 52) 12
abbrev s_Ratio_is_below : Stmt := inClass (top 52) 13
abbrev s_Ratio_floor : Stmt := inClass (top 52) 14
abbrev s_Ratio___eq : Stmt := inClass (top 52) 15
abbrev s_Ratio___str : Stmt := inClass (top 52) 16
abbrev s_Ratio___repr : Stmt := inClass (top 52) 17
abbrev s_as_ratio : Stmt := top 53
abbrev s_is_number : Stmt := top 54
abbrev s_is_above_0 : Stmt := top 55
abbrev s_smaller : Stmt := top 56
abbrev s_greater : Stmt := top 57
abbrev s_bottom_of : Stmt := top 58
abbrev s_is_digits : Stmt := top 59
abbrev s_Map___init : Stmt := inClass (top 61) 0
abbrev s_Map_plan : Stmt := inClass (top 61) 1
abbrev s_Map_east : Stmt := inClass (top 61) 2
abbrev s_Map_north : Stmt := inClass (top 61) 3
abbrev s_Map_closed : Stmt := inClass (top 61) 4
abbrev s_Map_is_closed : Stmt := inClass (top 61) 5
abbrev s_Map_length : Stmt := inClass (top 61) 6
abbrev s_Map_sides : Stmt := inClass (top 61) 7
abbrev s_Map___mul : Stmt := inClass (top 61) 8
abbrev s_Map___rmul : Stmt := inClass (top 61) 9
abbrev s_Map_turned : Stmt := inClass (top 61) 10
abbrev s_Map___eq : Stmt := inClass (top 61) 11
abbrev s_Map___repr : Stmt := inClass (top 61) 12
abbrev s_check_area : Stmt := top 62
abbrev s_check_axis : Stmt := top 63
abbrev s_sides_at : Stmt := top 64
abbrev s_are_closed : Stmt := top 65
abbrev s_is_kind : Stmt := top 68
abbrev s_check_kind : Stmt := top 69
abbrev s_check_distance : Stmt := top 70
abbrev s_joined : Stmt := top 71
abbrev s_Gauge___init : Stmt := inClass (top 74) 0
abbrev s_Gauge_area : Stmt := inClass (top 74) 1
abbrev s_Gauge_reaches : Stmt := inClass (top 74) 2
abbrev s_Gauge_kind : Stmt := inClass (top 74) 3
abbrev s_Gauge_greatest : Stmt := inClass (top 74) 4
abbrev s_Gauge___call : Stmt := inClass (top 74) 5
abbrev s_Gauge_is_taken : Stmt := inClass (top 74) 6
abbrev s_Gauge_taken : Stmt := inClass (top 74) 7
abbrev s_Gauge_reached : Stmt := inClass (top 74) 8
abbrev s_Gauge_with_reaches : Stmt := inClass (top 74) 9
abbrev s_Gauge___mul : Stmt := inClass (top 74) 10
abbrev s_Gauge___rmul : Stmt := inClass (top 74) 11
abbrev s_Gauge___eq : Stmt := inClass (top 74) 12
abbrev s_Gauge___repr : Stmt := inClass (top 74) 13
abbrev s_greatest_at : Stmt := top 75
abbrev s_first_fineness : Stmt := top 76
abbrev s_fineness_of : Stmt := top 77
abbrev s_check_reaches : Stmt := top 78
abbrev s_is_reach : Stmt := top 79
abbrev s_is_less_behind : Stmt := top 80
abbrev s_reached_with : Stmt := top 81
abbrev s_least : Stmt := top 82
abbrev s_least_gap : Stmt := top 83
abbrev s_rounds : Stmt := top 88
abbrev s_plan : Stmt := top 89
abbrev s_length : Stmt := top 90
abbrev s_reach : Stmt := top 91
abbrev s_passed : Stmt := top 92
abbrev s_model : Stmt := top 93
abbrev s_area : Stmt := top 94
abbrev s_gauge : Stmt := top 95
abbrev s_counts : Stmt := top 96
abbrev s_is_less : Stmt := top 97
abbrev s_top_at : Stmt := top 98
abbrev s_top : Stmt := top 99
abbrev s_spot : Stmt := top 100
abbrev s_share : Stmt := top 101
abbrev s_sum : Stmt := top 102
abbrev s_is_due : Stmt := top 103
abbrev s_moves : Stmt := top 104
abbrev s_dues : Stmt := top 105
abbrev s_twin : Stmt := top 106
abbrev s_turns_right : Stmt := top 107
abbrev s_right : Stmt := top 108
abbrev s_law : Stmt := top 109
end Mc
set_option Elab.async false
set_option linter.all false
set_option maxRecDepth 100000
set_option maxHeartbeats 4000000
set_option exponentiation.threshold 20000
namespace Mc
open PySem PySem.Spec PyProof.Rows L2 He
open PySem.W (Frag)
def fcts0 : List (Frag → Bool) := [clsB "Plan", noatB "Plan" "_rounds", noatB "Plan" "_parts", noatB "Plan" "_places", noatB "Plan" "_growth", gloB "Plan", intB "MOST_FINENESS" 1000, intB "LEAST_PARTS" 2, intB "MOST_PARTS" 4, gloB "AXES", tupPB "AXES" [.str "east", .str "north"], crdB "Plan"]
def fcts1 : List (Frag → Bool) := [cvB "Plan" "MOST_ROUNDS" 3, cvB "Plan" "MOST_CUTS" 5, cvB "Plan" "MOST_SIGNS" 32, fun K => (["NoneType", "bool", "int", "str", "list", "tuple", "dict"] : List String).all fun x => decide (PySem.W.kitOne K (.type x) (.ref (ga K "Plan")) = some false), fun K => (["NoneType", "bool", "int", "str", "list", "tuple", "dict"] : List String).all fun x => PySem.W.notFirst K (ga K "Plan") (.type x), fun K => decide (PySem.W.findIn K (.ref (ga K "Plan")) "__class__" = some (some (.builtin "object.__class__"))), fun K => decide (PySem.W.specialIn K (.builtin "object.__class__") "__get__" = some (some (.builtin "getset_descriptor.__get__"))), fun K => decide (PySem.W.takesIn K (.builtin "object.__class__") = some true), fun K => decide (PySem.W.mroIn K (ga K "Plan") (.type "object") = some true), fun K => decide (PySem.W.findIn K (.ref (ga K "Plan")) "__ne__" = some (some (.builtin "object.__ne__"))), fun K => decide (PySem.W.kitOne K (.ref (ga K "Plan")) (.ref (ga K "Plan")) = some true), clsB "Ratio"]
def fcts2 : List (Frag → Bool) := [noatB "Ratio" "_top", noatB "Ratio" "_bottom", gloB "Ratio", blB "gcd" "math.gcd", fun K => decide (PySem.W.findIn K (.ref (ga K "Ratio")) "__class__" = some (some (.builtin "object.__class__"))), fun K => decide (PySem.W.mroIn K (ga K "Ratio") (.type "object") = some true), fun K => decide (PySem.W.findIn K (.ref (ga K "Ratio")) "__ne__" = some (some (.builtin "object.__ne__"))), fun K => decide (PySem.W.kitOne K (.ref (ga K "Ratio")) (.ref (ga K "Ratio")) = some true), fun K => decide (PySem.W.kitOne K (.ref (ga K "Ratio")) (.type "int") = some false), fun K => decide (PySem.W.kitOne K (.type "int") (.ref (ga K "Ratio")) = some false), fun K => decide (PySem.W.notFirst K (ga K "Ratio") (.type "int") = true), clsB "Map"]
def fcts3 : List (Frag → Bool) := [noatB "Map" "_plan", noatB "Map" "_east", noatB "Map" "_north", noatB "Map" "_closed", gloB "Map", fun K => decide (PySem.W.findIn K (.ref (ga K "Map")) "__class__" = some (some (.builtin "object.__class__"))), fun K => decide (PySem.W.mroIn K (ga K "Map") (.type "object") = some true), fun K => decide (PySem.W.findIn K (.ref (ga K "Map")) "__ne__" = some (some (.builtin "object.__ne__"))), fun K => decide (PySem.W.kitOne K (.ref (ga K "Map")) (.ref (ga K "Map")) = some true), clsB "Gauge", noatB "Gauge" "_area", noatB "Gauge" "_reaches"]
def fcts4 : List (Frag → Bool) := [noatB "Gauge" "_kind", noatB "Gauge" "_taken", noatB "Gauge" "_reached", gloB "Gauge", gloB "KINDS", tupPB "KINDS" [.str "box", .str "sum"], gloB "MOVES", movB, freeB "sorted", freeB "set", freeB "dict", tbB]
def fcts5 : List (Frag → Bool) := [gloB "_law_pot", gloB "_law_draw", gloB "_law_pick", gloB "_law_rounds", gloB "_law_length", gloB "_law_reach", gloB "_law_model", gloB "is_int", mkB "Ratio", gloB "_law_passed", gloB "is_list", gloB "is_tuple_of"]
def fcts6 : List (Frag → Bool) := [gloB "is_axis", gloB "_is_parts", gloB "_is_cut", gloB "_is_cuts", gloB "_within", gloB "_places_of", gloB "_parts_of", gloB "_multiplied", gloB "_check_rounds", gloB "_plain_cuts", mkB "Plan", gloB "_law_plan"]
def fcts7 : List (Frag → Bool) := [gloB "check_plan", prpB "Ratio" "sign", gloB "is_number", gloB "as_ratio", gloB "is_above_0", gloB "_are_closed", mkB "Map", gloB "_law_area", gloB "check_area", prpB "Ratio" "top", prpB "Ratio" "bottom", metB "Ratio" "is_below"]
def fcts8 : List (Frag → Bool) := [gloB "_is_reach", gloB "_check_reaches", gloB "is_kind", gloB "check_kind", mkB "Gauge", gloB "_law_gauge", gloB "_law_twin", gloB "_law_counts", gloB "_law_moves", gloB "_law_is_less", gloB "_law_top_at", gloB "_law_top"]
def fcts9 : List (Frag → Bool) := [gloB "_law_spot", gloB "_law_share", gloB "_law_sum", gloB "_law_is_due", gloB "_law_dues", prpB "Map" "plan", gloB "is_count", gloB "is_count_below", metB "Plan" "__len__", gloB "check_phase", metB "Plan" "signs", gloB "check_sign"]
def fcts10 : List (Frag → Bool) := [prpB "Gauge" "area", gloB "first_fineness", prpB "Gauge" "reaches", prpB "Map" "east", prpB "Map" "north", metB "Plan" "parts", prpB "Plan" "growth", gloB "_power", gloB "counts_at", metB "Ratio" "over", gloB "sides_at", gloB "smaller"]
def fcts11 : List (Frag → Bool) := [metB "Ratio" "__mul__", ownOB "Ratio" "mul", gloB "greatest_at", prpB "Gauge" "kind", metB "Plan" "place_of", gloB "_least_gap", metB "Ratio" "__add__", ownOB "Ratio" "add", gloB "greater", gloB "joined", gloB "_least", gloB "_reached_with"]
def fcts12 : List (Frag → Bool) := [metB "Gauge" "reached", gloB "_law_turns_right", gloB "_law_right", gloB "law"]
def fcts : List (Frag → Bool) := fcts0 ++ fcts1 ++ fcts2 ++ fcts3 ++ fcts4 ++ fcts5 ++ fcts6 ++ fcts7 ++ fcts8 ++ fcts9 ++ fcts10 ++ fcts11 ++ fcts12
def dfs0 : List (DefP) := [⟨gAt "_law_pot", "_law_pot", "_law_pot", sPot, []⟩, ⟨gAt "_law_draw", "_law_draw", "_law_draw", sDraw, []⟩, ⟨gAt "_law_pick", "_law_pick", "_law_pick", sPick, []⟩, ⟨gAt "_law_rounds", "_law_rounds", "_law_rounds", s_rounds, []⟩, ⟨gAt "_law_length", "_law_length", "_law_length", s_length, []⟩, ⟨gAt "_law_reach", "_law_reach", "_law_reach", s_reach, []⟩, ⟨gAt "_law_model", "_law_model", "_law_model", s_model, []⟩, ⟨gAt "is_int", "is_int", "is_int", s_is_int, []⟩, ⟨mAt "Ratio" "__init__", "__init__", "Ratio.__init__", s_Ratio___init, [.int 1]⟩, ⟨gAt "_law_passed", "_law_passed", "_law_passed", s_passed, []⟩, ⟨gAt "is_list", "is_list", "is_list", s_is_list, []⟩, ⟨gAt "is_tuple_of", "is_tuple_of", "is_tuple_of", s_is_tuple_of, []⟩]
def dfs1 : List (DefP) := [⟨gAt "is_axis", "is_axis", "is_axis", s_is_axis, []⟩, ⟨gAt "_is_parts", "_is_parts", "_is_parts", s_is_parts, []⟩, ⟨gAt "_is_cut", "_is_cut", "_is_cut", s_is_cut, []⟩, ⟨gAt "_is_cuts", "_is_cuts", "_is_cuts", s_is_cuts, []⟩, ⟨gAt "_within", "_within", "_within", s_within, []⟩, ⟨gAt "_places_of", "_places_of", "_places_of", s_places_of, []⟩, ⟨gAt "_parts_of", "_parts_of", "_parts_of", s_parts_of, []⟩, ⟨gAt "_multiplied", "_multiplied", "_multiplied", s_multiplied, []⟩, ⟨gAt "_check_rounds", "_check_rounds", "_check_rounds", s_check_rounds, []⟩, ⟨gAt "_plain_cuts", "_plain_cuts", "_plain_cuts", s_plain_cuts, []⟩, ⟨mAt "Plan" "__init__", "__init__", "Plan.__init__", s_Plan___init, []⟩, ⟨gAt "_law_plan", "_law_plan", "_law_plan", s_plan, []⟩]
def dfs2 : List (DefP) := [⟨gAt "check_plan", "check_plan", "check_plan", s_check_plan, []⟩, ⟨wAt "property" "Ratio" "sign", "sign", "Ratio.sign", s_Ratio_sign, []⟩, ⟨gAt "is_number", "is_number", "is_number", s_is_number, []⟩, ⟨gAt "as_ratio", "as_ratio", "as_ratio", s_as_ratio, []⟩, ⟨gAt "is_above_0", "is_above_0", "is_above_0", s_is_above_0, []⟩, ⟨gAt "_are_closed", "_are_closed", "_are_closed", s_are_closed, []⟩, ⟨mAt "Map" "__init__", "__init__", "Map.__init__", s_Map___init, []⟩, ⟨gAt "_law_area", "_law_area", "_law_area", s_area, []⟩, ⟨gAt "check_area", "check_area", "check_area", s_check_area, []⟩, ⟨wAt "property" "Ratio" "top", "top", "Ratio.top", s_Ratio_top, []⟩, ⟨wAt "property" "Ratio" "bottom", "bottom", "Ratio.bottom", s_Ratio_bottom, []⟩, ⟨mAt "Ratio" "is_below", "is_below", "Ratio.is_below", s_Ratio_is_below, []⟩]
def dfs3 : List (DefP) := [⟨gAt "_is_reach", "_is_reach", "_is_reach", s_is_reach, []⟩, ⟨gAt "_check_reaches", "_check_reaches", "_check_reaches", s_check_reaches, []⟩, ⟨gAt "is_kind", "is_kind", "is_kind", s_is_kind, []⟩, ⟨gAt "check_kind", "check_kind", "check_kind", s_check_kind, []⟩, ⟨mAt "Gauge" "__init__", "__init__", "Gauge.__init__", s_Gauge___init, []⟩, ⟨gAt "_law_gauge", "_law_gauge", "_law_gauge", s_gauge, []⟩, ⟨gAt "_law_twin", "_law_twin", "_law_twin", s_twin, []⟩, ⟨gAt "_law_counts", "_law_counts", "_law_counts", s_counts, []⟩, ⟨gAt "_law_moves", "_law_moves", "_law_moves", s_moves, []⟩, ⟨gAt "_law_is_less", "_law_is_less", "_law_is_less", s_is_less, []⟩, ⟨gAt "_law_top_at", "_law_top_at", "_law_top_at", s_top_at, []⟩, ⟨gAt "_law_top", "_law_top", "_law_top", s_top, []⟩]
def dfs4 : List (DefP) := [⟨gAt "_law_spot", "_law_spot", "_law_spot", s_spot, []⟩, ⟨gAt "_law_share", "_law_share", "_law_share", s_share, []⟩, ⟨gAt "_law_sum", "_law_sum", "_law_sum", s_sum, []⟩, ⟨gAt "_law_is_due", "_law_is_due", "_law_is_due", s_is_due, []⟩, ⟨gAt "_law_dues", "_law_dues", "_law_dues", s_dues, []⟩, ⟨wAt "property" "Map" "plan", "plan", "Map.plan", s_Map_plan, []⟩, ⟨gAt "is_count", "is_count", "is_count", s_is_count, []⟩, ⟨gAt "is_count_below", "is_count_below", "is_count_below", s_is_count_below, []⟩, ⟨mAt "Plan" "__len__", "__len__", "Plan.__len__", s_Plan___len, []⟩, ⟨gAt "check_phase", "check_phase", "check_phase", s_check_phase, []⟩, ⟨mAt "Plan" "signs", "signs", "Plan.signs", s_Plan_signs, []⟩, ⟨gAt "check_sign", "check_sign", "check_sign", s_check_sign, []⟩]
def dfs5 : List (DefP) := [⟨wAt "property" "Gauge" "area", "area", "Gauge.area", s_Gauge_area, []⟩, ⟨gAt "first_fineness", "first_fineness", "first_fineness", s_first_fineness, []⟩, ⟨wAt "property" "Gauge" "reaches", "reaches", "Gauge.reaches", s_Gauge_reaches, []⟩, ⟨wAt "property" "Map" "east", "east", "Map.east", s_Map_east, []⟩, ⟨wAt "property" "Map" "north", "north", "Map.north", s_Map_north, []⟩, ⟨mAt "Plan" "parts", "parts", "Plan.parts", s_Plan_parts, []⟩, ⟨wAt "property" "Plan" "growth", "growth", "Plan.growth", s_Plan_growth, []⟩, ⟨gAt "_power", "_power", "_power", s_power, []⟩, ⟨gAt "counts_at", "counts_at", "counts_at", s_counts_at, []⟩, ⟨mAt "Ratio" "over", "over", "Ratio.over", s_Ratio_over, []⟩, ⟨gAt "sides_at", "sides_at", "sides_at", s_sides_at, []⟩, ⟨gAt "smaller", "smaller", "smaller", s_smaller, []⟩]
def dfs6 : List (DefP) := [⟨mAt "Ratio" "__mul__", "__mul__", "Ratio.__mul__", s_Ratio___mul, []⟩, ⟨gAt "greatest_at", "greatest_at", "greatest_at", s_greatest_at, []⟩, ⟨wAt "property" "Gauge" "kind", "kind", "Gauge.kind", s_Gauge_kind, []⟩, ⟨mAt "Plan" "place_of", "place_of", "Plan.place_of", s_Plan_place_of, []⟩, ⟨gAt "_least_gap", "_least_gap", "_least_gap", s_least_gap, []⟩, ⟨mAt "Ratio" "__add__", "__add__", "Ratio.__add__", s_Ratio___add, []⟩, ⟨gAt "greater", "greater", "greater", s_greater, []⟩, ⟨gAt "joined", "joined", "joined", s_joined, []⟩, ⟨gAt "_least", "_least", "_least", s_least, []⟩, ⟨gAt "_reached_with", "_reached_with", "_reached_with", s_reached_with, []⟩, ⟨mAt "Gauge" "reached", "reached", "Gauge.reached", s_Gauge_reached, []⟩, ⟨gAt "_law_turns_right", "_law_turns_right", "_law_turns_right", s_turns_right, []⟩]
def dfs7 : List (DefP) := [⟨gAt "_law_right", "_law_right", "_law_right", s_right, []⟩, ⟨gAt "law", "law", "law", s_law, []⟩]
def dfs : List (DefP) := dfs0 ++ dfs1 ++ dfs2 ++ dfs3 ++ dfs4 ++ dfs5 ++ dfs6 ++ dfs7

end Mc

set_option Elab.async false
set_option linter.all false
set_option maxRecDepth 100000
set_option maxHeartbeats 0
namespace Mc
open PySem PySem.W PySem.Calls PyProof.Rows
def hn0 : List PySem.Str := ["gcd", "_wall", "CellError", "InvalidNumber", "InvalidRounds", "InvalidPhase", "InvalidSign", "InvalidLength", "InvalidClosed", "InvalidAxis", "InvalidKind", "InvalidReach", "InvalidDistance", "InvalidMap", "InvalidPlan", "InvalidText"]
def hn1 : List PySem.Str := ["StateError", "DividedByZero", "NotBalanced", "LimitError", "TooMany", "MOST_FINENESS", "is_int", "is_count", "is_count_below", "is_list", "is_tuple_of", "check_fineness", "AXES", "LEAST_PARTS", "MOST_PARTS", "Plan"]
def hn2 : List PySem.Str := ["check_plan", "is_axis", "counts_at", "check_phase", "check_sign", "_is_parts", "_is_cut", "_is_cuts", "_check_rounds", "_plain_cuts", "_parts_of", "_places_of", "_within", "_multiplied", "_power", "MOST_DIGITS"]
def hn3 : List PySem.Str := ["Ratio", "as_ratio", "is_number", "is_above_0", "smaller", "greater", "_bottom_of", "_is_digits", "Map", "check_area", "check_axis", "sides_at", "_are_closed", "KINDS", "is_kind", "check_kind"]
def hn4 : List PySem.Str := ["check_distance", "joined", "MOVES", "Gauge", "greatest_at", "first_fineness", "fineness_of", "_check_reaches", "_is_reach", "_is_less_behind", "_reached_with", "_least", "_least_gap", "_law_pot", "_law_draw", "_law_pick"]
def hn5 : List PySem.Str := ["_law_rounds", "_law_plan", "_law_length", "_law_reach", "_law_passed", "_law_model", "_law_area", "_law_gauge", "_law_counts", "_law_is_less", "_law_top_at", "_law_top", "_law_spot", "_law_share", "_law_sum", "_law_is_due"]
def hn6 : List PySem.Str := ["_law_moves", "_law_dues", "_law_twin", "_law_turns_right", "_law_right"]
def hnames : List PySem.Str := hn0 ++ hn1 ++ hn2 ++ hn3 ++ hn4 ++ hn5 ++ hn6
abbrev hR : OpenRow := OpenLaw.row PySem.Challenge.rw_movecells_k54_reached_moves
def la0 : List Addr := [3, 392, 399, 406, 413, 420, 428, 544, 555, 562, 567, 574, 581, 588, 595, 600, 605, 610, 617, 622, 629, 636, 643, 786, 797, 804, 811, 818, 825, 944, 955, 969, 974, 975, 982, 989, 1003, 1013, 1120, 1129]
def la1 : List Addr := [1136, 1148, 1155, 1167, 1172, 1179, 1186, 1193, 1200, 1207, 1214, 1221, 1228, 1235, 1242, 1247, 1252, 1259, 1266, 1273, 1280, 1287, 1294, 1301, 1308, 1313, 1318, 1325, 1330, 1335, 1340, 391, 398, 405, 412, 419, 543, 554, 561, 566]
def la2 : List Addr := [573, 580, 587, 594, 599, 604, 609, 616, 621, 628, 635, 642, 785, 796, 803, 810, 817, 824, 943, 954, 968, 973, 981, 988, 1002, 1004, 1005, 1006, 1007, 1008, 1009, 1010, 1011, 1012, 1119, 1128, 1135, 1147, 1154, 1166]
def la3 : List Addr := [1171, 1178, 1185, 1192, 1199, 1206, 1213, 1220, 1227, 1234, 1241, 1246, 1251, 1258, 1265, 1272, 1279, 1286, 1293, 1300, 1307, 1312, 1317, 1324, 1329, 1334, 1339, 440, 472, 486, 493, 500, 522, 658, 676, 684, 692, 699, 727, 748]
def la4 : List Addr := [755, 853, 861, 869, 877, 1027, 1035, 1043, 1051, 1084, 439, 471, 485, 492, 499, 521, 657, 651, 675, 683, 691, 698, 726, 747, 754, 852, 860, 868, 876, 1026, 1034, 1042, 1050, 1083, 520, 674, 682, 690, 859, 867]
def la5 : List Addr := [875, 1033, 1041, 1049, 2]
def las : List Addr := la0 ++ la1 ++ la2 ++ la3 ++ la4 ++ la5
abbrev hkk : Hook := hookL las fcts dfs
def hob (s : SharedT) : AlP := obsL las fcts dfs (HandSHeadRun.getT s)
theorem hob_eq (s : SharedT) : hob s = hkk.obs s.abs := obsL_eq (HandSHeadRun.getT_eq s)
theorem hrun1 (w : World) : HandSHeadRun.RunEqI hR (view hR.prog [0, 109]) (hookL [] [] []) (fun s => obsL [] [] [] (HandSHeadRun.getT s)) 12000 hnames w := by
  delta HandSHeadRun.RunEqI
  kernel_rfl
theorem hrun2 (w : World) : RunO hR.prog 12000 (fun s => obsL las fcts dfs (HandSHeadRun.getT s)) (valP dfs) w := by
  delta RunO
  kernel_rfl
theorem hrun (w : World) : HandSHeadRun.RunEqI hR (view hR.prog [0, 109]) hkk hob 12000 hnames w := run_join (hrun1 w) (hrun2 w)
end Mc

set_option Elab.async false
set_option linter.all false
set_option maxRecDepth 100000
set_option maxHeartbeats 4000000
/-! a layer of my own over HandS: frames, deep data, pots -/
namespace Mc
open PySem PySem.Spec PyProof.Rows L2

/-! ### frames -/
/-- what was tracked is as it was, but at M -/
def Frm (M : List Addr) (H H' : Hp) : Prop := ∀ a o, H a = some o → a ∉ M → H' a = some o
theorem Frm.refl (M : List Addr) (H : Hp) : Frm M H H := fun _ _ h _ => h
theorem Frm.trans {M : List Addr} {H H1 H2 : Hp} (a : Frm M H H1) (b : Frm M H1 H2) : Frm M H H2 := fun x o h n => b x o (a x o h n) n
theorem Frm.more {M M' : List Addr} {H H1 : Hp} (a : Frm M H H1) (s : ∀ x ∈ M, x ∈ M') : Frm M' H H1 := fun x o h n => a x o h fun z => n (s x z)
theorem Frm.new {M : List Addr} {H : Hp} {p : Addr} {o : HO} (h : H p = none) : Frm M H (upd H p o) := fun a u e _ => by
  rw [upd_ne (ne_of_none e h)]
  exact e
theorem Frm.put {M : List Addr} {H : Hp} {p : Addr} {o : HO} (h : p ∈ M) : Frm M H (upd H p o) := fun a u e n => by
  have : a ≠ p := fun z => n (z ▸ h)
  rw [upd_ne this]
  exact e
theorem Frm.ext {M : List Addr} {H H1 : Hp} (e : Ext H H1) : Frm M H H1 := fun a o h _ => e a o h
theorem Frm.free {M : List Addr} {H H' : Hp} (e : Frm M H H') {l : Addr} (h : H' l = none) (n : l ∉ M) : H l = none := by
  cases q : H l with
  | none => rfl
  | some o =>
    rw [e l o q n] at h
    cases h

/-! ### a pot: two numbers -/
def PotOk (a b : Int) : Prop := 0 ≤ a ∧ 0 ≤ b ∧ b < 2147483587
def Pot (H : Hp) (p : Addr) : Prop := ∃ a b : Int, H p = some (.lst [.int a, .int b]) ∧ PotOk a b
theorem Pot.frm {M : List Addr} {H H' : Hp} {p : Addr} (h : Pot H p) (f : Frm M H H') (n : p ∉ M) : Pot H' p := by
  obtain ⟨a, b, e, o⟩ := h
  exact ⟨a, b, f _ _ e n, o⟩
/-- divisors that go by the plain way, whatever is divided -/
theorem plain_div (i : Int) {j : Int} (h : 0 < j) (hb : j.natAbs.log2 < 9000) : CDivP i j := ⟨h, PyProof.noPylong_of_log2 hb⟩
theorem log2_lt {j : Int} {n : Nat} (h0 : 0 < n) (h : j.natAbs < 2 ^ n) : j.natAbs.log2 < n := PySem.Flt.log2_lt_of h0 h

theorem small_log {j : Int} {n : Nat} (h : j.natAbs < 2 ^ n) (h0 : 0 < n) (h1 : n ≤ 9000) : j.natAbs.log2 < 9000 := Nat.lt_of_lt_of_le (PySem.Flt.log2_lt_of h0 h) h1
theorem len_log {n : Nat} (h : n ≤ 1000) : ((n : Nat) : Int).natAbs.log2 < 9000 := small_log (n := 10) (by omega) (by decide) (by decide)
/-! ### a def of the module, with its promise -/
structure Gd (P : Program) (w : World) (K : PySem.W.Frag) (mg : Str → Option Value) (base : Heap) (x : Str) (k : Nat) (ps : List Str) (sp : Sp) (f : Addr) (fd : FuncData) : Prop where
  g : mg x = some (.ref f)
  kp : PySem.W.keepIn K (.ref f) = true
  b : Binds K fd ps []
  ok : FnOk P w K mg base CX0 k f fd ps sp
theorem Gd.mono {P : Program} {w : World} {K : PySem.W.Frag} {mg : Str → Option Value} {base : Heap} {x : Str} {k n : Nat} {ps : List Str} {sp : Sp} {f : Addr} {fd : FuncData} (D : Gd P w K mg base x k ps sp f fd) (h : k ≤ n) : Gd P w K mg base x n ps sp f fd := ⟨D.g, D.kp, D.b, D.ok.mono h⟩
section
variable {X : Cx} {x : Str} {k n : Nat} {ps : List Str} {sp : Sp} {f : Addr} {fd : FuncData} {p pos : Pos} {e : Expr} {es : List Expr} {t : TA}
theorem pe_gd (D : Gd X.prog X.w X.K X.mg X.base x k ps sp f fd) (hr : Room n X.A) (hk : k ≤ n) (hg : Gl X x) (ha : PA X (e :: es) t) (hdb : (x == ("__debug__" : Str)) = false := by decide) (he : starEach (e :: es) X.env = (false, eval e X.env) :: starEach es X.env := by rfl) (hpl : (backTo pos (starEach es X.env)).any (·.1) = false := by rfl) :
    PE X (.Call (.Name x p) (e :: es) [] pos) (tCall sp [] E0 t) := pe_call D.ok (hr.mono hk) hg D.g D.kp D.b .nil pass0 ha hdb he hpl
end

/-- the built-in names that the module leaves as they are -/
structure TB (mg : Str → Option Value) : Prop where
  len : mg "len" = none
  abs : mg "abs" = none
  max : mg "max" = none
  min : mg "min" = none
  int : mg "int" = none
  str : mg "str" = none
  bool : mg "bool" = none
  divmod : mg "divmod" = none
  range : mg "range" = none
  all : mg "all" = none
  any : mg "any" = none
  repr : mg "repr" = none
  isinstance : mg "isinstance" = none
  list : mg "list" = none
  tuple : mg "tuple" = none
  enumerate : mg "enumerate" = none
  zip : mg "zip" = none

/-- // by any divisor but 0 of at most some thousand digits -/
def CDivX (_ j : Int) : Prop := j ≠ 0 ∧ j.natAbs.log2 < 9000
section
variable {X : Cx}
theorem op_fdivX : OpR X (binaryOp .FloorDiv) (rI CDivX fun i j => .int (i.fdiv j)) := opI fun _ _ _ _ _ _ _ hc q => floordiv_int hc.1 q (.inl (PyProof.noPylong_of_log2 hc.2))
end
theorem mulW {i j : Int} {a b : Nat} (ha : i.natAbs < 2 ^ a) (hb : j.natAbs < 2 ^ b) (h0 : 0 < a := by decide) (h1 : 0 < b := by decide) (h : a + b ≤ 1000000 := by decide) : CMulW i j := wide_mul ha hb h0 h1 h

theorem pick_int {ns : List Int} {C : Int → Prop} (hC : ∀ n ∈ ns, C n) {i : Nat} {x : V} (h : (ns.map V.int)[i]? = some x) : ∃ n, x = .int n ∧ C n := by
  have hm := List.mem_of_getElem? h
  obtain ⟨n, hn, rfl⟩ := List.mem_map.mp hm
  exact ⟨n, rfl, hC n hn⟩
theorem Pot.ne {H : Hp} {p l : Addr} (h : Pot H p) (hl : H l = none) : l ≠ p := by
  obtain ⟨a, b, e, _⟩ := h
  exact fun z => by rw [z, e] at hl; cases hl
theorem Pot.new {H : Hp} {p l : Addr} {o : HO} (h : Pot H p) (hl : H l = none) : Pot (upd H l o) p := h.frm (M := []) (Frm.new hl) (fun z => nomatch z)
/-- a pot is no tuple -/
theorem Pot.ne_tup {H : Hp} {p t : Addr} {xs : List V} (h : Pot H p) (ht : H t = some (.tup xs)) : t ∉ [p] := by
  obtain ⟨a, b, e, _⟩ := h
  intro z
  rw [List.mem_singleton.mp z, e] at ht
  cases ht
theorem Frm.tup {H H' : Hp} {p t : Addr} {xs : List V} (f : Frm [p] H H') (h : Pot H p) (ht : H t = some (.tup xs)) : H' t = some (.tup xs) := f _ _ ht (h.ne_tup ht)
/-- plain steps of a reading -/
local macro_rules | `(tactic| walk_at "rd1") => `(tactic| first
  | with_reducible refine ⟨_, rfl, ?_⟩
  | refine ⟨_, rfl, ?_⟩)
end Mc

set_option Elab.async false
set_option linter.all false
set_option maxRecDepth 100000
set_option maxHeartbeats 4000000
namespace Mc
open PySem PySem.Spec PyProof.Rows L2
open PySem.Builtin PySem.Builtin.List

/-! ### repr of what holds objects of one's own -/
structure SubG (X : Cx) (n : Nat) (A : Around) (g : List Code) : Prop where
  room : Room n A
  fr : A.frames = X.A.frames
  gs : A.guards = some g
theorem SubG.mono {X : Cx} {n m : Nat} {A : Around} {g : List Code} (s : SubG X n A g) (h : m ≤ n) : SubG X m A g := ⟨s.room.mono h, s.fr, s.gs⟩
theorem depth_loop (A : Around) (args : Args) : (A.under (.builtin "list.__repr__.loop" args)).depth = A.depth + 1 := by
  simp [Around.under, Code.weight, Code.isCreation, Code.isGuard, Code.isCaller, Code.frames, Code.isFrame, guardIds]
theorem frames_loop (A : Around) (args : Args) : (A.under (.builtin "list.__repr__.loop" args)).frames = A.frames := by
  simp [Around.under, Code.envs, Code.isFrame, pushEnvs]
theorem SubG.loop {X : Cx} {n : Nat} {A : Around} {g : List Code} (s : SubG X (n + 1) A g) (args : Args) : SubG X n (A.under (.builtin "list.__repr__.loop" args)) (.builtin "list.__repr__.loop" args :: g) :=
  ⟨⟨s.room.hd, by have := s.room.dp; rw [depth_loop]; omega, by have := s.room.un; rw [units_under_list_loop]; omega⟩, (frames_loop A args).trans s.fr, guards_under_guard (isGuard_list_loop _) s.gs⟩

/-- repr of x is t, wherever H₀ stands -/
def RpG (X : Cx) (n : Nat) (as : List Addr) (x : V) (t : Str) (H0 : Hp) : Prop :=
  ∀ (A : Around) (g : List Code) (pins : List (Addr × Obj)) (s : Shared) (σ : L2.St) (H : Hp) (u : Value) (b : Nat), SubG X n A g → (∀ c ∈ as, Clear g c) → Inv X pins σ H s → Ext H0 H → RelV x u → b + t.length ≤ sizeLine →
    wpAny (model X.prog X.w) A (pyReprUnder b u) (fun r s' => r = t ∧ ∃ H', Inv X pins σ H' s' ∧ Ext H H') X.xe s
section
variable {X : Cx} {n m : Nat} {as as' : List Addr} {x : V} {t : Str} {H0 H1 : Hp}
theorem RpG.mono (h : RpG X n as x t H0) (hn : n ≤ m) (ha : ∀ c ∈ as, c ∈ as') (e : Ext H0 H1) : RpG X m as' x t H1 := fun A g pins s σ H u b sg hc I e' rx hb =>
  h A g pins s σ H u b (sg.mono hn) (fun c hm => hc c (ha c hm)) I (e.trans e') rx hb
theorem rpG_is (h : ∀ u, RelV x u → ReprIs X.prog X.w u t) : RpG X 0 [] x t H0 := fun A g pins s σ H u b sg hc I e rx hb =>
  h u rx b hb A X.xe s _ fun tk => ⟨rfl, H, I.tok _, Ext.rfl'⟩
theorem rpG_int {i : Int} (h : i.natAbs.log2 < 1920) : RpG X 0 [] (.int i) (toString i) H0 := rpG_is fun u ⟨t, e⟩ => by subst e; exact ReprIs.int t h
theorem rpG_bl {b : Bool} : RpG X 0 [] (.bl b) (if b then "True" else "False") H0 := rpG_is fun u e => by cases (show u = Value.bool b from e); exact ReprIs.bool b
theorem rpG_non : RpG X 0 [] .non "None" H0 := rpG_is fun u e => by cases (show u = Value.none from e); exact ReprIs.none
theorem rpG_str {y : Str} (h : (reprText y).length ≤ sizeLine) : RpG X 0 [] (.str y) (reprText y) H0 := rpG_is fun u ⟨t, e⟩ => by subst e; exact ReprIs.str y t h
end

/-- an untracked thing of ours has turned: the pin with it -/
theorem Inv.repin {X : Cx} {pins : List (Addr × Obj)} {σ : L2.St} {H : Hp} {s : Shared} {h' : Heap} {t' : Nat} {P : Addr} {o o' : Obj} (I : Inv X ((P, o) :: pins) σ H s) (hf : FpOk X pins H P) (k : ∀ b u, b ≠ P → s.heap.get? b = some u → h'.get? b = some u)
    (hn : h'.get? P = some o') (hc : ∀ v, o'.data ≠ .cell v) : Inv X ((P, o') :: pins) σ H { s with heap := h', toks := t' } := by
  have J : Inv X pins σ H s := ⟨I.ok, I.os, I.bare, I.base, I.loc, I.cell, I.free, I.freeC, fun p hp => I.pin p (by
    rcases List.mem_append.mp hp with z | z
    · exact List.mem_append.mpr (.inl z)
    · exact List.mem_append.mpr (.inr (List.mem_cons_of_mem _ z))), I.hok, I.len⟩
  have J2 := Inv.turned (h' := h') (t' := t') (it := P) J k hf.1 hf.2.1 hf.2.2.2.1 hf.2.2.2.2.1 hf.2.2.2.2.2
  refine ⟨J2.ok, J2.os, J2.bare, J2.base, J2.loc, J2.cell, J2.free, J2.freeC, fun p hp => ?_, J2.hok, J2.len⟩
  rcases List.mem_append.mp hp with z | z
  · exact J2.pin p (List.mem_append.mpr (.inl z))
  · rcases List.mem_cons.mp z with z | z
    · subst z
      exact ⟨hn, hf.1, hf.2.1, hf.2.2.1, hc⟩
    · exact J2.pin p (List.mem_append.mpr (.inr z))
theorem Inv.unpin {X : Cx} {pins : List (Addr × Obj)} {σ : L2.St} {H : Hp} {s : Shared} {p : Addr × Obj} (I : Inv X (p :: pins) σ H s) : Inv X pins σ H s :=
  ⟨I.ok, I.os, I.bare, I.base, I.loc, I.cell, I.free, I.freeC, fun q hq => I.pin q (by
    rcases List.mem_append.mp hq with z | z
    · exact List.mem_append.mpr (.inl z)
    · exact List.mem_append.mpr (.inr (List.mem_cons_of_mem _ z))), I.hok, I.len⟩

section
variable {X : Cx} {R : Result → Shared → Prop} {n : Nat} {as : List Addr} {a P : Addr} {xs : List V} {ts : List Str} {H0 H : Hp} {pins : List (Addr × Obj)} {σ : L2.St} {g : List Code} {A : Around} {b0 : Nat}
abbrev pileO (acc : Array Value) (c : Nat) : Obj := { cls := .type "list", dict := none, data := .seq acc c, slots := #[] }
theorem rp_loop (sg : SubG X (n + 1) A g) (hcl : ∀ c ∈ as, Clear g c) (hna : a ∉ as) (hl : SqL X.K H0 a xs) (hlen : ts.length = xs.length)
    (hT : ∀ (i : Nat) x, xs[i]? = some x → ∃ t, ts[i]? = some t ∧ RpG X n as x t H0) (hsz : b0 + (listText ts).length ≤ sizeLine)
    (hR : ∀ u s' H', Inv X pins σ H' s' → Ext H H' → R (.ok (.ret (.str (listText ts) u))) s') (hE : ∀ e s', X.xe e s' → R (.error e) s') (e0 : Ext H0 H) :
    ∀ (k i : Nat) (s : Shared) (acc : Array Value) (c : Nat) (done : List (Str × Tok)) (H1 : Hp), xs.length - i = k → i ≤ xs.length →
      Inv X ((P, pileO acc c) :: pins) σ H1 s → FpOk X pins H1 P → Ext H H1 → acc.toList = strValues done → done.map (·.1) = ts.take i →
      codeAny (model X.prog X.w) A (.builtin "list.__repr__.loop" ⟨[.ref a, rawInt i, .ref P, rawInt ((b0 + piled (ts.take i) : Nat) : Int)], []⟩) R s := by
  have hX : (listText ts).length = (textFrom 0 "[" ts).length + 1 := by
    show (textFrom 0 "[" ts ++ "]").length = _
    rw [strLen_append] <;> rfl
  have hL := textFrom_len ts 0 "["
  have hz1 : ts.length ≤ sizeLine := by
    have h1 := hL.1
    rw [if_neg (Nat.lt_irrefl 0)] at h1
    omega
  have hz2 : ∀ t ∈ ts, t.length ≤ sizeLine := fun t ht => by
    have h2 := hL.2.1 t ht
    omega
  have hz3 : (listText ts).length ≤ sizeLine := by omega
  have hp3 := piled_le_listText ts
  intro k
  induction k with
  | zero =>
    intro i s acc c done H1 hk hi I hf e1 hacc hdone
    have hin : i = xs.length := by omega
    obtain ⟨its, r, ⟨oa, na, ha, _, _, hda⟩, _⟩ := I.list (hl.ext (e0.trans e1))
    have hP := (I.pin (P, pileO acc c) (List.mem_append.mpr (.inr List.mem_cons_self))).1
    refine codeAny_builtin F.entry_list_repr_loop ?_
    show wpAny _ _ («list.__repr__.loop» ⟨[.ref a, .int i 0, .ref P, .int ((b0 + piled (ts.take i) : Nat) : Int) 0], []⟩) _ _ s
    rw [repr_loop_tree]
    refine wpAny_bind (wpAny_listItems ha hda ?_)
    have hnone : its.toArray[(i : Int).toNat]? = none := by
      have := r.length
      simp
      omega
    simp only [hnone]
    unfold reprEnd
    refine wpAny_bind (wpAny_listItems hP rfl ?_)
    rw [hacc, repr_fold]
    refine wpAny_bind (wpAny_pure ?_)
    have hall : done.map (·.1) = ts := by rw [hdone, hin, ← hlen, List.take_length]
    rw [hall]
    refine wpAny_bind (wpAny_mkStr (wpAny_pure ?_) hz3)
    exact hR _ _ H1 ((Inv.unpin I).tok _) e1
  | succ k ih =>
    intro i s acc c done H1 hk hi I hf e1 hacc hdone
    have hlt : i < xs.length := by omega
    obtain ⟨its, r, ⟨oa, na, ha, _, _, hda⟩, _⟩ := I.list (hl.ext (e0.trans e1))
    have hP := (I.pin (P, pileO acc c) (List.mem_append.mpr (.inr List.mem_cons_self))).1
    obtain ⟨u, hu, ru⟩ := r.get (List.getElem?_eq_getElem hlt)
    obtain ⟨t, ht, hrep⟩ := hT i xs[i] (List.getElem?_eq_getElem hlt)
    have hp1 := piled_take_succ ht
    have hp2 := piled_take_le ts (i + 1)
    refine codeAny_builtin F.entry_list_repr_loop ?_
    show wpAny _ _ («list.__repr__.loop» ⟨[.ref a, .int i 0, .ref P, .int ((b0 + piled (ts.take i) : Nat) : Int) 0], []⟩) _ _ s
    rw [repr_loop_tree]
    refine wpAny_bind (wpAny_listItems ha hda ?_)
    have hsome : its.toArray[(i : Int).toNat]? = some u := by simpa using hu
    simp only [hsome]
    rw [Int.toNat_natCast]
    refine wpAny_bind (wpAny_holding (wpAny_mono (hrep _ _ _ s σ H1 u (b0 + piled (ts.take i) + 1) (sg.loop _) (fun z hz => (hcl z hz).cons (a := a) fun q => hna (q ▸ hz)) I (e0.trans e1) ru (by omega)) (fun q s' hq => ?_) fun e s' z => hE e s' z))
    obtain ⟨rfl, H2, I2, e2⟩ := hq
    have hP2 := (I2.pin (P, pileO acc c) (List.mem_append.mpr (.inr List.mem_cons_self))).1
    have hn2 := (I2.pin (P, pileO acc c) (List.mem_append.mpr (.inr List.mem_cons_self))).2.1
    refine wpAny_bind (wpAny_mkStr ?_ (hz2 _ (List.mem_of_getElem? ht)))
    refine wpAny_bind ?_
    show wpAny _ _ (updateSeq P _) _ _ _
    have hasz : acc.size ≤ sizeLine := by
      have a1 : acc.toList.length = acc.size := by simp
      have a2 : (strValues done).length = done.length := by simp [strValues]
      have a3 : done.length = (ts.take i).length := by rw [← hdone, List.length_map]
      have a4 : (ts.take i).length ≤ i := by rw [List.length_take]; omega
      rw [hacc] at a1
      omega
    refine wpAny_updateSeq hP2 rfl (wpAny_pure ⟨F.quiet_list_repr_loop _, ?_⟩) hasz
    have b1 : ((i : Int) + 1) = ((i + 1 : Nat) : Int) := by omega
    have b2 : b0 + piled (ts.take i) + (q.length + 2) = b0 + piled (ts.take (i + 1)) := by omega
    rw [b1, b2]
    have hf2 : FpOk X pins H2 P := ⟨hn2, hf.2⟩
    refine ih (i + 1) _ (acc.push (.str q s'.toks)) _ (done ++ [(q, s'.toks)]) H2 (by omega) hlt (Inv.repin (o' := pileO (acc.push (.str q s'.toks)) _) (I2.tok _) hf2 (fun b o hb e => (Heap.get?_update_other _ _ (fun h : P = b => hb h.symm)).trans e) (Heap.get?_update_self _ hP2 rfl) (fun v z => by cases z)) hf2 (e1.trans e2) (by simp [hacc, strValues]) (by simp [List.take_add_one, ht, hdone])

theorem Inv.addpin {s : Shared} {o : Obj} (I : Inv X pins σ H s) (hg : s.heap.get? P = some o) (hf : FpOk X pins H P) (hc : ∀ v, o.data ≠ .cell v) : Inv X ((P, o) :: pins) σ H s :=
  ⟨I.ok, I.os, I.bare, I.base, I.loc, I.cell, I.free, I.freeC, fun p hp => by
    rcases List.mem_append.mp hp with z | z
    · exact I.pin p (List.mem_append.mpr (.inl z))
    · rcases List.mem_cons.mp z with z | z
      · subst z
        exact ⟨hg, hf.1, hf.2.1, hf.2.2.1, hc⟩
      · exact I.pin p (List.mem_append.mpr (.inr z)), I.hok, I.len⟩
theorem rp_listAt {s : Shared} (sg : SubG X (n + 1) A g) (hcl : ∀ c ∈ a :: as, Clear g c) (hna : a ∉ as) (hl : SqL X.K H0 a xs) (hx : xs ≠ []) (hlen : ts.length = xs.length)
    (hT : ∀ (i : Nat) x, xs[i]? = some x → ∃ t, ts[i]? = some t ∧ RpG X n as x t H0) (hsz : b0 + (listText ts).length ≤ sizeLine)
    (hR : ∀ u s' H', Inv X pins σ H' s' → Ext H H' → R (.ok (.ret (.str (listText ts) u))) s') (hE : ∀ e s', X.xe e s' → R (.error e) s') (e0 : Ext H0 H) (I : Inv X pins σ H s) :
    wpAny (model X.prog X.w) A.in1 (Builtin.listReprAt b0 ⟨[.ref a], []⟩) (fun fin s' => match fin with | .done f => R (.ok f) s' | .again c' => c'.quiet = true ∧ codeAny (model X.prog X.w) A c' R s') (fun e s' => R (.error e) s') s := by
  have hca : Clear g a := hcl a (.head _)
  obtain ⟨its, r, ⟨oa, na, ha, hc, hd, hda⟩, _⟩ := I.list (hl.ext e0)
  have hP : s.heap.objs.size ≤ s.heap.objs.size := Nat.le_refl _
  cases its with
  | nil =>
    cases r
    exact absurd rfl hx
  | cons y l =>
    refine wpAny_list_repr_head (A := A.in1) sg.gs (fun v rest kw hm => listSameRef_of_ne (hca _ _ _ _ hm)) ha hda ?_
    refine wpAny_bind (m := newList []) (wpAny_newObj_type ?_)
    refine wpAny_pure ⟨F.quiet_list_repr_loop _, ?_⟩
    have hn : H s.heap.objs.size = none := I.hok.fresh hP
    have hf : FpOk X pins H s.heap.objs.size := I.fpOk hP hn
    have I1 := I.kept (h' := s.heap.push { cls := .type "list", data := .seq #[] }) (t' := s.toks) fun b o e => Heap.get?_push_of_some _ e
    have I2 := Inv.addpin (P := s.heap.objs.size) I1 (Heap.get?_push_size _ rfl) hf (fun v z => by cases z)
    exact rp_loop sg (fun z hz => hcl z (.tail _ hz)) hna hl hlen hT hsz hR hE e0 _ 0 _ #[] _ [] H rfl (Nat.zero_le _) I2 hf Ext.rfl' rfl (by simp)
theorem rpG_list (hna : a ∉ as) (hl : SqL X.K H0 a xs) (hlen : ts.length = xs.length) (hT : ∀ (i : Nat) x, xs[i]? = some x → ∃ t, ts[i]? = some t ∧ RpG X n as x t H0) : RpG X (n + 1) (a :: as) (.ref a) (listText ts) H0 := by
  intro A g pins s σ H u b sg hcl I e0 rx hb
  cases (show u = Value.ref a from rx)
  obtain ⟨its, r, ⟨oa, na, ha, hc, hd, hda⟩, _⟩ := I.list (hl.ext e0)
  have hTy : s.TypeIs (.ref a) "list" := ⟨oa, ha, hc⟩
  refine wpAny_pyReprUnder_ref (by omega) ?_
  by_cases hx : xs = []
  · subst hx
    cases r
    have ht : ts = [] := List.length_eq_zero_iff.mp hlen
    subst ht
    exact wpAny_pyReprObjUnder_list_empty hTy sg.room.units0 ha hda ⟨_, _, rfl, rfl, H, I.tok _, Ext.rfl'⟩
  · refine wpAny_pyReprObjUnder_twin (twin := "list.__repr__.under") hTy F.slot_list_repr.toG rfl sg.room.units0 ?_
    exact call_twin_plain F.plain_list_repr_under F.entry_list_repr_under F.check_list_repr_under hTy F.slot_list_repr.toG (F.args_list_repr_1 _)
      (rp_listAt (R := callEnd _ _) sg hcl hna hl hx hlen hT hb (fun u s' H' I' e' => ⟨⟨_, _, rfl⟩, _, _, rfl, rfl, H', I', e'⟩) (fun e s' z => z) e0 I)
end
end Mc

set_option Elab.async false
set_option linter.all false
set_option maxRecDepth 100000
set_option maxHeartbeats 4000000
namespace Mc
open PySem PySem.Spec PyProof.Rows L2

/-! ### defs that are called where no repr is under way -/
structure RoomG (k : Nat) (A : Around) : Prop where
  room : Room k A
  gs : A.guards = some []
theorem RoomG.mono {j k : Nat} {A : Around} (r : RoomG k A) (h : j ≤ k) : RoomG j A := ⟨r.room.mono h, r.gs⟩
structure FnOkG (P : Program) (w : World) (K : PySem.W.Frag) (mg : Str → Option Value) (base : Heap) (CX : CXT) (k : Nat) (f : Addr) (fd : FuncData) (ps : List Str) (sp : Sp) : Prop where
  len : ∀ vs H Q E, sp vs H Q E → vs.length = ps.length
  run : ∀ (B : Around) (ou : List Env) (s : Shared) (H : Hp) (ar : Args) (us : List Value) (vs : List V) (Q : VK) (E : XK),
    RoomG k B → Env0 P w K mg base B ou s H → BindsTo s fd ar (ps.zip us) → Vals vs us → sp vs H Q E → codeAny (model P w) B (.call (.ref f) ar) (CR CX ou P w H s Q E) s
section
variable {P : Program} {w : World} {K : PySem.W.Frag} {mg : Str → Option Value} {base : Heap} {CX : CXT} {j k : Nat} {f : Addr} {fd : FuncData} {ps : List Str} {sp : Sp}
theorem FnOkG.mono (F : FnOkG P w K mg base CX j f fd ps sp) (h : j ≤ k) : FnOkG P w K mg base CX k f fd ps sp :=
  ⟨F.len, fun B ou s H ar us vs Q E r => F.run B ou s H ar us vs Q E (r.mono h)⟩
theorem toG (F : FnOk P w K mg base CX k f fd ps sp) : FnOkG P w K mg base CX k f fd ps sp :=
  ⟨F.len, fun B ou s H ar us vs Q E r => F.run B ou s H ar us vs Q E r.room⟩
/-- the rule for such a def -/
theorem okG {x qual : Str} {pa : Arguments} {bd : List Stmt} {sc : Scope} {dvs : List V} {kws : List (Str × V)} {N : List Str} (F : FunD K x qual pa bd sc dvs kws f fd) (S : FnScope N ps sc) (len : ∀ vs H Q E, sp vs H Q E → vs.length = ps.length)
    (hb : ∀ (c : Value) (B : Around) (ou : List Env) (s : Shared) (H : Hp) (vs : List V) (Q : VK) (E : XK), RoomG k (B.deeper (envOfC qual sc s.heap.objs.size f c)) → sp vs H Q E →
      ∃ t, PSs (cxOf CX P w K mg base N qual sc f c B ou s H E).nox bd t ∧ t { nx := fun _ H' => Q .non H', rt := Q } (start N vs) H) : FnOkG P w K mg base CX (k + 1) f fd ps sp := by
  obtain ⟨oc, od, dV, kV, doc, pm, an, c, ct, osl, rfl, lk, hcd, _, _⟩ := F.ex
  refine ⟨len, fun B ou s H ar us vs Q E hr e0 hbi r hsp => ?_⟩
  have KX : K.In s.heap := e0.mod.kin.keeps fun b o e => (e0.bs b o e).1
  have lim := e0.mod.nolimit.keeps fun b o e => (e0.bs b o e).1
  have hk : ∀ y ∈ ps.zip us, sc.names.lookup y.1 = some .local ∨ (sc.names.lookup y.1 = some .cell ∧ ((cellsFrom (s.heap.objs.size + 1) sc.names []).lookup y.1).isSome = true) := by
    rintro ⟨n, v⟩ hy
    rcases S.par n (List.of_mem_zip hy).1 with z | z
    · exact .inl z
    · exact .inr ⟨z, PySem.W.cellsFrom_some _ _ _ (.inl z)⟩
  refine codeAny_call_function hr.room.depth (KX _ _ lk) rfl S.co S.gen rfl (PySem.W.codeRec_of KX hcd) (hbi _ _ _ _ ?_)
  refine wpAny_newFunctionEnv_cells S.kind hk fun env he s1 x => ?_
  subst he
  refine ⟨lim.keeps x.toInCall.keep, codeAny_func ?_⟩
  obtain ⟨t, ht, hq⟩ := hb c B ou s H vs Q E ⟨hr.room.deeper _, hr.gs⟩ hsp
  have I : Inv (cxOf CX P w K mg base N qual sc f c B ou s H E) [] (start N vs) H s1 := inv_start S hr.room.hd e0 (len _ _ _ _ hsp) r x
  refine wpAny_mono (ht.nox.run [] s1 (start N vs) H _ I hq) (fun fl s' hs => ?_) fun e s' z => z
  cases fl with
  | ret u =>
    obtain ⟨v, σ', H', J, rv, q⟩ := hs
    exact ⟨v, H', J.os, J.bare, J.base, J.hok, rv, q⟩
  | next =>
    obtain ⟨σ', H', J, q⟩ := hs
    exact ⟨V.non, H', J.os, J.bare, J.base, J.hok, rfl, q⟩
  | brk =>
    obtain ⟨_, _, _, z⟩ := hs
    exact z.elim
  | cont =>
    obtain ⟨_, _, _, z⟩ := hs
    exact z.elim
end

/-- a def of the module with its promise, for calls where no repr is under way -/
structure Gg (P : Program) (w : World) (K : PySem.W.Frag) (mg : Str → Option Value) (base : Heap) (x : Str) (k : Nat) (ps : List Str) (sp : Sp) (f : Addr) (fd : FuncData) : Prop where
  g : mg x = some (.ref f)
  kp : PySem.W.keepIn K (.ref f) = true
  b : Binds K fd ps []
  ok : FnOkG P w K mg base CX0 k f fd ps sp
theorem Gd.toG {P : Program} {w : World} {K : PySem.W.Frag} {mg : Str → Option Value} {base : Heap} {x : Str} {k : Nat} {ps : List Str} {sp : Sp} {f : Addr} {fd : FuncData} (D : Gd P w K mg base x k ps sp f fd) : Gg P w K mg base x k ps sp f fd := ⟨D.g, D.kp, D.b, Mc.toG D.ok⟩
section
variable {X : Cx} {x : Str} {k n : Nat} {ps : List Str} {sp : Sp} {f : Addr} {fd : FuncData} {p pos : Pos} {e : Expr} {es : List Expr} {t : TA}
theorem run_gg {pins : List (Addr × Obj)} {σ : L2.St} {H : Hp} {s : Shared} {Q : VK} {us : List Value} {vs : List V} (D : Gg X.prog X.w X.K X.mg X.base x k ps sp f fd) (hr : RoomG k X.A) (I : Inv X pins σ H s) (r : Vals vs us) (h : sp vs H Q E0) :
    wpAny (model X.prog X.w) X.A (call (.ref f) us) (EP X pins σ Q) X.xe s := by
  have hl : (us ++ []).length = ps.length := by rw [List.append_nil, ← r.length]; exact D.ok.len _ _ _ _ h
  have hb := D.b s us I.kIn hl
  rw [List.append_nil] at hb
  refine wpAny_call (codeAny_mono (D.ok.run X.A X.stack s H ⟨us, []⟩ us vs Q E0 hr I.env0 hb r h) fun r s' hq => ?_)
  cases r with
  | error e => exact hq.elim
  | ok fl =>
    cases fl with
    | ret u => exact I.after hq
    | next => exact hq.elim
    | brk => exact hq.elim
    | cont => exact hq.elim
theorem pe_gg (D : Gg X.prog X.w X.K X.mg X.base x k ps sp f fd) (hr : RoomG n X.A) (hk : k ≤ n) (hg : Gl X x) (ha : PA X (e :: es) t) (hdb : (x == ("__debug__" : Str)) = false := by decide)
    (he : starEach (e :: es) X.env = (false, eval e X.env) :: starEach es X.env := by rfl) (hpl : (backTo pos (starEach es X.env)).any (·.1) = false := by rfl) : PE X (.Call (.Name x p) (e :: es) [] pos) (tCall sp [] E0 t) := by
  refine ⟨fun pins s σ H Q I h => ?_⟩
  refine wpAny_Call_Name_kw (ld_glob I hg D.g ?_ hdb)
  refine PySem.W.callWith_K (h₀ := X.base) I.ok.mod.kin D.kp (thn (ha.run pos pins s σ H _ I h) fun us s1 ⟨vs, H1, I1, r, q⟩ => ⟨I1.kIn, ?_⟩) he hpl
  have q2 : sp (vs ++ []) H1 Q E0 := q
  rw [List.append_nil] at q2
  exact run_gg D (hr.mono hk) I1 r q2
end

/-! ### repr, called -/
def rRepr (X : Cx) (n : Nat) : List V → Hp → VK → Prop := fun vs H Q => ∃ (x : V) (as : List Addr) (t : Str), vs = [x] ∧ RpG X n as x t H ∧ t.length ≤ sizeLine ∧ ∀ H', Ext H H' → Q (.str t) H'
section
variable {X : Cx} {n : Nat}
/-- repr of a list -/
theorem call_reprL (hr : RoomG (n + 3) X.A) : CallR X (.builtin "repr") (fun vs H Q => ∃ (a : Addr) (xs : List V) (as : List Addr) (ts : List Str), vs = [.ref a] ∧ SqL X.K H a xs ∧ a ∉ as ∧ ts.length = xs.length ∧
    (∀ (i : Nat) x, xs[i]? = some x → ∃ t, ts[i]? = some t ∧ RpG X n as x t H) ∧ (listText ts).length ≤ sizeLine ∧ ∀ H', Ext H H' → Q (.str (listText ts)) H') := by
  intro pins s σ H vs us Q I r h
  obtain ⟨a, xs, as, ts, rfl, hl, hna, hlen, hT, hz, q⟩ := h
  obtain ⟨u, rfl, ru⟩ := vals1 r
  cases (show u = Value.ref a from ru)
  obtain ⟨its, rv, ⟨oa, na, ha, hc, hd, hda⟩, _⟩ := I.list hl
  have hTy : s.TypeIs (.ref a) "list" := ⟨oa, ha, hc⟩
  have hu : X.A.units + 1 < cLine := hr.room.in1.units0
  refine call_repr_slot hu hTy F.slot_list_repr.toG ?_
  have sg : SubG X (n + 1) X.A.in1 [] := ⟨(hr.room.mono (by omega)).in1, rfl, hr.gs⟩
  by_cases hx : xs = []
  · subst hx
    cases rv
    have ht : ts = [] := List.length_eq_zero_iff.mp hlen
    subst ht
    exact call_list_repr_empty hTy ha hda ⟨_, _, rfl, .str (listText []), H, I.tok _, ⟨_, rfl⟩, q H Ext.rfl'⟩
  · exact wpAny_call (codeAny_call_builtin F.slot_list_repr.plain F.entry_list_repr (F.slot_list_repr.check _ _ _ _ _ _ _ _ hTy (F.args_list_repr_1 _)
      (rp_listAt (b0 := 0) (R := callEnd _ _) sg (fun c _ => Clear.nil c) hna hl hx hlen hT (by omega) (fun u s' H' I' e' => ⟨_, _, rfl, .str (listText ts), H', I', ⟨_, rfl⟩, q H' e'⟩) (fun e s' z => z) Ext.rfl' I)))
end
end Mc

set_option Elab.async false
set_option linter.all false
set_option maxRecDepth 100000
set_option maxHeartbeats 4000000
namespace Mc
open PySem PySem.Spec PyProof.Rows L2
open PySem.Builtin

section
variable {prog : Program} {w : World} {A : Around} {E : Value → Shared → Prop} {s : Shared} {K : PySem.W.Frag} {x C f : Addr} {ox : Obj} {od : Option Obj} {b tb : Value}
/-- a special method that is a built-in's, found in the class -/
theorem ifBoundB {M : Model} {name : Str} {id : String} {args : List Value} {Q : Option Value → Shared → Prop} (X : K.In s.heap) (I : PySem.W.InstAt s.heap x ox C od) (hs : PySem.W.findIn K (.ref C) name = some (some (.builtin id)))
    (hb : ∀ v, bindSpecial (.builtin id) v = pure (.builtin id, [v])) (h : wpAny M A (call (.builtin id) (.ref x :: args)) (fun v => Q (some v)) E s) : wpAny M A (callSpecialIfBound? (.ref x) name args) Q E s := by
  simp only [callSpecialIfBound?, bindSpecialIfBound?]
  refine wpAny_holding (wpAny_bind (wpAny_bind (wpAny_bind (I.type.here ((PySem.W.looks_findIn X hs).here ?_)))))
  refine wpAny_bind (wpAny_askSetting (wpAny_ite ?_))
  have fin : wpAny M A (call (.builtin id) ([.ref x] ++ args) >>= fun v => pure (some v)) Q E s := wpAny_bind (wpAny_mono h (fun v s' z => wpAny_pure z) fun _ _ z => z)
  split
  · exact wpAny_bind ((PySem.W.Looks.of_pure (hb _)).here (wpAny_pure (by exact fin)))
  · exact wpAny_tryCatch (wpAny_bind ((PySem.W.Looks.of_pure (hb _)).here (wpAny_pure (by exact fin))))
/-- x != b, where the class has its own == and the built-in != -/
theorem ne_own {Q : Value → Shared → Prop} (hu : A.units + 1 < cLine) (X : K.In s.heap) (I : PySem.W.InstAt s.heap x ox C od) (hb : PySem.W.Looks (model prog w) s.heap (typeOf b) tb) (hn : PySem.W.notFirst K C tb = true)
    (hne : PySem.W.findIn K (.ref C) "__ne__" = some (some (.builtin "object.__ne__"))) (heq : PySem.W.findIn K (.ref C) "__eq__" = some (some (.ref f))) (hf : PySem.W.isFn K (.ref f) = true) (hm : PySem.W.mroIn K C (.type "object") = some true)
    (h : wpAny (model prog w) A.in1 (call (.ref f) [.ref x, b]) (fun v s' => ∃ c, v = .bool c ∧ Q (.bool (!c)) s') E s) : wpAny (model prog w) A (richCompare .NotEq (.ref x) b) Q E s := by
  have one : wpAny (model prog w) A (tryCompare (.ref x) "__ne__" b) (fun r s' => ∃ v, r = some v ∧ Q v s') E s := by
    unfold tryCompare
    refine wpAny_bind (ifBoundB X I hne F.cmp_object.ne.bind (wpAny_call (codeAny_call_builtin F.cmp_object.ne.plain F.cmpEntry_ne (PySem.W.check_slot F.cmpKind_ne F.cmpSplit_ne (I.type.andThen (PySem.W.looks_mroIn X hm)) (F.cmpArgs_ne _ _) ?_))))
    unfold Builtin.«object.__ne__»
    repeat (first
      | with_reducible refine wpAny_cRoomFor (show A.in1.units < cLine from hu) ?_
      | (refine wpAny_bind (m := callSpecialIfBound? (.ref x) (Str.ofString "__eq__") [b]) (PySem.W.ifBound_K X I heq hf (wpAny_mono h (fun r s' hr => by
          obtain ⟨c, rfl, hq⟩ := hr
          repeat (first | exact ⟨_, rfl, hq⟩ | exact wpAny_pure ⟨_, rfl, hq⟩ | (refine wpAny_bind (m := truthy (.bool _)) (wpAny_truthy_bool ?_)) | wp_step)) fun _ _ e => e)))
      | wp_step)
  unfold richCompare
  simp only [oneThing_ref]
  refine wpAny_holding (wpAny_bind (wpAny_cRoomFor (Nat.lt_of_succ_lt hu) ?_))
  refine wpAny_bind (I.type.here (wpAny_bind (hb.here ?_)))
  split
  · rename_i q
    have e : PySem.W.subIn K tb (.ref C) = some false := by
      rcases Bool.or_eq_true_iff.mp hn with e | e
      · rw [beq_iff_eq.mp e] at q; simp at q
      · exact beq_iff_eq.mp e
    refine wpAny_bind ((PySem.W.looks_subIn X e).here ?_)
    simp only [Bool.false_eq_true, if_false]
    refine wpAny_bind (wpAny_mono one (fun r s' z => ?_) fun _ _ z => z)
    obtain ⟨v, rfl, hq⟩ := z
    exact wpAny_pure hq
  · refine wpAny_bind (wpAny_pure ?_)
    simp only [Bool.false_eq_true, if_false]
    refine wpAny_bind (wpAny_mono one (fun r s' z => ?_) fun _ _ z => z)
    obtain ⟨v, rfl, hq⟩ := z
    exact wpAny_pure hq
end

/-! ### == and != of instances with an own == -/
section
variable {X : Cx} {C f : Addr} {k : Nat} {fd : FuncData} {ps : List Str} {sp : Sp}
theorem run_own {A : Around} {pins : List (Addr × Obj)} {σ : L2.St} {H : Hp} {s : Shared} {Q : VK} {us : List Value} {vs : List V} (F : FnOk X.prog X.w X.K X.mg X.base CX0 k f fd ps sp) (hb : Binds X.K fd ps []) (hr : Room k A) (hf : A.frames = X.A.frames)
    (I : Inv X pins σ H s) (r : Vals vs us) (h : sp vs H Q E0) : wpAny (model X.prog X.w) A (call (.ref f) us) (EP X pins σ Q) X.xe s := by
  have hl : (us ++ []).length = ps.length := by rw [List.append_nil, ← r.length]; exact F.len _ _ _ _ h
  have hbi := hb s us I.kIn hl
  rw [List.append_nil] at hbi
  have e := I.env0
  have e0 : Env0 X.prog X.w X.K X.mg X.base A X.stack s H := ⟨by rw [hf]; exact e.frames, e.mod, e.bs, e.bsz, e.funs, e.frf, e.hok, e.bare⟩
  refine wpAny_call (codeAny_mono (F.run A X.stack s H ⟨us, []⟩ us vs Q E0 hr e0 hbi r h) fun r s' hq => ?_)
  cases r with
  | error e => exact hq.elim
  | ok fl =>
    cases fl with
    | ret u => exact I.after hq
    | next => exact hq.elim
    | brk => exact hq.elim
    | cont => exact hq.elim
/-- the other one's type -/
def rOwnC (K : PySem.W.Frag) (C : Addr) (sp : Sp) (ng : Bool) : R2 := fun x y H Q => ∃ a dx fs t, x = .ref a ∧ H a = some (.ins C dx fs) ∧ TyX K H y t ∧ PySem.W.notFirst K C t = true ∧ sp [x, y] H (fun v H' => ∃ c, v = .bl c ∧ Q (.bl (if ng then !c else c)) H') E0
theorem op_eqO (m : Meth X.K C "__eq__" f) (F : FnOk X.prog X.w X.K X.mg X.base CX0 k f fd ps sp) (hb : Binds X.K fd ps []) (hr : Room k X.A) : OpR X (compareOp .Eq) (rOwnC X.K C sp false) := by
  intro pins s σ H x y v u Q I rx ry h
  obtain ⟨a, dx, fs, t, rfl, ha, ty, hn, q⟩ := h
  cases (show v = Value.ref a from rx)
  obtain ⟨mA, J, _⟩ := ins_get I.hok ha
  obtain ⟨od, J, _⟩ := J.look
  obtain ⟨Pr, kx, hP, _⟩ := kit_of I ry ty
  obtain ⟨mm, hF⟩ := I.fr
  show wpAny (model X.prog X.w) X.A (richCompare .Eq (.ref a) u) (EP X pins σ Q) X.xe s
  refine PySem.W.cmp_K (op := .Eq) hr.units0 hF I.ok.mod.kin J (kx.ty _ _ I.kIn hP) hn m.at_ m.fn ?_
  refine wpAny_mono (run_own (vs := [V.ref a, y]) (us := [Value.ref a, u]) F hb hr rfl I (.cons rfl (.cons ry .nil)) q) (fun z s' hz => ?_) fun _ _ z => z
  obtain ⟨v', H', I', r', c, rfl, q'⟩ := hz
  cases (show z = Value.bool c from r')
  exact ⟨.bl c, H', I', rfl, q'⟩
theorem op_neO (m : Meth X.K C "__eq__" f) (hne : PySem.W.findIn X.K (.ref C) "__ne__" = some (some (.builtin "object.__ne__"))) (hm : PySem.W.mroIn X.K C (.type "object") = some true) (F : FnOk X.prog X.w X.K X.mg X.base CX0 k f fd ps sp) (hb : Binds X.K fd ps []) (hr : Room (k + 1) X.A) :
    OpR X (compareOp .NotEq) (rOwnC X.K C sp true) := by
  intro pins s σ H x y v u Q I rx ry h
  obtain ⟨a, dx, fs, t, rfl, ha, ty, hn, q⟩ := h
  cases (show v = Value.ref a from rx)
  obtain ⟨mA, J, _⟩ := ins_get I.hok ha
  obtain ⟨od, J, _⟩ := J.look
  obtain ⟨Pr, kx, hP, _⟩ := kit_of I ry ty
  show wpAny (model X.prog X.w) X.A (richCompare .NotEq (.ref a) u) (EP X pins σ Q) X.xe s
  refine ne_own hr.in1.units0 I.kIn J (kx.ty _ _ I.kIn hP) hn hne m.at_ m.fn hm ?_
  refine wpAny_mono (run_own (vs := [V.ref a, y]) (us := [Value.ref a, u]) F hb hr.in1 rfl I (.cons rfl (.cons ry .nil)) q) (fun z s' hz => ?_) fun _ _ z => z
  obtain ⟨v', H', I', r', c, rfl, q'⟩ := hz
  cases (show z = Value.bool c from r')
  exact ⟨c, rfl, .bl (!c), H', I', rfl, q'⟩
/-- str of such an instance -/
def rStrO (C : Addr) (sp : Sp) : List V → Hp → VK → Prop := fun vs H Q => ∃ a dx fs, vs = [.ref a] ∧ H a = some (.ins C dx fs) ∧ sp vs H (fun v H' => ∃ t, v = .str t ∧ Q (.str t) H') E0
theorem call_strO (m : Meth X.K C "__str__" f) (F : FnOk X.prog X.w X.K X.mg X.base CX0 k f fd ps sp) (hb : Binds X.K fd ps []) (hr : Room (k + 2) X.A) : CallR X (.type "str") (rStrO C sp) := by
  intro pins s σ H vs us Q I r h
  obtain ⟨a, dx, fs, rfl, ha, q⟩ := h
  obtain ⟨u, rfl, ru⟩ := vals1 r
  cases (show u = Value.ref a from ru)
  obtain ⟨mA, J, _⟩ := ins_get I.hok ha
  obtain ⟨od, J, _⟩ := J.look
  refine PySem.W.kso_call hr.in1.in1.units0 I.kIn J m.at_ m.fn ?_
  refine wpAny_mono (run_own (vs := [V.ref a]) (us := [Value.ref a]) F hb hr.in1.in1 rfl I (.cons rfl .nil) q) (fun z s' hz => ?_) fun _ _ z => z
  obtain ⟨v', H', I', r', t, rfl, q'⟩ := hz
  obtain ⟨tk, rfl⟩ := (show ∃ tk, z = Value.str t tk from r')
  exact ⟨.str t, H', I', ⟨tk, rfl⟩, q'⟩
/-- repr of such an instance -/
theorem call_reprO (m : Meth X.K C "__repr__" f) (F : FnOk X.prog X.w X.K X.mg X.base CX0 k f fd ps sp) (hb : Binds X.K fd ps []) (hr : Room (k + 1) X.A) : CallR X (.builtin "repr") (rStrO C sp) := by
  intro pins s σ H vs us Q I r h
  obtain ⟨a, dx, fs, rfl, ha, q⟩ := h
  obtain ⟨u, rfl, ru⟩ := vals1 r
  cases (show u = Value.ref a from ru)
  obtain ⟨mA, J, _⟩ := ins_get I.hok ha
  obtain ⟨od, J, _⟩ := J.look
  obtain ⟨mm, hF⟩ := I.fr
  refine PySem.W.repr_K hr.in1.units0 hF I.ok.mod.kin J m.at_ m.fn ?_
  refine wpAny_mono (run_own (vs := [V.ref a]) (us := [Value.ref a]) F hb hr.in1 rfl I (.cons rfl .nil) q) (fun z s' hz => ?_) fun _ _ z => z
  obtain ⟨v', H', I', r', t, rfl, q'⟩ := hz
  obtain ⟨tk, rfl⟩ := (show ∃ tk, z = Value.str t tk from r')
  exact ⟨.str t, H', I', ⟨tk, rfl⟩, q'⟩
/-- .. within a list -/
theorem rpG_own {a dx : Addr} {fs : List (Str × V)} {t : Str} {H0 : Hp} (m : Meth X.K C "__repr__" f) (F : FnOk X.prog X.w X.K X.mg X.base CX0 k f fd ps sp) (hb : Binds X.K fd ps [])
    (ha : H0 a = some (.ins C dx fs)) (hsp : ∀ H Q, Ext H0 H → (∀ H', Ext H H' → Q (.str t) H') → sp [.ref a] H Q E0) : RpG X k [] (.ref a) t H0 := by
  intro A g pins s σ H u b sg hcl I e0 rx hz
  cases (show u = Value.ref a from rx)
  obtain ⟨mA, J, _⟩ := ins_get I.hok (e0 _ _ ha)
  obtain ⟨od, J, _⟩ := J.look
  refine wpAny_pyReprUnder_ref (by omega) ?_
  unfold pyReprObjUnder pyReprObjBy
  refine wpAny_bind (wpAny_cRoomFor sg.room.units0 ?_)
  refine wpAny_bind (wpAny_bind (J.type.here ((PySem.W.looks_findIn I.kIn m.at_).here ?_)))
  show wpAny _ _ (if (some (Value.ref f)).isNone = true then _ else _) _ _ _
  rw [if_neg (by simp)]
  have run := run_own (A := A) (vs := [V.ref a]) (us := [Value.ref a]) (Q := fun v H' => v = .str t ∧ Ext H H') F hb sg.room sg.fr I (.cons rfl .nil) (hsp H _ e0 fun H' e => ⟨rfl, e⟩)
  have fin : wpAny (model X.prog X.w) A (call (.ref f) [.ref a]) (fun v s' => (∃ tk, v = Value.str t tk) ∧ ∃ H', Inv X pins σ H' s' ∧ Ext H H') X.xe s := wpAny_mono run (fun z s' hz => by
    obtain ⟨v', H', I', r', rfl, e⟩ := hz
    exact ⟨r', H', I', e⟩) fun _ _ z => z
  dsimp only
  have fin2 : ∀ (R : Option Value → Shared → Prop), (∀ v s', ((∃ tk, v = Value.str t tk) ∧ ∃ H', Inv X pins σ H' s' ∧ Ext H H') → R (some v) s') → wpAny (model X.prog X.w) A (call (.ref f) ([.ref a] ++ []) >>= fun v => pure (some v)) R X.xe s := fun R hR =>
    wpAny_bind (wpAny_mono fin (fun v s' z => wpAny_pure (hR v s' z)) fun _ _ z => z)
  refine wpAny_bind ?_
  simp only [callSpecialIfBoundBy?, bindSpecialIfBound?]
  refine wpAny_holding (wpAny_bind (wpAny_bind (wpAny_bind (J.type.here ((PySem.W.looks_findIn I.kIn m.at_).here ?_)))))
  have done : ∀ v s', ((∃ tk, v = Value.str t tk) ∧ ∃ H', Inv X pins σ H' s' ∧ Ext H H') → wpAny (model X.prog X.w) A (do
      let b ← isInstance v (Value.type "str")
      if b = true then pure v else do
        let n ← typeNameOf v
        raiseErrorMade "TypeError" (toString "__repr__ returned non-string (type " ++ toString n ++ toString ")")) (fun v s' => ∃ x u, v = Value.str x u ∧ x = t ∧ ∃ H', Inv X pins σ H' s' ∧ Ext H H') X.xe s' := by
    rintro v s' ⟨⟨tk, rfl⟩, H', I', e⟩
    refine wpAny_bind (wpAny_isInstance (T := "str") (b := true) rfl isSubtype_str_str ?_)
    rw [if_pos rfl]
    exact wpAny_pure ⟨_, _, rfl, rfl, H', I', e⟩
  refine wpAny_bind (wpAny_askSetting (wpAny_ite ?_))
  split
  · exact wpAny_bind ((PySem.W.bind_fn I.kIn _ (beq_iff_eq.mp m.fn)).here (wpAny_pure (by exact fin2 _ done)))
  · exact wpAny_tryCatch (wpAny_bind ((PySem.W.bind_fn I.kIn _ (beq_iff_eq.mp m.fn)).here (wpAny_pure (by exact fin2 _ done))))
end
end Mc

set_option Elab.async false
set_option linter.all false
set_option maxRecDepth 100000
set_option maxHeartbeats 4000000
namespace Mc
open PySem PySem.Spec PyProof.Rows L2
/-! ### static methods, methods by keywords -/
/-- C.m is a staticmethod: its record at p, its def at f -/
structure SMet (K : PySem.W.Frag) (C : Addr) (mc : Value) (m : Str) (p f : Addr) : Prop where
  at_ : PySem.W.findCls K (.ref C) mc m = some (.get (.builtin "staticmethod.__get__") (.ref p) .none (.ref C))
  rc : ∃ rest, PySem.W.recIn K p "staticmethod" = some (.ref f :: rest)
  kp : PySem.W.keepIn K (.ref f) = true
def tSm (sp : Sp) (C : Addr) (to : TE) (t : TA) : TE := fun σ H Q => to σ H fun x H0 => x = .ref C ∧ t σ H0 fun vs H1 => sp vs H1 Q E0
/-- .. by keywords alone, n values ahead of them -/
def tSmK (sp : Sp) (C : Addr) (m : Nat) (gV : List V → List V → List V) (to : TE) (tk : TA) : TE := fun σ H Q => to σ H fun x H0 => x = .ref C ∧ tk σ H0 fun zs H1 => zs.length = m ∧ sp (gV [] zs) H1 Q E0
def tMethK (sp : Sp) (C : Addr) (nm : Str) (m : Nat) (gV : List V → List V → List V) (to : TE) (tk : TA) : TE := fun σ H Q => to σ H fun x H0 => ∃ a dx fs, x = .ref a ∧ H0 a = some (.ins C dx fs) ∧ fs.lookup nm = none ∧ tk σ H0 fun zs H1 => zs.length = m ∧ sp (gV [x] zs) H1 Q E0
section
variable {X : Cx} {C p f : Addr} {mc : Value} {m : Str} {k n : Nat} {fd : FuncData} {ps ks : List Str} {sp : Sp} {o e : Expr} {es : List Expr} {to : TE} {t tk : TA} {pos apos : Pos} {pl : Sem Bool} {kws : List Keyword} {g : List Value → List Value → List Value} {gV : List V → List V → List V}
theorem getsm {pins : List (Addr × Obj)} {σ : L2.St} {H : Hp} {s : Shared} {Q : Value × List Value → Shared → Prop} {E : Value → Shared → Prop} {A : Around} (I : Inv X pins σ H s) (r : ClX.CRead X.K C mc) (c : SMet X.K C mc m p f) (h : ∀ s', Inv X pins σ H s' → Q (.ref f, []) s') :
    wpAny (model X.prog X.w) A (getMethod (.ref C) m pl) Q E s := by
  obtain ⟨rest, hp⟩ := c.rc
  refine PySem.W.method_cls I.kIn r.ga (PySem.W.cls_bind I.kIn r.rd c.at_ (wpAny_call (PySem.W.sm_get (s := { s with toks := s.toks + 1 }) I.kIn hp (PySem.W.handed_on rfl ?_))))
  exact h _ (I.tok _)
theorem pe_sm (ho : PE X o to) (r : ClX.CRead X.K C mc) (c : SMet X.K C mc m p f) (F : FnOk X.prog X.w X.K X.mg X.base CX0 k f fd ps sp) (hr : Room k X.A) (hb : Binds X.K fd ps []) (ha : PA X (e :: es) t)
    (hst : starEach (e :: es) X.env = (false, eval e X.env) :: starEach es X.env := by rfl) (hpl : (backTo pos (starEach es X.env)).any (·.1) = false := by rfl)
    (ht : eval (.Call (.Attribute o m apos) (e :: es) [] pos) X.env = (do
      let ov ← eval o X.env
      standAt apos.atName
      let (f, first) ← holding [ov] (getMethod ov m pl)
      callWith pos f first (backTo pos (starEach (e :: es) X.env)) (backToKw pos (keywordEach [] X.env))) := by rfl) : PE X (.Call (.Attribute o m apos) (e :: es) [] pos) (tSm sp C to t) := by
  refine ⟨fun pins s σ H Q I h => ?_⟩
  refine PySem.W.methodCall_KW (pl := pl) (thn (ho.run pins s σ H _ I h) fun u s1 ⟨x, H1, I1, rx, ex, q⟩ => ?_) ht
  subst ex
  cases (show u = Value.ref C from rx)
  refine getsm I1 r c fun s2 I2 => ?_
  refine PySem.W.callWith_K (h₀ := X.base) I.ok.mod.kin c.kp (thn (ha.run pos pins s2 σ H1 _ I2 q) fun us s3 ⟨vs, H2, I3, rv, q2⟩ => ⟨I3.kIn, ?_⟩) hst hpl
  exact run_own (us := us) (vs := vs) F hb hr rfl I3 rv q2
theorem pe_smK (ho : PE X o to) (r : ClX.CRead X.K C mc) (c : SMet X.K C mc m p f) (F : FnOk X.prog X.w X.K X.mg X.base CX0 k f fd ps sp) (hr : Room k X.A) (hb : KBn X.K fd ps 0 ks g gV) (hkw : PK X kws tk)
    (hall : (backToKw pos (keywordEach kws X.env)).all (·.1.isSome) = true := by rfl) (hks : (backToKw pos (keywordEach kws X.env)).filterMap (·.1) = ks := by rfl)
    (hpl : ((backTo pos (starEach [] X.env)).any (·.1) || (backToKw pos (keywordEach kws X.env)).any (·.1.isNone)) = false := by rfl)
    (ht : eval (.Call (.Attribute o m apos) [] kws pos) X.env = (do
      let ov ← eval o X.env
      standAt apos.atName
      let (f, first) ← holding [ov] (getMethod ov m pl)
      callWith pos f first (backTo pos (starEach [] X.env)) (backToKw pos (keywordEach kws X.env))) := by rfl) : PE X (.Call (.Attribute o m apos) [] kws pos) (tSmK sp C ks.length gV to tk) := by
  refine ⟨fun pins s σ H Q I h => ?_⟩
  refine PySem.W.methodCall_KW (pl := pl) (thn (ho.run pins s σ H _ I h) fun u s1 ⟨x, H1, I1, rx, ex, q⟩ => ?_) ht
  subst ex
  cases (show u = Value.ref C from rx)
  refine getsm I1 r c fun s2 I2 => ?_
  refine PySem.W.callWith_KW0 (h₀ := X.base) (first := []) I.ok.mod.kin c.kp hall ?_ hpl
  refine thn (hkw.run pos pins s2 σ H1 _ I2 q) fun ws s3 ⟨zs, H2, I3, rz, l2, q2⟩ => ⟨I3.kIn, ?_⟩
  rw [hks]
  exact run_fnN (us := []) (vs := []) F hr hb pass0 I3 .nil rz rfl l2 q2
theorem pe_methK (ho : PE X o to) (c : Cls X.K C) (hm : Meth X.K C m f) (F : FnOk X.prog X.w X.K X.mg X.base CX0 k f fd ps sp) (hr : Room k X.A) (hb : KBn X.K fd ps 1 ks g gV) (hkw : PK X kws tk)
    (hall : (backToKw pos (keywordEach kws X.env)).all (·.1.isSome) = true := by rfl) (hks : (backToKw pos (keywordEach kws X.env)).filterMap (·.1) = ks := by rfl)
    (hpl : ((backTo pos (starEach [] X.env)).any (·.1) || (backToKw pos (keywordEach kws X.env)).any (·.1.isNone)) = false := by rfl)
    (ht : eval (.Call (.Attribute o m apos) [] kws pos) X.env = (do
      let ov ← eval o X.env
      standAt apos.atName
      let (f, first) ← holding [ov] (getMethod ov m pl)
      callWith pos f first (backTo pos (starEach [] X.env)) (backToKw pos (keywordEach kws X.env))) := by rfl) : PE X (.Call (.Attribute o m apos) [] kws pos) (tMethK sp C m ks.length gV to tk) := by
  refine ⟨fun pins s σ H Q I h => ?_⟩
  refine PySem.W.methodCall_KW (pl := pl) (thn (ho.run pins s σ H _ I h) fun u s1 ⟨x, H1, I1, rx, a, dx, fs, ex, ea, l, q⟩ => ?_) ht
  subst ex
  cases (show u = Value.ref a from rx)
  refine getmeth_ok I1 ea c hm l ?_
  refine PySem.W.callWith_KW0 (h₀ := X.base) (first := [.ref a]) I.ok.mod.kin hm.kp hall ?_ hpl
  refine thn (hkw.run pos pins s1 σ H1 _ I1 q) fun ws s3 ⟨zs, H2, I3, rz, l2, q2⟩ => ⟨I3.kIn, ?_⟩
  rw [hks]
  exact run_fnN (us := [.ref a]) (vs := [.ref a]) F hr hb pass0 I3 (.cons rfl .nil) rz rfl l2 q2
end
end Mc

set_option Elab.async false
set_option linter.all false
set_option maxRecDepth 100000
set_option maxHeartbeats 4000000
namespace Mc
open PySem PySem.Spec PyProof.Rows L2
/-! ### repr of lists of plain values -/
def shT : V → Str
  | .non => Str.ofString "None"
  | .bl b => if b = true then Str.ofString "True" else Str.ofString "False"
  | .int i => Str.ofString (toString i)
  | .str y => reprText y
  | _ => Str.empty
def shOk : V → Prop
  | .non => True
  | .bl _ => True
  | .int i => i.natAbs < 2 ^ 1900
  | .str y => (reprText y).length ≤ 2000
  | _ => False
theorem big1920 {i : Int} (h : i.natAbs < 2 ^ 1900) : i.natAbs.log2 < 1920 := Nat.lt_of_lt_of_le (m := 1900) (PySem.Flt.log2_lt_of (by decide) h) (by decide)
theorem shT_len {x : V} (h : shOk x) : (shT x).length ≤ 2000 := by
  cases x with
  | non => exact (by decide +kernel : (Str.ofString "None").length ≤ 2000)
  | bl b => cases b <;> decide +kernel
  | int i => exact Nat.le_trans (int_text_len_1921 (big1920 h)) (by decide)
  | str y => exact h
  | _ => exact h.elim
theorem rpG_flat {X : Cx} {x : V} {H : Hp} (h : shOk x) : RpG X 0 [] x (shT x) H := by
  cases x with
  | non => exact rpG_non
  | bl b => exact rpG_bl
  | int i => exact rpG_int (big1920 h)
  | str y => exact rpG_str (by rw [sizeLine_eq]; exact Nat.le_trans h (by decide))
  | _ => exact h.elim
theorem listText_le : ∀ ts : List Str, (listText ts).length ≤ piled ts + 2
  | [] => by decide +kernel
  | t :: r => by
    have h := textFrom_length_pos r 1 (("[" : Str) ++ (if (0 : Nat) > 0 then ", " else "" : String) ++ t) (Nat.succ_pos 0)
    have e : ((("[" : Str) ++ (if (0 : Nat) > 0 then ", " else "" : String) ++ t)).length = 1 + t.length := by
      rw [strLen_append, strLen_append] <;> rfl
    have hX : (listText (t :: r)).length = (textFrom 0 "[" (t :: r)).length + 1 := by
      show (textFrom 0 "[" (t :: r) ++ "]").length = _
      rw [strLen_append] <;> rfl
    have hY : (textFrom 0 "[" (t :: r)).length = (textFrom 1 (("[" : Str) ++ (if (0 : Nat) > 0 then ", " else "" : String) ++ t) r).length := rfl
    rw [hX, hY, h, e, piled_cons]
    omega
theorem piled_le {c : Nat} : ∀ {ts : List Str}, (∀ t ∈ ts, t.length ≤ c) → piled ts ≤ ts.length * (c + 2)
  | [], _ => by simp [piled]
  | t :: r, h => by
    rw [piled_cons, List.length_cons, Nat.succ_mul]
    have h1 := h t List.mem_cons_self
    have h2 := piled_le (c := c) (ts := r) fun z hz => h z (List.mem_cons_of_mem _ hz)
    omega
section
variable {X : Cx} {n : Nat}
def rReprF (K : PySem.W.Frag) : List V → Hp → VK → Prop := fun vs H Q => ∃ (a : Addr) (xs : List V), vs = [.ref a] ∧ SqL K H a xs ∧ (∀ x ∈ xs, shOk x) ∧ xs.length ≤ 1000 ∧ ∀ H', Ext H H' → Q (.str (listText (xs.map shT))) H'
theorem call_reprF (hr : RoomG 3 X.A) : CallR X (.builtin "repr") (rReprF X.K) := by
  intro pins s σ H vs us Q I r h
  obtain ⟨a, xs, rfl, hl, hf, hn, q⟩ := h
  refine call_reprL (n := 0) hr pins s σ H _ us Q I r ⟨a, xs, [], xs.map shT, rfl, hl, (fun z => nomatch z), List.length_map .., fun i x hx => ⟨shT x, by rw [List.getElem?_map, hx]; rfl, rpG_flat (hf x (List.mem_of_getElem? hx))⟩, ?_, q⟩
  have h1 := listText_le (xs.map shT)
  have h2 := piled_le (c := 2000) (ts := xs.map shT) fun t ht => by
    obtain ⟨x, hx, rfl⟩ := List.mem_map.mp ht
    exact shT_len (hf x hx)
  rw [List.length_map] at h2
  rw [sizeLine_eq]
  omega
end
end Mc

set_option Elab.async false
set_option linter.all false
set_option maxRecDepth 100000
set_option maxHeartbeats 4000000
namespace Mc
open PySem PySem.Spec PyProof.Rows L2
/-! ### walks over a list or a tuple alike -/
/-- J walks xs, as long as S holds -/
structure WalkJ (J : It) (S : Hp → Prop) (xs : List V) : Prop where
  go : ∀ i H, S H → i < xs.length → J.go i H
  stop : ∀ i H, S H → xs.length ≤ i → J.stop i H
  yld : ∀ i H x H', S H → i < xs.length → J.yld i H x H' → H' = H ∧ xs[i]? = some x
def SqA (K : PySem.W.Frag) (H : Hp) (a : Addr) (xs : List V) : Prop := SqL K H a xs ∨ SqT K H a xs
theorem walk_l {K : PySem.W.Frag} {a : Addr} {xs : List V} : WalkJ (Itl K a) (fun H => SqL K H a xs) xs :=
  ⟨fun i H h n => ⟨xs, xs[i], h, List.getElem?_eq_getElem n⟩, fun i H h n => ⟨xs, h, n⟩, fun i H x H' h _ y => ⟨y.1, y.2 xs h⟩⟩
theorem walk_t {K : PySem.W.Frag} {a : Addr} {xs : List V} : WalkJ (Itt K a) (fun H => SqT K H a xs) xs :=
  ⟨fun i H h n => ⟨xs, xs[i], h, List.getElem?_eq_getElem n⟩, fun i H h n => ⟨xs, h, n⟩, fun i H x H' h _ y => ⟨y.1, y.2 xs h⟩⟩
theorem walk_r {lo : Int} {n : Nat} : WalkJ (Itr lo n) (fun _ => True) ((List.range n).map fun k => .int (lo + (k : Nat))) where
  go i H _ h := by simpa [Itr] using h
  stop i H _ h := by simpa [Itr] using h
  yld i H x H' _ h y := by
    obtain ⟨rfl, rfl⟩ := y
    refine ⟨rfl, ?_⟩
    rw [List.length_map, List.length_range] at h
    rw [List.getElem?_map, List.getElem?_range h]
    rfl
theorem walk_a {K : PySem.W.Frag} {H : Hp} {a : Addr} {xs : List V} (h : SqA K H a xs) : ∃ (J : It) (S : Hp → Prop), (J = Itl K a ∨ J = Itt K a) ∧ WalkJ J S xs ∧ ∀ H', Ext H H' → S H' := by
  rcases h with h | h
  · exact ⟨_, _, .inl rfl, walk_l, fun _ e => h.ext e⟩
  · exact ⟨_, _, .inr rfl, walk_t, fun _ e => h.ext e⟩
section
variable {J J1 : It} {S S1 : Hp → Prop} {xs : List V} {g g1 : TG} {tb : TS} {tt tt1 : TT} {te : TE} {vs vs1 : List Nat} {E : Ends} {σ : L2.St} {H H1 : Hp} {D : Addr} {Qd : Hp → Prop}
theorem for_walk (w : WalkJ J S xs) (Pv : Nat → L2.St → Hp → Prop) (h0 : Pv 0 σ H) (hS : ∀ i σ H, Pv i σ H → S H)
    (hs : ∀ i x σ H, xs[i]? = some x → Pv i σ H → g x σ H fun σ2 H2 => tb { E with nx := Pv (i + 1), ct := Pv (i + 1), bk := E.nx } σ2 H2) (hd : ∀ σ H, Pv xs.length σ H → E.nx σ H) : ∃ W : Nat → Nat → L2.St → Hp → Prop, (∃ m, W 0 m σ H) ∧ ∀ i m σ H, W i m σ H →
      (J.stop i H ∧ E.nx σ H) ∨ (J.go i H ∧ ∃ N : L2.St → Hp → Prop, (∀ σ' H', N σ' H' → ∃ m', m' < m ∧ W (i + 1) m' σ' H') ∧ ∀ x H', J.yld i H x H' → g x σ H' fun σ2 H2 => tb { E with nx := N, ct := N, bk := E.nx } σ2 H2) := by
  refine ⟨fun i m σ H => i + m = xs.length ∧ Pv i σ H, ⟨xs.length, Nat.zero_add _, h0⟩, fun i m σ H ⟨hm, p⟩ => ?_⟩
  rcases Nat.eq_zero_or_pos m with z | z
  · have e : i = xs.length := by omega
    exact .inl ⟨w.stop i H (hS i σ H p) (Nat.le_of_eq e.symm), hd σ H (e ▸ p)⟩
  · have lt : i < xs.length := by omega
    refine .inr ⟨w.go i H (hS i σ H p) lt, Pv (i + 1), fun _ _ q => ⟨m - 1, by omega, by omega, q⟩, fun x H' y => ?_⟩
    obtain ⟨rfl, hx⟩ := w.yld i H x H' (hS i σ H p) lt y
    exact hs i x σ _ hx p
theorem lc_walk (w : WalkJ J S xs) (Pv : Nat → Hp → Prop) (h0 : Pv 0 (upd H1 D (.lst []))) (hS : ∀ i H, Pv i H → S H) (hs : ∀ i x H, xs[i]? = some x → Pv i H → g x (wipe σ vs) H fun σ2 H2 => wipe σ2 vs = wipe σ vs ∧ tt σ2 H2 fun b H3 => if b = true then te σ2 H3 fun y H4 => ∃ acc, H4 D = some (.lst acc) ∧ acc.length < sizeLine ∧ Pv (i + 1) (upd H4 D (.lst (acc ++ [y]))) else Pv (i + 1) H3) (hd : ∀ H, Pv xs.length H → Qd H) : ∃ W : Nat → Nat → Hp → Prop, (∃ m, W 0 m (upd H1 D (.lst []))) ∧ ∀ i m H, W i m H → (J.stop i H ∧ Qd H) ∨ (J.go i H ∧ ∃ Nx : Hp → Prop, (∀ H', Nx H' → ∃ m', m' < m ∧ W (i + 1) m' H') ∧ ∀ x H', J.yld i H x H' → g x (wipe σ vs) H' fun σ2 H2 => wipe σ2 vs = wipe σ vs ∧ tt σ2 H2 fun b H3 => if b = true then te σ2 H3 fun y H4 => ∃ acc, H4 D = some (.lst acc) ∧ acc.length < sizeLine ∧ Nx (upd H4 D (.lst (acc ++ [y]))) else Nx H3) := by
  refine ⟨fun i m H => i + m = xs.length ∧ Pv i H, ⟨xs.length, Nat.zero_add _, h0⟩, fun i m H ⟨hm, p⟩ => ?_⟩
  rcases Nat.eq_zero_or_pos m with z | z
  · have e : i = xs.length := by omega
    exact .inl ⟨w.stop i H (hS i H p) (Nat.le_of_eq e.symm), hd H (e ▸ p)⟩
  · have lt : i < xs.length := by omega
    refine .inr ⟨w.go i H (hS i H p) lt, Pv (i + 1), fun _ q => ⟨m - 1, by omega, by omega, q⟩, fun x H' y => ?_⟩
    obtain ⟨rfl, hx⟩ := w.yld i H x H' (hS i H p) lt y
    exact hs i x _ hx p
/-- the inner walk of a comprehension with two sources: from turn i of the outer one to turn i + 1 -/
theorem lc_inner {xs1 : List V} {Nx : Hp → Prop} (w : WalkJ J1 S1 xs1) (Pv : Nat → Hp → Prop) (h0 : Pv 0 H) (hS : ∀ j H, Pv j H → S1 H)
    (hs : ∀ j x H, xs1[j]? = some x → Pv j H → g1 x (wipe σ vs1) H fun σ3 H5 => wipe σ3 vs1 = wipe σ vs1 ∧ tt1 σ3 H5 fun b H6 =>
      if b = true then te σ3 H6 fun y H7 => ∃ acc, H7 D = some (.lst acc) ∧ acc.length < sizeLine ∧ Pv (j + 1) (upd H7 D (.lst (acc ++ [y]))) else Pv (j + 1) H6) (hd : ∀ H, Pv xs1.length H → Nx H) :
    ∃ W1 : Nat → Nat → Hp → Prop, (∃ m, W1 0 m H) ∧ ∀ j k H, W1 j k H →
      (J1.stop j H ∧ Nx H) ∨ (J1.go j H ∧ ∃ Nx1 : Hp → Prop, (∀ H', Nx1 H' → ∃ k', k' < k ∧ W1 (j + 1) k' H') ∧ ∀ x H', J1.yld j H x H' → g1 x (wipe σ vs1) H' fun σ3 H5 => wipe σ3 vs1 = wipe σ vs1 ∧ tt1 σ3 H5 fun b H6 =>
        if b = true then te σ3 H6 fun y H7 => ∃ acc, H7 D = some (.lst acc) ∧ acc.length < sizeLine ∧ Nx1 (upd H7 D (.lst (acc ++ [y]))) else Nx1 H6) := by
  refine ⟨fun i m H => i + m = xs1.length ∧ Pv i H, ⟨xs1.length, Nat.zero_add _, h0⟩, fun i m H ⟨hm, p⟩ => ?_⟩
  rcases Nat.eq_zero_or_pos m with z | z
  · have e : i = xs1.length := by omega
    exact .inl ⟨w.stop i H (hS i H p) (Nat.le_of_eq e.symm), hd H (e ▸ p)⟩
  · have lt : i < xs1.length := by omega
    refine .inr ⟨w.go i H (hS i H p) lt, Pv (i + 1), fun _ q => ⟨m - 1, by omega, by omega, q⟩, fun x H' y => ?_⟩
    obtain ⟨rfl, hx⟩ := w.yld i H x H' (hS i H p) lt y
    exact hs i x _ hx p
/-- .. the whole of it -/
theorem lc2_walk {wi1 : TI} (w : WalkJ J S xs) (Pv : Nat → Hp → Prop) (h0 : Pv 0 (upd H1 D (.lst []))) (hS : ∀ i H, Pv i H → S H) (hs : ∀ i x H, xs[i]? = some x → Pv i H → g x (wipe σ vs) H fun σ2 H2 => wipe σ2 vs = wipe σ vs ∧ tt σ2 H2 fun b H3 => if b = true then wi1 σ2 H3 fun J1 H4 => ∃ W1 : Nat → Nat → Hp → Prop, (∃ m, W1 0 m H4) ∧ ∀ j k H, W1 j k H →
        (J1.stop j H ∧ Pv (i + 1) H) ∨ (J1.go j H ∧ ∃ Nx1 : Hp → Prop, (∀ H', Nx1 H' → ∃ k', k' < k ∧ W1 (j + 1) k' H') ∧ ∀ x H', J1.yld j H x H' → g1 x (wipe σ2 vs1) H' fun σ3 H5 => wipe σ3 vs1 = wipe σ2 vs1 ∧ tt1 σ3 H5 fun b H6 => if b = true then te σ3 H6 fun y H7 => ∃ acc, H7 D = some (.lst acc) ∧ acc.length < sizeLine ∧ Nx1 (upd H7 D (.lst (acc ++ [y]))) else Nx1 H6)
      else Pv (i + 1) H3) (hd : ∀ H, Pv xs.length H → Qd H) : ∃ W : Nat → Nat → Hp → Prop, (∃ m, W 0 m (upd H1 D (.lst []))) ∧ ∀ i m H, W i m H → (J.stop i H ∧ Qd H) ∨ (J.go i H ∧ ∃ Nx : Hp → Prop, (∀ H', Nx H' → ∃ m', m' < m ∧ W (i + 1) m' H') ∧ ∀ x H', J.yld i H x H' → g x (wipe σ vs) H' fun σ2 H2 => wipe σ2 vs = wipe σ vs ∧ tt σ2 H2 fun b H3 => if b = true then wi1 σ2 H3 fun J1 H4 => ∃ W1 : Nat → Nat → Hp → Prop, (∃ m, W1 0 m H4) ∧ ∀ j k H, W1 j k H → (J1.stop j H ∧ Nx H) ∨ (J1.go j H ∧ ∃ Nx1 : Hp → Prop, (∀ H', Nx1 H' → ∃ k', k' < k ∧ W1 (j + 1) k' H') ∧ ∀ x H', J1.yld j H x H' → g1 x (wipe σ2 vs1) H' fun σ3 H5 => wipe σ3 vs1 = wipe σ2 vs1 ∧ tt1 σ3 H5 fun b H6 => if b = true then te σ3 H6 fun y H7 => ∃ acc, H7 D = some (.lst acc) ∧ acc.length < sizeLine ∧ Nx1 (upd H7 D (.lst (acc ++ [y]))) else Nx1 H6)
        else Nx H3) := by
  refine ⟨fun i m H => i + m = xs.length ∧ Pv i H, ⟨xs.length, Nat.zero_add _, h0⟩, fun i m H ⟨hm, p⟩ => ?_⟩
  rcases Nat.eq_zero_or_pos m with z | z
  · have e : i = xs.length := by omega
    exact .inl ⟨w.stop i H (hS i H p) (Nat.le_of_eq e.symm), hd H (e ▸ p)⟩
  · have lt : i < xs.length := by omega
    refine .inr ⟨w.go i H (hS i H p) lt, Pv (i + 1), fun _ q => ⟨m - 1, by omega, by omega, q⟩, fun x H' y => ?_⟩
    obtain ⟨rfl, hx⟩ := w.yld i H x H' (hS i H p) lt y
    exact hs i x _ hx p
end
/-! ### for x in e, e a list or a tuple -/
def iSeq (K : PySem.W.Frag) (tl : TE) : TI := fun σ H R => tl σ H fun x H1 => ∃ a xs, x = .ref a ∧ SqA K H1 a xs ∧ ∀ (J : It) (S : Hp → Prop), WalkJ J S xs → (∀ H', Ext H1 H' → S H') → R J H1
section
variable {X : Cx}
theorem pi_seq {tg l : Expr} {tl : TE} (hl : PE X l tl) : PI X tg l (iSeq X.K tl) := by
  constructor
  intro pins s σ H R I h
  refine thn (hl.run pins s σ H _ I h) ?_
  rintro v s1 ⟨x, H1, J1, r1, a, xs, rfl, hq, q⟩
  cases r1
  have mine : ∀ b ∈ [s1.heap.objs.size], FpOk X pins H1 b := fun b hb => by
    rw [List.mem_singleton.mp hb]
    exact J1.fpOk (Nat.le_refl _) (J1.hok.fresh (Nat.le_refl _))
  rcases hq with hq | hq
  · obtain ⟨its, rv, p, hz⟩ := J1.list hq
    exact wpAny_pyIter_list p.isList ⟨_, _, _, _, H1, rfl, J1.kept (t' := s1.toks) fun b o e => Heap.get?_push_of_some _ e, turn_list a _, ⟨_, Heap.get?_push_size _ rfl, rfl, rfl⟩, mine, q _ _ walk_l fun _ e => hq.ext e⟩
  · obtain ⟨its, rv, p, hz⟩ := J1.tuple hq
    exact wpAny_pyIter_tuple p ⟨_, _, _, _, H1, rfl, J1.kept (t' := s1.toks) fun b o e => Heap.get?_push_of_some _ e, turn_tuple a _, ⟨_, Heap.get?_push_size _ rfl, rfl, rfl⟩, mine, q _ _ walk_t fun _ e => hq.ext e⟩
end
end Mc

set_option Elab.async false
set_option linter.all false
set_option maxRecDepth 100000
set_option maxHeartbeats 4000000
namespace Mc
open PySem PySem.Spec PyProof.Rows L2

section
variable {P : Program} {w : World} {K : PySem.W.Frag} {mg : Str → Option Value} {base : Heap} {f fd' : Addr} {fd : FuncData}

def spDraw : Sp := fun vs H Q _ => ∃ (p : Addr) (n : Int), vs = [.ref p, .int n] ∧ Pot H p ∧ 0 < n ∧ n.natAbs.log2 < 9000 ∧ ∀ (r : Int) H', 0 ≤ r → r < n → Frm [p] H H' → Pot H' p → Q (.int r) H'
abbrev nDraw : List Str := ["_law_pot_here", "_law_size", "_law_digit"]
theorem scDraw : FnScope nDraw ["_law_pot_here", "_law_size"] (defScope sDraw) := ⟨rfl, rfl, rfl, by decide +kernel, rfl, by decide +kernel, by decide +kernel⟩
theorem ok_draw (F : Fun K "_law_draw" "_law_draw" sDraw f fd) (tDm : mg "divmod" = none) (tInt : mg "int" = none) : FnOk P w K mg base CX0 1 f fd ["_law_pot_here", "_law_size"] spDraw := by
  refine F.ok scDraw (fun vs H Q E h => ?_) (fun cdv A outer s H vs Q E hr h => ?_)
  · obtain ⟨p, n, rfl, _⟩ := h
    rfl
  · obtain ⟨p, n, rfl, ⟨a, b, hp, ha, hb, hb'⟩, hn, hn', k⟩ := h
    refine ⟨_, pss_cons (ps_if (pt_cmpR op_gt (pe_ix ix_seq (pv 0) pe_int (fun _ _ => rfl)) pe_int (nomark _))
        (pss_cons (ps_asg (pe_callB call_divmodW (by rfl) tDm (by decide +kernel) (pa_cons (pe_ix ix_seq (pv 0) pe_int (fun _ _ => rfl)) (pa_cons (pv 1) pa_nil))) (pg_tup rfl (pgs_cons (pg_sub (pv 0) pe_int set_list) (pgs_cons (pg_name (i := 2) scDraw.nd rfl (.inl rfl)) pgs_nil))))
        (pss_one (ps_ret (pv 2)))) pss_nil)
      (pss_cons (ps_asg (pe_op op_mod (pe_callTy call_int1 (by rfl) tInt (by decide +kernel) (pa_cons (pe_op op_add (pe_op op_mul (pe_ix ix_seq (pv 0) pe_int (fun _ _ => rfl)) pe_int) pe_int) pa_nil)) pe_int) (pg_sub (pv 0) pe_int set_list))
      (pss_one (ps_ret (pe_op op_mod (pe_callTy call_int1 (by rfl) tInt (by decide +kernel) (pa_cons (pe_op op_fdiv (pe_op op_mod (pe_callTy call_int1 (by rfl) tInt (by decide +kernel) (pa_cons (pe_op op_mul (pe_ix ix_seq (pv 0) pe_int (fun _ _ => rfl)) (pe_ix ix_seq (pv 0) pe_int (fun _ _ => rfl))) pa_nil)) pe_int) pe_int) pa_nil)) (pv 1))))), ?_⟩
    -- pot[0] > 0
    refine ⟨_, rfl, .inl ⟨p, _, 0, _, rfl, rfl, SqL.of hp, rfl, _, _, rfl, rfl, _, rfl, ?_⟩⟩
    refine ite2 (fun h0 => ?_) (fun h0 => ?_)
    · refine ⟨_, rfl, .inl ⟨p, _, 0, _, rfl, rfl, SqL.of hp, rfl, _, rfl, a, n, rfl, plain_div a hn hn', fun t ht => ?_⟩⟩
      have hpt : (upd H t (.tup [.int (a / n), .int (a % n)])) p = some (.lst [.int a, .int b]) := by rw [upd_ne (ne_of_none hp ht)]; exact hp
      refine ⟨t, _, rfl, SqT.of upd_same, rfl, _, _, rfl, _, rfl, p, _, 0, 0, rfl, rfl, hpt, rfl, _, _, rfl, rfl, _, rfl, ?_⟩
      refine k _ _ (Int.emod_nonneg a (by omega)) (Int.emod_lt_of_pos a hn) ((Frm.new ht).trans (Frm.put (List.mem_singleton.mpr rfl))) ⟨a / n, b, upd_same, Int.ediv_nonneg ha (by omega), hb, hb'⟩
    · refine ⟨_, rfl, .inl ⟨p, _, 1, _, rfl, rfl, SqL.of hp, rfl, _, _, rfl, rfl, .inl ⟨by omega, by omega⟩, _, _, rfl, rfl, .inl ⟨_, rfl, _, _, rfl, rfl, (by show (0 : Int) < 2147483587; decide), ?_⟩⟩⟩
      have hc0 : 0 ≤ (b * 48271 + 13011) % 2147483587 := Int.emod_nonneg _ (by decide)
      have hc1 : (b * 48271 + 13011) % 2147483587 < 2147483587 := Int.emod_lt_of_pos _ (by decide)
      refine ⟨_, rfl, p, _, 1, 1, rfl, rfl, hp, rfl, ?_⟩
      refine ⟨_, rfl, .inl ⟨p, _, 1, _, rfl, rfl, SqL.of upd_same, rfl, _, rfl, .inl ⟨p, _, 1, _, rfl, rfl, SqL.of upd_same, rfl, _, _, rfl, rfl, .inl ⟨(by show -(2 ^ 64 : Int) < (b * 48271 + 13011) % 2147483587; omega), (by show (b * 48271 + 13011) % 2147483587 < (2 ^ 64 : Int); omega)⟩, .inl ⟨_, rfl, _, _, rfl, rfl, (by show (0 : Int) < 2147483549; decide), _, _, rfl, rfl, ⟨by decide, by decide⟩, .inl ⟨_, rfl, _, rfl, _, _, rfl, rfl, hn, ?_⟩⟩⟩⟩⟩
      exact k _ _ (Int.emod_nonneg _ (by omega)) (Int.emod_lt_of_pos _ hn) (Frm.put (List.mem_singleton.mpr rfl)) ⟨a, (b * 48271 + 13011) % 2147483587, upd_same, ha, hc0, hc1⟩
/-- pick: one of the items -/
def spPick : Sp := fun vs H Q _ => ∃ (p l : Addr) (xs : List V), vs = [.ref p, .ref l] ∧ Pot H p ∧ H l = some (.lst xs) ∧ l ≠ p ∧ 0 < xs.length ∧ xs.length ≤ 1000 ∧
  ∀ (i : Nat) (x : V) H', xs[i]? = some x → Frm [p] H H' → Pot H' p → Q x H'
abbrev nPick : List Str := ["_law_pot_here", "_law_some"]
theorem scPick : FnScope nPick ["_law_pot_here", "_law_some"] (defScope sPick) := ⟨rfl, rfl, rfl, by decide +kernel, rfl, by decide +kernel, by decide +kernel⟩
theorem ok_pick {fD : Addr} {fdD : FuncData} (F : Fun K "_law_pick" "_law_pick" sPick f fd) (D : Gd P w K mg base "_law_draw" 1 ["_law_pot_here", "_law_size"] spDraw fD fdD) (tLen : mg "len" = none) : FnOk P w K mg base CX0 2 f fd ["_law_pot_here", "_law_some"] spPick := by
  refine F.ok scPick (fun vs H Q E h => ?_) (fun cdv A outer s H vs Q E hr h => ?_)
  · obtain ⟨p, l, xs, rfl, _⟩ := h
    rfl
  · obtain ⟨p, l, xs, rfl, hp, hl, hne, h0, h1, k⟩ := h
    refine ⟨_, pss_one (ps_ret (pe_ix ix_seq (pv 1) (pe_gd D hr (by decide) (by rfl) (pa_cons (pv 0) (pa_cons (pe_callB call_len_seq (by rfl) tLen PySem.boot_len (pa_cons (pv 1) pa_nil)) pa_nil))) (fun _ _ => rfl))), ?_⟩
    refine ⟨_, rfl, _, rfl, _, rfl, l, _, rfl, .inl (SqL.of hl), p, _, rfl, hp, by omega, len_log h1, fun r H1 hr0 hr1 F1 hp1 => ?_⟩
    obtain ⟨i, rfl⟩ := Int.eq_ofNat_of_zero_le hr0
    have hi : i < xs.length := by omega
    exact .inl ⟨l, xs, i, xs[i], rfl, rfl, SqL.of (F1 _ _ hl (by simpa using hne)), atI_nat (List.getElem?_eq_getElem hi), k i _ _ (List.getElem?_eq_getElem hi) F1 hp1⟩
end
end Mc

set_option Elab.async false
set_option linter.all false
set_option maxRecDepth 100000
set_option maxHeartbeats 4000000
namespace Mc
open PySem PySem.Spec PyProof.Rows L2
section
variable {P : Program} {w : World} {K : PySem.W.Frag} {mg : Str → Option Value} {base : Heap} {f : Addr} {fd : FuncData}

def spPot (K : PySem.W.Frag) : Sp := fun vs H Q _ => ∃ (l : Addr) (ns : List Int) (k : Nat), vs = [.ref l, .int k] ∧ SqL K H l (ns.map V.int) ∧ k < 64 ∧ ∀ q H', H q = none → Frm [] H H' → Pot H' q → Q (.ref q) H'
theorem sc_pot : FnScope ["_law_script", "_law_k", "_law_cell_now"] ["_law_script", "_law_k"] (defScope sPot) := ⟨rfl, rfl, rfl, by decide +kernel, rfl, by decide +kernel, by decide +kernel⟩
theorem pot_ok (G z : Int) : PotOk (if G > 0 then G else 0) (z % 2147483477 + 1) := by
  have h1 := Int.emod_nonneg z (show (2147483477 : Int) ≠ 0 by decide)
  have h2 := Int.emod_lt_of_pos z (show (0 : Int) < 2147483477 by decide)
  refine ⟨?_, by omega, by omega⟩
  split <;> omega
theorem ok_pot (F : Fun K "_law_pot" "_law_pot" sPot f fd) (T : TB mg) : FnOk P w K mg base CX0 1 f fd ["_law_script", "_law_k"] (spPot K) := by
  refine F.ok sc_pot (fun vs H Q E h => ?_) (fun cdv A outer s H vs Q E hr h => ?_)
  · obtain ⟨l, ns, k, rfl, _⟩ := h
    rfl
  · obtain ⟨l, ns, k, rfl, hl, hk, q⟩ := h
    refine ⟨_, pss_cons (ps_set (i := 2) sc_pot.nd rfl (.inl rfl) (pe_ifExp (pt_cmpR op_lt (pv 1) (pe_callB call_len_seq (by rfl) T.len PySem.boot_len (pa_cons (pv 0) pa_nil)) (nomark _)) (pe_callB call_abs (by rfl) T.abs (by decide +kernel) (pa_cons (pe_ix ix_seq (pv 0) (pv 1) (fun _ _ => rfl)) pa_nil)) (pe_op op_add (pe_op op_mul pe_int (pv 1)) pe_int)))
      (pss_one (ps_ret (pe_lst (pa_cons (pe_callB (call_max2 rfl) (by rfl) T.max (by decide +kernel) (pa_cons pe_int (pa_cons (pe_op op_sub (pv 2) (pe_op op_pow pe_int pe_int)) pa_nil))) (pa_cons (pe_op op_add (pe_op op_mod (pe_op op_mul (pe_callTy call_int1 (by rfl) T.int (by decide +kernel) (pa_cons (pe_op op_add (pe_op op_mod (pe_callTy call_int1 (by rfl) T.int (by decide +kernel) (pa_cons (pv 2) pa_nil)) pe_int) pe_int) pa_nil)) (pe_op op_pow (pe_op op_add (pe_op op_mul pe_int (pv 1)) pe_int) pe_int)) pe_int) pe_int) pa_nil))))), ?_⟩
    refine ⟨_, rfl, _, rfl, l, _, rfl, .inl hl, _, _, rfl, rfl, _, rfl, ?_⟩
    have hk3 : ((2 * (k : Int) + 5) : Int).natAbs < 2 ^ 64 := by omega
    refine ite2 (fun h0 => ?_) (fun h0 => ?_)
    · have hk2 : k < ns.length := by
        have := of_decide_eq_true h0
        rw [List.length_map] at this
        omega
      refine ⟨_, rfl, _, rfl, .inl ⟨l, _, _, V.int ns[k], rfl, rfl, hl, atI_nat (by rw [List.getElem?_map, List.getElem?_eq_getElem hk2]; rfl), _, rfl, ?_⟩⟩
      refine ⟨_, rfl, _, _, rfl, rfl, ⟨by decide, by decide, by decide⟩, _, _, rfl, rfl, _, _, rfl, ?_⟩
      refine ⟨_, rfl, .inl ⟨_, rfl, _, _, rfl, rfl, (by show (0 : Int) < 2147483549; decide), _, _, rfl, rfl, .inl ⟨_, rfl, ?_⟩⟩⟩
      refine ⟨_, rfl, _, _, rfl, rfl, .inl ⟨by decide, by decide⟩, _, _, rfl, rfl, _, _, rfl, rfl, ⟨by decide, by decide, hk3⟩, ?_⟩
      have hF := fun F : Int => (⟨Int.emod_nonneg F (show (2147483549 : Int) ≠ 0 by decide), Int.emod_lt_of_pos F (show (0 : Int) < 2147483549 by decide)⟩ : 0 ≤ F % 2147483549 ∧ F % 2147483549 < 2147483549)
      refine ⟨_, _, rfl, rfl, .inl ⟨?_, ?_⟩, _, _, rfl, rfl, (by show (0 : Int) < 2147483477; decide), _, _, rfl, rfl, (by show 2 ≤ sizeLine; decide), fun p hp => ?_⟩
      · exact Int.lt_of_lt_of_le (by decide) (Int.add_nonneg (hF _).1 (by decide))
      · exact Int.lt_of_lt_of_le (Int.add_lt_add_right (hF _).2 11) (by decide)
      · exact q p _ hp (Frm.new hp) ⟨_, _, upd_same, pot_ok _ _⟩
    · refine ⟨_, rfl, _, _, rfl, rfl, .inl ⟨by decide, by decide⟩, _, _, rfl, rfl, ?_⟩
      refine ⟨_, rfl, _, _, rfl, rfl, ⟨by decide, by decide, by decide⟩, _, _, rfl, rfl, _, _, rfl, ?_⟩
      refine ⟨_, rfl, .inl ⟨_, rfl, _, _, rfl, rfl, (by show (0 : Int) < 2147483549; decide), _, _, rfl, rfl, .inl ⟨_, rfl, ?_⟩⟩⟩
      refine ⟨_, rfl, _, _, rfl, rfl, .inl ⟨by decide, by decide⟩, _, _, rfl, rfl, _, _, rfl, rfl, ⟨by decide, by decide, hk3⟩, ?_⟩
      have hF := fun F : Int => (⟨Int.emod_nonneg F (show (2147483549 : Int) ≠ 0 by decide), Int.emod_lt_of_pos F (show (0 : Int) < 2147483549 by decide)⟩ : 0 ≤ F % 2147483549 ∧ F % 2147483549 < 2147483549)
      refine ⟨_, _, rfl, rfl, .inl ⟨?_, ?_⟩, _, _, rfl, rfl, (by show (0 : Int) < 2147483477; decide), _, _, rfl, rfl, (by show 2 ≤ sizeLine; decide), fun p hp => ?_⟩
      · exact Int.lt_of_lt_of_le (by decide) (Int.add_nonneg (hF _).1 (by decide))
      · exact Int.lt_of_lt_of_le (Int.add_lt_add_right (hF _).2 11) (by decide)
      · exact q p _ hp (Frm.new hp) ⟨_, _, upd_same, pot_ok _ _⟩
end
end Mc

set_option Elab.async false
set_option linter.all false
set_option maxRecDepth 100000
set_option maxHeartbeats 4000000
set_option exponentiation.threshold 20000
namespace Mc
open PySem PySem.Spec PyProof.Rows L2 ClX StX
/-- an axis by its first sign -/
def axS (b : Bool) : Str := if b then "east" else "north"
abbrev Cut := Bool × Nat
def cutV (c : Cut) : List V := [.str (axS c.1), .int c.2]
def okC (c : Cut) : Prop := 2 ≤ c.2 ∧ c.2 ≤ 4
/-- what the text says of Plan and of the module's constants -/
structure PlanT (K : PySem.W.Frag) (mg : Str → Option Value) (C0 aX : Addr) (mc : Value) : Prop where
  cl : Cls K C0
  nR : NoAttr K C0 "_rounds"
  nP : NoAttr K C0 "_parts"
  nL : NoAttr K C0 "_places"
  nG : NoAttr K C0 "_growth"
  mgP : mg "Plan" = some (.ref C0)
  mF : ∃ t, mg "MOST_FINENESS" = some (.int 1000 t)
  lP : ∃ t, mg "LEAST_PARTS" = some (.int 2 t)
  mP : ∃ t, mg "MOST_PARTS" = some (.int 4 t)
  ax : mg "AXES" = some (.ref aX)
  axK : ∀ H, SqT K H aX [.str "east", .str "north"]
  axT : ∃ o, K.lookup aX = some o ∧ o.cls = .type "tuple" ∧ o.dict = none
  cr : ClX.CRead K C0 mc
  cR : ∃ u, ClX.CVal K C0 mc "MOST_ROUNDS" (.int 3) u
  cC : ∃ u, ClX.CVal K C0 mc "MOST_CUTS" (.int 5) u
  cS : ∃ u, ClX.CVal K C0 mc "MOST_SIGNS" (.int 32) u
section
variable {P : Program} {w : World} {K : PySem.W.Frag} {mg : Str → Option Value} {base : Heap} {f C0 aX : Addr} {mc : Value} {fd : FuncData}
theorem sc_is_int : FnScope ["value"] ["value"] (defScope s_is_int) := ⟨rfl, rfl, rfl, by decide +kernel, rfl, by decide +kernel, by decide +kernel⟩
/-- of ints alone -/
def spIsInt : Sp := fun vs H Q _ => ∃ i : Int, vs = [.int i] ∧ Q (.bl true) H
theorem ok_is_int (F : FunD K "is_int" "is_int" (defArgs s_is_int) (defBody s_is_int) (defScope s_is_int) [] [] f fd) (T : TB mg) : FnOk P w K mg base CX0 1 f fd ["value"] (spIsInt) := by
  refine F.ok sc_is_int (fun vs H Q E h => ?_) (fun cdv A outer s H vs Q E hr h => ?_)
  · obtain ⟨i, rfl, k⟩ := h
    rfl
  · obtain ⟨i, rfl, k⟩ := h
    refine ⟨_, (pss_one (ps_ret (pe_and (pe_callB call_isi (by rfl) T.isinstance (by decide +kernel) (pa_cons (pv 0) (pa_cons (pe_bltn (v := .ty "int") (by rfl) T.int (by decide +kernel) rfl) pa_nil))) (pe_one (pe_not (pe_callB call_isi (by rfl) T.isinstance (by decide +kernel) (pa_cons (pv 0) (pa_cons (pe_bltn (v := .ty "bool") (by rfl) T.bool (by decide +kernel) rfl) pa_nil)))))))), ?_⟩
    refine ⟨_, rfl, .int i, _, _, _, true, rfl, .ty "int", .base (.int i), kit_ty (by decide +kernel), true, rfl, iteT ?_⟩
    exact ⟨_, rfl, .int i, _, _, _, false, rfl, .ty "bool", .base (.int i), kit_ty (by decide +kernel), false, rfl, k⟩
theorem sc_is_count : FnScope ["value"] ["value"] (defScope s_is_count) := ⟨rfl, rfl, rfl, by decide +kernel, rfl, by decide +kernel, by decide +kernel⟩
def spCount : Sp := fun vs H Q _ => ∃ i : Int, vs = [.int i] ∧ Q (.bl (decide (i ≥ 0))) H
theorem ok_is_count (F : FunD K "is_count" "is_count" (defArgs s_is_count) (defBody s_is_count) (defScope s_is_count) [] [] f fd) (T : TB mg) {fis_int : Addr} {fdis_int : FuncData} (Dis_int : Gd P w K mg base "is_int" 1 ["value"] (spIsInt) fis_int fdis_int) : FnOk P w K mg base CX0 2 f fd ["value"] (spCount) := by
  refine F.ok sc_is_count (fun vs H Q E h => ?_) (fun cdv A outer s H vs Q E hr h => ?_)
  · obtain ⟨i, rfl, k⟩ := h
    rfl
  · obtain ⟨i, rfl, k⟩ := h
    refine ⟨_, (pss_one (ps_ret (pe_and (pe_gd Dis_int hr (by decide) (by rfl) (pa_cons (pv 0) pa_nil)) (pe_one (pe_cmpR op_ge (pv 0) pe_int (nomark _)))))), ?_⟩
    refine ⟨_, rfl, i, rfl, true, rfl, iteT ⟨_, rfl, _, _, rfl, rfl, ?_⟩⟩
    exact k
theorem sc_is_count_below : FnScope ["value", "bound"] ["value", "bound"] (defScope s_is_count_below) := ⟨rfl, rfl, rfl, by decide +kernel, rfl, by decide +kernel, by decide +kernel⟩
def spBelow : Sp := fun vs H Q _ => ∃ i b : Int, vs = [.int i, .int b] ∧ i ≥ 0 ∧ i < b ∧ Q (.bl true) H
theorem ok_is_count_below (F : FunD K "is_count_below" "is_count_below" (defArgs s_is_count_below) (defBody s_is_count_below) (defScope s_is_count_below) [] [] f fd) (T : TB mg) {fis_count : Addr} {fdis_count : FuncData} (Dis_count : Gd P w K mg base "is_count" 2 ["value"] (spCount) fis_count fdis_count) : FnOk P w K mg base CX0 3 f fd ["value", "bound"] (spBelow) := by
  refine F.ok sc_is_count_below (fun vs H Q E h => ?_) (fun cdv A outer s H vs Q E hr h => ?_)
  · obtain ⟨i, b, rfl, h0, hb, k⟩ := h
    rfl
  · obtain ⟨i, b, rfl, h0, hb, k⟩ := h
    refine ⟨_, (pss_one (ps_ret (pe_and (pe_gd Dis_count hr (by decide) (by rfl) (pa_cons (pv 0) pa_nil)) (pe_one (pe_cmpR op_lt (pv 0) (pv 1) (nomark _)))))), ?_⟩
    refine ⟨_, rfl, i, rfl, _, rfl, ?_⟩
    rw [decide_eq_true h0]
    refine iteT ⟨_, rfl, _, rfl, _, _, rfl, rfl, ?_⟩
    show Q (.bl (decide (i < b))) H
    rw [decide_eq_true hb]
    exact k
theorem sc_check_fineness : FnScope ["f"] ["f"] (defScope s_check_fineness) := ⟨rfl, rfl, rfl, by decide +kernel, rfl, by decide +kernel, by decide +kernel⟩
def spFine : Sp := fun vs H Q _ => ∃ i : Int, vs = [.int i] ∧ i ≥ 0 ∧ i ≤ 1000 ∧ Q .non H
theorem ok_check_fineness (F : FunD K "check_fineness" "check_fineness" (defArgs s_check_fineness) (defBody s_check_fineness) (defScope s_check_fineness) [] [] f fd) (T : TB mg) (R : PlanT K mg C0 aX mc) {fis_count : Addr} {fdis_count : FuncData} (Dis_count : Gd P w K mg base "is_count" 2 ["value"] (spCount) fis_count fdis_count) : FnOk P w K mg base CX0 3 f fd ["f"] (spFine) := by
  refine F.ok sc_check_fineness (fun vs H Q E h => ?_) (fun cdv A outer s H vs Q E hr h => ?_)
  · obtain ⟨i, rfl, h0, h1, k⟩ := h
    rfl
  · obtain ⟨i, rfl, h0, h1, k⟩ := h
    refine ⟨_, (pss_cons (ps_if (pt_not (pt_val (pe_gd Dis_count hr (by decide) (by rfl) (pa_cons (pv 0) pa_nil)))) (pss_one ps_never) pss_nil)
      (pss_one (ps_if (pt_cmpR op_gt (pv 0) (pe_glob (v := .int 1000) (by rfl) R.mF.choose_spec ⟨_, rfl⟩) (nomark _)) (pss_one ps_never) pss_nil))), ?_⟩
    refine ⟨_, rfl, i, rfl, ?_⟩
    rw [decide_eq_true h0]
    refine ⟨_, rfl, iteF ⟨_, rfl, _, _, rfl, rfl, _, rfl, ?_⟩⟩
    rw [decide_eq_false (by omega)]
    exact iteF k
theorem sc_is_axis : FnScope ["value"] ["value"] (defScope s_is_axis) := ⟨rfl, rfl, rfl, by decide +kernel, rfl, by decide +kernel, by decide +kernel⟩
def spAxis : Sp := fun vs H Q _ => ∃ b : Bool, vs = [.str (axS b)] ∧ Q (.bl true) H
theorem ok_is_axis (F : FunD K "is_axis" "is_axis" (defArgs s_is_axis) (defBody s_is_axis) (defScope s_is_axis) [] [] f fd) (T : TB mg) (R : PlanT K mg C0 aX mc) : FnOk P w K mg base CX0 1 f fd ["value"] (spAxis) := by
  refine F.ok sc_is_axis (fun vs H Q E h => ?_) (fun cdv A outer s H vs Q E hr h => ?_)
  · obtain ⟨b, rfl, k⟩ := h
    rfl
  · obtain ⟨b, rfl, k⟩ := h
    refine ⟨_, (pss_one (ps_ret (pe_and (pe_callB call_isi (by rfl) T.isinstance (by decide +kernel) (pa_cons (pv 0) (pa_cons (pe_bltn (v := .ty "str") (by rfl) T.str (by decide +kernel) rfl) pa_nil))) (pe_one (pe_cmpR op_in_seq (pv 0) (pe_glob (v := .ref aX) (by rfl) R.ax rfl) (by rfl)))))), ?_⟩
    refine ⟨_, rfl, .str _, _, _, _, true, rfl, .ty "str", .base (.str _), kit_ty (by decide +kernel), true, rfl, iteT ?_⟩
    refine ⟨_, rfl, aX, _, rfl, .inr (R.axK H), rfl, rfl, ?_⟩
    have e : inV (.str (axS b)) [.str "east", .str "north"] = true := by cases b <;> decide +kernel
    rw [e]
    exact k
theorem sc_is_parts : FnScope ["value"] ["value"] (defScope s_is_parts) := ⟨rfl, rfl, rfl, by decide +kernel, rfl, by decide +kernel, by decide +kernel⟩
def spParts : Sp := fun vs H Q _ => ∃ n : Int, vs = [.int n] ∧ 2 ≤ n ∧ n ≤ 4 ∧ Q (.bl true) H
theorem ok_is_parts (F : FunD K "_is_parts" "_is_parts" (defArgs s_is_parts) (defBody s_is_parts) (defScope s_is_parts) [] [] f fd) (T : TB mg) (R : PlanT K mg C0 aX mc) {fis_int : Addr} {fdis_int : FuncData} (Dis_int : Gd P w K mg base "is_int" 1 ["value"] (spIsInt) fis_int fdis_int) : FnOk P w K mg base CX0 2 f fd ["value"] (spParts) := by
  refine F.ok sc_is_parts (fun vs H Q E h => ?_) (fun cdv A outer s H vs Q E hr h => ?_)
  · obtain ⟨n, rfl, h2, h4, k⟩ := h
    rfl
  · obtain ⟨n, rfl, h2, h4, k⟩ := h
    refine ⟨_, (pss_one (ps_ret (pe_and (pe_gd Dis_int hr (by decide) (by rfl) (pa_cons (pv 0) pa_nil)) (pe_one (pe_chain op_le op_le (pe_glob (v := .int 2) (by rfl) R.lP.choose_spec ⟨_, rfl⟩) (pv 0) (pe_glob (v := .int 4) (by rfl) R.mP.choose_spec ⟨_, rfl⟩)))))), ?_⟩
    refine ⟨_, rfl, n, rfl, true, rfl, iteT ?_⟩
    refine ⟨_, rfl, _, _, rfl, rfl, _, rfl, ite2 (fun _ => ?_) (fun hz => absurd (decide_eq_true h2) hz)⟩
    refine ⟨_, _, rfl, rfl, ?_⟩
    show Q (.bl (decide (n ≤ 4))) H
    rw [decide_eq_true h4]
    exact k
theorem sc_is_tuple_of : FnScope ["value", "many"] ["value", "many"] (defScope s_is_tuple_of) := ⟨rfl, rfl, rfl, by decide +kernel, rfl, by decide +kernel, by decide +kernel⟩
def spTupOf : Sp := fun vs H Q _ => ∃ (a : Addr) (xs : List V) (n : Int), vs = [.ref a, .int n] ∧ H a = some (.tup xs) ∧ ((xs.length : Nat) : Int) = n ∧ Q (.bl true) H
theorem ok_is_tuple_of (F : FunD K "is_tuple_of" "is_tuple_of" (defArgs s_is_tuple_of) (defBody s_is_tuple_of) (defScope s_is_tuple_of) [] [] f fd) (T : TB mg) : FnOk P w K mg base CX0 1 f fd ["value", "many"] (spTupOf) := by
  refine F.ok sc_is_tuple_of (fun vs H Q E h => ?_) (fun cdv A outer s H vs Q E hr h => ?_)
  · obtain ⟨a, xs, n, rfl, ha, hn, k⟩ := h
    rfl
  · obtain ⟨a, xs, n, rfl, ha, hn, k⟩ := h
    refine ⟨_, (pss_one (ps_ret (pe_and (pe_callB call_isi (by rfl) T.isinstance (by decide +kernel) (pa_cons (pv 0) (pa_cons (pe_bltn (v := .ty "tuple") (by rfl) T.tuple (by decide +kernel) rfl) pa_nil))) (pe_one (pe_cmpR op_eq (pe_callB call_len_seq (by rfl) T.len PySem.boot_len (pa_cons (pv 0) pa_nil)) (pv 1) (nomark _)))))), ?_⟩
    refine ⟨_, rfl, .ref a, _, _, _, true, rfl, .ty "tuple", .base (.tup ha), kit_ty (by decide +kernel), true, rfl, iteT ?_⟩
    refine ⟨_, rfl, a, _, rfl, .inr (SqT.of ha), _, rfl, rfl, ?_⟩
    rw [decide_eq_true (by rw [hn])]
    exact k
theorem sc_is_cut : FnScope ["value"] ["value"] (defScope s_is_cut) := ⟨rfl, rfl, rfl, by decide +kernel, rfl, by decide +kernel, by decide +kernel⟩
def spCut : Sp := fun vs H Q _ => ∃ (a : Addr) (c : Cut), vs = [.ref a] ∧ H a = some (.tup (cutV c)) ∧ okC c ∧ Q (.bl true) H
theorem ok_is_cut (F : FunD K "_is_cut" "_is_cut" (defArgs s_is_cut) (defBody s_is_cut) (defScope s_is_cut) [] [] f fd) (T : TB mg) {fis_tuple_of : Addr} {fdis_tuple_of : FuncData} (Dis_tuple_of : Gd P w K mg base "is_tuple_of" 1 ["value", "many"] (spTupOf) fis_tuple_of fdis_tuple_of) {fis_axis : Addr} {fdis_axis : FuncData} (Dis_axis : Gd P w K mg base "is_axis" 1 ["value"] (spAxis) fis_axis fdis_axis) {fis_parts : Addr} {fdis_parts : FuncData} (Dis_parts : Gd P w K mg base "_is_parts" 2 ["value"] (spParts) fis_parts fdis_parts) : FnOk P w K mg base CX0 3 f fd ["value"] (spCut) := by
  refine F.ok sc_is_cut (fun vs H Q E h => ?_) (fun cdv A outer s H vs Q E hr h => ?_)
  · obtain ⟨a, c, rfl, ha, hc, k⟩ := h
    rfl
  · obtain ⟨a, c, rfl, ha, hc, k⟩ := h
    refine ⟨_, (pss_cons (ps_if (pt_not (pt_val (pe_gd Dis_tuple_of hr (by decide) (by rfl) (pa_cons (pv 0) (pa_cons pe_int pa_nil))))) (pss_one (ps_ret pe_bl)) pss_nil)
      (pss_one (ps_ret (pe_and (pe_gd Dis_axis hr (by decide) (by rfl) (pa_cons (pe_ix ix_seq (pv 0) pe_int (fun _ _ => rfl)) pa_nil)) (pe_one (pe_gd Dis_parts hr (by decide) (by rfl) (pa_cons (pe_ix ix_seq (pv 0) pe_int (fun _ _ => rfl)) pa_nil))))))), ?_⟩
    refine ⟨_, rfl, a, _, 2, rfl, ha, rfl, _, rfl, iteF ?_⟩
    refine ⟨_, rfl, .inr (.inl ⟨a, _, 0, _, rfl, rfl, SqT.of ha, rfl, c.1, rfl, true, rfl, iteT ?_⟩)⟩
    exact ⟨_, rfl, .inr (.inl ⟨a, _, 1, _, rfl, rfl, SqT.of ha, rfl, (c.2 : Int), rfl, by have := hc.1; omega, by have := hc.2; omega, k⟩)⟩
theorem sc_is_list : FnScope ["value"] ["value"] (defScope s_is_list) := ⟨rfl, rfl, rfl, by decide +kernel, rfl, by decide +kernel, by decide +kernel⟩
theorem tyx_seq {K : PySem.W.Frag} {H : Hp} {l : Addr} {xs : List V} (h : SqA K H l xs) : ∃ t, TyX K H (.ref l) (.type t) ∧ (t = "list" ∨ t = "tuple") := by
  rcases h with h | h
  · refine ⟨"list", ?_, .inl rfl⟩
    rcases h with (h | ⟨o, h⟩) | ⟨o, its, n, hk, hc, _⟩
    · exact .base (.lst h)
    · exact .base (.frz h)
    · exact .kList hk hc
  · refine ⟨"tuple", ?_, .inr rfl⟩
    rcases h with (h | ⟨o, h⟩) | ⟨o, its, n, hk, hc, _⟩
    · exact .base (.tup h)
    · exact .fTuple h
    · exact .kTuple hk hc
theorem sq_ext {K : PySem.W.Frag} {H H' : Hp} {l : Addr} {xs : List V} (h : SqA K H l xs) (e : Ext H H') : SqA K H' l xs := by
  rcases h with h | h
  · exact .inl (h.ext e)
  · rcases h with (h | ⟨o, h⟩) | h
    · exact .inr (.inl (.inl (e _ _ h)))
    · exact .inr (.inl (.inr ⟨o, e _ _ h⟩))
    · exact .inr (.inr h)
theorem kit_lt {K : PySem.W.Frag} {t : String} (h : t = "list" ∨ t = "tuple") : PySem.W.kitAny K (.type t) [.type "list", .type "tuple"] = some true := by
  rcases h with rfl | rfl
  · exact kitAny_cons (b := true) (kit_ty (by decide +kernel)) (fun z => nomatch z) (fun _ => rfl)
  · exact kitAny_cons (b := false) (kit_ty (by decide +kernel)) (fun _ => kitAny_cons (b := true) (kit_ty (by decide +kernel)) (fun z => nomatch z) (fun _ => rfl)) (fun z => nomatch z)
theorem ext_put {H H' : Hp} {D : Addr} {o : HO} (e : Ext H H') (h : H D = none) : Ext H (upd H' D o) := fun a u z => by
  rw [upd_ne (ne_of_none z h)]
  exact e _ _ z
theorem rep_put (i : Nat) (x : V) : List.replicate i x ++ [x] = List.replicate (i + 1) x := List.replicate_succ'.symm
theorem all_rep : ∀ n : Nat, (List.replicate n true).all id = true
  | 0 => rfl
  | n + 1 => by rw [List.replicate_succ, List.all_cons, all_rep n]; rfl
theorem lc_yes {σ : L2.St} {H : Hp} {T B : Hp → Prop} (h : T H) : tYes σ H (fun b H3 => if b = true then T H3 else B H3) := by
  show (if true = true then T H else B H)
  rw [if_pos (rfl : true = true)]
  exact h
theorem pd_len {α β : Type} {F : α → β → Prop} : ∀ {l : List α} {m : List β}, Paired F l m → l.length = m.length
  | _, _, .nil => rfl
  | _, _, .cons _ t => by rw [List.length_cons, List.length_cons, pd_len t]
theorem pd_get {α β : Type} {F : α → β → Prop} : ∀ {l : List α} {m : List β}, Paired F l m → ∀ (i : Nat) (a : α), l[i]? = some a → ∃ b, m[i]? = some b ∧ F a b
  | _, _, .nil, i, a, h => by simp at h
  | _, _, .cons r t, 0, a, h => ⟨_, rfl, by cases h; exact r⟩
  | _, _, .cons r t, i + 1, a, h => pd_get t i a h
theorem refs_get {α : Type} {F : Addr → α → Prop} {as : List Addr} {cs : List α} {i : Nat} {x : V} (p : Paired F as cs) (h : (as.map V.ref)[i]? = some x) : ∃ a, x = .ref a ∧ ∃ c, cs[i]? = some c ∧ F a c := by
  rw [List.getElem?_map] at h
  obtain ⟨a, ha, rfl⟩ := Option.map_eq_some_iff.mp h
  obtain ⟨c, h1, h2⟩ := pd_get p i a ha
  exact ⟨a, rfl, c, h1, h2⟩
/-- a round: a list or a tuple of cuts -/
def CutsAt (K : PySem.W.Frag) (H : Hp) (v : V) (cs : List Cut) : Prop := ∃ (l : Addr) (as : List Addr), v = .ref l ∧ SqA K H l (as.map V.ref) ∧ Paired (fun a c => H a = some (.tup (cutV c))) as cs
def spIsList (K : PySem.W.Frag) : Sp := fun vs H Q _ => ∃ (l : Addr) (xs : List V), vs = [.ref l] ∧ SqA K H l xs ∧ ∀ H', Ext H H' → Q (.bl true) H'
theorem ok_is_list (F : FunD K "is_list" "is_list" (defArgs s_is_list) (defBody s_is_list) (defScope s_is_list) [] [] f fd) (T : TB mg) : FnOk P w K mg base CX0 1 f fd ["value"] (spIsList K) := by
  refine F.ok sc_is_list (fun vs H Q E h => ?_) (fun cdv A outer s H vs Q E hr h => ?_)
  · obtain ⟨l, xs, rfl, hl, k⟩ := h
    rfl
  · obtain ⟨l, xs, rfl, hl, k⟩ := h
    refine ⟨_, (pss_one (ps_ret (pe_callB call_isiT (by rfl) T.isinstance (by decide +kernel) (pa_cons (pv 0) (pa_cons (pe_tup (pa_cons (pe_bltn (v := .ty "list") (by rfl) T.list (by decide +kernel) rfl) (pa_cons (pe_bltn (v := .ty "tuple") (by rfl) T.tuple (by decide +kernel) rfl) pa_nil))) pa_nil))))), ?_⟩
    refine ⟨_, rfl, (by show 2 ≤ sizeLine; decide), fun tp htp => ?_⟩
    have e1 : Ext H (upd H tp (.tup [.ty "list", .ty "tuple"])) := Ext.upd htp
    obtain ⟨t, ty, ht⟩ := tyx_seq (sq_ext hl e1)
    exact ⟨.ref l, tp, _, _, _, true, rfl, upd_same, .cons (.ty "list") (.cons (.ty "tuple") .nil), ty, kit_lt ht, k _ e1⟩
theorem sc_is_cuts : FnScope ["value", "cut"] ["value"] (defScope s_is_cuts) := ⟨rfl, rfl, rfl, by decide +kernel, rfl, by decide +kernel, by decide +kernel⟩
def spCuts (K : PySem.W.Frag) : Sp := fun vs H Q _ => ∃ (v : V) (cs : List Cut), vs = [v] ∧ CutsAt K H v cs ∧ 1 ≤ cs.length ∧ cs.length ≤ 5 ∧ (∀ c ∈ cs, okC c) ∧ ∀ H', Ext H H' → Q (.bl true) H'
theorem ok_is_cuts (F : FunD K "_is_cuts" "_is_cuts" (defArgs s_is_cuts) (defBody s_is_cuts) (defScope s_is_cuts) [] [] f fd) (T : TB mg) (R : PlanT K mg C0 aX mc) {fis_list : Addr} {fdis_list : FuncData} (Dis_list : Gd P w K mg base "is_list" 1 ["value"] (spIsList K) fis_list fdis_list) {fis_cut : Addr} {fdis_cut : FuncData} (Dis_cut : Gd P w K mg base "_is_cut" 3 ["value"] (spCut) fis_cut fdis_cut) : FnOk P w K mg base CX0 4 f fd ["value"] (spCuts K) := by
  refine F.ok sc_is_cuts (fun vs H Q E h => ?_) (fun cdv A outer s H vs Q E hr h => ?_)
  · obtain ⟨v, cs, rfl, hv, h1, h5, hc, k⟩ := h
    rfl
  · obtain ⟨v, cs, rfl, hv, h1, h5, hc, k⟩ := h
    refine ⟨_, (pss_cons (ps_if (PW.pt (pw_or (pt_not (pt_val (pe_gd Dis_list hr (by decide) (by rfl) (pa_cons (pv 0) pa_nil)))) (pw_or1 (pt_not (pt_chain op_le op_le pe_int (pe_callB call_len_seq (by rfl) T.len PySem.boot_len (pa_cons (pv 0) pa_nil)) (pe_cval (pe_glob (v := .ref C0) (by rfl) R.mgP rfl))))))) (pss_one (ps_ret pe_bl)) pss_nil)
      (pss_one (ps_ret (pe_callB (cr_all rfl) (by rfl) T.all (by decide +kernel) (pa_cons (pe_lc (own := [("cut", 1)]) (g := gName 1) (tt := tYes) rfl sc_is_cuts.nd (pi_seq (pv 0)) (blkOk_by (own := [("cut", 1)]) (N := ["value", "cut"]) (sc := defScope s_is_cuts) (by decide +kernel)) (fun _ _ _ _ _ => (pg_name (i := 1) sc_is_cuts.nd rfl (.inl rfl))) (fun _ _ _ _ _ => pts_nil) (fun _ _ _ _ _ => (pe_gd Dis_cut hr (by decide) (by rfl) (pa_cons (pv 1) pa_nil)))) pa_nil))))), ?_⟩
    obtain ⟨l, as, rfl, hl, hp⟩ := hv
    have hlen := pd_len hp
    refine ⟨_, rfl, l, _, rfl, hl, fun H1 e1 => ⟨_, rfl, iteF ?_⟩⟩
    have l5 : ((as.map V.ref).length : Int) = (cs.length : Int) := by rw [List.length_map, hlen]
    obtain ⟨uC, hC⟩ := R.cC
    refine ⟨_, rfl, l, _, rfl, sq_ext hl e1, _, _, rfl, rfl, _, rfl, ite2 (fun _ => ?_) (fun hz => absurd (decide_eq_true (by rw [l5]; omega)) hz)⟩
    refine ⟨C0, mc, _, uC, rfl, R.cr, hC, _, _, rfl, rfl, _, rfl, ite2 (fun hz => ?_) (fun _ => ?_)⟩
    · rw [l5] at hz
      have : ¬ ((cs.length : Int) ≤ 5) := by simpa using hz
      omega
    refine ⟨_, rfl, l, _, rfl, sq_ext hl e1, fun J S wj hS D hD => lc_walk wj (fun i H' => H' D = some (.lst (List.replicate i (.bl true))) ∧ Ext H1 H') ⟨upd_same, Ext.upd hD⟩ (fun _ _ p => hS _ p.2) ?_ ?_⟩
    · rintro i x H' hx ⟨hD', e⟩
      obtain ⟨a, ha, c, hci, hac⟩ := refs_get hp hx
      subst ha
      refine ⟨rfl, lc_yes ⟨_, rfl, a, c, rfl, e _ _ (e1 _ _ hac), hc c (List.mem_of_getElem? hci), ?_⟩⟩
      refine ⟨_, hD', ?_, ?_, ext_put e hD⟩
      · rw [List.length_replicate]
        have h6 := (List.getElem?_eq_some_iff.mp hci).1
        exact Nat.lt_of_lt_of_le h6 (Nat.le_trans h5 (by decide))
      · rw [upd_same, rep_put]
    · rintro H' ⟨hD', e⟩
      refine ⟨D, List.replicate cs.length true, rfl, SqL.of ?_, ?_⟩
      · rw [hD', List.map_replicate, List.length_map, hlen]
      · rw [all_rep]
        exact k H' (e1.trans e)
end
end Mc

set_option Elab.async false
set_option linter.all false
set_option maxRecDepth 100000
set_option maxHeartbeats 4000000
set_option exponentiation.threshold 20000
namespace Mc
open PySem PySem.Spec PyProof.Rows L2
/-! ### fractions, as Ratio keeps them -/
def dv (a b : Int) : Int := if b < 0 then -((Nat.gcd a.natAbs b.natAbs : Nat) : Int) else ((Nat.gcd a.natAbs b.natAbs : Nat) : Int)
def redN (a b : Int) : Int := a.fdiv (dv a b)
def redD (a b : Int) : Int := b.fdiv (dv a b)
def fl (n d : Int) : List (Str × V) := [("_top", .int n), ("_bottom", .int d)]
theorem fl_put (n d : Int) : putF "_bottom" (.int d) (putF "_top" (.int n) []) = fl n d := by
  show (if ("_top" : Str) = "_bottom" then _ else (("_top" : Str), V.int n) :: putF "_bottom" (V.int d) []) = fl n d
  rw [if_neg (by decide +kernel)]
  rfl
/-- a number n / d stands at p -/
def RatAt (R0 : Addr) (H : Hp) (p : Addr) (n d : Int) : Prop := ∃ dx, H p = some (.ins R0 dx (fl n d))
theorem RatAt.frm {R0 : Addr} {M : List Addr} {H H' : Hp} {p : Addr} {n d : Int} (h : RatAt R0 H p n d) (f : Frm M H H') (hp : p ∉ M) : RatAt R0 H' p n d := h.elim fun dx e => ⟨dx, f _ _ e hp⟩
theorem RatAt.ext {R0 : Addr} {H H' : Hp} {p : Addr} {n d : Int} (h : RatAt R0 H p n d) (f : Ext H H') : RatAt R0 H' p n d := h.elim fun dx e => ⟨dx, f _ _ e⟩
theorem fl_top (n d : Int) : (fl n d).lookup ("_top" : Str) = some (.int n) := rfl
theorem fl_bottom (n d : Int) : (fl n d).lookup ("_bottom" : Str) = some (.int d) := rfl
theorem dv_ne {a b : Int} (h : b ≠ 0) : dv a b ≠ 0 := by
  have hg0 : Nat.gcd a.natAbs b.natAbs ≠ 0 := fun z => h (by have := Nat.eq_zero_of_gcd_eq_zero_right z; omega)
  unfold dv
  split <;> omega
theorem dv_dvd (a b : Int) : dv a b ∣ a ∧ dv a b ∣ b := by
  have h1 : ((Nat.gcd a.natAbs b.natAbs : Nat) : Int) ∣ a := Int.ofNat_dvd_left.mpr (Nat.gcd_dvd_left _ _)
  have h2 : ((Nat.gcd a.natAbs b.natAbs : Nat) : Int) ∣ b := Int.ofNat_dvd_left.mpr (Nat.gcd_dvd_right _ _)
  unfold dv
  split
  · exact ⟨Int.neg_dvd.mpr h1, Int.neg_dvd.mpr h2⟩
  · exact ⟨h1, h2⟩
theorem red_mul {a b : Int} (h : b ≠ 0) : redN a b * dv a b = a ∧ redD a b * dv a b = b := by
  obtain ⟨h1, h2⟩ := dv_dvd a b
  exact ⟨Int.fdiv_mul_cancel h1, Int.fdiv_mul_cancel h2⟩
theorem dv_sign {a b : Int} (h : b ≠ 0) : (b < 0 ↔ dv a b < 0) := by
  have hg0 : Nat.gcd a.natAbs b.natAbs ≠ 0 := fun z => h (by have := Nat.eq_zero_of_gcd_eq_zero_right z; omega)
  unfold dv
  split <;> omega
theorem dv_pos {a b : Int} (h : 0 < b) : 0 < dv a b := by
  have h1 := dv_sign (a := a) (b := b) (by omega)
  have h2 := dv_ne (a := a) (b := b) (by omega)
  omega
theorem redD_pos {a b : Int} (h : b ≠ 0) : 0 < redD a b := by
  have e := (red_mul (a := a) h).2
  have s := dv_sign (a := a) h
  have n := dv_ne (a := a) h
  by_cases hb : b < 0
  · have hd := s.mp hb
    refine Int.not_le.mp fun z => ?_
    have := Int.mul_nonneg_of_nonpos_of_nonpos z (Int.le_of_lt hd)
    omega
  · have hd : 0 < dv a b := by omega
    refine Int.not_le.mp fun z => ?_
    have := Int.mul_nonpos_of_nonpos_of_nonneg z (Int.le_of_lt hd)
    omega
theorem dv_abs (a b : Int) : (dv a b).natAbs = Nat.gcd a.natAbs b.natAbs := by
  unfold dv
  split <;> omega
theorem red_gcd {a b : Int} (h : b ≠ 0) : Nat.gcd (redN a b).natAbs (redD a b).natAbs = 1 := by
  obtain ⟨e1, e2⟩ := red_mul (a := a) h
  have f1 := congrArg Int.natAbs e1
  have f2 := congrArg Int.natAbs e2
  rw [Int.natAbs_mul, dv_abs] at f1 f2
  have g0 : 0 < Nat.gcd a.natAbs b.natAbs := by
    have := dv_abs a b
    have := dv_ne (a := a) h
    omega
  have e : Nat.gcd ((redN a b).natAbs * Nat.gcd a.natAbs b.natAbs) ((redD a b).natAbs * Nat.gcd a.natAbs b.natAbs) = Nat.gcd a.natAbs b.natAbs := by rw [f1, f2]
  rw [Nat.gcd_mul_right] at e
  exact Nat.eq_of_mul_eq_mul_right g0 (by rw [e, Nat.one_mul])
theorem red_le (a b : Int) : (redN a b).natAbs ≤ a.natAbs ∧ (redD a b).natAbs ≤ b.natAbs := ⟨Int.natAbs_fdiv_le_natAbs _ _, Int.natAbs_fdiv_le_natAbs _ _⟩
/-- a fraction in lowest terms stays as it is -/
theorem red_low {n d : Int} (hd : 0 < d) (hg : Nat.gcd n.natAbs d.natAbs = 1) : redN n d = n ∧ redD n d = d := by
  have e : dv n d = 1 := by
    unfold dv
    rw [if_neg (by omega), hg]
    rfl
  unfold redN redD
  rw [e]
  exact ⟨Int.fdiv_one n, Int.fdiv_one d⟩
theorem red_one (n : Int) : redN n 1 = n ∧ redD n 1 = 1 := red_low (by decide) (by rw [show (1 : Int).natAbs = 1 from rfl, Nat.gcd_one_right])
theorem low_inj {n d n2 d2 : Int} (hd : 0 < d) (hd2 : 0 < d2) (hg : Nat.gcd n.natAbs d.natAbs = 1) (hg2 : Nat.gcd n2.natAbs d2.natAbs = 1) (e : n * d2 = n2 * d) : n = n2 ∧ d = d2 := by
  have en : n.natAbs * d2.natAbs = n2.natAbs * d.natAbs := by rw [← Int.natAbs_mul, ← Int.natAbs_mul, e]
  have h1 : d.natAbs ∣ d2.natAbs := by
    have : d.natAbs ∣ n.natAbs * d2.natAbs := ⟨n2.natAbs, by rw [en, Nat.mul_comm]⟩
    exact Nat.Coprime.dvd_of_dvd_mul_left (show Nat.Coprime d.natAbs n.natAbs from (Nat.gcd_comm _ _).trans hg) this
  have h2 : d2.natAbs ∣ d.natAbs := by
    have : d2.natAbs ∣ n2.natAbs * d.natAbs := ⟨n.natAbs, by rw [← en, Nat.mul_comm]⟩
    exact Nat.Coprime.dvd_of_dvd_mul_left (show Nat.Coprime d2.natAbs n2.natAbs from (Nat.gcd_comm _ _).trans hg2) this
  have h3 : d = d2 := by
    have := Nat.dvd_antisymm h1 h2
    omega
  subst h3
  exact ⟨Int.eq_of_mul_eq_mul_right (by omega) e, rfl⟩
theorem lt_mulp {x y m : Int} (h : 0 < m) : (x * m < y * m ↔ x < y) := ⟨fun z => Int.lt_of_mul_lt_mul_right z (Int.le_of_lt h), fun z => Int.mul_lt_mul_of_pos_right z h⟩
/-- a * d of two fractions, by their lowest terms -/
theorem red_cross {a b c d : Int} (hb : b ≠ 0) (hd : d ≠ 0) : a * d = redN a b * redD c d * (dv a b * dv c d) ∧ c * b = redN c d * redD a b * (dv a b * dv c d) := by
  obtain ⟨e1, e2⟩ := red_mul (a := a) hb
  obtain ⟨e3, e4⟩ := red_mul (a := c) hd
  constructor
  · rw [show a * d = (redN a b * dv a b) * (redD c d * dv c d) by rw [e1, e4]]
    simp only [Int.mul_comm, Int.mul_left_comm, Int.mul_assoc]
  · rw [show c * b = (redN c d * dv c d) * (redD a b * dv a b) by rw [e3, e2]]
    simp only [Int.mul_comm, Int.mul_left_comm, Int.mul_assoc]
theorem red_eq {a b c d : Int} (hb : b ≠ 0) (hd : d ≠ 0) : (redN a b = redN c d ∧ redD a b = redD c d) ↔ a * d = c * b := by
  obtain ⟨x1, x2⟩ := red_cross (a := a) (c := c) hb hd
  constructor
  · rintro ⟨h1, h2⟩
    rw [x1, x2, h1, h2]
  · intro h
    refine low_inj (redD_pos hb) (redD_pos hd) (red_gcd hb) (red_gcd hd) ?_
    refine Int.eq_of_mul_eq_mul_right (Int.mul_ne_zero (dv_ne (a := a) hb) (dv_ne (a := c) hd)) ?_
    rw [← x1, ← x2, h]
theorem red_lt {a b c d : Int} (hb : 0 < b) (hd : 0 < d) : (redN a b * redD c d < redN c d * redD a b) ↔ a * d < c * b := by
  obtain ⟨x1, x2⟩ := red_cross (a := a) (c := c) (b := b) (d := d) (by omega) (by omega)
  rw [x1, x2]
  exact (lt_mulp (Int.mul_pos (dv_pos hb) (dv_pos hd))).symm
theorem red_sgn {a b : Int} (hb : 0 < b) : (redN a b = 0 ↔ a = 0) ∧ (redN a b < 0 ↔ a < 0) := by
  have e := (red_mul (a := a) (b := b) (by omega)).1
  have p := dv_pos (a := a) hb
  constructor
  · constructor
    · intro h; rw [h, Int.zero_mul] at e; exact e.symm
    · intro h
      rw [h] at e ⊢
      rcases Int.mul_eq_zero.mp e with z | z
      · exact z
      · rw [h] at p; omega
  · have h := lt_mulp (x := redN a b) (y := 0) p
    rw [e, Int.zero_mul] at h
    exact h.symm
/-- the same fraction, however it is written -/
theorem red_congr {a b c d : Int} (hb : b ≠ 0) (hd : d ≠ 0) (e : a * d = c * b) : redN a b = redN c d ∧ redD a b = redD c d := (red_eq hb hd).mpr e
theorem red_mulR {a b c d : Int} (hb : 0 < b) (hd : 0 < d) : redN (redN a b * redN c d) (redD a b * redD c d) = redN (a * c) (b * d) ∧ redD (redN a b * redN c d) (redD a b * redD c d) = redD (a * c) (b * d) := by
  obtain ⟨e1, e2⟩ := red_mul (a := a) (b := b) (by omega)
  obtain ⟨e3, e4⟩ := red_mul (a := c) (b := d) (by omega)
  have p1 := redD_pos (a := a) (b := b) (by omega)
  have p2 := redD_pos (a := c) (b := d) (by omega)
  have q1 := Int.mul_pos p1 p2
  have q2 := Int.mul_pos hb hd
  refine red_congr (by omega) (by omega) ?_
  generalize redN a b = N1 at *
  generalize redD a b = D1 at *
  generalize redN c d = N2 at *
  generalize redD c d = D2 at *
  generalize dv a b = g1 at *
  generalize dv c d = g2 at *
  subst e1 e2 e3 e4
  simp only [Int.mul_comm, Int.mul_left_comm, Int.mul_assoc]
theorem red_overR {a b c d : Int} (hb : 0 < b) (hd : 0 < d) (hc : 0 < c) : redN (redN a b * redD c d) (redD a b * redN c d) = redN (a * d) (b * c) ∧ redD (redN a b * redD c d) (redD a b * redN c d) = redD (a * d) (b * c) := by
  obtain ⟨e1, e2⟩ := red_mul (a := a) (b := b) (by omega)
  obtain ⟨e3, e4⟩ := red_mul (a := c) (b := d) (by omega)
  have p1 := redD_pos (a := a) (b := b) (by omega)
  have s := red_sgn (a := c) hd
  have q1 := Int.mul_pos p1 (show 0 < redN c d by have := s.1; have := s.2; omega)
  have q2 := Int.mul_pos hb hc
  refine red_congr (by omega) (by omega) ?_
  generalize redN a b = N1 at *
  generalize redD a b = D1 at *
  generalize redN c d = N2 at *
  generalize redD c d = D2 at *
  generalize dv a b = g1 at *
  generalize dv c d = g2 at *
  subst e1 e2 e3 e4
  simp only [Int.mul_comm, Int.mul_left_comm, Int.mul_assoc]
theorem red_addR {a b c d : Int} (hb : 0 < b) (hd : 0 < d) : redN (redN a b * redD c d + redN c d * redD a b) (redD a b * redD c d) = redN (a * d + c * b) (b * d) ∧ redD (redN a b * redD c d + redN c d * redD a b) (redD a b * redD c d) = redD (a * d + c * b) (b * d) := by
  obtain ⟨e1, e2⟩ := red_mul (a := a) (b := b) (by omega)
  obtain ⟨e3, e4⟩ := red_mul (a := c) (b := d) (by omega)
  have p1 := redD_pos (a := a) (b := b) (by omega)
  have p2 := redD_pos (a := c) (b := d) (by omega)
  have q1 := Int.mul_pos p1 p2
  have q2 := Int.mul_pos hb hd
  refine red_congr (by omega) (by omega) ?_
  generalize redN a b = N1 at *
  generalize redD a b = D1 at *
  generalize redN c d = N2 at *
  generalize redD c d = D2 at *
  generalize dv a b = g1 at *
  generalize dv c d = g2 at *
  subst e1 e2 e3 e4
  simp only [Int.add_mul, Int.mul_add, Int.mul_comm, Int.mul_left_comm, Int.mul_assoc]
theorem red_subR {a b c d : Int} (hb : 0 < b) (hd : 0 < d) : redN (redN a b * redD c d - redN c d * redD a b) (redD a b * redD c d) = redN (a * d - c * b) (b * d) ∧ redD (redN a b * redD c d - redN c d * redD a b) (redD a b * redD c d) = redD (a * d - c * b) (b * d) := by
  obtain ⟨e1, e2⟩ := red_mul (a := a) (b := b) (by omega)
  obtain ⟨e3, e4⟩ := red_mul (a := c) (b := d) (by omega)
  have p1 := redD_pos (a := a) (b := b) (by omega)
  have p2 := redD_pos (a := c) (b := d) (by omega)
  have q1 := Int.mul_pos p1 p2
  have q2 := Int.mul_pos hb hd
  refine red_congr (by omega) (by omega) ?_
  generalize redN a b = N1 at *
  generalize redD a b = D1 at *
  generalize redN c d = N2 at *
  generalize redD c d = D2 at *
  generalize dv a b = g1 at *
  generalize dv c d = g2 at *
  subst e1 e2 e3 e4
  simp only [Int.sub_mul, Int.mul_sub, Int.mul_comm, Int.mul_left_comm, Int.mul_assoc]
/-! ### numbers as values: a / b stands at p -/
def RatV (R0 : Addr) (H : Hp) (p : Addr) (a b : Int) : Prop := 0 < b ∧ RatAt R0 H p (redN a b) (redD a b)
theorem RatV.ext {R0 : Addr} {H H' : Hp} {p : Addr} {a b : Int} (h : RatV R0 H p a b) (f : Ext H H') : RatV R0 H' p a b := ⟨h.1, h.2.ext f⟩
theorem RatV.frm {R0 : Addr} {M : List Addr} {H H' : Hp} {p : Addr} {a b : Int} (h : RatV R0 H p a b) (f : Frm M H H') (n : p ∉ M) : RatV R0 H' p a b := ⟨h.1, h.2.frm f n⟩
theorem RatV.cong {R0 : Addr} {H : Hp} {p : Addr} {a b c d : Int} (h : RatV R0 H p a b) (hd : 0 < d) (e : a * d = c * b) : RatV R0 H p c d := by
  have := red_congr (a := a) (b := b) (c := c) (d := d) (by have := h.1; omega) (by omega) e
  exact ⟨hd, by rw [← this.1, ← this.2]; exact h.2⟩
def NumV (R0 : Addr) (H : Hp) (x : V) (a b : Int) : Prop := (∃ p, x = .ref p ∧ RatV R0 H p a b) ∨ (x = .int a ∧ b = 1)
theorem NumV.ext {R0 : Addr} {H H' : Hp} {x : V} {a b : Int} (h : NumV R0 H x a b) (f : Ext H H') : NumV R0 H' x a b := h.imp (fun ⟨p, e, r⟩ => ⟨p, e, r.ext f⟩) id
theorem NumV.pos {R0 : Addr} {H : Hp} {x : V} {a b : Int} (h : NumV R0 H x a b) : 0 < b := by
  rcases h with ⟨p, e, r⟩ | ⟨_, e⟩
  · exact r.1
  · omega
end Mc

set_option Elab.async false
set_option linter.all false
set_option maxRecDepth 100000
set_option maxHeartbeats 4000000
namespace Mc
open PySem PySem.Spec PyProof.Rows L2
/-! ### operators of instances with own methods -/
/-- what the text says of a class with an own binary operator and its mate -/
structure OwnB (K : PySem.W.Frag) (C : Addr) (nm : String) (f : Addr) : Prop where
  at_ : PySem.W.findIn K (.ref C) (PySem.dunder nm) = some (some (.ref f))
  fn : PySem.W.isFn K (.ref f) = true
  sf : PySem.W.selfFirst K C = true
  r : ∃ g : Addr, PySem.W.findIn K (.ref C) (dunderR nm) = some (some (.ref g))
  i1 : ∃ fo, PySem.W.findIn K (.type "int") (PySem.dunder nm) = some fo
  i2 : ∃ ro, PySem.W.findIn K (.type "int") (dunderR nm) = some ro
  sub : PySem.W.subIn K (.type "int") (.ref C) = some false
section
variable {K : PySem.W.Frag} {C f g : Addr} {nm : String} {fo ro : Option Value}
theorem ownB_mk (a : PySem.W.findIn K (.ref C) (PySem.dunder nm) = some (some (.ref f))) (b : PySem.W.isFn K (.ref f) = true) (c : PySem.W.selfFirst K C = true) (d : PySem.W.findIn K (.ref C) (dunderR nm) = some (some (.ref g))) (e1 : PySem.W.findIn K (.type "int") (PySem.dunder nm) = some fo) (e2 : PySem.W.findIn K (.type "int") (dunderR nm) = some ro) (s : PySem.W.subIn K (.type "int") (.ref C) = some false) : OwnB K C nm f := ⟨a, b, c, ⟨_, d⟩, ⟨_, e1⟩, ⟨_, e2⟩, s⟩
end
section
variable {X : Cx} {C f : Addr} {k : Nat} {fd : FuncData} {ps : List Str} {sp : Sp} {op : Operator}
/-- x op y: x an instance of C, y one or an int -/
def rBinO (C : Addr) (sp : Sp) : R2 := fun x y H Q => ∃ a dx fs, x = .ref a ∧ H a = some (.ins C dx fs) ∧ ((∃ b dy gs, y = .ref b ∧ H b = some (.ins C dy gs)) ∨ ∃ n : Int, y = .int n) ∧ sp [x, y] H (fun v H' => ∃ q, v = .ref q ∧ Q (.ref q) H') E0
theorem op_binO (m : OwnB X.K C op.info.2 f) (F : FnOk X.prog X.w X.K X.mg X.base CX0 k f fd ps sp) (hb : Binds X.K fd ps []) (hr : Room k X.A) : OpR X (binaryOp op) (rBinO C sp) := by
  intro pins s σ H x y v u Q I rx ry h
  obtain ⟨a, dx, fs, rfl, ha, hy, q⟩ := h
  cases (show v = Value.ref a from rx)
  obtain ⟨mA, J, _⟩ := ins_get I.hok ha
  obtain ⟨od, J, _⟩ := J.look
  obtain ⟨mm, hF⟩ := I.fr
  have go : wpAny (model X.prog X.w) X.A (call (.ref f) [.ref a, u]) (PySem.W.CmpBack (EP X pins σ Q)) X.xe s := by
    refine wpAny_mono (run_own (vs := [V.ref a, y]) (us := [Value.ref a, u]) F hb hr rfl I (.cons rfl (.cons ry .nil)) q) (fun z s' hz => ?_) fun _ _ z => z
    obtain ⟨v', H', I', r', q2, rfl, q'⟩ := hz
    cases (show z = Value.ref q2 from r')
    exact ⟨.ref q2, H', I', rfl, q'⟩
  obtain ⟨g, hg⟩ := m.r
  obtain ⟨fo, h1⟩ := m.i1
  obtain ⟨ro, h2⟩ := m.i2
  rcases hy with ⟨b, dy, gs, rfl, hb'⟩ | ⟨n, rfl⟩
  · cases (show u = Value.ref b from ry)
    obtain ⟨mB, J2, _⟩ := ins_get I.hok hb'
    obtain ⟨od2, J2, _⟩ := J2.look
    exact PySem.W.binop_K hF I.ok.mod.kin J J2.type m.sf m.at_ m.fn go
  · obtain ⟨tk, rfl⟩ := (show ∃ tk, u = Value.int n tk from ry)
    exact PySem.W.ksp_binT (T := "int") hF I.ok.mod.kin J rfl m.sf m.at_ m.fn hg (.inr ⟨g, rfl⟩) h1 h2 m.sub go
/-- -x -/
def rNegO (C : Addr) (sp : Sp) : V → Hp → VK → Prop := fun x H Q => ∃ a dx fs, x = .ref a ∧ H a = some (.ins C dx fs) ∧ sp [x] H Q E0
end
end Mc

set_option Elab.async false
set_option linter.all false
set_option maxRecDepth 100000
set_option maxHeartbeats 4000000
namespace Mc
open PySem PySem.Spec PyProof.Rows L2
open AutoSeq1 (wpAny_loadPart')
/-! ### enumerate of a tuple -/
abbrev tupIt (l : Addr) : Obj := { cls := .type "tuple_iterator", data := .fields #[.ref l, .int 0 0] }
abbrev enO (it : Addr) : Obj := { cls := .type "enumerate", data := .fields #[.none, .bool false, .ref it, rawInt 0, .none, .none] }
theorem meets_enumT (l : Addr) (xs : Array Value) (n : Nat) (dd : Option Addr) (sl : Array (Option Value)) :
    Meets (Builtin.«enumerate.__new__» ⟨[.type "enumerate", .ref l], []⟩) (fun _ R s => s.heap.get? l = some { cls := .type "tuple", dict := dd, data := .seq xs n, slots := sl } ∧
      R (.ok (.ret (.ref (s.heap.push (tupIt l)).objs.size))) { s with heap := (s.heap.push (tupIt l)).push (enO s.heap.objs.size) }) :=
  .of_wp fun prog w A R s z => by
    obtain ⟨hp, gg, dr, tk, o2⟩ := s
    obtain ⟨hl, fin⟩ := z
    have sub := sub_enumerate
    have isT : Heap.IsTuple (Shared.heap ⟨hp, gg, dr, tk, o2⟩) l xs := ⟨_, hl, rfl, n, rfl⟩
    wp_walk using wpAny_loadPart' hl
    refine wpAny_stack_any fun st => wpAny_pure ?_
    split
    · rename_i c _ _ _ _ _
      cases (c == Value.type "enumerate") <;> (wp_walk using wpAny_loadPart' hl, wpAny_pyIter_tuple isT; exact ⟨_, rfl, fin⟩)
    · wp_walk using wpAny_loadPart' hl, wpAny_pyIter_tuple isT
      exact ⟨_, rfl, fin⟩
theorem call_enumT {prog : Program} {w : World} {A : Around} {E : Value → Shared → Prop} {s : Shared} {l : Addr} {xs : Array Value} {Q : Value → Shared → Prop} (isT : s.heap.IsTuple l xs)
    (h : ∀ h2, IsEnum h2 (s.heap.objs.size + 1) s.heap.objs.size 0 .none → h2.IsTupleIter s.heap.objs.size l 0 → (∀ b o, s.heap.get? b = some o → h2.get? b = some o) → Q (.ref (s.heap.objs.size + 1)) { s with heap := h2 }) : wpAny (model prog w) A (call (.type "enumerate") [.ref l]) Q E s := by
  obtain ⟨⟨c, dd, dt, sl⟩, hl, rfl, n, rfl⟩ := isT
  have sz : (s.heap.push (tupIt l)).objs.size = s.heap.objs.size + 1 := Heap.size_push ..
  have at2 := Heap.get?_push_size (s.heap.push (tupIt l)) (o := enO s.heap.objs.size) rfl
  rw [sz] at at2
  refine callType_new F.called_enumerate (by decide) (F.typeCall_enumerate_1 _) (F.newCall_enumerate_1 _) (fun obj => F.args_object_init_2 obj _) F.entry_enumerate_new (meets_enumT l xs n dd sl) ⟨hl, ?_⟩
  rw [sz]
  exact ⟨⟨_, at2, rfl⟩, h _ at2 ⟨_, Heap.get?_push_of_some _ (Heap.get?_push_size _ rfl), rfl, rfl⟩ fun b o x => Heap.get?_push_of_some _ (Heap.get?_push_of_some _ x)⟩
/-- the tuple at a, each item in a new pair -/
def IteT (K : PySem.W.Frag) (a : Addr) : It where
  go i H := ∃ (xs : List V) (x : V), SqT K H a xs ∧ xs[i]? = some x
  yld i H v H' := ∃ T x, v = .ref T ∧ H T = none ∧ H' = upd H T (.tup [.int (i : Nat), x]) ∧ ∀ xs, SqT K H a xs → xs[i]? = some x
  stop i H := ∃ xs : List V, SqT K H a xs ∧ xs.length ≤ i
theorem draws_end {prog : Program} {w : World} {A : Around} (hh : A.handled = none) (it t : Addr) (ne : t ≠ it) (xs : Array Value) {i : Nat} (no : xs[i]? = none) : Draws prog w A it [it, t] i (fun _ _ => True) (fun j h => j = i ∧ h.IsTupleIter it t i ∧ h.IsTuple t xs) where
  live j h st := by
    obtain ⟨o, ho, _⟩ := st.2.1
    exact ⟨o, ho⟩
  frame j h h2 st k := ⟨st.1, st.2.1.at fun o e => k it List.mem_cons_self o e, st.2.2.at fun o e => k t (List.mem_cons_of_mem _ List.mem_cons_self) o e⟩
  item j s Q E lt st _ := absurd st.1 (Nat.ne_of_lt lt)
  done s Q E st fin := wpAny_nextOf_tuple_end hh st.2.1 st.2.2 no fin
theorem turn_enumT {P : Program} {w : World} {K : PySem.W.Frag} {elts : List Expr} {kk : Nat} {tpos : Pos} (a e it : Addr) (hai : a ≠ it) (hea : e ≠ a) :
    Turn P w K (.Tuple elts kk tpos) (IteT K a) [e, it] e (fun i h => (∃ old, IsEnum h e it ((i : Nat) : Int) old) ∧ h.IsTupleIter it a i ∧ e ≠ it) where
  mem := List.mem_cons_self
  obj i h st b hb := by
    obtain ⟨⟨old, he⟩, ⟨o, ho, hc, hd⟩, _⟩ := st
    rcases List.mem_cons.mp hb with rfl | hb
    · exact ⟨_, he, fun v q => nomatch q⟩
    · rw [List.mem_singleton.mp hb]
      exact ⟨o, ho, fun v q => by rw [hd] at q; cases q⟩
  keep i h h2 st k := by
    obtain ⟨⟨old, he⟩, hi, ne⟩ := st
    exact ⟨⟨old, k e List.mem_cons_self _ he⟩, hi.at fun o q => k it (List.mem_cons_of_mem _ List.mem_cons_self) o q, ne⟩
  item := by
    intro X hP hw hK hc i pins s σ H E I hf st hg
    subst hP hw hK
    obtain ⟨⟨old, he⟩, hit, ne⟩ := st
    obtain ⟨xs, x, hq, hx⟩ := hg
    obtain ⟨its, rv, p, hz⟩ := I.tuple hq
    obtain ⟨u, hu, ru⟩ := rv.get hx
    have isT : s.heap.IsTuple a its.toArray := p
    have le : e < s.heap.objs.size := Heap.lt_size he
    have li : it < s.heap.objs.size := by
      obtain ⟨_, q, _⟩ := hit
      exact Heap.lt_size q
    have lt : i < its.toArray.size := by
      have := (List.getElem?_eq_some_iff.mp hu).1
      simpa using this
    refine wpAny_pyNext_enum_itemD (Draws.tuple (A := X.A.in1) (I.ok.hd hc) it a hai its.toArray) he ⟨hit, isT⟩ lt ne (by simp [ne, hea]) fun v h2 tk hv ho st2 hT hs2 hk => ?_
    obtain rfl : u = v := by
      have hv' : its[i]? = some v := by simpa using hv
      rw [hu] at hv'
      exact Option.some.inj hv'
    refine ⟨_, rfl, wpAny_letOwnedTupleGo_enum (s := { s with heap := h2, toks := tk + 1 }) ho fun h3 he3 sb => ?_⟩
    have hT3 : h3.get? s.heap.objs.size = some { cls := .type "tuple", data := .seq #[.int i tk, u] } := (sb.2 _ (Nat.ne_of_gt le)).trans hT
    have new : ObjOk X.prog X.w (upd H s.heap.objs.size (.tup [.int (i : Nat), x])) h3 s.heap.objs.size (.tup [.int (i : Nat), x]) :=
      ⟨(by show 2 ≤ sizeLine; decide), [.int i tk, u], .cons ⟨_, rfl⟩ (.cons ru .nil), ⟨_, hT3, rfl, _, rfl⟩⟩
    have J : Inv X pins σ (upd H s.heap.objs.size (.tup [.int (i : Nat), x])) { s with heap := h3, toks := tk + 1 } := I.turnedNew (ch := [e, it]) (fun b ob hb q => (sb.2 b (fun z => hb (by simp [z]))).trans (hk b ob (fun z => hb (by simp [z])) (fun z => hb (by simp [z])) q)) hf (Nat.le_refl _) new
    refine ⟨.ref s.heap.objs.size, _, J, rfl, ⟨_, x, rfl, I.hok.fresh (Nat.le_refl _), rfl, fun ys hy => by rw [I.tuple_inj hy hq]; exact hx⟩, ⟨⟨u, ?_⟩, st2.1.at fun o q => (sb.2 it (Ne.symm ne)).trans q, ne⟩, fun b hb => ?_⟩
    · rw [show ((i + 1 : Nat) : Int) = (i : Int) + 1 by omega]
      exact he3
    · have lb : b < s.heap.objs.size := by
        rcases List.mem_cons.mp hb with rfl | hb2
        · exact le
        · rw [List.mem_singleton.mp hb2]
          exact li
      rw [upd_ne (Nat.ne_of_lt lb)]
      exact (hf b hb).1
  done := by
    intro X hP hw hK hc i pins s σ H E I hf st hg
    subst hP hw hK
    obtain ⟨⟨old, he⟩, hit, ne⟩ := st
    obtain ⟨xs, hq, hx⟩ := hg
    obtain ⟨its, rv, p, hz⟩ := I.tuple hq
    have isT : s.heap.IsTuple a its.toArray := p
    obtain ⟨f0, f1, f2, f3, f4, f5⟩ := hf it (List.mem_cons_of_mem _ List.mem_cons_self)
    have ln := rv.length
    have no : its.toArray[i]? = none := by
      rw [List.getElem?_toArray]
      exact List.getElem?_eq_none (by omega)
    exact wpAny_pyNext_enum_endD (draws_end (A := X.A.in1) (I.ok.hd hc) it a hai its.toArray no) he ⟨rfl, hit, isT⟩ fun h2 eb => ⟨rfl, I.turned (t' := s.toks) (fun b o hb q => eb b o hb q) f0 f1 f3 f4 f5⟩
  self A i s Q E st h := by
    obtain ⟨⟨_, he⟩, _⟩ := st
    exact wpAny_pyIter_enum he h
def iEnumT (K : PySem.W.Frag) (ta : TA) : TI := fun σ H R => ta σ H fun vs H1 => ∃ a xs, vs = [.ref a] ∧ SqT K H1 a xs ∧ R (IteT K a) H1
theorem pi_enumT {X : Cx} {e : Expr} {ta : TA} {p pos tpos : Pos} {elts : List Expr} {kk : Nat} (hg : Gl X "enumerate") (hm : X.mg "enumerate" = none) (ha : PA X [e] ta) (hs : starEach [e] X.env = [(false, eval e X.env)] := by rfl) :
    PI X (.Tuple elts kk tpos) (.Call (.Name "enumerate" p) [e] [] pos) (iEnumT X.K ta) := by
  constructor
  intro pins s σ H R I h
  refine Call_ (ld_blt I hg hm boot_enumerate (PyProof.Rows.callWith_type1 (thn (ha.run pos pins s σ H _ I h) ?_) hs rfl))
  rintro us s1 ⟨vs, H1, I1, r1, a, xs, rfl, hq, q⟩
  rw [Vals.ref1 r1]
  obtain ⟨its, rv, pt, hz⟩ := I1.tuple hq
  have isT : s1.heap.IsTuple a its.toArray := pt
  have la : a < s1.heap.objs.size := by
    obtain ⟨o, ho, _⟩ := isT
    exact Heap.lt_size ho
  refine call_enumT isT fun h2 he hit hk => wpAny_pyIter_enum he ?_
  refine ⟨s1.heap.objs.size + 1, [s1.heap.objs.size + 1, s1.heap.objs.size], _, _, H1, rfl, I1.kept (t' := s1.toks) hk, turn_enumT a (s1.heap.objs.size + 1) s1.heap.objs.size (Nat.ne_of_lt la) (Nat.ne_of_gt (Nat.lt_succ_of_lt la)), ⟨⟨.none, he⟩, hit, Nat.succ_ne_self _⟩, fun b hb => ?_, q⟩
  have le : s1.heap.objs.size ≤ b := by
    rcases List.mem_cons.mp hb with rfl | hb2
    · exact Nat.le_succ _
    · rw [List.mem_singleton.mp hb2]
      exact Nat.le_refl _
  exact I1.fpOk le (I1.hok.fresh le)
/-- the turns of it: x at place i, in a new pair -/
theorem for_enumT {K : PySem.W.Frag} {a : Addr} {xs : List V} {g : TG} {tb : TS} {E : Ends} {σ : L2.St} {H : Hp} (Pv : Nat → L2.St → Hp → Prop) (h0 : Pv 0 σ H) (hS : ∀ i σ H, Pv i σ H → SqT K H a xs)
    (hs : ∀ i x T σ H, xs[i]? = some x → H T = none → Pv i σ H → g (.ref T) σ (upd H T (.tup [.int (i : Nat), x])) fun σ2 H2 => tb { E with nx := Pv (i + 1), ct := Pv (i + 1), bk := E.nx } σ2 H2) (hd : ∀ σ H, Pv xs.length σ H → E.nx σ H) : ∃ W : Nat → Nat → L2.St → Hp → Prop, (∃ m, W 0 m σ H) ∧ ∀ i m σ H, W i m σ H →
      ((IteT K a).stop i H ∧ E.nx σ H) ∨ ((IteT K a).go i H ∧ ∃ N : L2.St → Hp → Prop, (∀ σ' H', N σ' H' → ∃ m', m' < m ∧ W (i + 1) m' σ' H') ∧ ∀ x H', (IteT K a).yld i H x H' → g x σ H' fun σ2 H2 => tb { E with nx := N, ct := N, bk := E.nx } σ2 H2) := by
  refine ⟨fun i m σ H => i + m = xs.length ∧ Pv i σ H, ⟨xs.length, Nat.zero_add _, h0⟩, fun i m σ H ⟨hm, p⟩ => ?_⟩
  rcases Nat.eq_zero_or_pos m with z | z
  · have e : i = xs.length := by omega
    exact .inl ⟨⟨xs, hS i σ H p, Nat.le_of_eq e.symm⟩, hd σ H (e ▸ p)⟩
  · have lt : i < xs.length := by omega
    refine .inr ⟨⟨xs, xs[i], hS i σ H p, List.getElem?_eq_getElem lt⟩, Pv (i + 1), fun _ _ q => ⟨m - 1, by omega, by omega, q⟩, ?_⟩
    rintro v H' ⟨T, x, rfl, hT, rfl, hx⟩
    exact hs i x T σ H (hx xs (hS i σ H p)) hT p
end Mc

set_option Elab.async false
set_option linter.all false
set_option maxRecDepth 100000
set_option maxHeartbeats 4000000
namespace Mc
open PySem PySem.Spec PyProof.Rows L2
/-! ### what the top has made, def by def -/
/-- a def of the text: no default -/
abbrev FD (K : PySem.W.Frag) (x qual : Str) (st : Stmt) (f : Addr) (fd : FuncData) : Prop := FunD K x qual (defArgs st) (defBody st) (defScope st) [] [] f fd
abbrev FD1 (K : PySem.W.Frag) (x qual : Str) (st : Stmt) (f : Addr) (fd : FuncData) : Prop := FunD K x qual (defArgs st) (defBody st) (defScope st) [.int 1] [] f fd
def GloD (K : PySem.W.Frag) (x : Str) (st : Stmt) : Prop := ∃ f fd, PySem.W.nsIn K mainGlobals x = some (some (.ref f)) ∧ FD K x x st f fd
def MetD (K : PySem.W.Frag) (C : Addr) (x qual : Str) (st : Stmt) : Prop := ∃ f fd, Meth K C x f ∧ FD K x qual st f fd
def PrpD (K : PySem.W.Frag) (C : Addr) (x qual : Str) (st : Stmt) : Prop := ∃ p f fd, PropOf K C x p f ∧ FD K x qual st f fd
def StaD (K : PySem.W.Frag) (C : Addr) (mc : Value) (x qual : Str) (st : Stmt) : Prop := ∃ p f fd, SMet K C mc x p f ∧ FD K x qual st f fd
def IniD (K : PySem.W.Frag) (C : Addr) (qual : Str) (st : Stmt) : Prop := ∃ f fd, Mk K C f ∧ FD1 K "__init__" qual st f fd
section
variable {K : PySem.W.Frag} {C f p : Addr} {mc : Value} {x qual : Str} {st : Stmt} {od an : Option Addr} {sl : Array (Option Value)} {oc dV kV dc pm cd ct : Value} {rest : List Value}
theorem fd_mk (l : K.lookup f = some ⟨oc, od, .func (PySem.W.fnOf x qual (defArgs st) (defBody st) (defScope st) .none kV dc pm an cd ct), sl⟩) (c : PySem.W.codeIn K cd qual = true) (k : PySem.W.keepIn K (.ref f) = true) :
    FD K x qual st f (PySem.W.fnOf x qual (defArgs st) (defBody st) (defScope st) .none kV dc pm an cd ct) :=
  ⟨⟨oc, od, .none, kV, dc, pm, an, cd, ct, sl, rfl, l, c, .inl ⟨rfl, rfl⟩, .inl rfl⟩, k⟩
theorem md_mk {mg : Str → Option Value} {t : Tok} {n : Int} {y : Str} (h : mg y = some (.int n t)) : ∃ t, mg y = some (.int n t) := ⟨t, h⟩
theorem glo_mk (a : PySem.W.nsIn K mainGlobals x = some (some (.ref f))) (l : K.lookup f = some ⟨oc, od, .func (PySem.W.fnOf x x (defArgs st) (defBody st) (defScope st) .none kV dc pm an cd ct), sl⟩) (c : PySem.W.codeIn K cd x = true) (k : PySem.W.keepIn K (.ref f) = true) : GloD K x st :=
  ⟨f, _, a, fd_mk l c k⟩
theorem met_mk (a : PySem.W.findIn K (.ref C) x = some (some (.ref f))) (i : PySem.W.isFn K (.ref f) = true) (l : K.lookup f = some ⟨oc, od, .func (PySem.W.fnOf x qual (defArgs st) (defBody st) (defScope st) .none kV dc pm an cd ct), sl⟩) (c : PySem.W.codeIn K cd qual = true) (k : PySem.W.keepIn K (.ref f) = true) : MetD K C x qual st :=
  ⟨f, _, ⟨a, i, k⟩, fd_mk l c k⟩
theorem prp_mk (a : PySem.W.findIn K (.ref C) x = some (some (.ref p))) (g : PySem.W.specialIn K (.ref p) "__get__" = some (some (.builtin "property.__get__"))) (t : PySem.W.takesIn K (.ref p) = some true) (r : PySem.W.recIn K p "property" = some (.ref f :: rest))
    (l : K.lookup f = some ⟨oc, od, .func (PySem.W.fnOf x qual (defArgs st) (defBody st) (defScope st) .none kV dc pm an cd ct), sl⟩) (c : PySem.W.codeIn K cd qual = true) (k : PySem.W.keepIn K (.ref f) = true) : PrpD K C x qual st :=
  ⟨p, f, _, ⟨a, g, t, ⟨_, r⟩⟩, fd_mk l c k⟩
theorem sta_mk (a : PySem.W.findCls K (.ref C) mc x = some (.get (.builtin "staticmethod.__get__") (.ref p) .none (.ref C))) (r : PySem.W.recIn K p "staticmethod" = some (.ref f :: rest))
    (l : K.lookup f = some ⟨oc, od, .func (PySem.W.fnOf x qual (defArgs st) (defBody st) (defScope st) .none kV dc pm an cd ct), sl⟩) (c : PySem.W.codeIn K cd qual = true) (k : PySem.W.keepIn K (.ref f) = true) : StaD K C mc x qual st :=
  ⟨p, f, _, ⟨a, ⟨_, r⟩, k⟩, fd_mk l c k⟩
theorem ini_mk {T : Addr} {to : Obj} {it : Value} {n : Nat} (m : PySem.W.makesIn K C = true) (a : PySem.W.findIn K (.ref C) "__init__" = some (some (.ref f))) (i : PySem.W.isFn K (.ref f) = true) (kc : PySem.W.keepIn K (.ref C) = true)
    (l : K.lookup f = some ⟨oc, od, .func (PySem.W.fnOf "__init__" qual (defArgs st) (defBody st) (defScope st) (.ref T) kV dc pm an cd ct), sl⟩) (lt : K.lookup T = some to) (ht : to.data = .seq #[it] n) (hi : RelV (.int 1) it) (c : PySem.W.codeIn K cd qual = true) (k : PySem.W.keepIn K (.ref f) = true) : IniD K C qual st :=
  ⟨f, _, ⟨m, a, i, kc⟩, ⟨⟨oc, od, .ref T, kV, dc, pm, an, cd, ct, sl, rfl, l, c, .inr ⟨by simp, T, to, [it], n, rfl, lt, ht, .cons hi .nil⟩, .inl rfl⟩, k⟩⟩
end
section
variable {K : PySem.W.Frag} {x qual : Str} {st : Stmt} {f : Addr} {fd : FuncData} {ps : List Str}
theorem FD.fun (F : FD K x qual st f fd) : L2.Fun K x qual st f fd := by
  obtain ⟨oc, od, dV, kV, doc, pm, an, c, ct, osl, e, lk, hc, hD, _⟩ := F.ex
  rcases hD with ⟨_, rfl⟩ | ⟨z, _⟩
  · exact ⟨⟨oc, od, kV, doc, pm, an, c, ct, osl, e, lk, hc⟩, F.kp⟩
  · exact absurd rfl z
theorem FD.kb (F : FD K x qual st f fd) (n : Nat) (ks : List Str) {g : List Value → List Value → List Value} {gV : List V → List V → List V}
    (h : ∀ (kV doc pm : Value) (an : Option Addr) (cdv ct : Value) (us ws : List Value), us.length = n → ws.length = ks.length → bindArgs (PySem.W.fnOf x qual (defArgs st) (defBody st) (defScope st) .none kV doc pm an cdv ct) ⟨us, ks.zip ws⟩ = pure (ps.zip (g us ws)))
    (rel : ∀ {vs : List V} {us : List Value} {zs : List V} {ws : List Value}, Vals vs us → Vals zs ws → Vals (gV vs zs) (g us ws)) : KBn K fd ps n ks g gV := by
  obtain ⟨oc, od, dV, kV, doc, pm, an, c, ct, osl, rfl, lk, hc, hD, _⟩ := F.ex
  rcases hD with ⟨_, rfl⟩ | ⟨z, _⟩
  · exact ⟨fun s us ws _ h1 h2 => .of_eq (h kV doc pm an c ct us ws h1 h2), rel⟩
  · exact absurd rfl z
end
/-! ### len of an instance with its own __len__ -/
section
variable {X : Cx} {C f : Addr} {k : Nat} {fd : FuncData} {ps : List Str} {sp : Sp}
def rLenO (C : Addr) (sp : Sp) : List V → Hp → VK → Prop := fun vs H Q => ∃ a dx fs, vs = [.ref a] ∧ H a = some (.ins C dx fs) ∧ sp vs H (fun v H' => ∃ n : Nat, v = .int n ∧ n < 2 ^ 63 ∧ Q (.int n) H') E0
theorem call_lenO (m : Meth X.K C "__len__" f) (F : FnOk X.prog X.w X.K X.mg X.base CX0 k f fd ps sp) (hb : Binds X.K fd ps []) (hr : Room (k + 1) X.A) : CallR X (.builtin "len") (rLenO C sp) := by
  intro pins s σ H vs us Q I r h
  obtain ⟨a, dx, fs, rfl, ha, q⟩ := h
  rw [Vals.ref1 r]
  obtain ⟨mA, J, _⟩ := ins_get I.hok ha
  obtain ⟨od, J, _⟩ := J.look
  obtain ⟨mm, hF⟩ := I.fr
  refine PySem.W.len_K hF I.ok.mod.kin J m.at_ m.fn ?_
  refine wpAny_mono (run_own (vs := [V.ref a]) (us := [Value.ref a]) F hb hr.in1 rfl I (.cons rfl .nil) q) (fun z s' hz => ?_) fun _ _ z => z
  obtain ⟨v', H', I', r', n, rfl, hn, q'⟩ := hz
  obtain ⟨tk, rfl⟩ := (show ∃ tk, z = Value.int n tk from r')
  exact ⟨⟨by omega, by omega⟩, .int n, H', I'.tok _, ⟨_, rfl⟩, q'⟩
end
end Mc

set_option Elab.async false
set_option linter.all false
set_option maxRecDepth 100000
set_option maxHeartbeats 4000000
namespace Mc
open PySem PySem.Spec PyProof.Rows L2
/-! ### repr of data at any depth (lists, tuples, texts, numbers), where no repr is under way -/
def rReprD (K : PySem.W.Frag) : List V → Hp → VK → Prop := fun vs H Q => ∃ (a : Addr) (d : PyData), vs = [.ref a] ∧ Dp K H (.ref a) d ∧ d.showable = true ∧ d.hasDict = false ∧ d.depth ≤ 64 ∧ d.shown.length ≤ sizeLine ∧ Q (.str d.shown) H
theorem call_reprD {X : Cx} {k : Nat} (hr : RoomG k X.A) : CallR X (.builtin "repr") (rReprD X.K) := by
  intro pins s σ H vs us Q I r h
  obtain ⟨a, d, rfl, hd, hs, hn, h64, hz, q⟩ := h
  obtain ⟨u, rfl, ru⟩ := vals1 r
  cases (show u = Value.ref a from ru)
  obtain ⟨as, rd⟩ := Dp.reads I d _ _ hd rfl
  have un := hr.room.un
  exact repr_of_reads' rd hs (PyData.noDict_hsm hn) hr.gs (by omega) (fun _ _ e => e) (fun h2 u tk hk => ⟨.str d.shown, H, I.kept hk, ⟨u, rfl⟩, q⟩) hz
theorem call_reprDK {X : Cx} {K : PySem.W.Frag} {k : Nat} (hr : RoomG k X.A) (hK : X.K = K) : CallR X (.builtin "repr") (rReprD K) := by
  subst hK
  exact call_reprD hr
end Mc

set_option Elab.async false
set_option linter.all false
set_option maxRecDepth 100000
set_option maxHeartbeats 4000000
namespace Mc
open PySem PySem.Spec PyProof.Rows L2
/-! ### rules with K said apart, keyword calls of plain defs, walks by a step, nested comprehensions -/
theorem call_lenK {X : Cx} {K : PySem.W.Frag} (hK : X.K = K) : CallR X (.builtin "len") (fun xs H Q => ∃ p ys, xs = [.ref p] ∧ (SqL K H p ys ∨ SqT K H p ys) ∧ Q (.int ys.length) H) := by
  subst hK
  exact call_len_seq
theorem pi_listK {X : Cx} {K : PySem.W.Frag} {tg l : Expr} {tl : TE} (hK : X.K = K) (hl : PE X l tl) : PI X tg l (iList K tl) := by
  subst hK
  exact pi_list hl
theorem walk_rc {lo c : Int} {n : Nat} : WalkJ (Itc lo c n) (fun _ => True) ((List.range n).map fun k => .int (lo + (k : Nat) * c)) where
  go i H _ h := by simpa [Itc] using h
  stop i H _ h := by simpa [Itc] using h
  yld i H x H' _ h y := by
    obtain ⟨rfl, rfl⟩ := y
    refine ⟨rfl, ?_⟩
    rw [List.length_map, List.length_range] at h
    rw [List.getElem?_map, List.getElem?_range h]
    rfl
def noFree (sc : Scope) : Bool := sc.names.all fun y => match y.2 with | .free => false | _ => true
theorem blkOk_free {N : List Str} {sc scope : Scope} {own : List (Str × Nat)} (h : (blkC N scope scope own && noFree scope) = true) : BlkOk N sc scope own := by
  obtain ⟨h1, h2⟩ := Bool.and_eq_true_iff.mp h
  have b := blkOk_by h1
  refine ⟨b.kind, b.uniq, b.ix, fun y hy e => ?_, b.own⟩
  have := List.all_eq_true.mp h2 y hy
  rw [e] at this
  cases this
/-- f(a=.., b=..) of a def of the module, no argument by its place -/
def tGdK (sp : Sp) (m : Nat) (gV : List V → List V → List V) (tk : TA) : TE := fun σ H Q => tk σ H fun zs H1 => zs.length = m ∧ sp (gV [] zs) H1 Q E0
section
variable {X : Cx} {x : Str} {k n : Nat} {ps ks : List Str} {sp : Sp} {f : Addr} {fd : FuncData} {p pos : Pos} {kws : List Keyword} {tk : TA} {g : List Value → List Value → List Value} {gV : List V → List V → List V}
theorem pe_gdK (D : Gd X.prog X.w X.K X.mg X.base x k ps sp f fd) (hb : KBn X.K fd ps 0 ks g gV) (hr : Room n X.A) (hk : k ≤ n) (hg : Gl X x) (hkw : PK X kws tk)
    (hall : (backToKw pos (keywordEach kws X.env)).all (·.1.isSome) = true := by rfl) (hks : (backToKw pos (keywordEach kws X.env)).filterMap (·.1) = ks := by rfl) (hdb : (x == ("__debug__" : Str)) = false := by decide)
    (hpl : ((backTo pos (starEach [] X.env)).any (·.1) || (backToKw pos (keywordEach kws X.env)).any (·.1.isNone)) = false := by rfl) : PE X (.Call (.Name x p) [] kws pos) (tGdK sp ks.length gV tk) := by
  refine ⟨fun pins s σ H Q I h => ?_⟩
  refine wpAny_Call_Name_kw (ld_glob I hg D.g ?_ hdb)
  refine PySem.W.callWith_KW0 (h₀ := X.base) (first := []) I.ok.mod.kin D.kp hall ?_ hpl
  refine thn (hkw.run pos pins s σ H _ I h) fun ws s3 ⟨zs, H2, I3, rz, l2, q2⟩ => ⟨I3.kIn, ?_⟩
  rw [hks]
  exact run_fnN (us := []) (vs := []) D.ok (hr.mono hk) hb pass0 I3 .nil rz rfl l2 q2
end
theorem cut_dropU (xs : List V) (n : Nat) : L2.cutV xs (some ((n : Nat) : Int)) Option.none = xs.drop n := by
  unfold L2.cutV
  rw [HT.sIx_none, HT.sIx_nat]
  by_cases h : n ≤ xs.length
  · rw [Nat.min_eq_left h, List.take_of_length_le (by rw [List.length_drop]; omega)]
  · rw [Nat.min_eq_right (by omega), List.drop_eq_nil_of_le (Nat.le_refl _), List.drop_eq_nil_of_le (by omega), List.take_nil]
end Mc
namespace Mc
open PySem PySem.Spec PyProof.Rows L2
/-- arguments by keywords, put into the parameters' order -/
def pm {α : Type} (ix : List Nat) (l : List α) : List α := ix.filterMap fun i => l[i]?
theorem pm_vals {zs : List V} {ws : List Value} (r : Vals zs ws) : ∀ ix : List Nat, Vals (pm ix zs) (pm ix ws)
  | [] => .nil
  | i :: ix => by
    have ih := pm_vals r ix
    unfold pm at ih ⊢
    rw [List.filterMap_cons, List.filterMap_cons]
    have l := r.length
    by_cases h : i < zs.length
    · obtain ⟨u, hu, ru⟩ := r.get (List.getElem?_eq_getElem h)
      rw [List.getElem?_eq_getElem h, hu]
      exact .cons ru ih
    · rw [List.getElem?_eq_none (by omega), List.getElem?_eq_none (by omega)]
      exact ih
end Mc
namespace Mc
open PySem PySem.Spec PyProof.Rows L2
/-- more built-in names that the module leaves as they are -/
structure TB2 (mg : Str → Option Value) : Prop where
  reversed : mg "reversed" = none
  sorted : mg "sorted" = none
  sum : mg "sum" = none
  set : mg "set" = none
  dict : mg "dict" = none
end Mc

set_option Elab.async false
set_option linter.all false
set_option maxRecDepth 100000
set_option maxHeartbeats 4000000
namespace Mc
open PySem PySem.Spec PyProof.Rows L2
def spLaw (K : PySem.W.Frag) : Sp := fun vs H Q _ => ∃ (l : Addr) (ns : List Int), vs = [.ref l] ∧ SqL K H l (ns.map V.int) ∧ ∀ H', Q (.bl true) H'
/-! ### the call of a law whose def asks that no repr is under way -/
section
variable {P : Program} {w : World} {K : PySem.W.Frag} {mg mb : Str → Option Value} {k : Nat} {fa a : Addr} {fd : FuncData} {x : Str} {sp : Sp} {s1 : Shared} {us : List Value} {ns : List Int}
/-- the script's object -/
abbrev scO (us : List Value) : Obj := { cls := .type "list", data := .seq us.toArray }
theorem envG {H : Hp} (KX : K.In s1.heap) (g1 : s1.heap.Ns mainGlobals mg) (g2 : s1.heap.Ns builtinsNs mb) (g3 : ∀ y : Str, y ≠ "__name__" → mb y = bootBuiltins y) (nl : s1.heap.NoLimit) (gn : s1.gens = #[]) (ea : s1.heap.get? a = some (scO us))
    (only : ∀ b, H b ≠ none → b = a ∧ K.lookup a = none) (ok : HOk P w H s1.heap) : K.In (hidT s1.heap H) ∧ (hidT s1.heap H).Ns mainGlobals mg ∧ Env0 P w K mg (hidT s1.heap H) callerA [] s1 H := by
  have seen : ∀ b o, s1.heap.get? b = some o → ¬ b = a → (hidT s1.heap H).get? b = some o := fun b o e n => hidT_get e (Classical.byContradiction fun z => n (only b z).1)
  have dicts : ∀ {b : Addr} {m : Str → Option Value}, s1.heap.Ns b m → (hidT s1.heap H).Ns b m := by
    rintro b m ⟨o, es, ep, e, d, r⟩
    refine ⟨o, es, ep, seen b o e fun z => ?_, d, r⟩
    rw [z, ea] at e
    rw [← Option.some.inj e] at d
    cases (show Data.seq us.toArray _ = Data.dict es ep from d)
  have inK : K.In (hidT s1.heap H) := fun b o e => by
    by_cases z : H b = none
    · exact hidT_get (KX b o e) z
    · obtain ⟨rfl, n⟩ := only b z
      rw [n] at e
      cases e
  obtain ⟨mc, n1, n2⟩ := nl
  exact ⟨inK, dicts g1, rfl, ⟨inK, dicts g1, ⟨mb, dicts g2, g3⟩, mc, dicts n1, n2⟩, fun b o e => of_hidT e, Nat.le_of_eq (hidT_size _ _), trivial, fun b m => (nomatch m), ok, .of_eq gn⟩
theorem callG (KX : K.In s1.heap) (g1 : s1.heap.Ns mainGlobals mg) (g2 : s1.heap.Ns builtinsNs mb) (g3 : ∀ y : Str, y ≠ "__name__" → mb y = bootBuiltins y) (nl : s1.heap.NoLimit) (gn : s1.gens = #[]) (ea : s1.heap.get? a = some (scO us)) (hi : IntsAre us ns) (hz : ns.length ≤ sizeLine) (hr : RoomG k callerA)
    (F : ∀ base : Heap, K.In base → base.Ns mainGlobals mg → FnOkG P w K mg base CX0 k fa fd [x] sp) (hb : ∀ (s : Shared) (u : Value), BindsTo s fd ⟨[u], []⟩ [(x, u)])
    (hsp : ∀ H : Hp, SqL K H a (ns.map V.int) → sp [.ref a] H (fun v _ => v = .bl true) fun _ _ _ => False) :
    codeAny (model P w) callerA (.call (.ref fa) ⟨[.ref a], []⟩) (fun r s' => r = .ok (.ret (.bool true)) ∧ OldK s1.heap s'.heap ∧ s'.os = s1.os ∧ AllBare s'.gens) s1 := by
  have rv : Vals (ns.map V.int) us := vals_ints hi
  have ln : us.length = ns.length := hi.length
  suffices go : ∃ H : Hp, SqL K H a (ns.map V.int) ∧ HOk P w H s1.heap ∧ (∀ b, H b ≠ none → b = a ∧ K.lookup a = none) ∧ ∀ b, H b ≠ none → ∃ o xs, H b = some (.frz o (.lst xs)) by
    obtain ⟨H, hS, ok, only, fz⟩ := go
    obtain ⟨k1, k2, env⟩ := envG KX g1 g2 g3 nl gn ea only ok
    refine codeAny_mono ((F _ k1 k2).run callerA [] s1 H ⟨[.ref a], []⟩ [.ref a] [.ref a] _ _ hr env (hb s1 _) (.cons rfl .nil) (hsp H hS)) fun r s2 e => ?_
    rcases r with e2 | fl
    · exact e.elim
    · cases fl with
      | ret u =>
        obtain ⟨v, H2, os, bare, un, ok2, r2, q⟩ := e
        subst q
        cases (show u = Value.bool true from r2)
        refine ⟨rfl, OldK.of_keep fun b o eo => ?_, os, bare⟩
        by_cases z : H b = none
        · exact un.keep b o eo z (fun m => (nomatch m)) (by simp)
        · obtain ⟨ob, xs, z2⟩ := fz b z
          have t1 := (ok b _ z2).1
          rw [eo] at t1
          rw [Option.some.inj t1]
          exact (ok2 b _ (un.frzs b ob _ z2)).1
      | next => exact e.elim
      | brk => exact e.elim
      | cont => exact e.elim
  by_cases hk : K.lookup a = none
  · have at_ : (fun b => if b = a then some (HO.frz (scO us) (.lst (ns.map V.int))) else none : Hp) a = some (HO.frz (scO us) (.lst (ns.map V.int))) := if_pos rfl
    have no : ∀ b, ¬ b = a → (fun b => if b = a then some (HO.frz (scO us) (.lst (ns.map V.int))) else none : Hp) b = none := fun b n => if_neg n
    generalize (fun b => if b = a then some (HO.frz (scO us) (.lst (ns.map V.int))) else none : Hp) = H at at_ no
    refine ⟨H, .inl (.inr ⟨_, at_⟩), fun b u e => ?_, fun b z => ⟨Classical.byContradiction fun n => z (no b n), hk⟩, fun b z => ?_⟩
    · by_cases n : b = a
      · rw [n, at_] at e
        cases e
        rw [n]
        exact ⟨ea, by rw [List.length_map]; exact hz, us, _, rv, ea⟩
      · rw [no b n] at e
        cases e
    · by_cases n : b = a
      · exact ⟨_, _, by rw [n]; exact at_⟩
      · exact absurd (no b n) z
  · obtain ⟨o, ho⟩ := Option.ne_none_iff_exists'.mp hk
    have e := KX a o ho
    rw [ea] at e
    cases e
    refine ⟨fun _ => none, .inr ⟨_, us.toArray, _, ho, rfl, rfl, rfl, ?_, by simpa using rv⟩, fun b u z => (nomatch z), fun b z => absurd rfl z, fun b z => absurd rfl z⟩
    rw [List.size_toArray, ln]
    exact hz
end
theorem walkG {l : PySem.W.OpenLaw} {n k : Nat} {q : Program} {loose : List Str} {XP : (Str → Option Value) → Heap → Prop} {YP : World → Heap → Prop} {d : DefRec} {K : Params → PySem.W.Frag} {x : Str} (hn : l.most = some n) (hz : n ≤ sizeLine) (hdf : d.params.defaults = []) (hr : RoomG k callerA)
    (hY : ∀ (w : World) (h : Heap), YP w h → (K w.params).In h)
    (F : ∀ (w : World) (mg : Str → Option Value) (fa : Addr) (h : Heap), (K w.params).In h → h.Ns mainGlobals mg → mg d.name = some (.ref fa) →
      ∃ fd : FuncData, (∀ (s : Shared) (u : Value), BindsTo s fd ⟨[u], []⟩ [(x, u)]) ∧ ∀ base : Heap, (K w.params).In base → base.Ns mainGlobals mg → FnOkG l.prog w (K w.params) mg base CX0 k fa fd [x] (spLaw (K w.params))) :
    PySem.W.WalkO q loose XP YP l.row.toRowW d [] (fun f vs => PySem.call f vs) := by
  refine Att.attach_call hn hdf fun w s0 s1 mg mb fa o pm cd doc a us ns G Y ho hd hcd hmg hobj hints hlen hg => ?_
  have KX := hY w _ Y
  obtain ⟨fd, hb, hF⟩ := F w mg fa _ KX G.T.g hmg
  exact callG KX G.T.g G.T.b G.T.builtins G.T.nolimit hg hobj hints (Nat.le_trans hlen hz) hr hF hb fun H hS => ⟨a, ns, rfl, hS, fun _ => rfl⟩

/-! ### facts of the top, as k_is finds them -/
section
variable {K : PySem.W.Frag} {C : Addr} {mc : Value} {a : Addr}
def IniD0 (K : PySem.W.Frag) (C : Addr) (qual : Str) (st : Stmt) : Prop := ∃ f fd, Mk K C f ∧ FD K "__init__" qual st f fd
theorem ini0_mk {f : Addr} {qual : Str} {st : Stmt} {od an : Option Addr} {sl : Array (Option Value)} {oc kV dc pm cd ct : Value} (m : PySem.W.makesIn K C = true) (a : PySem.W.findIn K (.ref C) "__init__" = some (some (.ref f))) (i : PySem.W.isFn K (.ref f) = true) (kc : PySem.W.keepIn K (.ref C) = true)
    (l : K.lookup f = some ⟨oc, od, .func (PySem.W.fnOf "__init__" qual (defArgs st) (defBody st) (defScope st) .none kV dc pm an cd ct), sl⟩) (c : PySem.W.codeIn K cd qual = true) (k : PySem.W.keepIn K (.ref f) = true) : IniD0 K C qual st := ⟨f, _, ⟨m, a, i, kc⟩, fd_mk l c k⟩
theorem cv_mk {f : Str} {n : Int} {t : Tok} (h : PySem.W.findCls K (.ref C) mc f = some (.val (.int n t))) : ∃ u, ClX.CVal K C mc f (.int n) u := ⟨_, h, ⟨_, rfl⟩⟩
theorem ax_mk {its : Array Value} {n : Nat} {sl : Array (Option Value)} {xs : List V} (h : K.lookup a = some ⟨.type "tuple", none, .seq its n, sl⟩) (hz : its.size ≤ sizeLine) (hv : Vals xs its.toList) : ∀ H, SqT K H a xs := fun H => .inr ⟨_, its, n, h, rfl, rfl, hz, hv⟩
theorem axT_mk {d : Data} {sl : Array (Option Value)} (h : K.lookup a = some ⟨.type "tuple", none, d, sl⟩) : ∃ o, K.lookup a = some o ∧ o.cls = .type "tuple" ∧ o.dict = none := ⟨_, h, rfl, rfl⟩
end
end Mc

set_option Elab.async false
set_option linter.all false
set_option maxRecDepth 100000
set_option maxHeartbeats 4000000
namespace Mc
open PySem PySem.Spec PyProof.Rows L2
/-! ### what a pot's turning leaves, and objects that are built beside it -/
/-- an object that is no pot -/
def noPot : HO → Bool
  | .lst [.int _, .int _] => false
  | _ => true
theorem pk {H H' : Hp} {p a : Addr} {o : HO} (f : Frm [p] H H') (hp : Pot H p) (h : H a = some o) (n : noPot o = true := by rfl) : H' a = some o := f _ _ h fun z => by
  obtain ⟨x, y, e, _⟩ := hp
  rw [List.mem_singleton.mp z, e] at h
  cases h
  cases n
theorem noPot_refs (as : List Addr) : noPot (.lst (as.map V.ref)) = true := by
  match as with
  | [] => rfl
  | [_] => rfl
  | [_, _] => rfl
  | _ :: _ :: _ :: _ => rfl
theorem noPot_len {L : List V} (h : L.length ≠ 2) : noPot (.lst L) = true := by
  cases e : noPot (.lst L) with
  | true => rfl
  | false =>
    unfold noPot at e
    split at e
    · rename_i q
      rw [HO.lst.inj q] at h
      exact absurd rfl h
    · cases e
theorem ext_both {B H : Hp} {x : Addr} {o : HO} (e : Ext B H) : Ext (upd B x o) (upd H x o) := fun a u z => by
  by_cases h : a = x
  · subst h
    rw [upd_same] at z ⊢
    exact z
  · rw [upd_ne h] at z ⊢
    exact e _ _ z
theorem none_ext {B H : Hp} {x : Addr} (e : Ext B H) (h : H x = none) : B x = none := by
  cases q : B x with
  | none => rfl
  | some o => rw [e _ _ q] at h; cases h
/-- B: what is built and stays, beside the pot p and what is still turned (N); B0 what stood so at the start H -/
structure Bld (p : Addr) (N : List Addr) (H B0 B Hc : Hp) : Prop where
  E : Ext B Hc
  X : Ext B0 B
  bp : B p = none
  bn : ∀ n ∈ N, B n = none
  hn : ∀ n ∈ N, Hc n ≠ none
  F : Frm [p] H Hc
  hp : Pot Hc p
  n0 : ∀ n ∈ N, H n = none
  pN : p ∉ N
  nw : ∀ a, H a ≠ none → B0 a = none → B a = none
section
variable {p : Addr} {N : List Addr} {H B0 B Hc : Hp}
/-- H without its pot -/
def bare (p : Addr) (H : Hp) : Hp := fun a => if a = p then none else H a
theorem bare_at {a : Addr} {o : HO} (h : H a = some o) (n : a ≠ p) : bare p H a = some o := by
  unfold bare
  rw [if_neg n]
  exact h
theorem bare_pk {a : Addr} {o : HO} (hp : Pot H p) (h : H a = some o) (n : noPot o = true := by rfl) : bare p H a = some o := bare_at h fun z => by
  obtain ⟨x, y, e, _⟩ := hp
  rw [z, e] at h
  cases h
  cases n
theorem bare_ext (p : Addr) (H : Hp) : Ext (bare p H) H := fun a o e => by
  unfold bare at e
  split at e
  · cases e
  · exact e
theorem bare_frm {H' : Hp} (f : Frm [p] H H') : Ext (bare p H) H' := fun a o e => by
  unfold bare at e
  split at e
  · cases e
  · rename_i n
    exact f _ _ e fun z => n (List.mem_singleton.mp z)
theorem Bld.begin (e : Ext B H) (bp : B p = none) (hp : Pot H p) : Bld p [] H B B H := ⟨e, Ext.rfl', bp, fun _ z => (nomatch z), fun _ z => (nomatch z), Frm.refl _ _, hp, fun _ z => (nomatch z), fun z => (nomatch z), fun _ _ z => z⟩
theorem Bld.start (hp : Pot H p) : Bld p [] H (bare p H) (bare p H) H := Bld.begin (bare_ext p H) (if_pos rfl) hp
theorem Bld.here (b : Bld p N H B0 B Hc) : Bld p [] Hc B B Hc := Bld.begin b.E b.bp b.hp
theorem Bld.fresh {x : Addr} (b : Bld p N H B0 B Hc) (hx : Hc x = none) : H x = none := b.F.free hx (fun z => b.hp.ne hx (List.mem_singleton.mp z))
theorem Bld.new {x : Addr} {o : HO} (b : Bld p N H B0 B Hc) (hx : Hc x = none) : Bld p N H B0 (upd B x o) (upd Hc x o) ∧ Ext B (upd B x o) := by
  have xp : x ≠ p := b.hp.ne hx
  have e := Ext.upd (o := o) (none_ext b.E hx)
  refine ⟨⟨ext_both b.E, b.X.trans e, by rw [upd_ne (Ne.symm xp)]; exact b.bp, fun n hn => ?_, fun n hn => ?_, b.F.trans (Frm.new hx), b.hp.new hx, b.n0, b.pN, fun a ha ha0 => ?_⟩, e⟩
  · have : n ≠ x := fun z => b.hn n hn (z ▸ hx)
    rw [upd_ne this]
    exact b.bn n hn
  · by_cases z : n = x
    · rw [z, upd_same]; exact fun w => nomatch w
    · rw [upd_ne z]; exact b.hn n hn
  · have : a ≠ x := fun z => ha (z ▸ b.fresh hx)
    rw [upd_ne this]
    exact b.nw a ha ha0
/-- a new object that will still be turned -/
theorem Bld.own {x : Addr} {o : HO} (b : Bld p N H B0 B Hc) (hx : Hc x = none) : Bld p (x :: N) H B0 B (upd Hc x o) := by
  have xp : x ≠ p := b.hp.ne hx
  have bx := none_ext b.E hx
  have Hx : H x = none := b.fresh hx
  refine ⟨b.E.trans (Ext.upd hx), b.X, b.bp, fun n hn => ?_, fun n hn => ?_, b.F.trans (Frm.new hx), b.hp.new hx, fun n hn => ?_, fun z => ?_, b.nw⟩
  · rcases List.mem_cons.mp hn with rfl | h
    · exact bx
    · exact b.bn n h
  · rcases List.mem_cons.mp hn with rfl | h
    · rw [upd_same]; exact fun w => nomatch w
    · by_cases z : n = x
      · rw [z, upd_same]; exact fun w => nomatch w
      · rw [upd_ne z]; exact b.hn n h
  · rcases List.mem_cons.mp hn with rfl | h
    · exact Hx
    · exact b.n0 n h
  · rcases List.mem_cons.mp z with rfl | h
    · exact xp rfl
    · exact b.pN h
theorem Bld.put {x : Addr} {o : HO} (b : Bld p N H B0 B Hc) (hx : x ∈ N) : Bld p N H B0 B (upd Hc x o) := by
  have xp : p ≠ x := fun z => b.pN (z ▸ hx)
  refine ⟨fun a u z => ?_, b.X, b.bp, b.bn, fun n hn => ?_, fun a u e n => ?_, ?_, b.n0, b.pN, b.nw⟩
  · have : a ≠ x := fun w => by rw [w, b.bn x hx] at z; cases z
    rw [upd_ne this]
    exact b.E _ _ z
  · by_cases z : n = x
    · rw [z, upd_same]; exact fun w => nomatch w
    · rw [upd_ne z]; exact b.hn n hn
  · have : a ≠ x := fun w => by rw [w, b.n0 x hx] at e; cases e
    rw [upd_ne this]
    exact b.F _ _ e n
  · obtain ⟨x1, y1, e, o1⟩ := b.hp
    exact ⟨x1, y1, by rw [upd_ne xp]; exact e, o1⟩
theorem Bld.draw {H' : Hp} (b : Bld p N H B0 B Hc) (f : Frm [p] Hc H') (hp : Pot H' p) : Bld p N H B0 B H' := by
  refine ⟨fun a u z => f _ _ (b.E _ _ z) fun w => ?_, b.X, b.bp, b.bn, fun n hn z => ?_, b.F.trans f, hp, b.n0, b.pN, b.nw⟩
  · rw [List.mem_singleton.mp w, b.bp] at z
    cases z
  · cases q : Hc n with
    | none => exact b.hn n hn q
    | some o =>
      rw [f _ _ q (fun w => b.pN (List.mem_singleton.mp w ▸ hn))] at z
      cases z
/-- a call that builds on: c is what it says -/
theorem Bld.then {B' H' : Hp} (b : Bld p N H B0 B Hc) (c : Bld p [] Hc B B' H') : Bld p N H B0 B' H' := by
  have d := b.draw c.F c.hp
  exact ⟨c.E, b.X.trans c.X, c.bp, fun n hn => c.nw n (b.hn n hn) (b.bn n hn), d.hn, d.F, c.hp, b.n0, b.pN, fun a ha h0 => by
    by_cases z : Hc a = none
    · have ap : a = p := by
        cases q : H a with
        | none => exact absurd q ha
        | some o =>
          by_cases w : a = p
          · exact w
          · rw [b.F _ _ q (fun v => w (List.mem_singleton.mp v))] at z
            cases z
      rw [ap]
      exact c.bp
    · exact c.nw a z (b.nw a ha h0)⟩
/-- what was turned stands now -/
theorem Bld.drop {M : List Addr} (b : Bld p N H B0 B Hc) (s : ∀ x ∈ M, x ∈ N) : Bld p M H B0 B Hc := ⟨b.E, b.X, b.bp, fun n h => b.bn n (s n h), fun n h => b.hn n (s n h), b.F, b.hp, fun n h => b.n0 n (s n h), fun z => b.pN (s _ z), b.nw⟩
theorem Bld.stand {x : Addr} {o : HO} (b : Bld p (x :: N) H B0 B Hc) (h : Hc x = some o) (nx : x ∉ N) : Bld p N H B0 (upd B x o) Hc ∧ Ext B (upd B x o) := by
  have xp : x ≠ p := fun z => b.pN (z ▸ List.mem_cons_self)
  have e := Ext.upd (o := o) (b.bn x List.mem_cons_self)
  refine ⟨⟨fun a u z => ?_, b.X.trans e, by rw [upd_ne (Ne.symm xp)]; exact b.bp, fun n hn => ?_, fun n hn => b.hn n (List.mem_cons_of_mem _ hn), b.F, b.hp, fun n hn => b.n0 n (List.mem_cons_of_mem _ hn), fun z => b.pN (List.mem_cons_of_mem _ z), fun a ha h0 => ?_⟩, e⟩
  · by_cases w : a = x
    · rw [w, upd_same] at z
      rw [w, h, z]
    · rw [upd_ne w] at z
      exact b.E _ _ z
  · have : n ≠ x := fun z => nx (z ▸ hn)
    rw [upd_ne this]
    exact b.bn n (List.mem_cons_of_mem _ hn)
  · have : a ≠ x := fun z => ha (z ▸ b.n0 x List.mem_cons_self)
    rw [upd_ne this]
    exact b.nw a ha h0
theorem Bld.bare (b : Bld p N H B0 B Hc) : Ext B (bare p Hc) := fun a o e => bare_at (b.E _ _ e) fun z => by rw [z, b.bp] at e; cases e
theorem Bld.ne {n : Addr} (b : Bld p N H B0 B Hc) (h : n ∈ N) : n ≠ p := fun z => b.pN (z ▸ h)
/-- what is turned keeps what it holds while a call builds on -/
theorem Bld.kept {n : Addr} {o : HO} {H' : Hp} (b : Bld p N H B0 B Hc) (h : n ∈ N) (e : Hc n = some o) (f : Frm [p] Hc H') : H' n = some o := f _ _ e fun z => b.ne h (List.mem_singleton.mp z)
end
end Mc

set_option Elab.async false
set_option linter.all false
set_option maxRecDepth 100000
set_option maxHeartbeats 4000000
namespace Mc
open PySem PySem.Spec PySem.Calls PyProof.Rows L2
/-! ### an instance with an own __call__, called -/
structure OwnC (K : PySem.W.Frag) (C f : Addr) : Prop where
  at_ : PySem.W.findIn K (.ref C) "__call__" = some (some (.ref f))
  fn : PySem.W.isFn K (.ref f) = true
  fi : PySem.W.fnIn K f = true
section
variable {M : Model} {A : Around} {E : Value → Shared → Prop} {s : Shared} {pos : Pos} {x : Addr} {first : List Value} {Q : Value → Shared → Prop}
theorem coWith_of {args : List (Bool × Sem Value)} {keywords : List (Option Str × Sem Value)} (hplain : (args.any (·.1) || keywords.any (·.1.isNone)) = false)
    (h : wpAny M A (evalArgs (.ref x) true args keywords) (fun a s₁ => (∃ ox C od, PySem.W.InstAt s₁.heap x ox C od ∧ ox.data = .plain) ∧ wpAny M A (call (.ref x) (first ++ a.pos) a.kw) Q E s₁) E s) : wpAny M A (callWith pos (.ref x) first args keywords) Q E s := by
  unfold callWith
  refine wpAny_bind (wpAny_holding (wpAny_mono h (fun a s₁ h₁ => wpAny_bind (wpAny_standAt ?_)) fun _ _ y => y))
  obtain ⟨ox, C, od, I, hd⟩ := h₁.1
  have L := PySem.W.kco_keeper (M := M) I hd
  simp only [hplain]
  refine wpAny_bind (L.here ?_)
  have tail : ∀ {t : Sem Value}, wpAny M A t Q E s₁ → wpAny M A (t >>= fun r => holding [r] point >>= fun _ => pure r) Q E s₁ :=
    fun ht => wpAny_bind (wpAny_mono ht (fun r s₂ hr => wpAny_bind (wpAny_holding (wpAny_point (wpAny_pure hr)))) fun _ _ y => y)
  exact tail (wpAny_operateT h₁.2)
theorem coWith {env : Env} {e : Expr} {rest : List Expr} (h : wpAny M A (spliced (backTo pos (starEach (e :: rest) env))) (fun vs s₁ => (∃ ox C od, PySem.W.InstAt s₁.heap x ox C od ∧ ox.data = .plain) ∧ wpAny M A (call (.ref x) (first ++ vs)) Q E s₁) E s)
    (he : starEach (e :: rest) env = (false, eval e env) :: starEach rest env) (hplain : (backTo pos (starEach rest env)).any (·.1) = false) :
    wpAny M A (callWith pos (.ref x) first (backTo pos (starEach (e :: rest) env)) []) Q E s := by
  rw [he] at h ⊢
  exact coWith_of (by show ((false || (backTo pos (starEach rest env)).any (·.1)) || false) = false; rw [hplain]; rfl) (evalArgs_plain h)
end
/-- x(e, ..) of an instance of the class at C, that still stands once the arguments are there -/
def tCallO (C : Addr) (sp : Sp) (ta : TE) (t : TA) : TE := fun σ H Q => ta σ H fun y H1 => ∃ a, y = .ref a ∧ t σ H1 fun vs H2 => ∃ dx fs, H2 a = some (.ins C dx fs) ∧ sp (.ref a :: vs) H2 Q E0
section
variable {X : Cx} {C f : Addr} {k i : Nat} {fd : FuncData} {ps : List Str} {sp : Sp} {x : Str} {p pos : Pos} {e : Expr} {es : List Expr} {ta : TE} {t : TA}
theorem pe_callO (m : OwnC X.K C f) (F : FnOk X.prog X.w X.K X.mg X.base CX0 k f fd ps sp) (hb : Binds X.K fd ps []) (hr : Room k X.A) (hx : PE X (.Name x p) ta) (ha : PA X (e :: es) t)
    (he : starEach (e :: es) X.env = (false, eval e X.env) :: starEach es X.env := by rfl) (hpl : (backTo pos (starEach es X.env)).any (·.1) = false := by rfl) : PE X (.Call (.Name x p) (e :: es) [] pos) (tCallO C sp ta t) := by
  refine ⟨fun pins s σ H Q I h => ?_⟩
  refine wpAny_Call_Name_kw (thn (hx.run pins s σ H _ I h) fun u s1 ⟨y, H1, I1, r1, a, ey, q1⟩ => ?_)
  subst ey
  obtain rfl : u = Value.ref a := r1
  refine coWith (thn (ha.run pos pins s1 σ H1 _ I1 q1) fun us s2 ⟨vs, H2, I2, r, dx, fs, hH, q⟩ => ?_) he hpl
  obtain ⟨mA, J, _⟩ := ins_get I2.hok hH
  obtain ⟨od, J, _⟩ := J.look
  refine ⟨⟨_, _, _, J, rfl⟩, ?_⟩
  have r2 : Vals (V.ref a :: vs) (Value.ref a :: us) := .cons rfl r
  have hl : ((Value.ref a :: us) ++ []).length = ps.length := by rw [List.append_nil, ← r2.length]; exact F.len _ _ _ _ q
  have hbi := hb s2 (Value.ref a :: us) I2.kIn hl
  rw [List.append_nil] at hbi
  refine wpAny_call (PySem.W.kco_code I2.kIn J rfl m.at_ m.fn m.fi (codeAny_mono (F.run X.A X.stack s2 H2 ⟨.ref a :: us, []⟩ (.ref a :: us) (.ref a :: vs) Q E0 hr I2.env0 hbi r2 q) fun r s' hq => ?_))
  cases r with
  | error e => exact hq.elim
  | ok fl =>
    cases fl with
    | ret u => exact I2.after hq
    | next => exact hq.elim
    | brk => exact hq.elim
    | cont => exact hq.elim
end
/-! ### a range object that a name holds, walked -/
theorem cr_range1 {X : Cx} : CallR X (.type "range") (fun vs H Q => ∃ j, vs = [V.int j] ∧ ∀ p, H p = none → Q (.ref p) (upd H p (.rng 0 j))) := by
  intro pins s σ H vs us Q I r h
  obtain ⟨j, rfl, q⟩ := h
  obtain ⟨u1, rfl, ri⟩ := vals1 r
  obtain ⟨t, rfl⟩ := ri
  refine call_range_1 ⟨.ref s.heap.objs.size, upd H s.heap.objs.size (.rng 0 j), I.laid (t' := _) (fun b o e => Heap.get?_push_of_some _ e) (Nat.le_refl _) ?_, rfl, q _ (I.hok.fresh (Nat.le_refl _))⟩
  exact ⟨_, _, _, Heap.get?_push_size _ rfl⟩
def iRngV (te : TE) : TI := fun σ H R => te σ H fun x H1 => ∃ (p : Addr) (lo hi : Int), x = .ref p ∧ H1 p = some (.rng lo hi) ∧ (-(2 ^ 62) ≤ lo ∧ lo < 2 ^ 62 ∧ -(2 ^ 62) ≤ hi ∧ hi < 2 ^ 62) ∧ R (Itr lo (hi - lo).toNat) H1
theorem pi_rng {X : Cx} {tg e : Expr} {te : TE} (he : PE X e te) : PI X tg e (iRngV te) := by
  refine ⟨fun pins s σ H R I h => ?_⟩
  refine thn (he.run pins s σ H _ I h) fun v s1 ⟨x, H1, I1, r1, q1⟩ => ?_
  obtain ⟨p, lo, hi, rfl, hp, ⟨h1, h2, h3, h4⟩, q⟩ := q1
  obtain rfl : v = Value.ref p := r1
  obtain ⟨t1, t2, t3, ho⟩ := I1.hok p _ hp
  refine wpAny_pyIter_range (a := lo) (b := hi) (c := 1) (show IsRange s1.heap p lo hi 1 t1 t2 t3 from ho) (small_one h1 h2 h3 h4) ?_
  refine ⟨s1.heap.objs.size, [s1.heap.objs.size], _, _, H1, rfl, I1.kept (t' := s1.toks) fun b o e => Heap.get?_push_of_some _ e, turn_range _ lo (hi - lo).toNat, ?_, fun b hb => ?_, q⟩
  · have e1 : lo + ((0 : Nat) : Int) * 1 = lo := by simp
    have e2 : (((hi - lo).toNat : Nat) : Int) - ((0 : Nat) : Int) = Builtin.Range.rangeSize lo hi 1 := by rw [rangeSize_one]; split <;> omega
    show IsRangeIter _ _ (lo + ((0 : Nat) : Int) * 1) ((((hi - lo).toNat : Nat) : Int) - ((0 : Nat) : Int)) 1
    rw [e1, e2]
    exact Heap.get?_push_size _ rfl
  · have e : b = s1.heap.objs.size := by simpa using hb
    subst e
    exact I1.fpOk (Nat.le_refl _) (I1.hok.fresh (Nat.le_refl _))
/-! ### a truth value is (not) the other -/
theorem op_isntB {X : Cx} : OpR X (compareOp .IsNot) (fun x y H Q => ∃ a b : Bool, x = .bl a ∧ y = .bl b ∧ Q (.bl (!(a == b))) H) := by
  intro pins s σ H x y v u Q I rx ry h
  obtain ⟨a, b, rfl, rfl, q⟩ := h
  cases (show v = Value.bool a from rx)
  cases (show u = Value.bool b from ry)
  show wpAny _ _ (do return Value.bool (!(← isSame (Value.bool a) (Value.bool b)))) _ _ s
  have e : isSame (Value.bool a) (Value.bool b) = pure (Value.bool a == Value.bool b) := rfl
  rw [e]
  refine wpAny_bind (wpAny_pure (wpAny_pure ⟨.bl (!(a == b)), H, I, ?_, q⟩))
  cases a <;> cases b <;> rfl
end Mc

set_option Elab.async false
set_option linter.all false
set_option maxRecDepth 100000
set_option maxHeartbeats 4000000
namespace Mc
open PySem PySem.Spec PyProof.Rows L2
open PySem.W (Frag)
/-! ### the head by facts: what the top leaves, read by a Hook of my own -/
theorem DefP.funD {K : Frag} {d : DefP} (e : fnAt K (d.at_ K) = d.val) (c : d.ok K = true) : ∃ fd, FunD K d.name d.qual (defArgs d.st) (defBody d.st) (defScope d.st) d.dfl [] (d.at_ K) fd := by
  obtain ⟨kp, c2⟩ := He.ba c
  unfold fnAt at e
  cases q : K.lookup (d.at_ K) with
  | none =>
    rw [q] at c2
    cases c2
  | some o =>
    obtain ⟨oc, od, dt, osl⟩ := o
    rw [q] at c2 e
    cases dt with
    | func fd =>
      obtain ⟨n1, n2, n3, n4, n5, n6, n7, n8, n9, n10, n11, n12, n13, n14, n15⟩ := fd
      have e2 : (some (n1, n2, n3, n4, n5, n6, n7, n15) : He.FnW) = some (d.name, d.qual, defArgs d.st, .stmts (defBody d.st), defScope d.st, mainGlobals, [], builtinsNs) := e
      simp only [Option.some.injEq, Prod.mk.injEq] at e2
      obtain ⟨h1, h2, h3, h4, h5, h6, h7, h8⟩ := e2
      subst h1 h2 h3 h4 h5 h6 h7 h8
      have c3 : (PySem.W.codeIn K n13 d.qual && He.dflB K n8 d.dfl) = true := c2
      obtain ⟨k1, k2⟩ := He.ba c3
      exact ⟨_, ⟨oc, od, n8, n9, n10, n11, n12, n13, n14, osl, rfl, q, k1, He.dflB_ok k2, .inl rfl⟩, kp⟩
    | _ => cases c2
section
variable {fs : List (Frag → Bool)} {ds : List DefP} {K : Frag}
theorem SaysP.fact (c : SaysP fs ds K) (i : Nat) {f : Frag → Bool} (h : fs[i]? = some f := by rfl) : f K = true := by
  have c1 := (He.ba (show ((fs.all fun f => f K) && ds.all fun d => d.ok K) = true from congrArg (fun z : AlP => z.1) c)).1
  exact List.all_eq_true.mp c1 f (List.mem_of_getElem? h)
theorem SaysP.def_ (c : SaysP fs ds K) (i : Nat) {d : DefP} (h : ds[i]? = some d := by rfl) : ∃ fd, FunD K d.name d.qual (defArgs d.st) (defBody d.st) (defScope d.st) d.dfl [] (d.at_ K) fd := by
  have c2 := (He.ba (show ((fs.all fun f => f K) && ds.all fun d => d.ok K) = true from congrArg (fun z : AlP => z.1) c)).2
  have e : ds.map (fun d => fnAt K (d.at_ K)) = ds.map DefP.val := congrArg (fun z : AlP => z.2) c
  have e2 : (ds.map fun d => fnAt K (d.at_ K))[i]? = (ds.map DefP.val)[i]? := by rw [e]
  rw [List.getElem?_map, List.getElem?_map, h] at e2
  exact DefP.funD (Option.some.inj e2) (List.all_eq_true.mp c2 d (List.mem_of_getElem? h))
end
/-! ### where things stand, and what is asked of them -/
open He (ga ma eqO eqO_ok ba)
section
variable {K : Frag} {h : Heap} {mg : Str → Option Value} {x c m f : Str} {i : Int} {nm : String} {vs : List V}
theorem gloB_ok (X : K.In h) (G : h.Ns mainGlobals mg) (e : gloB x K = true) : mg x = some (.ref (ga K x)) := PySem.W.mg_of X G (eqO_ok e)
theorem blB_ok {id : String} (X : K.In h) (G : h.Ns mainGlobals mg) (e : blB x id K = true) : mg x = some (.builtin id) := PySem.W.mg_of X G (eqO_ok e)
theorem freeB_ok (X : K.In h) (G : h.Ns mainGlobals mg) (e : freeB x K = true) : mg x = none := PySem.W.mg_none_of X G (eqO_ok e)
theorem intB_ok (X : K.In h) (G : h.Ns mainGlobals mg) (e : intB x i K = true) : ∃ t, mg x = some (.int i t) := He.int_ok X G (x := x) (i := i) e
theorem clsB_ok (e : clsB c K = true) : Cls K (ga K c) := He.cls_ok (x := c) e
theorem noatB_ok (e : noatB c f K = true) : NoAttr K (ga K c) f := eqO_ok e
theorem metB_ok (e : metB c m K = true) : Meth K (ga K c) m (mAt c m K) := by
  obtain ⟨c1, c⟩ := ba e
  obtain ⟨c2, c3⟩ := ba c
  exact ⟨eqO_ok c1, c2, c3⟩
theorem mkB_ok (e : mkB c K = true) : Mk K (ga K c) (mAt c "__init__" K) := by
  obtain ⟨c1, c⟩ := ba e
  obtain ⟨c2, c⟩ := ba c
  obtain ⟨c3, c4⟩ := ba c
  exact ⟨c1, eqO_ok c2, c3, c4⟩
theorem prpB_ok (e : prpB c m K = true) : PropOf K (ga K c) m (mAt c m K) (wAt "property" c m K) := by
  obtain ⟨c1, c⟩ := ba e
  obtain ⟨c2, c⟩ := ba c
  obtain ⟨c3, c4⟩ := ba c
  refine ⟨eqO_ok c1, eqO_ok c2, of_decide_eq_true c3, ?_⟩
  unfold wAt
  unfold mAt at *
  generalize PySem.W.recIn K (ma K (ga K _) m) "property" = r at *
  match r, c4 with
  | some (.ref a :: rest), _ => exact ⟨rest, rfl⟩
theorem ownOB_ok (e : ownOB c nm K = true) : OwnB K (ga K c) nm (mAt c (PySem.dunder nm) K) := by
  obtain ⟨c1, c⟩ := ba e
  obtain ⟨c1, c2⟩ := ba c1
  obtain ⟨c3, c⟩ := ba c
  obtain ⟨c4, c⟩ := ba c
  obtain ⟨c5, c⟩ := ba c
  obtain ⟨c6, c7⟩ := ba c
  refine ⟨eqO_ok c1, c2, c3, ?_, Option.isSome_iff_exists.mp c5, Option.isSome_iff_exists.mp c6, of_decide_eq_true c7⟩
  generalize PySem.W.findIn K (.ref (ga K _)) (dunderR nm) = r at *
  match r, c4 with
  | some (some (.ref a)), _ => exact ⟨a, rfl⟩
theorem tupPB_ok (e : tupPB x vs K = true) : (∀ H, SqT K H (ga K x) vs) ∧ ∃ o, K.lookup (ga K x) = some o ∧ o.cls = .type "tuple" ∧ o.dict = none := by
  unfold tupPB at e
  cases q : K.lookup (ga K x) with
  | none =>
    rw [q] at e
    cases e
  | some o =>
    obtain ⟨oc, od, dt, osl⟩ := o
    rw [q] at e
    cases oc with
    | type c =>
      cases od with
      | none =>
        cases dt with
        | seq its n =>
          obtain ⟨h1, h2⟩ := ba (show (decide (c = "tuple") && (decide (its.size ≤ sizeLine) && He.relAll vs its.toList)) = true from e)
          obtain ⟨h3, h4⟩ := ba h2
          have hc : c = "tuple" := of_decide_eq_true h1
          subst hc
          exact ⟨fun H => .inr ⟨_, its, n, q, rfl, rfl, of_decide_eq_true h3, He.relAll_ok h4⟩, _, rfl, rfl, rfl⟩
        | _ => cases e
      | some a => cases dt <;> cases e
    | _ => cases od <;> cases dt <;> cases e
theorem cvB_ok (e : cvB c f i K = true) : ∃ u, ClX.CVal K (ga K c) (.type "type") f (.int i) u := by
  unfold cvB at e
  cases q : PySem.W.findCls K (.ref (ga K c)) (.type "type") f with
  | none => rw [q] at e; cases e
  | some r =>
    rw [q] at e
    cases r with
    | val u => exact ⟨u, q, He.relB_ok e⟩
    | _ => cases e
theorem crdB_ok (e : crdB c K = true) : ClX.CRead K (ga K c) (.type "type") := ⟨(ba e).1, eqO_ok (ba e).2⟩
end
theorem callB_ok {K : Frag} {c : Str} (e : callB c K = true) : OwnC K (ga K c) (mAt c "__call__" K) := by
  obtain ⟨c1, d⟩ := ba e
  obtain ⟨c2, c3⟩ := ba d
  exact ⟨eqO_ok c1, c2, c3⟩
theorem tbB_ok {K : Frag} {h : Heap} {mg : Str → Option Value} (X : K.In h) (G : h.Ns mainGlobals mg) (e : tbB K = true) : TB mg := by
  have k : ∀ x ∈ tbNames, mg x = none := fun x hx => freeB_ok X G (List.all_eq_true.mp e x hx)
  exact ⟨k _ (List.mem_of_getElem? (i := 0) rfl), k _ (List.mem_of_getElem? (i := 1) rfl), k _ (List.mem_of_getElem? (i := 2) rfl), k _ (List.mem_of_getElem? (i := 3) rfl), k _ (List.mem_of_getElem? (i := 4) rfl), k _ (List.mem_of_getElem? (i := 5) rfl), k _ (List.mem_of_getElem? (i := 6) rfl), k _ (List.mem_of_getElem? (i := 7) rfl), k _ (List.mem_of_getElem? (i := 8) rfl), k _ (List.mem_of_getElem? (i := 9) rfl), k _ (List.mem_of_getElem? (i := 10) rfl), k _ (List.mem_of_getElem? (i := 11) rfl), k _ (List.mem_of_getElem? (i := 12) rfl), k _ (List.mem_of_getElem? (i := 13) rfl), k _ (List.mem_of_getElem? (i := 14) rfl), k _ (List.mem_of_getElem? (i := 15) rfl), k _ (List.mem_of_getElem? (i := 16) rfl)⟩
/-! ### the walk of a law over such a head -/
theorem walkGE {l : PySem.W.OpenLaw} {n k : Nat} {q : Program} {loose : List Str} {XP : (Str → Option Value) → Heap → Prop} {YP : World → Heap → Prop} {d : DefRec} {x : Str} (hn : l.most = some n) (hz : n ≤ sizeLine) (hdf : d.params.defaults = []) (hr : RoomG k callerA)
    (F : ∀ (w : World) (mg : Str → Option Value) (fa : Addr) (h : Heap), YP w h → h.Ns mainGlobals mg → mg d.name = some (.ref fa) →
      ∃ (K : Frag) (fd : FuncData), K.In h ∧ (∀ (s : Shared) (u : Value), BindsTo s fd ⟨[u], []⟩ [(x, u)]) ∧ ∀ base : Heap, K.In base → base.Ns mainGlobals mg → FnOkG l.prog w K mg base CX0 k fa fd [x] (spLaw K)) :
    PySem.W.WalkO q loose XP YP l.row.toRowW d [] (fun f vs => PySem.call f vs) := by
  refine Att.attach_call hn hdf fun w s0 s1 mg mb fa o pm cd doc a us ns G Y ho hd hcd hmg hobj hints hlen hg => ?_
  obtain ⟨K, fd, KX, hb, hF⟩ := F w mg fa _ Y G.T.g hmg
  exact callG KX G.T.g G.T.b G.T.builtins G.T.nolimit hg hobj hints (Nat.le_trans hlen hz) hr hF hb fun H hS => ⟨a, ns, rfl, hS, fun _ => rfl⟩
end Mc


set_option Elab.async false
set_option linter.all false
set_option maxRecDepth 100000
set_option maxHeartbeats 4000000
namespace Mc
/-! ### the places of a round, as pure lists -/
abbrev Pr := Int × Int
def stepC (p : Pr) (c : Cut) (k : Nat) : Pr := if c.1 then (p.1 * c.2 + k, p.2) else (p.1, p.2 * c.2 + k)
def spread (ps : List Pr) (c : Cut) : List Pr := ps.flatMap fun p => (List.range c.2).map fun k => stepC p c k
def placesF (cs : List Cut) : List Pr := cs.foldl spread [(0, 0)]
theorem placesF_snoc (cs : List Cut) (c : Cut) : placesF (cs ++ [c]) = spread (placesF cs) c := by
  unfold placesF
  rw [List.foldl_append]
  rfl
theorem spread_length (ps : List Pr) (c : Cut) : (spread ps c).length = ps.length * c.2 := by
  unfold spread
  induction ps with
  | nil => simp
  | cons p r ih => rw [List.flatMap_cons, List.length_append, ih, List.length_map, List.length_range, List.length_cons, Nat.succ_mul, Nat.add_comm]
/-- of one turn's columns and rows -/
def colsF : List Cut → Nat
  | [] => 1
  | c :: r => (if c.1 then c.2 else 1) * colsF r
def rowsF : List Cut → Nat
  | [] => 1
  | c :: r => (if c.1 then 1 else c.2) * rowsF r
theorem colsF_snoc (c : Cut) : ∀ cs : List Cut, colsF (cs ++ [c]) = colsF cs * (if c.1 then c.2 else 1)
  | [] => by simp [colsF]
  | d :: r => by
    rw [List.cons_append]
    unfold colsF
    rw [colsF_snoc c r, Nat.mul_assoc]
theorem rowsF_snoc (c : Cut) : ∀ cs : List Cut, rowsF (cs ++ [c]) = rowsF cs * (if c.1 then 1 else c.2)
  | [] => by simp [rowsF]
  | d :: r => by
    rw [List.cons_append]
    unfold rowsF
    rw [rowsF_snoc c r, Nat.mul_assoc]
theorem snoc_ind {P : List Cut → Prop} (h0 : P []) (h1 : ∀ cs c, P cs → P (cs ++ [c])) : ∀ cs, P cs := fun cs => by
  have : ∀ r : List Cut, P r.reverse := fun r => by
    induction r with
    | nil => exact h0
    | cons c r ih => rw [List.reverse_cons]; exact h1 _ _ ih
  have h := this cs.reverse
  rwa [List.reverse_reverse] at h
theorem pos_cols {cs : List Cut} (h : ∀ c ∈ cs, okC c) : 0 < colsF cs ∧ 0 < rowsF cs := by
  induction cs with
  | nil => exact ⟨by decide, by decide⟩
  | cons c r ih =>
    have h1 := h c List.mem_cons_self
    have h2 := ih fun d hd => h d (List.mem_cons_of_mem _ hd)
    unfold colsF rowsF
    refine ⟨Nat.mul_pos ?_ h2.1, Nat.mul_pos ?_ h2.2⟩
    · split
      · exact Nat.lt_of_lt_of_le (by decide) h1.1
      · decide
    · split
      · decide
      · exact Nat.lt_of_lt_of_le (by decide) h1.1
theorem placesF_length (cs : List Cut) : (placesF cs).length = colsF cs * rowsF cs := by
  refine snoc_ind (P := fun cs => (placesF cs).length = colsF cs * rowsF cs) rfl (fun cs c ih => ?_) cs
  rw [placesF_snoc, spread_length, ih, colsF_snoc, rowsF_snoc]
  split
  · rw [Nat.mul_one, Nat.mul_right_comm]
  · rw [Nat.mul_one, Nat.mul_assoc]
/-- every place lies within columns and rows -/
theorem placesF_mem {cs : List Cut} : ∀ p ∈ placesF cs, 0 ≤ p.1 ∧ p.1 < colsF cs ∧ 0 ≤ p.2 ∧ p.2 < rowsF cs := by
  refine snoc_ind (P := fun cs => ∀ p ∈ placesF cs, 0 ≤ p.1 ∧ p.1 < colsF cs ∧ 0 ≤ p.2 ∧ p.2 < rowsF cs) ?_ (fun cs c ih => ?_) cs
  · intro p hp
    rw [List.mem_singleton.mp hp]
    decide
  · intro p hp
    rw [placesF_snoc] at hp
    obtain ⟨q, hq, hp⟩ := List.mem_flatMap.mp hp
    obtain ⟨k, hk, rfl⟩ := List.mem_map.mp hp
    have hk := List.mem_range.mp hk
    obtain ⟨h1, h2, h3, h4⟩ := ih q hq
    rw [colsF_snoc, rowsF_snoc]
    unfold stepC
    have key : ∀ (x : Int) (n m : Nat), 0 ≤ x → x < m → 0 ≤ x * (n : Int) + k ∧ (k < n → x * (n : Int) + k < ((m * n : Nat) : Int)) := fun x n m a b => by
      obtain ⟨y, rfl⟩ := Int.eq_ofNat_of_zero_le a
      have hy : y < m := by omega
      have e : (y : Int) * (n : Int) = ((y * n : Nat) : Int) := (Int.natCast_mul y n).symm
      rw [e]
      refine ⟨by omega, fun c => ?_⟩
      have : y * n + k < m * n := by
        have := Nat.mul_le_mul_right n (show y + 1 ≤ m from hy)
        rw [Nat.succ_mul] at this
        omega
      omega
    split
    · refine ⟨(key _ _ _ h1 h2).1, ?_, h3, by simpa using h4⟩
      exact (key _ _ _ h1 h2).2 hk
    · refine ⟨h1, by simpa using h2, (key _ _ _ h3 h4).1, ?_⟩
      exact (key _ _ _ h3 h4).2 hk
/-- the last place -/
theorem placesF_last (cs : List Cut) (h : ∀ c ∈ cs, okC c) : (placesF cs).getLast? = some (((colsF cs : Nat) : Int) - 1, ((rowsF cs : Nat) : Int) - 1) := by
  revert h
  refine snoc_ind (P := fun cs => (∀ c ∈ cs, okC c) → (placesF cs).getLast? = some (((colsF cs : Nat) : Int) - 1, ((rowsF cs : Nat) : Int) - 1)) (fun _ => rfl) (fun cs c ih h => ?_) cs
  have h0 := ih fun d hd => h d (List.mem_append_left _ hd)
  have hc := h c (List.mem_append_right _ List.mem_cons_self)
  rw [placesF_snoc, colsF_snoc, rowsF_snoc]
  obtain ⟨l, e⟩ : ∃ l, placesF cs = l ++ [(((colsF cs : Nat) : Int) - 1, ((rowsF cs : Nat) : Int) - 1)] := by
    obtain ⟨ne, e⟩ := List.getLast?_eq_some_iff.mp h0
    exact ⟨ne, e⟩
  rw [e]
  unfold spread
  rw [List.flatMap_append, List.flatMap_cons, List.flatMap_nil, List.append_nil]
  obtain ⟨n, hn⟩ : ∃ n, c.2 = n + 1 := ⟨c.2 - 1, by have := hc.1; omega⟩
  rw [hn, List.range_succ, List.map_append, List.map_cons, List.map_nil, ← List.append_assoc, List.getLast?_concat]
  unfold stepC
  have key : ∀ m : Nat, ((m : Int) - 1) * ((n + 1 : Nat) : Int) + (n : Int) = ((m * (n + 1) : Nat) : Int) - 1 := fun m => by
    rw [Int.sub_mul, Int.one_mul, ← Int.natCast_mul]
    omega
  rw [hn]
  split
  · rw [key, Nat.mul_one]
  · rw [key, Nat.mul_one]
end Mc

set_option Elab.async false
set_option linter.all false
set_option maxRecDepth 100000
set_option maxHeartbeats 4000000
set_option exponentiation.threshold 20000
namespace Mc
open PySem PySem.Spec PyProof.Rows L2 ClX StX
section
variable {P : Program} {w : World} {K : PySem.W.Frag} {mg : Str → Option Value} {base : Heap} {f C0 aX : Addr} {mc : Value} {fd : FuncData}
theorem sc_within : FnScope ["place", "axis", "parts", "part", "column", "row"] ["place", "axis", "parts", "part"] (defScope s_within) := ⟨rfl, rfl, rfl, by decide +kernel, rfl, by decide +kernel, by decide +kernel⟩
def spWithin : Sp := fun vs H Q _ => ∃ (a : Addr) (p : Pr) (c : Cut) (k : Nat), vs = [.ref a, .str (axS c.1), .int c.2, .int k] ∧ H a = some (.tup [.int p.1, .int p.2]) ∧ p.1.natAbs < 2 ^ 40 ∧ p.2.natAbs < 2 ^ 40 ∧ c.2 < 2 ^ 40 ∧
  ∀ t, H t = none → Q (.ref t) (upd H t (.tup [.int (stepC p c k).1, .int (stepC p c k).2]))
theorem ok_within (F : FunD K "_within" "_within" (defArgs s_within) (defBody s_within) (defScope s_within) [] [] f fd) (T : TB mg) : FnOk P w K mg base CX0 1 f fd ["place", "axis", "parts", "part"] (spWithin) := by
  refine F.ok sc_within (fun vs H Q E h => ?_) (fun cdv A outer s H vs Q E hr h => ?_)
  · obtain ⟨a, p, c, k, rfl, ha, hx, hy, hc, kk⟩ := h
    rfl
  · obtain ⟨a, p, c, k, rfl, ha, hx, hy, hc, kk⟩ := h
    refine ⟨_, (PSs.nox (pss_cons (ps_asg (pv 0) (pg_tup rfl (pgs_cons (pg_name (i := 4) sc_within.nd rfl (.inl rfl)) (pgs_cons (pg_name (i := 5) sc_within.nd rfl (.inl rfl)) pgs_nil))))
      (pss_cons (ps_if (pt_cmpR op_eq (pv 1) pe_str (nomark _)) (pss_one (ps_ret (pe_tup (pa_cons (pe_op op_add (pe_op op_mulW (pv 4) (pv 2)) (pv 3)) (pa_cons (pv 5) pa_nil))))) pss_nil)
      (pss_one (ps_ret (pe_tup (pa_cons (pv 4) (pa_cons (pe_op op_add (pe_op op_mulW (pv 5) (pv 2)) (pv 3)) pa_nil)))))))), ?_⟩
    have hc2 : ((c.2 : Int)).natAbs < 2 ^ 40 := by simpa using hc
    refine ⟨_, rfl, a, _, rfl, SqT.of ha, rfl, _, _, rfl, _, _, rfl, rfl, ?_⟩
    refine ⟨_, rfl, rfl, _, rfl, ?_⟩
    have e1 : decide (V.str (axS c.1) = V.str "east") = c.1 := by
      cases c.1 <;> decide +kernel
    rw [e1]
    unfold stepC at kk
    cases h : c.1
    · rw [h] at kk
      refine iteF ⟨_, rfl, _, rfl, _, rfl, _, _, rfl, rfl, mulW hy hc2, _, rfl, _, _, rfl, rfl, (by show 2 ≤ sizeLine; decide), fun t ht => ?_⟩
      exact kk t ht
    · rw [h] at kk
      refine iteT ⟨_, rfl, _, rfl, _, _, rfl, rfl, mulW hx hc2, _, rfl, _, _, rfl, rfl, _, rfl, (by show 2 ≤ sizeLine; decide), fun t ht => ?_⟩
      exact kk t ht
theorem sc_places_of : FnScope ["cuts", "places", "axis", "parts", "place", "part"] ["cuts"] (defScope s_places_of) := ⟨rfl, rfl, rfl, by decide +kernel, rfl, by decide +kernel, by decide +kernel⟩
theorem none_of {H H' : Hp} {a : Addr} (e : Ext H H') (h : H' a = none) : H a = none := by
  cases q : H a with
  | none => rfl
  | some o =>
    rw [e a o q] at h
    cases h
theorem take_snoc {α : Type} {l : List α} {i : Nat} {x : α} (h : l[i]? = some x) : l.take (i + 1) = l.take i ++ [x] := by
  rw [List.take_add_one, h]
  rfl
theorem placesF_len {cs : List Cut} : (∀ c ∈ cs, okC c) → (placesF cs).length ≤ 4 ^ cs.length := by
  refine snoc_ind (P := fun cs => (∀ c ∈ cs, okC c) → (placesF cs).length ≤ 4 ^ cs.length) (fun _ => by decide) (fun cs c ih h => ?_) cs
  have h0 := ih fun d hd => h d (List.mem_append_left _ hd)
  have hc := (h c (List.mem_append_right _ List.mem_cons_self)).2
  rw [placesF_snoc, spread_length, List.length_append, List.length_singleton, Nat.pow_succ]
  exact Nat.mul_le_mul h0 hc
theorem cols_le {cs : List Cut} (h : ∀ c ∈ cs, okC c) (l : cs.length ≤ 5) : colsF cs ≤ 1024 ∧ rowsF cs ≤ 1024 := by
  have h1 := placesF_len h
  rw [placesF_length] at h1
  have h2 : 4 ^ cs.length ≤ 1024 := Nat.le_trans (Nat.pow_le_pow_right (by decide) l) (by decide)
  have h3 := pos_cols h
  have h4 : colsF cs * rowsF cs ≤ 1024 := Nat.le_trans h1 h2
  exact ⟨Nat.le_trans (Nat.le_mul_of_pos_right _ h3.2) h4, Nat.le_trans (Nat.le_mul_of_pos_left _ h3.1) h4⟩
theorem spread_snoc (ps : List Pr) (p : Pr) (c : Cut) : spread (ps ++ [p]) c = spread ps c ++ (List.range c.2).map fun k => stepC p c k := by
  unfold spread
  rw [List.flatMap_append, List.flatMap_cons, List.flatMap_nil, List.append_nil]
theorem pd_imp {α β : Type} {F G : α → β → Prop} (h : ∀ a b, F a b → G a b) : ∀ {l : List α} {m : List β}, Paired F l m → Paired G l m
  | _, _, .nil => .nil
  | _, _, .cons r t => .cons (h _ _ r) (pd_imp h t)
theorem pd_snoc {α β : Type} {F : α → β → Prop} : ∀ {l : List α} {m : List β} {a : α} {b : β}, Paired F l m → F a b → Paired F (l ++ [a]) (m ++ [b])
  | _, _, _, _, .nil, h => .cons h .nil
  | _, _, _, _, .cons r t, h => .cons r (pd_snoc t h)
/-- a list of pairs of whole numbers -/
def PairsAt (H : Hp) (l : Addr) (ps : List Pr) : Prop := ∃ as : List Addr, H l = some (.lst (as.map V.ref)) ∧ Paired (fun a (p : Pr) => H a = some (.tup [.int p.1, .int p.2])) as ps
def spPlaces (K : PySem.W.Frag) : Sp := fun vs H Q _ => ∃ (v : V) (cs : List Cut), vs = [v] ∧ CutsAt K H v cs ∧ cs.length ≤ 5 ∧ (∀ c ∈ cs, okC c) ∧ ∀ l H', Ext H H' → H l = none → PairsAt H' l (placesF cs) → Q (.ref l) H'
theorem ok_places_of (F : FunD K "_places_of" "_places_of" (defArgs s_places_of) (defBody s_places_of) (defScope s_places_of) [] [] f fd) (T : TB mg) {fwithin : Addr} {fdwithin : FuncData} (Dwithin : Gd P w K mg base "_within" 1 ["place", "axis", "parts", "part"] (spWithin) fwithin fdwithin) : FnOk P w K mg base CX0 2 f fd ["cuts"] (spPlaces K) := by
  refine F.ok sc_places_of (fun vs H Q E h => ?_) (fun cdv A outer s H vs Q E hr h => ?_)
  · obtain ⟨v, cs, rfl, hv, h5, hc, k⟩ := h
    rfl
  · obtain ⟨v, cs, rfl, hv, h5, hc, k⟩ := h
    refine ⟨_, (PSs.nox (pss_cons (ps_set (i := 1) sc_places_of.nd rfl (.inl rfl) (pe_lst (pa_cons (pe_tup (pa_cons pe_int (pa_cons pe_int pa_nil))) pa_nil)))
      (pss_cons (ps_for PassesOwn.never rfl (pi_seq (pv 0)) (pg_tup rfl (pgs_cons (pg_name (i := 2) sc_places_of.nd rfl (.inr rfl)) (pgs_cons (pg_name (i := 3) sc_places_of.nd rfl (.inr rfl)) pgs_nil))) (pss_one (ps_setLc2 (i := 1) (own := [("place", 4), ("part", 5)]) (g := gName 4) (g1 := gName 5) (vs1 := [5]) (tt := tYes) (tt1 := tYes) rfl sc_places_of.nd rfl rfl (sw_true rfl rfl rfl (by decide +kernel)) (pi_list (pv 1)) (blkOk_by (own := [("place", 4), ("part", 5)]) (N := ["cuts", "places", "axis", "parts", "place", "part"]) (sc := defScope s_places_of) (by decide +kernel)) (by decide) (fun _ _ _ _ _ => (pg_name (i := 4) sc_places_of.nd rfl (.inl rfl))) (fun _ _ _ _ _ => pts_nil) (fun _ _ _ _ _ => (pi_range1 (by rfl) T.range (pa_cons (pv 3) pa_nil))) (fun _ _ _ _ _ => (pg_name (i := 5) sc_places_of.nd rfl (.inl rfl))) (fun _ _ _ _ _ => pts_nil) (fun _ _ _ _ _ => (pe_gd Dwithin hr (by decide) (by rfl) (pa_cons (pv 4) (pa_cons (pv 2) (pa_cons (pv 3) (pa_cons (pv 5) pa_nil)))))))))
      (pss_one (ps_ret (pv 1)))))), ?_⟩
    obtain ⟨l, as, rfl, hl, hp⟩ := hv
    have hlen := pd_len hp
    refine ⟨(by show 2 ≤ sizeLine; decide), fun t ht => ⟨(by show 1 ≤ sizeLine; decide), fun l0 hl0 => ?_⟩⟩
    have e0 : Ext H (upd (upd H t (.tup [.int 0, .int 0])) l0 (.lst [.ref t])) := (Ext.upd ht).trans (Ext.upd hl0)
    have p0 : PairsAt (upd (upd H t (.tup [.int 0, .int 0])) l0 (.lst [.ref t])) l0 (placesF []) := ⟨[t], upd_same, .cons (Ext.upd hl0 _ _ upd_same) .nil⟩
    have n0 : H l0 = none := none_of (Ext.upd ht) hl0
    generalize upd (upd H t (.tup [.int 0, .int 0])) l0 (.lst [.ref t]) = H2 at *
    refine ⟨_, rfl, l, _, rfl, sq_ext hl e0, fun J S wj hS => for_walk wj (fun i σ H' => ∃ u w1 l1, σ = [some (.ref l), some (.ref l1), u, w1, none, none] ∧ Ext H2 H' ∧ H l1 = none ∧ PairsAt H' l1 (placesF (cs.take i))) ⟨none, none, l0, rfl, Ext.rfl', n0, p0⟩ (fun _ _ _ ⟨_, _, _, _, e, _⟩ => hS _ e) ?_ ?_⟩
    · rintro i x σ H' hx ⟨u, w1, l1, rfl, e1, n1, as1, g1, q1⟩
      obtain ⟨a, rfl, c, hci, hac⟩ := refs_get hp hx
      have hc' := hc c (List.mem_of_getElem? hci)
      have ha : H' a = some (.tup (cutV c)) := e1 _ _ (e0 _ _ hac)
      have okt : ∀ d ∈ cs.take i, okC d := fun d hd => hc d (List.mem_of_mem_take hd)
      have len5 : (cs.take i).length ≤ 4 := by
        have h6 := (List.getElem?_eq_some_iff.mp hci).1
        rw [List.length_take]
        omega
      have lenp := placesF_len okt
      have l256 : (placesF (cs.take i)).length ≤ 256 := Nat.le_trans lenp (Nat.pow_le_pow_right (by decide) len5)
      refine ⟨a, _, rfl, SqT.of ha, rfl, _, _, rfl, _, _, rfl, rfl, ?_⟩
      refine ⟨_, rfl, l1, rfl, ⟨_, SqL.of g1⟩, fun D hD => lc2_walk walk_l (fun i2 H3 => ∃ ds : List Addr, H3 D = some (.lst (ds.map V.ref)) ∧ Paired (fun a (p : Pr) => H3 a = some (.tup [.int p.1, .int p.2])) ds (spread ((placesF (cs.take i)).take i2) c) ∧ Ext H' H3) ⟨[], upd_same, .nil, Ext.upd hD⟩ (fun _ _ ⟨_, _, _, e⟩ => SqL.of (e _ _ g1)) ?_ ?_⟩
      · rintro i2 x H3 hx2 ⟨ds, d1, d2, d3⟩
        obtain ⟨ap, rfl, p, hpi, hap⟩ := refs_get q1 hx2
        have hpm := placesF_mem p (List.mem_of_getElem? hpi)
        have c256 : colsF (cs.take i) ≤ 1024 ∧ rowsF (cs.take i) ≤ 1024 := cols_le okt (Nat.le_trans len5 (by decide))
        have i256 : i2 < 256 := Nat.lt_of_lt_of_le (List.getElem?_eq_some_iff.mp hpi).1 l256
        have hc4 := hc'.2
        refine ⟨rfl, lc_yes ⟨_, rfl, (c.2 : Int), rfl, by omega, by omega, lc_inner (walk_r (lo := 0)) (fun j H4 => ∃ ds : List Addr, H4 D = some (.lst (ds.map V.ref)) ∧ Paired (fun a (p : Pr) => H4 a = some (.tup [.int p.1, .int p.2])) ds (spread ((placesF (cs.take i)).take i2) c ++ (List.range j).map fun k => stepC p c k) ∧ Ext H' H4) ⟨ds, d1, by simpa using d2, d3⟩ (fun _ _ _ => trivial) ?_ ?_⟩⟩
        · rintro j x H4 hx4 ⟨ds4, f1, f2, f3⟩
          have hj : j < c.2 := by
            have := (List.getElem?_eq_some_iff.mp hx4).1
            simpa using this
          have hx5 : x = .int (j : Nat) := by
            rw [List.getElem?_map, List.getElem?_range (by simpa using hj)] at hx4
            have := Option.some.inj hx4
            rw [← this]
            show V.int (0 + (j : Int)) = V.int (j : Int)
            rw [Int.zero_add]
          subst hx5
          have hap4 : H4 ap = some (.tup [.int p.1, .int p.2]) := f3 _ _ hap
          refine ⟨rfl, lc_yes ⟨_, rfl, _, rfl, _, rfl, _, rfl, ap, p, c, j, rfl, hap4, by omega, by omega, by omega, fun tt htt => ?_⟩⟩
          have hDt : D ≠ tt := fun z => by
            rw [← z, f1] at htt
            cases htt
          refine ⟨_, by rw [upd_ne hDt]; exact f1, ?_, ds4 ++ [tt], ?_, ?_, ?_⟩
          · rw [List.length_map, pd_len f2, List.length_append, spread_length, List.length_take, List.length_map, List.length_range, sizeLine_eq]
            have h1 : min i2 (placesF (cs.take i)).length * c.2 ≤ 256 * 4 := Nat.mul_le_mul (by omega) hc4
            omega
          · rw [upd_same, List.map_append]
            rfl
          · rw [List.range_succ, List.map_append, ← List.append_assoc]
            refine pd_snoc (pd_imp (fun a q hq => ?_) f2) ?_
            · rw [upd_ne (fun z => by rw [z, f1] at hq; cases hq), upd_ne (ne_of_none hq htt)]
              exact hq
            · rw [upd_ne (Ne.symm hDt), upd_same]
          · exact ext_put (f3.trans (Ext.upd htt)) hD
        · rintro H4 ⟨ds4, f1, f2, f3⟩
          refine ⟨ds4, f1, ?_, f3⟩
          rw [take_snoc hpi, spread_snoc]
          have e5 : (List.map (fun k : Nat => V.int (0 + (k : Int))) (List.range ((c.2 : Int)).toNat)).length = c.2 := by simp
          rw [e5] at f2
          exact f2
      · rintro H3 ⟨ds, d1, d2, d3⟩
        refine ⟨_, _, D, rfl, e1.trans d3, none_of (e0.trans e1) hD, ds, d1, ?_⟩
        rw [List.length_map, pd_len q1, List.take_length] at d2
        rw [take_snoc hci, placesF_snoc]
        exact d2
    · rintro σ H' ⟨u, w1, l1, rfl, e1, n1, pr⟩
      rw [List.length_map, hlen, List.take_length] at pr
      exact ⟨_, rfl, k l1 H' (e0.trans e1) n1 pr⟩
end
end Mc

set_option Elab.async false
set_option linter.all false
set_option maxRecDepth 100000
set_option maxHeartbeats 4000000
set_option exponentiation.threshold 20000
namespace Mc
open PySem PySem.Spec PyProof.Rows L2 ClX StX
section
variable {P : Program} {w : World} {K : PySem.W.Frag} {mg : Str → Option Value} {base : Heap} {f C0 aX : Addr} {mc : Value} {fd : FuncData}
theorem sc_parts_of : FnScope ["cuts", "columns", "rows"] ["cuts"] (defScope s_parts_of) := ⟨rfl, rfl, rfl, by decide +kernel, rfl, by decide +kernel, by decide +kernel⟩
theorem pd_last {α β : Type} {F : α → β → Prop} : ∀ {l : List α} {m : List β} {b : β}, Paired F l m → m.getLast? = some b → ∃ a, F a b ∧ l.getLast? = some a
  | _, _, _, .nil, h => by simp at h
  | [a], _, b, .cons r .nil, h => ⟨a, by simp at h; subst h; exact r, rfl⟩
  | a :: a2 :: l, _ :: b2 :: m, b, .cons r (.cons r2 t), h => by
    rw [List.getLast?_cons_cons] at h
    obtain ⟨x, h1, h2⟩ := pd_last (.cons r2 t) h
    exact ⟨x, h1, by rw [List.getLast?_cons_cons]; exact h2⟩
theorem atI_lastM {as : List Addr} {a : Addr} (h : as.getLast? = some a) : atI (as.map V.ref) (-1) = some (.ref a) := by
  obtain ⟨l, rfl⟩ := List.getLast?_eq_some_iff.mp h
  rw [List.map_append]
  exact atI_last _ _
def spPartsOf (K : PySem.W.Frag) : Sp := fun vs H Q _ => ∃ (v : V) (cs : List Cut), vs = [v] ∧ CutsAt K H v cs ∧ cs.length ≤ 5 ∧ (∀ c ∈ cs, okC c) ∧ ∀ t H', Ext H H' → H t = none → H' t = some (.tup [.int (colsF cs), .int (rowsF cs)]) → Q (.ref t) H'
theorem ok_parts_of (F : FunD K "_parts_of" "_parts_of" (defArgs s_parts_of) (defBody s_parts_of) (defScope s_parts_of) [] [] f fd) (T : TB mg) {fplaces_of : Addr} {fdplaces_of : FuncData} (Dplaces_of : Gd P w K mg base "_places_of" 2 ["cuts"] (spPlaces K) fplaces_of fdplaces_of) : FnOk P w K mg base CX0 3 f fd ["cuts"] (spPartsOf K) := by
  refine F.ok sc_parts_of (fun vs H Q E h => ?_) (fun cdv A outer s H vs Q E hr h => ?_)
  · obtain ⟨v, cs, rfl, hv, h5, hc, k⟩ := h
    rfl
  · obtain ⟨v, cs, rfl, hv, h5, hc, k⟩ := h
    refine ⟨_, (PSs.nox (pss_cons (ps_asg (pe_ix ix_seq (pe_gd Dplaces_of hr (by decide) (by rfl) (pa_cons (pv 0) pa_nil)) (pe_un un_neg pe_int) (fun _ _ => rfl)) (pg_tup rfl (pgs_cons (pg_name (i := 1) sc_parts_of.nd rfl (.inl rfl)) (pgs_cons (pg_name (i := 2) sc_parts_of.nd rfl (.inl rfl)) pgs_nil))))
      (pss_one (ps_ret (pe_tup (pa_cons (pe_op op_add (pv 1) pe_int) (pa_cons (pe_op op_add (pv 2) pe_int) pa_nil))))))), ?_⟩
    refine ⟨_, rfl, v, cs, rfl, hv, h5, hc, fun l H1 e1 _ ⟨as, g1, q1⟩ => ?_⟩
    obtain ⟨a, ha, hl⟩ := pd_last q1 (placesF_last cs hc)
    refine ⟨_, rfl, .inl ⟨l, _, -1, _, rfl, rfl, SqL.of g1, atI_lastM hl, a, _, rfl, SqT.of ha, rfl, _, _, rfl, _, _, rfl, rfl, ?_⟩⟩
    refine ⟨_, rfl, _, _, rfl, rfl, _, rfl, _, _, rfl, rfl, (by show 2 ≤ sizeLine; decide), fun t ht => ?_⟩
    refine k t _ (e1.trans (Ext.upd ht)) (none_of e1 ht) ?_
    rw [upd_same]
    show some (HO.tup [.int ((colsF cs : Int) - 1 + 1), .int ((rowsF cs : Int) - 1 + 1)]) = _
    rw [Int.sub_add_cancel, Int.sub_add_cancel]
theorem sc_multiplied : FnScope ["all_parts", "all_columns", "all_rows", "columns", "rows"] ["all_parts"] (defScope s_multiplied) := ⟨rfl, rfl, rfl, by decide +kernel, rfl, by decide +kernel, by decide +kernel⟩
def mulF (ps : List Pr) : Pr := ps.foldl (fun q p => (q.1 * p.1, q.2 * p.2)) (1, 1)
theorem mul_bits {x y : Int} {i : Nat} (h : x.natAbs ≤ 2 ^ (16 * i)) (hy : y.natAbs < 2 ^ 16) : (x * y).natAbs ≤ 2 ^ (16 * (i + 1)) := by
  rw [Int.natAbs_mul, Nat.mul_add, Nat.pow_add]
  exact Nat.mul_le_mul h (Nat.le_of_lt hy)
def spMul (K : PySem.W.Frag) : Sp := fun vs H Q _ => ∃ (l : Addr) (as : List Addr) (ps : List Pr), vs = [.ref l] ∧ SqA K H l (as.map V.ref) ∧ Paired (fun a (p : Pr) => H a = some (.tup [.int p.1, .int p.2])) as ps ∧ ps.length ≤ 1000 ∧ (∀ p ∈ ps, p.1.natAbs < 2 ^ 16 ∧ p.2.natAbs < 2 ^ 16) ∧
  ∀ t H', Ext H H' → H' t = some (.tup [.int (mulF ps).1, .int (mulF ps).2]) → Q (.ref t) H'
theorem ok_multiplied (F : FunD K "_multiplied" "_multiplied" (defArgs s_multiplied) (defBody s_multiplied) (defScope s_multiplied) [] [] f fd) (T : TB mg) : FnOk P w K mg base CX0 1 f fd ["all_parts"] (spMul K) := by
  refine F.ok sc_multiplied (fun vs H Q E h => ?_) (fun cdv A outer s H vs Q E hr h => ?_)
  · obtain ⟨l, as, ps, rfl, hl, hp, h3, hb, k⟩ := h
    rfl
  · obtain ⟨l, as, ps, rfl, hl, hp, h3, hb, k⟩ := h
    refine ⟨_, (PSs.nox (pss_cons (ps_set (i := 1) sc_multiplied.nd rfl (.inl rfl) pe_int)
      (pss_cons (ps_set (i := 2) sc_multiplied.nd rfl (.inl rfl) pe_int)
      (pss_cons (ps_for PassesOwn.never rfl (pi_seq (pv 0)) (pg_tup rfl (pgs_cons (pg_name (i := 3) sc_multiplied.nd rfl (.inl rfl)) (pgs_cons (pg_name (i := 4) sc_multiplied.nd rfl (.inl rfl)) pgs_nil))) (pss_cons (ps_set (i := 1) sc_multiplied.nd rfl (.inl rfl) (pe_op op_mulW (pv 1) (pv 3)))
      (pss_one (ps_set (i := 2) sc_multiplied.nd rfl (.inl rfl) (pe_op op_mulW (pv 2) (pv 4))))))
      (pss_one (ps_ret (pe_tup (pa_cons (pv 1) (pa_cons (pv 2) pa_nil))))))))), ?_⟩
    have hlen := pd_len hp
    refine ⟨_, rfl, l, _, rfl, hl, fun J S wj hS => for_walk wj (fun i σ H' => ∃ u w1 q, σ = [some (.ref l), some (.int (mulF (ps.take i)).1), some (.int (mulF (ps.take i)).2), u, w1] ∧ H' = H ∧ q = i ∧ (mulF (ps.take i)).1.natAbs ≤ 2 ^ (16 * i) ∧ (mulF (ps.take i)).2.natAbs ≤ 2 ^ (16 * i)) ⟨none, none, 0, rfl, rfl, rfl, Nat.le_refl 1, Nat.le_refl 1⟩ (fun _ _ _ ⟨_, _, _, _, e, _⟩ => hS _ (by rw [e]; exact Ext.rfl')) ?_ ?_⟩
    · rintro i x σ H' hx ⟨u, w1, q, rfl, rfl, _, b1, b2⟩
      obtain ⟨a, rfl, p, hpi, ha⟩ := refs_get hp hx
      have hi : i < 1000 := Nat.lt_of_lt_of_le (List.getElem?_eq_some_iff.mp hpi).1 h3
      obtain ⟨hp1, hp2⟩ := hb p (List.mem_of_getElem? hpi)
      have up : ∀ z : Int, z.natAbs ≤ 2 ^ (16 * i) → z.natAbs < 2 ^ 16000 := fun z h => Nat.lt_of_le_of_lt h (Nat.pow_lt_pow_right (by decide) (by omega))
      refine ⟨a, _, rfl, SqT.of ha, rfl, _, _, rfl, _, _, rfl, rfl, ?_⟩
      refine ⟨_, rfl, _, rfl, _, _, rfl, rfl, mulW (up _ b1) hp1, ?_⟩
      refine ⟨_, rfl, _, rfl, _, _, rfl, rfl, mulW (up _ b2) hp2, ?_⟩
      have e : mulF (ps.take (i + 1)) = ((mulF (ps.take i)).1 * p.1, (mulF (ps.take i)).2 * p.2) := by
        rw [take_snoc hpi]
        unfold mulF
        rw [List.foldl_append]
        rfl
      refine ⟨some (.int p.1), some (.int p.2), i + 1, ?_, rfl, rfl, ?_, ?_⟩
      · rw [e]
        rfl
      · rw [e]
        exact mul_bits b1 hp1
      · rw [e]
        exact mul_bits b2 hp2
    · rintro σ H' ⟨u, w1, q, rfl, rfl, _, b1, b2⟩
      rw [List.length_map, hlen, List.take_length]
      exact ⟨_, rfl, _, rfl, (by show 2 ≤ sizeLine; decide), fun t ht => k t _ (Ext.upd ht) upd_same⟩
theorem sc_power : FnScope ["base", "exponent", "worth", "_"] ["base", "exponent"] (defScope s_power) := ⟨rfl, rfl, rfl, by decide +kernel, rfl, by decide +kernel, by decide +kernel⟩
def spPower : Sp := fun vs H Q _ => ∃ (b : Int) (n : Nat), vs = [.int b, .int n] ∧ b.natAbs < 2 ^ 16 ∧ n ≤ 1000 ∧ Q (.int (b ^ n)) H
theorem ok_power (F : FunD K "_power" "_power" (defArgs s_power) (defBody s_power) (defScope s_power) [] [] f fd) (T : TB mg) : FnOk P w K mg base CX0 1 f fd ["base", "exponent"] (spPower) := by
  refine F.ok sc_power (fun vs H Q E h => ?_) (fun cdv A outer s H vs Q E hr h => ?_)
  · obtain ⟨b, n, rfl, hb, hn, k⟩ := h
    rfl
  · obtain ⟨b, n, rfl, hb, hn, k⟩ := h
    refine ⟨_, (PSs.nox (pss_cons (ps_set (i := 2) sc_power.nd rfl (.inl rfl) pe_int)
      (pss_cons (ps_for PassesOwn.never rfl (pi_range1 (by rfl) T.range (pa_cons (pv 1) pa_nil)) (pg_name (i := 3) sc_power.nd rfl (.inl rfl)) (pss_one (ps_set (i := 2) sc_power.nd rfl (.inl rfl) (pe_op op_mulW (pv 2) (pv 0)))))
      (pss_one (ps_ret (pv 2)))))), ?_⟩
    refine ⟨_, rfl, (n : Int), rfl, by omega, by omega, for_walk (walk_r (lo := 0)) (fun i σ H' => ∃ u, σ = [some (.int b), some (.int n), some (.int (b ^ i)), u] ∧ H' = H ∧ (b ^ i).natAbs ≤ 2 ^ (16 * i)) ⟨none, by rw [Int.pow_zero]; rfl, rfl, by rw [Int.pow_zero]; exact Nat.le_refl 1⟩ (fun _ _ _ _ => trivial) ?_ ?_⟩
    · rintro i x σ H' hx ⟨u, rfl, rfl, h1⟩
      have hi : i < n := by
        have := (List.getElem?_eq_some_iff.mp hx).1
        simpa using this
      have hx5 : x = .int (0 + (i : Nat)) := by
        rw [List.getElem?_map, List.getElem?_range (by simpa using hi)] at hx
        exact (Option.some.inj hx).symm
      subst hx5
      refine ⟨_, rfl, _, rfl, _, _, rfl, rfl, mulW (Nat.lt_of_le_of_lt h1 (Nat.pow_lt_pow_right (a := 2) (n := 16001) (by decide) (by omega))) hb, ?_⟩
      refine ⟨some (.int (0 + (i : Nat))), ?_, rfl, ?_⟩
      · rw [Int.pow_succ]
        rfl
      · rw [Int.pow_succ]
        exact mul_bits h1 hb
    · rintro σ H' ⟨u, rfl, rfl, h1⟩
      have e : (List.map (fun k : Nat => V.int (0 + (k : Int))) (List.range ((n : Int)).toNat)).length = n := by simp
      rw [e]
      exact ⟨_, rfl, k⟩
end
end Mc

set_option Elab.async false
set_option linter.all false
set_option maxRecDepth 100000
set_option maxHeartbeats 4000000
set_option exponentiation.threshold 20000
namespace Mc
open PySem PySem.Spec PyProof.Rows L2 ClX StX
section
variable {P : Program} {w : World} {K : PySem.W.Frag} {mg : Str → Option Value} {base : Heap} {f C0 aX : Addr} {mc : Value} {fd : FuncData}
theorem sc_plain_cuts : FnScope ["cuts", "axis", "parts"] ["cuts"] (defScope s_plain_cuts) := ⟨rfl, rfl, rfl, by decide +kernel, rfl, by decide +kernel, by decide +kernel⟩
def CutsL (H : Hp) (l : Addr) (cs : List Cut) : Prop := ∃ as : List Addr, H l = some (.lst (as.map V.ref)) ∧ Paired (fun a c => H a = some (.tup (cutV c))) as cs
theorem pe_bmK {X : Cx} {K : PySem.W.Frag} {T id : String} {name : Str} {r : V → List V → Hp → VK → Prop} {o e : Expr} {es : List Expr} {to : TE} {t : TA} {apos cpos : Pos} (hK : X.K = K) (pa : PlainAttrs T) (slot : Slot T name id) (hty : typeOf (.builtin id) = pure (.type "method_descriptor")) (hm : MtR X id r) (ho : PE X o to) (ha : PA X (e :: es) t) (hbase : attributeBase o name X.env (eval o X.env) = eval o X.env := by rfl) (hfew : ((backTo cpos (starEach (e :: es) X.env)).all (fun x => !x.1) && (backToKw cpos (keywordEach [] X.env)).all (fun x => x.1.isSome) && decide ((e :: es).length + ([] : List Keyword).length + (if ([] : List Keyword).isEmpty then 0 else 1) < 30)) = true := by rfl) (hline : (apos.endLine == cpos.line) = true := by rfl) (hs : starEach (e :: es) X.env = (false, eval e X.env) :: starEach es X.env := by rfl) (hplain : (backTo cpos (starEach es X.env)).any (·.1) = false := by rfl) :
    PE X (.Call (.Attribute o name apos) (e :: es) [] cpos) (tBM K T r to t) := by
  subst hK
  exact pe_bm pa slot hty hm ho ha hbase hfew hline hs hplain
theorem ix_seqK {X : Cx} {K : PySem.W.Frag} (hK : X.K = K) : IxR X (rIx K) := by
  subst hK
  exact ix_seq
def rTupIx (K : PySem.W.Frag) : V → List V → Hp → VK → Prop := fun x xs H Q => ∃ p, ∃ ys : List Str, ∃ z j, x = .ref p ∧ xs = [.str z] ∧ SqT K H p (ys.map V.str) ∧ ys[j]? = some z ∧ (∀ m, m < j → ys[m]? ≠ some z) ∧ Q (.int (j : Nat)) H
theorem mt_tupK {X : Cx} {K : PySem.W.Frag} (hK : X.K = K) : MtR X "tuple.index" (rTupIx K) := by
  subst hK
  exact mt_tup_index
def axI (b : Bool) : Nat := if b then 0 else 1
theorem ax_first (b : Bool) : ∀ m, m < axI b → (["east", "north"] : List Str)[m]? ≠ some (axS b) := by
  intro m hm
  cases b with
  | true => exact absurd hm (Nat.not_lt_zero m)
  | false =>
    have e : m = 0 := by
      have : m < 1 := hm
      omega
    subst e
    decide +kernel
def spPlain (K : PySem.W.Frag) : Sp := fun vs H Q _ => ∃ (v : V) (cs : List Cut), vs = [v] ∧ CutsAt K H v cs ∧ cs.length ≤ 5 ∧ (∀ c ∈ cs, okC c) ∧ ∀ l H', Ext H H' → H l = none → CutsL H' l cs → Q (.ref l) H'
theorem ok_plain_cuts (F : FunD K "_plain_cuts" "_plain_cuts" (defArgs s_plain_cuts) (defBody s_plain_cuts) (defScope s_plain_cuts) [] [] f fd) (T : TB mg) (R : PlanT K mg C0 aX mc) : FnOk P w K mg base CX0 1 f fd ["cuts"] (spPlain K) := by
  refine F.ok sc_plain_cuts (fun vs H Q E h => ?_) (fun cdv A outer s H vs Q E hr h => ?_)
  · obtain ⟨v, cs, rfl, hv, h5, hc, k⟩ := h
    rfl
  · obtain ⟨v, cs, rfl, hv, h5, hc, k⟩ := h
    refine ⟨_, (PSs.nox (pss_one (ps_ret (pe_lc (own := [("axis", 1), ("parts", 2)]) (g := gTup K 2 (gCons (gName 1) (gCons (gName 2) gNil))) (tt := tYes) rfl sc_plain_cuts.nd (pi_seq (pv 0)) (blkOk_by (own := [("axis", 1), ("parts", 2)]) (N := ["cuts", "axis", "parts"]) (sc := defScope s_plain_cuts) (by decide +kernel)) (fun _ _ _ _ _ => (pg_tup rfl (pgs_cons (pg_name (i := 1) sc_plain_cuts.nd rfl (.inl rfl)) (pgs_cons (pg_name (i := 2) sc_plain_cuts.nd rfl (.inl rfl)) pgs_nil)))) (fun _ _ _ _ _ => pts_nil) (fun _ _ _ _ _ => (pe_tup (pa_cons (pe_ix (ix_seqK (K := K) rfl) (pe_glob (v := .ref aX) (by rfl) R.ax rfl) (pe_bmK (K := K) rfl PySem.F.plainAttrs_tuple PySem.F.slot_tuple_index PySem.F.type_tuple_index (mt_tupK rfl) (pe_glob (v := .ref aX) (by rfl) R.ax rfl) (pa_cons (pv 1) pa_nil)) (fun _ _ => rfl)) (pa_cons (pe_callTy call_int1 (by rfl) T.int (by decide +kernel) (pa_cons (pv 2) pa_nil)) pa_nil)))))))), ?_⟩
    obtain ⟨l, as, rfl, hl, hp⟩ := hv
    have hlen := pd_len hp
    refine ⟨_, rfl, l, _, rfl, hl, fun J S wj hS D hD => lc_walk wj (fun i H' => ∃ ds : List Addr, H' D = some (.lst (ds.map V.ref)) ∧ Paired (fun a c => H' a = some (.tup (cutV c))) ds (cs.take i) ∧ Ext H H') ⟨[], upd_same, .nil, Ext.upd hD⟩ (fun _ _ ⟨_, _, _, e⟩ => hS _ e) ?_ ?_⟩
    · rintro i x H' hx ⟨ds, d1, d2, e⟩
      obtain ⟨a, rfl, c, hci, hac⟩ := refs_get hp hx
      have ha : H' a = some (.tup (cutV c)) := e _ _ hac
      refine ⟨a, _, rfl, SqT.of ha, rfl, _, _, rfl, _, _, rfl, rfl, rfl, lc_yes ?_⟩
      refine ⟨.inr (.inl ⟨rfl, R.axT⟩), _, rfl, aX, ["east", "north"], axS c.1, axI c.1, rfl, rfl, R.axK _, by cases c.1 <;> rfl, ax_first _, .inr (.inl ⟨aX, _, _, .str (axS c.1), rfl, rfl, R.axK _, atI_nat (by cases c.1 <;> rfl), _, rfl, .inl ⟨_, rfl, (by show 2 ≤ sizeLine; decide), fun tt htt => ?_⟩⟩)⟩
      have hDt : D ≠ tt := fun z => by
        rw [← z, d1] at htt
        cases htt
      refine ⟨_, by rw [upd_ne hDt]; exact d1, ?_, ds ++ [tt], ?_, ?_, ?_⟩
      · rw [List.length_map, pd_len d2, List.length_take, sizeLine_eq]
        omega
      · rw [upd_same, List.map_append]
        rfl
      · rw [take_snoc hci]
        refine pd_snoc (pd_imp (fun a q hq => ?_) d2) ?_
        · rw [upd_ne (fun z => by rw [z, d1] at hq; cases hq), upd_ne (ne_of_none hq htt)]
          exact hq
        · rw [upd_ne (Ne.symm hDt), upd_same]
          rfl
      · exact ext_put (e.trans (Ext.upd htt)) hD
    · rintro H' ⟨ds, d1, d2, e⟩
      rw [List.length_map, hlen, List.take_length] at d2
      exact k D H' e hD ⟨ds, d1, d2⟩
def turnF (cs : List Cut) : List Cut := cs.map fun c => (!c.1, c.2)
theorem ax_turn (b : Bool) : atI [V.str "east", V.str "north"] (1 - (axI b : Int)) = some (.str (axS (!b))) := by
  cases b
  · exact atI_nat (j := 0) rfl
  · exact atI_nat (j := 1) rfl
def spTurn (K : PySem.W.Frag) : Sp := fun vs H Q _ => ∃ (v : V) (cs : List Cut), vs = [v] ∧ CutsAt K H v cs ∧ cs.length ≤ 5 ∧ (∀ c ∈ cs, okC c) ∧ ∀ l H', Ext H H' → H l = none → CutsL H' l (turnF cs) → Q (.ref l) H'

end
end Mc

set_option Elab.async false
set_option linter.all false
set_option maxRecDepth 100000
set_option maxHeartbeats 4000000
set_option exponentiation.threshold 20000
namespace Mc
open PySem PySem.Spec PyProof.Rows L2 ClX StX
section
variable {P : Program} {w : World} {K : PySem.W.Frag} {mg : Str → Option Value} {base : Heap} {f C0 aX : Addr} {mc : Value} {fd : FuncData}
theorem sc_check_rounds : FnScope ["rounds", "position", "cuts", "all_parts", "columns", "rows"] ["rounds"] (defScope s_check_rounds) := ⟨rfl, rfl, rfl, by decide +kernel, rfl, by decide +kernel, by decide +kernel⟩
def partsF (rs : List (List Cut)) : List Pr := rs.map fun cs => ((colsF cs : Int), (rowsF cs : Int))
structure OkR (rs : List (List Cut)) : Prop where
  l1 : 1 ≤ rs.length
  l3 : rs.length ≤ 3
  h1 : ∀ cs ∈ rs, 1 ≤ cs.length
  h5 : ∀ cs ∈ rs, cs.length ≤ 5
  hc : ∀ cs ∈ rs, ∀ c ∈ cs, okC c
  h32 : ∀ cs ∈ rs, colsF cs * rowsF cs ≤ 32
  bal : (mulF (partsF rs)).1 = (mulF (partsF rs)).2
theorem parts_small {rs : List (List Cut)} (ok : OkR rs) : ∀ q ∈ partsF rs, q.1.natAbs < 2 ^ 16 ∧ q.2.natAbs < 2 ^ 16 ∧ q.1 * q.2 ≤ 32 := by
  intro q hq
  obtain ⟨cs, hm, rfl⟩ := List.mem_map.mp hq
  obtain ⟨h1, h2⟩ := cols_le (ok.hc cs hm) (ok.h5 cs hm)
  have h3 := ok.h32 cs hm
  refine ⟨by omega, by omega, ?_⟩
  show (colsF cs : Int) * (rowsF cs : Int) ≤ 32
  rw [← Int.natCast_mul]
  omega
theorem CutsAt.ext {K : PySem.W.Frag} {H H' : Hp} {v : V} {cs : List Cut} (h : CutsAt K H v cs) (e : Ext H H') : CutsAt K H' v cs := by
  obtain ⟨l, as, rfl, h1, h2⟩ := h
  exact ⟨l, as, rfl, sq_ext h1 e, pd_imp (fun a c q => e _ _ q) h2⟩
def spCheck (K : PySem.W.Frag) : Sp := fun vs H Q _ => ∃ (p : Addr) (vs0 : List V) (rs : List (List Cut)), vs = [.ref p] ∧ SqT K H p vs0 ∧ Paired (CutsAt K H) vs0 rs ∧ OkR rs ∧ ∀ H', Ext H H' → Q .non H'
theorem ok_check_rounds (F : FunD K "_check_rounds" "_check_rounds" (defArgs s_check_rounds) (defBody s_check_rounds) (defScope s_check_rounds) [] [] f fd) (T : TB mg) (R : PlanT K mg C0 aX mc) {fis_cuts : Addr} {fdis_cuts : FuncData} (Dis_cuts : Gd P w K mg base "_is_cuts" 4 ["value"] (spCuts K) fis_cuts fdis_cuts) {fparts_of : Addr} {fdparts_of : FuncData} (Dparts_of : Gd P w K mg base "_parts_of" 3 ["cuts"] (spPartsOf K) fparts_of fdparts_of) {fmultiplied : Addr} {fdmultiplied : FuncData} (Dmultiplied : Gd P w K mg base "_multiplied" 1 ["all_parts"] (spMul K) fmultiplied fdmultiplied) : FnOk P w K mg base CX0 5 f fd ["rounds"] (spCheck K) := by
  refine F.ok sc_check_rounds (fun vs H Q E h => ?_) (fun cdv A outer s H vs Q E hr h => ?_)
  · obtain ⟨p, vs0, rs, rfl, hp, hr0, ok, k⟩ := h
    rfl
  · obtain ⟨p, vs0, rs, rfl, hp, hr0, ok, k⟩ := h
    refine ⟨_, (PSs.nox (pss_cons (ps_if (pt_cmpR op_eq (pe_callB call_len_seq (by rfl) T.len PySem.boot_len (pa_cons (pv 0) pa_nil)) pe_int (nomark _)) (pss_one ps_never) pss_nil)
      (pss_cons (ps_for PassesOwn.never rfl (pi_enumT (by rfl) T.enumerate (pa_cons (pv 0) pa_nil)) (pg_tup rfl (pgs_cons (pg_name (i := 1) sc_check_rounds.nd rfl (.inl rfl)) (pgs_cons (pg_name (i := 2) sc_check_rounds.nd rfl (.inl rfl)) pgs_nil))) (pss_one (ps_if (pt_not (pt_val (pe_gd Dis_cuts hr (by decide) (by rfl) (pa_cons (pv 2) pa_nil)))) (pss_one ps_never) pss_nil)))
      (pss_cons (ps_if (pt_cmpR op_gt (pe_callB call_len_seq (by rfl) T.len PySem.boot_len (pa_cons (pv 0) pa_nil)) (pe_cval (pe_glob (v := .ref C0) (by rfl) R.mgP rfl)) (nomark _)) (pss_one ps_never) pss_nil)
      (pss_cons (ps_setLc (i := 3) (own := [("cuts", 2)]) (g := gName 2) (tt := tYes) rfl sc_check_rounds.nd rfl rfl (sw_true rfl rfl rfl (by decide +kernel)) (pi_seq (pv 0)) (blkOk_by (own := [("cuts", 2)]) (N := ["rounds", "position", "cuts", "all_parts", "columns", "rows"]) (sc := defScope s_check_rounds) (by decide +kernel)) (fun _ _ _ _ _ => (pg_name (i := 2) sc_check_rounds.nd rfl (.inl rfl))) (fun _ _ _ _ _ => pts_nil) (fun _ _ _ _ _ => (pe_gd Dparts_of hr (by decide) (by rfl) (pa_cons (pv 2) pa_nil))))
      (pss_cons (ps_if (pt_cmpR op_gt (pe_callB (cr_max rfl) (by rfl) T.max (by decide +kernel) (pa_cons (pe_lc (own := [("columns", 4), ("rows", 5)]) (g := gTup K 2 (gCons (gName 4) (gCons (gName 5) gNil))) (tt := tYes) rfl sc_check_rounds.nd (pi_seq (pv 3)) (blkOk_by (own := [("columns", 4), ("rows", 5)]) (N := ["rounds", "position", "cuts", "all_parts", "columns", "rows"]) (sc := defScope s_check_rounds) (by decide +kernel)) (fun _ _ _ _ _ => (pg_tup rfl (pgs_cons (pg_name (i := 4) sc_check_rounds.nd rfl (.inl rfl)) (pgs_cons (pg_name (i := 5) sc_check_rounds.nd rfl (.inl rfl)) pgs_nil)))) (fun _ _ _ _ _ => pts_nil) (fun _ _ _ _ _ => (pe_op op_mulW (pv 4) (pv 5)))) pa_nil)) (pe_cval (pe_glob (v := .ref C0) (by rfl) R.mgP rfl)) (nomark _)) (pss_one ps_never) pss_nil)
      (pss_cons (ps_asg (pe_gd Dmultiplied hr (by decide) (by rfl) (pa_cons (pv 3) pa_nil)) (pg_tup rfl (pgs_cons (pg_name (i := 4) sc_check_rounds.nd rfl (.inl rfl)) (pgs_cons (pg_name (i := 5) sc_check_rounds.nd rfl (.inl rfl)) pgs_nil))))
      (pss_one (ps_if (pt_cmpR op_ne (pv 4) (pv 5) (nomark _)) (pss_one ps_never) pss_nil))))))))), ?_⟩
    have hlen := pd_len hr0
    obtain ⟨uR, hR⟩ := R.cR
    obtain ⟨uS, hSg⟩ := R.cS
    refine ⟨_, rfl, p, _, rfl, .inr hp, rfl, _, rfl, ite2 (fun hz => ?_) (fun _ => ?_)⟩
    · have := V.int.inj (of_decide_eq_true hz)
      have := ok.l1
      omega
    refine ⟨_, rfl, p, _, rfl, hp, for_enumT (fun i σ H' => ∃ u w1, σ = [some (.ref p), u, w1, none, none, none] ∧ Ext H H') ⟨none, none, rfl, Ext.rfl'⟩ (fun _ _ _ ⟨_, _, _, e⟩ => hp.ext e) ?_ ?_⟩
    · rintro i x T2 σ H' hx hT ⟨u, w1, rfl, e⟩
      obtain ⟨cs, hci, hcs⟩ := pd_get hr0 i x hx
      have hm := List.mem_of_getElem? hci
      refine ⟨T2, _, rfl, SqT.of upd_same, rfl, _, _, rfl, _, _, rfl, rfl, ?_⟩
      refine ⟨_, rfl, x, cs, rfl, (hcs.ext e).ext (Ext.upd hT), ok.h1 cs hm, ok.h5 cs hm, ok.hc cs hm, fun H2 e2 => ⟨_, rfl, iteF ?_⟩⟩
      exact ⟨_, _, rfl, (e.trans (Ext.upd hT)).trans e2⟩
    rintro σ H1 ⟨u, w1, rfl, e1⟩
    refine ⟨_, rfl, p, _, rfl, .inr (hp.ext e1), C0, mc, _, uR, rfl, R.cr, hR, _, _, rfl, rfl, _, rfl, ite2 (fun hz => ?_) (fun _ => ?_)⟩
    · have := of_decide_eq_true hz
      have := ok.l3
      omega
    refine ⟨_, rfl, p, _, rfl, .inr (hp.ext e1), fun J S wj hS D hD => lc_walk wj (fun i H' => ∃ ds : List Addr, H' D = some (.lst (ds.map V.ref)) ∧ Paired (fun a (q : Pr) => H' a = some (.tup [.int q.1, .int q.2])) ds ((partsF rs).take i) ∧ Ext H1 H') ⟨[], upd_same, .nil, Ext.upd hD⟩ (fun _ _ ⟨_, _, _, e⟩ => hS _ e) ?_ ?_⟩
    · rintro i x H' hx ⟨ds, d1, d2, e⟩
      obtain ⟨cs, hci, hcs⟩ := pd_get hr0 i x hx
      have hm := List.mem_of_getElem? hci
      have hpi : (partsF rs)[i]? = some ((colsF cs : Int), (rowsF cs : Int)) := by
        unfold partsF
        rw [List.getElem?_map, hci]
        rfl
      refine ⟨rfl, lc_yes ⟨_, rfl, x, cs, rfl, (hcs.ext e1).ext e, ok.h5 cs hm, ok.hc cs hm, fun t H2 e2 _ ht => ?_⟩⟩
      have htD : t ≠ D := fun z => by
        have z1 := e2 _ _ d1
        rw [← z, ht] at z1
        cases z1
      refine ⟨_, e2 _ _ d1, ?_, ds ++ [t], ?_, ?_, ?_⟩
      · have := ok.l3
        rw [List.length_map, pd_len d2, List.length_take, partsF, List.length_map, sizeLine_eq]
        omega
      · rw [upd_same, List.map_append]
        rfl
      · rw [take_snoc hpi]
        refine pd_snoc (pd_imp (fun a q hq => ?_) d2) ?_
        · rw [upd_ne (fun z => by rw [z, d1] at hq; cases hq)]
          exact e2 _ _ hq
        · rw [upd_ne htD]
          exact ht
      · exact ext_put (e.trans e2) hD
    rintro H2 ⟨ds, d1, d2, e2⟩
    have el : vs0.length = (partsF rs).length := by rw [hlen, partsF, List.length_map]
    rw [el, List.take_length] at d2
    have pl : (partsF rs).length ≤ 3 := by
      rw [← el, hlen]
      exact ok.l3
    have pm : ∀ q ∈ partsF rs, q.1.natAbs < 2 ^ 16 ∧ q.2.natAbs < 2 ^ 16 ∧ q.1 * q.2 ≤ 32 := parts_small ok
    refine ⟨_, rfl, D, _, rfl, .inl (SqL.of d1), fun J2 S2 wj2 hS2 D2 hD2 => lc_walk wj2 (fun i H' => H' D2 = some (.lst ((((partsF rs).take i).map fun q => q.1 * q.2).map V.int)) ∧ Ext H2 H') ⟨upd_same, Ext.upd hD2⟩ (fun _ _ ⟨_, e⟩ => hS2 _ e) ?_ ?_⟩
    · rintro i x H' hx ⟨f1, e⟩
      obtain ⟨a, rfl, q, hqi, ha⟩ := refs_get d2 hx
      obtain ⟨b1, b2, _⟩ := pm q (List.mem_of_getElem? hqi)
      refine ⟨a, _, rfl, SqT.of (e _ _ ha), rfl, _, _, rfl, _, _, rfl, rfl, rfl, lc_yes ⟨_, rfl, _, rfl, _, _, rfl, rfl, mulW b1 b2, ?_⟩⟩
      refine ⟨_, f1, ?_, ?_, ext_put e hD2⟩
      · rw [List.length_map, List.length_map, List.length_take, sizeLine_eq]
        omega
      · rw [upd_same, take_snoc hqi, List.map_append, List.map_append]
        rfl
    rintro H3 ⟨f1, e3⟩
    rw [List.length_map, pd_len d2, List.take_length] at f1
    refine ⟨D2, _, rfl, SqL.of f1, ?_, fun m hm _ => ⟨C0, mc, _, uS, rfl, R.cr, hSg, _, _, rfl, rfl, _, rfl, ite2 (fun hz => ?_) (fun _ => ?_)⟩⟩
    · rw [List.length_map, ← el, hlen]
      exact ok.l1
    · obtain ⟨q, hq, rfl⟩ := List.mem_map.mp hm
      have h32 := (pm q hq).2.2
      have := of_decide_eq_true hz
      omega
    refine ⟨_, rfl, D, ds, partsF rs, rfl, .inl (SqL.of (e3 _ _ d1)), pd_imp (fun a q h => e3 _ _ h) d2, Nat.le_trans pl (by decide), fun q hq => ⟨(pm q hq).1, (pm q hq).2.1⟩, fun t H4 e4 ht => ?_⟩
    refine ⟨t, _, rfl, SqT.of ht, rfl, _, _, rfl, _, _, rfl, rfl, ?_⟩
    refine ⟨_, rfl, _, rfl, rfl, _, rfl, ite2 (fun hz => ?_) (fun _ => ?_)⟩
    · rw [ok.bal] at hz
      simp at hz
    exact k H4 (((e1.trans e2).trans e3).trans e4)
end
end Mc

set_option Elab.async false
set_option linter.all false
set_option maxRecDepth 100000
set_option maxHeartbeats 4000000
set_option exponentiation.threshold 20000
namespace Mc
open PySem PySem.Spec PyProof.Rows L2 ClX StX
section
variable {P : Program} {w : World} {K : PySem.W.Frag} {mg : Str → Option Value} {base : Heap} {f C0 aX : Addr} {mc : Value} {fd : FuncData}
/-- a Plan stands at p -/
def flP (lr lp ll : Addr) (g : Int) : List (Str × V) := [("_rounds", .ref lr), ("_parts", .ref lp), ("_places", .ref ll), ("_growth", .int g)]
structure PlanIn (H : Hp) (lr lp ll : Addr) (g : Int) (rs : List (List Cut)) : Prop where
  r : ∃ as : List Addr, H lr = some (.lst (as.map V.ref)) ∧ Paired (fun a cs => CutsL H a cs) as rs
  p : ∃ as : List Addr, H lp = some (.lst (as.map V.ref)) ∧ Paired (fun a (q : Pr) => H a = some (.tup [.int q.1, .int q.2])) as (partsF rs)
  l : ∃ as : List Addr, H ll = some (.lst (as.map V.ref)) ∧ Paired (fun a cs => PairsAt H a (placesF cs)) as rs
  g : g = (mulF (partsF rs)).1
def PlanAt (C0 : Addr) (H : Hp) (p : Addr) (rs : List (List Cut)) : Prop := ∃ dx lr lp ll g, H p = some (.ins C0 dx (flP lr lp ll g)) ∧ PlanIn H lr lp ll g rs
theorem CutsL.ext {H H' : Hp} {l : Addr} {cs : List Cut} (h : CutsL H l cs) (e : Ext H H') : CutsL H' l cs := by
  obtain ⟨as, h1, h2⟩ := h
  exact ⟨as, e _ _ h1, pd_imp (fun a c q => e _ _ q) h2⟩
theorem PairsAt.ext {H H' : Hp} {l : Addr} {ps : List Pr} (h : PairsAt H l ps) (e : Ext H H') : PairsAt H' l ps := by
  obtain ⟨as, h1, h2⟩ := h
  exact ⟨as, e _ _ h1, pd_imp (fun a c q => e _ _ q) h2⟩
theorem PlanIn.ext {H H' : Hp} {lr lp ll : Addr} {g : Int} {rs : List (List Cut)} (h : PlanIn H lr lp ll g rs) (e : Ext H H') : PlanIn H' lr lp ll g rs := by
  obtain ⟨⟨a1, r1, r2⟩, ⟨a2, p1, p2⟩, ⟨a3, l1, l2⟩, hg⟩ := h
  exact ⟨⟨a1, e _ _ r1, pd_imp (fun a c q => q.ext e) r2⟩, ⟨a2, e _ _ p1, pd_imp (fun a c q => e _ _ q) p2⟩, ⟨a3, e _ _ l1, pd_imp (fun a c q => q.ext e) l2⟩, hg⟩
theorem PlanAt.ext {C0 : Addr} {H H' : Hp} {p : Addr} {rs : List (List Cut)} (h : PlanAt C0 H p rs) (e : Ext H H') : PlanAt C0 H' p rs := by
  obtain ⟨dx, lr, lp, ll, g, h1, h2⟩ := h
  exact ⟨dx, lr, lp, ll, g, e _ _ h1, h2.ext e⟩
/-- all but one instance stays as it is -/
theorem pd_frm {H H' : Hp} {p : Addr} {xs : List V} {a : Addr} (f : Frm [p] H H') {C dx : Addr} {fs : List (Str × V)} (hp : H p = some (.ins C dx fs)) (h : H a = some (.tup xs)) : H' a = some (.tup xs) := f _ _ h fun m => by
  rw [List.mem_singleton.mp m, hp] at h
  cases h
theorem ls_frm {H H' : Hp} {p : Addr} {xs : List V} {a : Addr} (f : Frm [p] H H') {C dx : Addr} {fs : List (Str × V)} (hp : H p = some (.ins C dx fs)) (h : H a = some (.lst xs)) : H' a = some (.lst xs) := f _ _ h fun m => by
  rw [List.mem_singleton.mp m, hp] at h
  cases h
theorem wipe_set2 {σ : L2.St} {x : V} : wipe ((wipe σ [2]).set 2 (some x)) [2] = wipe σ [2] := by
  show ((σ.set 2 none).set 2 (some x)).set 2 none = σ.set 2 none
  rw [List.set_set, List.set_set]
/-- the three lists that __init__ makes: of each round what te gives of it -/
theorem lc_cuts {K : PySem.W.Frag} {J : It} {S : Hp → Prop} {vs0 : List V} {rs : List (List Cut)} {te : TE} {G : Hp → Addr → List Cut → Prop} {σ : L2.St} {H1 : Hp} {D : Addr} {Qd : Hp → Prop} (w : WalkJ J S vs0) (hS : ∀ H', Ext H1 H' → S H') (hp : Paired (CutsAt K H1) vs0 rs) (l3 : rs.length ≤ 3) (nD : H1 D = none)
    (mono : ∀ H H' a cs, Ext H H' → G H a cs → G H' a cs) (side : ∀ H xs ys a cs, H D = some (.lst xs) → a ≠ D → G H a cs → G (upd H D (.lst ys)) a cs)
    (call : ∀ x cs H (Q : VK), cs ∈ rs → CutsAt K H x cs → (∀ a H', Ext H H' → H a = none → G H' a cs → Q (.ref a) H') → te ((wipe σ [2]).set 2 (some x)) H Q) (hd : ∀ H', Ext H1 H' → (∃ ds : List Addr, H' D = some (.lst (ds.map V.ref)) ∧ Paired (G H') ds rs) → Qd H') : ∃ W : Nat → Nat → Hp → Prop, (∃ m, W 0 m (upd H1 D (.lst []))) ∧ ∀ i m H, W i m H →
      (J.stop i H ∧ Qd H) ∨ (J.go i H ∧ ∃ Nx : Hp → Prop, (∀ H', Nx H' → ∃ m', m' < m ∧ W (i + 1) m' H') ∧ ∀ x H', J.yld i H x H' → gName 2 x (wipe σ [2]) H' fun σ2 H2 => wipe σ2 [2] = wipe σ [2] ∧ tYes σ2 H2 fun b H3 => if b = true then te σ2 H3 fun y H4 => ∃ acc, H4 D = some (.lst acc) ∧ acc.length < sizeLine ∧ Nx (upd H4 D (.lst (acc ++ [y]))) else Nx H3) := by
  have hlen := pd_len hp
  refine lc_walk w (fun i H' => ∃ ds : List Addr, H' D = some (.lst (ds.map V.ref)) ∧ Paired (fun a cs => G H' a cs ∧ a ≠ D) ds (rs.take i) ∧ Ext H1 H') ⟨[], upd_same, .nil, Ext.upd nD⟩ (fun _ _ ⟨_, _, _, e⟩ => hS _ e) ?_ ?_
  · rintro i x H' hx ⟨ds, d1, d2, e⟩
    obtain ⟨cs, hci, hcs⟩ := pd_get hp i x hx
    have hm := List.mem_of_getElem? hci
    refine ⟨wipe_set2, lc_yes (call x cs H' _ hm (hcs.ext e) fun a H2 e2 na ga => ?_)⟩
    have naD : a ≠ D := fun z => by
      rw [z, d1] at na
      cases na
    refine ⟨_, e2 _ _ d1, ?_, ds ++ [a], ?_, ?_, ext_put (e.trans e2) nD⟩
    · rw [List.length_map, pd_len d2, List.length_take, sizeLine_eq]
      omega
    · rw [upd_same, List.map_append]
      rfl
    · rw [take_snoc hci]
      exact pd_snoc (pd_imp (fun b c q => ⟨side _ _ _ _ _ (e2 _ _ d1) q.2 (mono _ _ _ _ e2 q.1), q.2⟩) d2) ⟨side _ _ _ _ _ (e2 _ _ d1) naD ga, naD⟩
  · rintro H' ⟨ds, d1, d2, e⟩
    rw [hlen, List.take_length] at d2
    exact hd H' e ⟨ds, d1, pd_imp (fun b c q => q.1) d2⟩
theorem side_l {H : Hp} {D a : Addr} {xs ys zs : List V} (hD : H D = some (.lst xs)) (n : a ≠ D) (h : H a = some (.lst zs)) : upd H D (.lst ys) a = some (.lst zs) := by rw [upd_ne n]; exact h
theorem side_t {H : Hp} {D a : Addr} {xs ys zs : List V} (hD : H D = some (.lst xs)) (h : H a = some (.tup zs)) : upd H D (.lst ys) a = some (.tup zs) := by
  rw [upd_ne (fun z => by rw [z, hD] at h; cases h)]
  exact h
theorem side_cuts {H : Hp} {D a : Addr} {xs ys : List V} {cs : List Cut} (hD : H D = some (.lst xs)) (n : a ≠ D) (h : CutsL H a cs) : CutsL (upd H D (.lst ys)) a cs := by
  obtain ⟨as, h1, h2⟩ := h
  exact ⟨as, side_l hD n h1, pd_imp (fun _ _ q => side_t hD q) h2⟩
theorem side_prs {H : Hp} {D a : Addr} {xs ys : List V} {ps : List Pr} (hD : H D = some (.lst xs)) (n : a ≠ D) (h : PairsAt H a ps) : PairsAt (upd H D (.lst ys)) a ps := by
  obtain ⟨as, h1, h2⟩ := h
  exact ⟨as, side_l hD n h1, pd_imp (fun _ _ q => side_t hD q) h2⟩
theorem pd_map {F : Addr → List Cut → Prop} {G : Addr → Pr → Prop} (h : ∀ a cs, F a cs → G a ((colsF cs : Int), (rowsF cs : Int))) : ∀ {l : List Addr} {rs : List (List Cut)}, Paired F l rs → Paired G l (partsF rs)
  | _, _, .nil => .nil
  | _, _, .cons r t => .cons (h _ _ r) (pd_map h t)
theorem ne_ins {H : Hp} {p a : Addr} {C dx : Addr} {fs : List (Str × V)} {o : HO} (hp : H p = some (.ins C dx fs)) (h : H a = some o) (n : ∀ C dx fs, o ≠ .ins C dx fs) : a ∉ [p] := fun m => by
  rw [List.mem_singleton.mp m, hp] at h
  exact n _ _ _ (Option.some.inj h).symm
theorem sqa_frm {K : PySem.W.Frag} {H H' : Hp} {p l C dx : Addr} {fs : List (Str × V)} {xs : List V} (f : Frm [p] H H') (hp : H p = some (.ins C dx fs)) (h : SqA K H l xs) : SqA K H' l xs := by
  rcases h with (⟨h | ⟨o, h⟩⟩ | h) | (⟨h | ⟨o, h⟩⟩ | h)
  · exact .inl (.inl (.inl (f _ _ h (ne_ins hp h fun _ _ _ z => nomatch z))))
  · exact .inl (.inl (.inr ⟨o, f _ _ h (ne_ins hp h fun _ _ _ z => nomatch z)⟩))
  · exact .inl (.inr h)
  · exact .inr (.inl (.inl (f _ _ h (ne_ins hp h fun _ _ _ z => nomatch z))))
  · exact .inr (.inl (.inr ⟨o, f _ _ h (ne_ins hp h fun _ _ _ z => nomatch z)⟩))
  · exact .inr (.inr h)
theorem cuts_frm {K : PySem.W.Frag} {H H' : Hp} {p C dx : Addr} {fs : List (Str × V)} {v : V} {cs : List Cut} (f : Frm [p] H H') (hp : H p = some (.ins C dx fs)) (h : CutsAt K H v cs) : CutsAt K H' v cs := by
  obtain ⟨l, as, rfl, h1, h2⟩ := h
  exact ⟨l, as, rfl, sqa_frm f hp h1, pd_imp (fun _ _ q => pd_frm f hp q) h2⟩
theorem cutsL_frm {H H' : Hp} {p a C dx : Addr} {fs : List (Str × V)} {cs : List Cut} (f : Frm [p] H H') (hp : H p = some (.ins C dx fs)) (h : CutsL H a cs) : CutsL H' a cs := by
  obtain ⟨as, h1, h2⟩ := h
  exact ⟨as, ls_frm f hp h1, pd_imp (fun _ _ q => pd_frm f hp q) h2⟩
theorem prs_frm {H H' : Hp} {p a C dx : Addr} {fs : List (Str × V)} {ps : List Pr} (f : Frm [p] H H') (hp : H p = some (.ins C dx fs)) (h : PairsAt H a ps) : PairsAt H' a ps := by
  obtain ⟨as, h1, h2⟩ := h
  exact ⟨as, ls_frm f hp h1, pd_imp (fun _ _ q => pd_frm f hp q) h2⟩
def flP3 (lr lp ll : Addr) : List (Str × V) := [("_rounds", .ref lr), ("_parts", .ref lp), ("_places", .ref ll)]
theorem put1 (lr : Addr) : putF "_rounds" (.ref lr) [] = ([("_rounds", V.ref lr)] : List (Str × V)) := rfl
theorem put2 (lr lp : Addr) : putF "_parts" (.ref lp) [("_rounds", V.ref lr)] = ([("_rounds", V.ref lr), ("_parts", .ref lp)] : List (Str × V)) := rfl
theorem put3 (lr lp ll : Addr) : putF "_places" (.ref ll) [("_rounds", V.ref lr), ("_parts", .ref lp)] = flP3 lr lp ll := rfl
theorem put4 (lr lp ll : Addr) (g : Int) : putF "_growth" (.int g) (flP3 lr lp ll) = flP lr lp ll g := rfl
def spPlanI (K : PySem.W.Frag) (C0 : Addr) : Sp := fun vs H Q _ => ∃ (p dx : Addr) (vs0 : List V) (rs : List (List Cut)), vs = .ref p :: vs0 ∧ H p = some (.ins C0 dx []) ∧ Paired (CutsAt K H) vs0 rs ∧ OkR rs ∧
  ∀ H', Frm [p] H H' → PlanAt C0 H' p rs → Q .non H'
def spPlanB (K : PySem.W.Frag) (C0 : Addr) : Sp := fun vs H Q _ => ∃ (p dx t : Addr) (vs0 : List V) (rs : List (List Cut)), vs = [.ref p, .ref t] ∧ H p = some (.ins C0 dx []) ∧ H t = some (.tup vs0) ∧ Paired (CutsAt K H) vs0 rs ∧ OkR rs ∧
  ∀ H', Frm [p] H H' → PlanAt C0 H' p rs → Q .non H'
theorem sc_Plan___init : FnScope ["self", "rounds", "cuts"] ["self", "rounds"] (defScope s_Plan___init) := ⟨rfl, rfl, rfl, by decide +kernel, rfl, by decide +kernel, by decide +kernel⟩
theorem ok_Plan___init (F : FD K "__init__" "Plan.__init__" s_Plan___init f fd) (T : TB mg) (R : PlanT K mg C0 aX mc) {fcheck_rounds : Addr} {fdcheck_rounds : FuncData} (Dcheck_rounds : Gd P w K mg base "_check_rounds" 5 ["rounds"] (spCheck K) fcheck_rounds fdcheck_rounds) {fplain_cuts : Addr} {fdplain_cuts : FuncData} (Dplain_cuts : Gd P w K mg base "_plain_cuts" 1 ["cuts"] (spPlain K) fplain_cuts fdplain_cuts) {fparts_of : Addr} {fdparts_of : FuncData} (Dparts_of : Gd P w K mg base "_parts_of" 3 ["cuts"] (spPartsOf K) fparts_of fdparts_of) {fplaces_of : Addr} {fdplaces_of : FuncData} (Dplaces_of : Gd P w K mg base "_places_of" 2 ["cuts"] (spPlaces K) fplaces_of fdplaces_of) {fmultiplied : Addr} {fdmultiplied : FuncData} (Dmultiplied : Gd P w K mg base "_multiplied" 1 ["all_parts"] (spMul K) fmultiplied fdmultiplied) : FnR P w K mg base CX0 6 f (spPlanI K C0) := by
  obtain ⟨oc, od, dV, kV, doc, pm, an, cdv, ct, osl, rfl, lk, hcd, hD, _⟩ := F.ex
  obtain rfl : dV = .none := by
    rcases hD with ⟨_, e⟩ | ⟨e, _⟩
    · exact e
    · exact absurd rfl e
  refine FnR.imp (fn_star (CX := CX0) (ps := ["self"]) (pv := "rounds") (k := 5) (sp := spPlanB K C0) lk hcd sc_Plan___init cxUp_none (bind_star1 (B := fun l => bindArgs (PySem.W.fnOf "__init__" "Plan.__init__" (defArgs s_Plan___init) (defBody s_Plan___init) (defScope s_Plan___init) .none kV doc pm an cdv ct) ⟨l, []⟩) (fun _ => rfl) (fun _ _ _ => rfl)) (fun A outer s H vs Q E hr h => ?_)) (fun vs H Q E h => ?_)
  · obtain ⟨p, dx, t, vs0, rs, rfl, hp, ht, hr0, ok, k⟩ := h
    refine ⟨_, (PSs.nox (pss_cons (ps_expr (pe_gd Dcheck_rounds hr (by decide) (by rfl) (pa_cons (pv 1) pa_nil)))
      (pss_cons (ps_fld (pv 0) (pe_lc (own := [("cuts", 2)]) (g := gName 2) (tt := tYes) rfl sc_Plan___init.nd (pi_seq (pv 1)) (blkOk_by (own := [("cuts", 2)]) (N := ["self", "rounds", "cuts"]) (sc := defScope s_Plan___init) (by decide +kernel)) (fun _ _ _ _ _ => (pg_name (i := 2) sc_Plan___init.nd rfl (.inl rfl))) (fun _ _ _ _ _ => pts_nil) (fun _ _ _ _ _ => (pe_gd Dplain_cuts hr (by decide) (by rfl) (pa_cons (pv 2) pa_nil)))) rfl)
      (pss_cons (ps_fld (pv 0) (pe_lc (own := [("cuts", 2)]) (g := gName 2) (tt := tYes) rfl sc_Plan___init.nd (pi_seq (pv 1)) (blkOk_by (own := [("cuts", 2)]) (N := ["self", "rounds", "cuts"]) (sc := defScope s_Plan___init) (by decide +kernel)) (fun _ _ _ _ _ => (pg_name (i := 2) sc_Plan___init.nd rfl (.inl rfl))) (fun _ _ _ _ _ => pts_nil) (fun _ _ _ _ _ => (pe_gd Dparts_of hr (by decide) (by rfl) (pa_cons (pv 2) pa_nil)))) rfl)
      (pss_cons (ps_fld (pv 0) (pe_lc (own := [("cuts", 2)]) (g := gName 2) (tt := tYes) rfl sc_Plan___init.nd (pi_seq (pv 1)) (blkOk_by (own := [("cuts", 2)]) (N := ["self", "rounds", "cuts"]) (sc := defScope s_Plan___init) (by decide +kernel)) (fun _ _ _ _ _ => (pg_name (i := 2) sc_Plan___init.nd rfl (.inl rfl))) (fun _ _ _ _ _ => pts_nil) (fun _ _ _ _ _ => (pe_gd Dplaces_of hr (by decide) (by rfl) (pa_cons (pv 2) pa_nil)))) rfl)
      (pss_one (ps_fld (pv 0) (pe_ix ix_seq (pe_gd Dmultiplied hr (by decide) (by rfl) (pa_cons (pe_fld (pv 0) rfl) pa_nil)) pe_int (fun _ _ => rfl)) rfl))))))), ?_⟩
    refine ⟨_, rfl, t, vs0, rs, rfl, SqT.of ht, hr0, ok, fun H1 e1 => ?_⟩
    have c1 : Paired (CutsAt K H1) vs0 rs := pd_imp (fun v cs q => q.ext e1) hr0
    refine ⟨_, rfl, t, vs0, rfl, .inr (SqT.of (e1 _ _ ht)), fun J S wj hS D1 hD1 => lc_cuts (G := CutsL) wj hS c1 ok.l3 hD1 (fun _ _ _ _ e g => g.ext e) (fun _ _ _ _ _ h n g => side_cuts h n g) (fun x cs H Q hm hcs kk => ⟨_, rfl, x, cs, rfl, hcs, ok.h5 cs hm, ok.hc cs hm, fun l H' e n g => kk l H' e n g⟩) (fun H2 e2 ⟨as1, r1, r2⟩ => ?_)⟩
    have hp2 : H2 p = some (.ins C0 dx []) := e2 _ _ (e1 _ _ hp)
    refine ⟨_, rfl, p, C0, dx, [], rfl, hp2, R.cl, R.nR, (by show 0 < 1000; decide), ?_⟩
    rw [put1]
    have f2 : Frm [p] H2 (upd H2 p (.ins C0 dx [("_rounds", V.ref D1)])) := Frm.put (List.mem_singleton.mpr rfl)
    have p2 : (upd H2 p (.ins C0 dx [("_rounds", V.ref D1)])) p = some (.ins C0 dx [("_rounds", V.ref D1)]) := upd_same
    generalize upd H2 p (.ins C0 dx [("_rounds", V.ref D1)]) = G2 at *
    have c2 : Paired (CutsAt K G2) vs0 rs := pd_imp (fun v cs q => cuts_frm f2 hp2 (q.ext e2)) c1
    have t2 : G2 t = some (.tup vs0) := pd_frm f2 hp2 (e2 _ _ (e1 _ _ ht))
    refine ⟨_, rfl, t, vs0, rfl, .inr (SqT.of t2), fun J S wj hS D2 hD2 => lc_cuts (G := fun H a cs => H a = some (.tup [.int (colsF cs), .int (rowsF cs)])) wj hS c2 ok.l3 hD2 (fun _ _ _ _ e g => e _ _ g) (fun _ _ _ _ _ h n g => side_t h g) (fun x cs H Q hm hcs kk => ⟨_, rfl, x, cs, rfl, hcs, ok.h5 cs hm, ok.hc cs hm, fun l H' e n g => kk l H' e n g⟩) (fun H3 e3 ⟨as2, q1, q2⟩ => ?_)⟩
    have hp3 : H3 p = some (.ins C0 dx [("_rounds", V.ref D1)]) := e3 _ _ p2
    refine ⟨_, rfl, p, C0, dx, _, rfl, hp3, R.cl, R.nP, (by show 1 < 1000; decide), ?_⟩
    rw [put2]
    have f3 : Frm [p] H3 (upd H3 p (.ins C0 dx [("_rounds", V.ref D1), ("_parts", .ref D2)])) := Frm.put (List.mem_singleton.mpr rfl)
    have p3 : (upd H3 p (.ins C0 dx [("_rounds", V.ref D1), ("_parts", .ref D2)])) p = some (.ins C0 dx [("_rounds", V.ref D1), ("_parts", .ref D2)]) := upd_same
    generalize upd H3 p (.ins C0 dx [("_rounds", V.ref D1), ("_parts", .ref D2)]) = G3 at *
    have c3 : Paired (CutsAt K G3) vs0 rs := pd_imp (fun v cs q => cuts_frm f3 hp3 (q.ext e3)) c2
    have t3 : G3 t = some (.tup vs0) := pd_frm f3 hp3 (e3 _ _ t2)
    refine ⟨_, rfl, t, vs0, rfl, .inr (SqT.of t3), fun J S wj hS D3 hD3 => lc_cuts (G := fun H a cs => PairsAt H a (placesF cs)) wj hS c3 ok.l3 hD3 (fun _ _ _ _ e g => g.ext e) (fun _ _ _ _ _ h n g => side_prs h n g) (fun x cs H Q hm hcs kk => ⟨_, rfl, x, cs, rfl, hcs, ok.h5 cs hm, ok.hc cs hm, fun l H' e n g => kk l H' e n g⟩) (fun H4 e4 ⟨as3, s1, s2⟩ => ?_)⟩
    have hp4 : H4 p = some (.ins C0 dx [("_rounds", V.ref D1), ("_parts", .ref D2)]) := e4 _ _ p3
    refine ⟨_, rfl, p, C0, dx, _, rfl, hp4, R.cl, R.nL, (by show 2 < 1000; decide), ?_⟩
    rw [put3]
    have f4 : Frm [p] H4 (upd H4 p (.ins C0 dx (flP3 D1 D2 D3))) := Frm.put (List.mem_singleton.mpr rfl)
    have p4 : (upd H4 p (.ins C0 dx (flP3 D1 D2 D3))) p = some (.ins C0 dx (flP3 D1 D2 D3)) := upd_same
    generalize upd H4 p (.ins C0 dx (flP3 D1 D2 D3)) = G4 at *
    have q1' : G4 D2 = some (.lst (as2.map V.ref)) := ls_frm f4 hp4 (e4 _ _ (ls_frm f3 hp3 q1))
    have q2' : Paired (fun a (q : Pr) => G4 a = some (.tup [.int q.1, .int q.2])) as2 (partsF rs) := pd_map (fun a cs h => pd_frm f4 hp4 (e4 _ _ (pd_frm f3 hp3 h))) q2
    have pl : (partsF rs).length ≤ 1000 := by
      have := ok.l3
      rw [partsF, List.length_map]
      omega
    have pm := parts_small ok
    refine ⟨_, rfl, p, C0, dx, _, _, rfl, p4, R.cl, R.nP, rfl, D2, as2, partsF rs, rfl, .inl (SqL.of q1'), q2', pl, fun q hq => ⟨(pm q hq).1, (pm q hq).2.1⟩, fun t5 H5 e5 ht5 => ?_⟩
    have hp5 : H5 p = some (.ins C0 dx (flP3 D1 D2 D3)) := e5 _ _ p4
    refine .inr (.inl ⟨t5, _, 0, _, rfl, rfl, SqT.of ht5, rfl, _, rfl, p, C0, dx, _, rfl, hp5, R.cl, R.nG, (by show 3 < 1000; decide), ?_⟩)
    rw [put4]
    have f5 : Frm [p] H5 (upd H5 p (.ins C0 dx (flP D1 D2 D3 (mulF (partsF rs)).1))) := Frm.put (List.mem_singleton.mpr rfl)
    refine k _ ?_ ⟨dx, D1, D2, D3, _, upd_same, ⟨⟨as1, ?_, ?_⟩, ⟨as2, ?_, ?_⟩, ⟨as3, ?_, ?_⟩, rfl⟩⟩
    · exact (((((((Frm.ext e1).trans (Frm.ext e2)).trans f2).trans ((Frm.ext e3).trans f3)).trans (Frm.ext e4)).trans f4).trans (Frm.ext e5)).trans f5
    · exact ls_frm f5 hp5 (e5 _ _ (ls_frm f4 hp4 (e4 _ _ (ls_frm f3 hp3 (e3 _ _ (ls_frm f2 hp2 r1))))))
    · exact pd_imp (fun a cs g => cutsL_frm f5 hp5 ((cutsL_frm f4 hp4 ((cutsL_frm f3 hp3 ((cutsL_frm f2 hp2 g).ext e3)).ext e4)).ext e5)) r2
    · exact ls_frm f5 hp5 (e5 _ _ q1')
    · exact pd_imp (fun a q h => pd_frm f5 hp5 (e5 _ _ h)) q2'
    · exact ls_frm f5 hp5 (e5 _ _ (ls_frm f4 hp4 s1))
    · exact pd_imp (fun a cs g => prs_frm f5 hp5 ((prs_frm f4 hp4 g).ext e5)) s2
  · obtain ⟨p, dx, vs0, rs, rfl, hp, hr0, ok, k⟩ := h
    refine ⟨[.ref p], vs0, rfl, rfl, ?_, fun t ht => ?_⟩
    · have := ok.l3
      rw [pd_len hr0, sizeLine_eq]
      omega
    have e : Ext H (upd H t (.tup vs0)) := Ext.upd ht
    exact ⟨p, dx, t, vs0, rs, rfl, e _ _ hp, upd_same, pd_imp (fun v cs q => q.ext e) hr0, ok, fun H' f q => k H' ((Frm.new ht).trans f) q⟩

end
end Mc

set_option Elab.async false
set_option linter.all false
set_option maxRecDepth 100000
set_option maxHeartbeats 4000000
set_option exponentiation.threshold 20000
namespace Mc
open PySem PySem.Spec PyProof.Rows L2 ClX StX
section
variable {P : Program} {w : World} {K : PySem.W.Frag} {mg : Str → Option Value} {base : Heap} {f C0 aX : Addr} {mc : Value} {fd : FuncData}
theorem sc_Plan___len : FnScope ["self"] ["self"] (defScope s_Plan___len) := ⟨rfl, rfl, rfl, by decide +kernel, rfl, by decide +kernel, by decide +kernel⟩
def spLen (C0 : Addr) : Sp := fun vs H Q _ => ∃ (p : Addr) (rs : List (List Cut)), vs = [.ref p] ∧ PlanAt C0 H p rs ∧ Q (.int rs.length) H
theorem ok_Plan___len (F : FunD K "__len__" "Plan.__len__" (defArgs s_Plan___len) (defBody s_Plan___len) (defScope s_Plan___len) [] [] f fd) (T : TB mg) (R : PlanT K mg C0 aX mc) : FnOk P w K mg base CX0 1 f fd ["self"] (spLen C0) := by
  refine F.ok sc_Plan___len (fun vs H Q E h => ?_) (fun cdv A outer s H vs Q E hr h => ?_)
  · obtain ⟨p, rs, rfl, hp, k⟩ := h
    rfl
  · obtain ⟨p, rs, rfl, hp, k⟩ := h
    refine ⟨_, (PSs.nox (pss_one (ps_ret (pe_callB call_len_seq (by rfl) T.len PySem.boot_len (pa_cons (pe_fld (pv 0) rfl) pa_nil))))), ?_⟩
    obtain ⟨dx, lr, lp, ll, g, h1, h2⟩ := hp
    obtain ⟨as, r1, r2⟩ := h2.r
    refine ⟨_, rfl, p, C0, dx, _, _, rfl, h1, R.cl, R.nR, rfl, lr, _, rfl, .inl (SqL.of r1), ?_⟩
    rw [List.length_map, pd_len r2]
    exact k
theorem sc_check_phase : FnScope ["plan", "phase"] ["plan", "phase"] (defScope s_check_phase) := ⟨rfl, rfl, rfl, by decide +kernel, rfl, by decide +kernel, by decide +kernel⟩
def spPhaseOk (C0 : Addr) : Sp := fun vs H Q _ => ∃ (p : Addr) (rs : List (List Cut)) (i : Nat), vs = [.ref p, .int i] ∧ PlanAt C0 H p rs ∧ i < rs.length ∧ rs.length ≤ 3 ∧ Q .non H
theorem ok_check_phase (F : FunD K "check_phase" "check_phase" (defArgs s_check_phase) (defBody s_check_phase) (defScope s_check_phase) [] [] f fd) (T : TB mg) (R : PlanT K mg C0 aX mc) {fis_count_below : Addr} {fdis_count_below : FuncData} (Dis_count_below : Gd P w K mg base "is_count_below" 3 ["value", "bound"] (spBelow) fis_count_below fdis_count_below) {fLen : Addr} {fdLen : FuncData} (mLen : Meth K C0 "__len__" fLen) (Glen : FnOk P w K mg base CX0 1 fLen fdLen ["self"] (spLen C0)) (bLen : Binds K fdLen ["self"] []) : FnOk P w K mg base CX0 4 f fd ["plan", "phase"] (spPhaseOk C0) := by
  refine F.ok sc_check_phase (fun vs H Q E h => ?_) (fun cdv A outer s H vs Q E hr h => ?_)
  · obtain ⟨p, rs, i, rfl, hp, hi, h3, k⟩ := h
    rfl
  · obtain ⟨p, rs, i, rfl, hp, hi, h3, k⟩ := h
    refine ⟨_, (PSs.nox (pss_one (ps_if (pt_not (pt_val (pe_gd Dis_count_below hr (by decide) (by rfl) (pa_cons (pv 1) (pa_cons (pe_callB (call_lenO mLen Glen bLen (hr.mono (by decide))) (by rfl) T.len PySem.boot_len (pa_cons (pv 0) pa_nil)) pa_nil))))) (pss_one ps_never) pss_nil))), ?_⟩
    obtain ⟨dx, lr, lp, ll, g, h1, h2⟩ := id hp
    refine ⟨_, rfl, _, rfl, p, dx, _, rfl, h1, p, rs, rfl, hp, rs.length, rfl, by omega, ?_⟩
    exact ⟨_, _, rfl, by omega, by omega, _, rfl, iteF k⟩
theorem sc_Plan_phase : FnScope ["self", "f"] ["self", "f"] (defScope s_Plan_phase) := ⟨rfl, rfl, rfl, by decide +kernel, rfl, by decide +kernel, by decide +kernel⟩
def spPhase (C0 : Addr) : Sp := fun vs H Q _ => ∃ (p : Addr) (rs : List (List Cut)) (i : Nat), vs = [.ref p, .int i] ∧ PlanAt C0 H p rs ∧ 0 < rs.length ∧ i ≤ 1000 ∧ Q (.int ((i : Int) % (rs.length : Int))) H
theorem ok_Plan_phase (F : FunD K "phase" "Plan.phase" (defArgs s_Plan_phase) (defBody s_Plan_phase) (defScope s_Plan_phase) [] [] f fd) (T : TB mg) (R : PlanT K mg C0 aX mc) {fcheck_fineness : Addr} {fdcheck_fineness : FuncData} (Dcheck_fineness : Gd P w K mg base "check_fineness" 3 ["f"] (spFine) fcheck_fineness fdcheck_fineness) : FnOk P w K mg base CX0 4 f fd ["self", "f"] (spPhase C0) := by
  refine F.ok sc_Plan_phase (fun vs H Q E h => ?_) (fun cdv A outer s H vs Q E hr h => ?_)
  · obtain ⟨p, rs, i, rfl, hp, h0, h1000, k⟩ := h
    rfl
  · obtain ⟨p, rs, i, rfl, hp, h0, h1000, k⟩ := h
    refine ⟨_, (PSs.nox (pss_cons (ps_expr (pe_gd Dcheck_fineness hr (by decide) (by rfl) (pa_cons (pv 1) pa_nil)))
      (pss_one (ps_ret (pe_op op_mod (pv 1) (pe_callB call_len_seq (by rfl) T.len PySem.boot_len (pa_cons (pe_fld (pv 0) rfl) pa_nil))))))), ?_⟩
    obtain ⟨dx, lr, lp, ll, g, h1, h2⟩ := id hp
    obtain ⟨as, r1, r2⟩ := h2.r
    refine ⟨_, rfl, i, rfl, by omega, by omega, ?_⟩
    refine ⟨_, rfl, _, rfl, p, C0, dx, _, _, rfl, h1, R.cl, R.nR, rfl, lr, _, rfl, .inl (SqL.of r1), _, _, rfl, rfl, ?_, ?_⟩
    · rw [List.length_map, pd_len r2]
      show (0 : Int) < (rs.length : Int)
      omega
    · rw [List.length_map, pd_len r2]
      exact k
theorem sc_Plan_signs : FnScope ["self", "phase"] ["self", "phase"] (defScope s_Plan_signs) := ⟨rfl, rfl, rfl, by decide +kernel, rfl, by decide +kernel, by decide +kernel⟩
theorem pd_get2 {α β : Type} {F : α → β → Prop} : ∀ {l : List α} {m : List β}, Paired F l m → ∀ (i : Nat) (b : β), m[i]? = some b → ∃ a, l[i]? = some a ∧ F a b
  | _, _, .nil, i, a, h => by simp at h
  | _, _, .cons r t, 0, a, h => ⟨_, rfl, by cases h; exact r⟩
  | _, _, .cons r t, i + 1, a, h => pd_get2 t i a h
def spSigns (C0 : Addr) : Sp := fun vs H Q _ => ∃ (p : Addr) (rs : List (List Cut)) (i : Nat) (cs : List Cut), vs = [.ref p, .int i] ∧ PlanAt C0 H p rs ∧ rs[i]? = some cs ∧ rs.length ≤ 3 ∧ Q (.int (placesF cs).length) H
theorem ok_Plan_signs (F : FunD K "signs" "Plan.signs" (defArgs s_Plan_signs) (defBody s_Plan_signs) (defScope s_Plan_signs) [] [] f fd) (T : TB mg) (R : PlanT K mg C0 aX mc) {fcheck_phase : Addr} {fdcheck_phase : FuncData} (Dcheck_phase : Gd P w K mg base "check_phase" 4 ["plan", "phase"] (spPhaseOk C0) fcheck_phase fdcheck_phase) : FnOk P w K mg base CX0 5 f fd ["self", "phase"] (spSigns C0) := by
  refine F.ok sc_Plan_signs (fun vs H Q E h => ?_) (fun cdv A outer s H vs Q E hr h => ?_)
  · obtain ⟨p, rs, i, cs, rfl, hp, hi, h3, k⟩ := h
    rfl
  · obtain ⟨p, rs, i, cs, rfl, hp, hi, h3, k⟩ := h
    refine ⟨_, (PSs.nox (pss_cons (ps_expr (pe_gd Dcheck_phase hr (by decide) (by rfl) (pa_cons (pv 0) (pa_cons (pv 1) pa_nil))))
      (pss_one (ps_ret (pe_callB call_len_seq (by rfl) T.len PySem.boot_len (pa_cons (pe_ix ix_seq (pe_fld (pv 0) rfl) (pv 1) (fun _ _ => rfl)) pa_nil)))))), ?_⟩
    obtain ⟨dx, lr, lp, ll, g, h1, h2⟩ := id hp
    obtain ⟨as, l1, l2⟩ := h2.l
    have hl := (List.getElem?_eq_some_iff.mp hi).1
    obtain ⟨a, hai, ha⟩ := pd_get2 l2 i cs hi
    obtain ⟨bs, b1, b2⟩ := id ha
    refine ⟨_, rfl, _, rfl, p, rs, i, rfl, hp, hl, h3, ?_⟩
    refine ⟨_, rfl, p, C0, dx, _, _, rfl, h1, R.cl, R.nL, rfl, _, rfl, .inl ⟨ll, _, _, _, rfl, rfl, SqL.of l1, atI_nat (by rw [List.getElem?_map, hai]; rfl), a, _, rfl, .inl (SqL.of b1), ?_⟩⟩
    rw [List.length_map, pd_len b2]
    exact k
end
end Mc

set_option Elab.async false
set_option linter.all false
set_option maxRecDepth 100000
set_option maxHeartbeats 4000000
set_option exponentiation.threshold 20000
namespace Mc
open PySem PySem.Spec PyProof.Rows L2 ClX StX
section
variable {P : Program} {w : World} {K : PySem.W.Frag} {mg : Str → Option Value} {base : Heap} {f C0 aX : Addr} {mc : Value} {fd : FuncData}
theorem sc_Plan_parts : FnScope ["self", "phase"] ["self", "phase"] (defScope s_Plan_parts) := ⟨rfl, rfl, rfl, by decide +kernel, rfl, by decide +kernel, by decide +kernel⟩
def spPartsM (C0 : Addr) : Sp := fun vs H Q _ => ∃ (p : Addr) (rs : List (List Cut)) (i : Nat) (cs : List Cut), vs = [.ref p, .int i] ∧ PlanAt C0 H p rs ∧ rs[i]? = some cs ∧ rs.length ≤ 3 ∧
  ∀ a, H a = some (.tup [.int (colsF cs), .int (rowsF cs)]) → Q (.ref a) H
theorem ok_Plan_parts (F : FunD K "parts" "Plan.parts" (defArgs s_Plan_parts) (defBody s_Plan_parts) (defScope s_Plan_parts) [] [] f fd) (T : TB mg) (R : PlanT K mg C0 aX mc) {fcheck_phase : Addr} {fdcheck_phase : FuncData} (Dcheck_phase : Gd P w K mg base "check_phase" 4 ["plan", "phase"] (spPhaseOk C0) fcheck_phase fdcheck_phase) : FnOk P w K mg base CX0 5 f fd ["self", "phase"] (spPartsM C0) := by
  refine F.ok sc_Plan_parts (fun vs H Q E h => ?_) (fun cdv A outer s H vs Q E hr h => ?_)
  · obtain ⟨p, rs, i, cs, rfl, hp, hi, h3, k⟩ := h
    rfl
  · obtain ⟨p, rs, i, cs, rfl, hp, hi, h3, k⟩ := h
    refine ⟨_, (PSs.nox (pss_cons (ps_expr (pe_gd Dcheck_phase hr (by decide) (by rfl) (pa_cons (pv 0) (pa_cons (pv 1) pa_nil))))
      (pss_one (ps_ret (pe_ix ix_seq (pe_fld (pv 0) rfl) (pv 1) (fun _ _ => rfl)))))), ?_⟩
    obtain ⟨dx, lr, lp, ll, g, h1, h2⟩ := id hp
    obtain ⟨as, l1, l2⟩ := h2.p
    have hl := (List.getElem?_eq_some_iff.mp hi).1
    have hi2 : (partsF rs)[i]? = some ((colsF cs : Int), (rowsF cs : Int)) := by
      unfold partsF
      rw [List.getElem?_map, hi]
      rfl
    obtain ⟨a, hai, ha⟩ := pd_get2 l2 i _ hi2
    refine ⟨_, rfl, _, rfl, p, rs, i, rfl, hp, hl, h3, ?_⟩
    exact ⟨_, rfl, p, C0, dx, _, _, rfl, h1, R.cl, R.nP, rfl, _, rfl, .inl ⟨lp, _, _, _, rfl, rfl, SqL.of l1, atI_nat (by rw [List.getElem?_map, hai]; rfl), k a ha⟩⟩
theorem sc_check_sign : FnScope ["plan", "phase", "sign"] ["plan", "phase", "sign"] (defScope s_check_sign) := ⟨rfl, rfl, rfl, by decide +kernel, rfl, by decide +kernel, by decide +kernel⟩
def spSignOk (C0 : Addr) : Sp := fun vs H Q _ => ∃ (p : Addr) (rs : List (List Cut)) (i : Nat) (cs : List Cut) (z : Nat), vs = [.ref p, .int i, .int z] ∧ PlanAt C0 H p rs ∧ rs[i]? = some cs ∧ rs.length ≤ 3 ∧ z < (placesF cs).length ∧ Q .non H
theorem ok_check_sign (F : FunD K "check_sign" "check_sign" (defArgs s_check_sign) (defBody s_check_sign) (defScope s_check_sign) [] [] f fd) (T : TB mg) (R : PlanT K mg C0 aX mc) {fis_count_below : Addr} {fdis_count_below : FuncData} (Dis_count_below : Gd P w K mg base "is_count_below" 3 ["value", "bound"] (spBelow) fis_count_below fdis_count_below) {fSg : Addr} {fdSg : FuncData} (mSg : Meth K C0 "signs" fSg) (Gsg : FnOk P w K mg base CX0 5 fSg fdSg ["self", "phase"] (spSigns C0)) (bSg : Binds K fdSg ["self", "phase"] []) : FnOk P w K mg base CX0 6 f fd ["plan", "phase", "sign"] (spSignOk C0) := by
  refine F.ok sc_check_sign (fun vs H Q E h => ?_) (fun cdv A outer s H vs Q E hr h => ?_)
  · obtain ⟨p, rs, i, cs, z, rfl, hp, hi, h3, hz, k⟩ := h
    rfl
  · obtain ⟨p, rs, i, cs, z, rfl, hp, hi, h3, hz, k⟩ := h
    refine ⟨_, (PSs.nox (pss_one (ps_if (pt_not (pt_val (pe_gd Dis_count_below hr (by decide) (by rfl) (pa_cons (pv 2) (pa_cons (pe_meth (pv 0) R.cl mSg Gsg (hr.mono (by decide)) bSg .nil pass0 (pa_cons (pv 1) pa_nil)) pa_nil))))) (pss_one ps_never) pss_nil))), ?_⟩
    obtain ⟨dx, lr, lp, ll, g, h1, h2⟩ := id hp
    refine ⟨_, rfl, _, rfl, p, dx, _, rfl, h1, rfl, _, rfl, p, rs, i, cs, rfl, hp, hi, h3, ?_⟩
    exact ⟨_, _, rfl, by omega, by omega, _, rfl, iteF k⟩
theorem sc_Plan_place_of : FnScope ["self", "phase", "sign"] ["self", "phase", "sign"] (defScope s_Plan_place_of) := ⟨rfl, rfl, rfl, by decide +kernel, rfl, by decide +kernel, by decide +kernel⟩
def spPlaceOf (C0 : Addr) : Sp := fun vs H Q _ => ∃ (p : Addr) (rs : List (List Cut)) (i : Nat) (cs : List Cut) (z : Nat) (q : Pr), vs = [.ref p, .int i, .int z] ∧ PlanAt C0 H p rs ∧ rs[i]? = some cs ∧ rs.length ≤ 3 ∧ (placesF cs)[z]? = some q ∧
  ∀ a, H a = some (.tup [.int q.1, .int q.2]) → Q (.ref a) H
theorem ok_Plan_place_of (F : FunD K "place_of" "Plan.place_of" (defArgs s_Plan_place_of) (defBody s_Plan_place_of) (defScope s_Plan_place_of) [] [] f fd) (T : TB mg) (R : PlanT K mg C0 aX mc) {fcheck_sign : Addr} {fdcheck_sign : FuncData} (Dcheck_sign : Gd P w K mg base "check_sign" 6 ["plan", "phase", "sign"] (spSignOk C0) fcheck_sign fdcheck_sign) : FnOk P w K mg base CX0 7 f fd ["self", "phase", "sign"] (spPlaceOf C0) := by
  refine F.ok sc_Plan_place_of (fun vs H Q E h => ?_) (fun cdv A outer s H vs Q E hr h => ?_)
  · obtain ⟨p, rs, i, cs, z, q, rfl, hp, hi, h3, hz, k⟩ := h
    rfl
  · obtain ⟨p, rs, i, cs, z, q, rfl, hp, hi, h3, hz, k⟩ := h
    refine ⟨_, (PSs.nox (pss_cons (ps_expr (pe_gd Dcheck_sign hr (by decide) (by rfl) (pa_cons (pv 0) (pa_cons (pv 1) (pa_cons (pv 2) pa_nil)))))
      (pss_one (ps_ret (pe_ix ix_seq (pe_ix ix_seq (pe_fld (pv 0) rfl) (pv 1) (fun _ _ => rfl)) (pv 2) (fun _ _ => rfl)))))), ?_⟩
    obtain ⟨dx, lr, lp, ll, g, h1, h2⟩ := id hp
    obtain ⟨as, l1, l2⟩ := h2.l
    obtain ⟨a, hai, ha⟩ := pd_get2 l2 i cs hi
    obtain ⟨bs, b1, b2⟩ := id ha
    obtain ⟨b, hbi, hb⟩ := pd_get2 b2 z q hz
    refine ⟨_, rfl, _, rfl, _, rfl, p, rs, i, cs, z, rfl, hp, hi, h3, (List.getElem?_eq_some_iff.mp hz).1, ?_⟩
    refine ⟨_, rfl, p, C0, dx, _, _, rfl, h1, R.cl, R.nL, rfl, _, rfl, .inl ⟨ll, _, _, _, rfl, rfl, SqL.of l1, atI_nat (by rw [List.getElem?_map, hai]; rfl), _, rfl, ?_⟩⟩
    exact .inl ⟨a, _, _, _, rfl, rfl, SqL.of b1, atI_nat (by rw [List.getElem?_map, hbi]; rfl), k b hb⟩
theorem sc_Plan_growth : FnScope ["self"] ["self"] (defScope s_Plan_growth) := ⟨rfl, rfl, rfl, by decide +kernel, rfl, by decide +kernel, by decide +kernel⟩
def spGrowth (C0 : Addr) : Sp := fun vs H Q _ => ∃ (p : Addr) (rs : List (List Cut)), vs = [.ref p] ∧ PlanAt C0 H p rs ∧ Q (.int (mulF (partsF rs)).1) H
theorem ok_Plan_growth (F : FunD K "growth" "Plan.growth" (defArgs s_Plan_growth) (defBody s_Plan_growth) (defScope s_Plan_growth) [] [] f fd) (T : TB mg) (R : PlanT K mg C0 aX mc) : FnOk P w K mg base CX0 1 f fd ["self"] (spGrowth C0) := by
  refine F.ok sc_Plan_growth (fun vs H Q E h => ?_) (fun cdv A outer s H vs Q E hr h => ?_)
  · obtain ⟨p, rs, rfl, hp, k⟩ := h
    rfl
  · obtain ⟨p, rs, rfl, hp, k⟩ := h
    refine ⟨_, (PSs.nox (pss_one (ps_ret (pe_fld (pv 0) rfl)))), ?_⟩
    obtain ⟨dx, lr, lp, ll, g, h1, h2⟩ := hp
    have hg := h2.g
    subst hg
    exact ⟨_, rfl, p, C0, dx, _, _, rfl, h1, R.cl, R.nG, rfl, k⟩
end
end Mc

set_option Elab.async false
set_option linter.all false
set_option maxRecDepth 100000
set_option maxHeartbeats 4000000
set_option exponentiation.threshold 20000
namespace Mc
open PySem PySem.Spec PyProof.Rows L2 ClX StX
section
variable {P : Program} {w : World} {K : PySem.W.Frag} {mg : Str → Option Value} {base : Heap} {f C0 aX : Addr} {mc : Value} {fd : FuncData}
theorem sc_Plan_rounds : FnScope ["self", "cuts"] ["self"] (defScope s_Plan_rounds) := ⟨rfl, rfl, rfl, by decide +kernel, rfl, by decide +kernel, by decide +kernel⟩
theorem call_listK {X : Cx} {K : PySem.W.Frag} (hK : X.K = K) : CallR X (.type "list") (fun xs H Q => ∃ p ys, xs = [.ref p] ∧ (SqL K H p ys ∨ SqT K H p ys) ∧ ∀ l, H l = none → Q (.ref l) (upd H l (.lst ys))) := by
  subst hK
  exact call_list_of
def spRounds (C0 : Addr) : Sp := fun vs H Q _ => ∃ (p : Addr) (rs : List (List Cut)), vs = [.ref p] ∧ PlanAt C0 H p rs ∧ rs.length ≤ 3 ∧
  ∀ l as H', Ext H H' → H l = none → (∀ a ∈ as, H a = none) → as.Nodup → l ∉ as → H' l = some (.lst (as.map V.ref)) → Paired (CutsL H') as rs → Q (.ref l) H'
theorem ok_Plan_rounds (F : FunD K "rounds" "Plan.rounds" (defArgs s_Plan_rounds) (defBody s_Plan_rounds) (defScope s_Plan_rounds) [] [] f fd) (T : TB mg) (R : PlanT K mg C0 aX mc) : FnOk P w K mg base CX0 1 f fd ["self"] (spRounds C0) := by
  refine F.ok sc_Plan_rounds (fun vs H Q E h => ?_) (fun cdv A outer s H vs Q E hr h => ?_)
  · obtain ⟨p, rs, rfl, hp, h3, k⟩ := h
    rfl
  · obtain ⟨p, rs, rfl, hp, h3, k⟩ := h
    refine ⟨_, (PSs.nox (pss_one (ps_ret (pe_lc (own := [("cuts", 1)]) (g := gName 1) (tt := tYes) rfl sc_Plan_rounds.nd (pi_list (pe_fld (pv 0) rfl)) (blkOk_by (own := [("cuts", 1)]) (N := ["self", "cuts"]) (sc := defScope s_Plan_rounds) (by decide +kernel)) (fun _ _ _ _ _ => (pg_name (i := 1) sc_Plan_rounds.nd rfl (.inl rfl))) (fun _ _ _ _ _ => pts_nil) (fun _ _ _ _ _ => (pe_callTy (call_listK (K := K) rfl) (by rfl) T.list (by decide +kernel) (pa_cons (pv 1) pa_nil))))))), ?_⟩
    obtain ⟨dx, lr, lp, ll, g, h1, h2⟩ := id hp
    obtain ⟨as, r1, r2⟩ := h2.r
    refine ⟨_, rfl, p, C0, dx, _, _, rfl, h1, R.cl, R.nR, rfl, lr, rfl, ⟨_, SqL.of r1⟩, fun D hD => lc_walk walk_l (fun i H' => ∃ ds : List Addr, H' D = some (.lst (ds.map V.ref)) ∧ Paired (fun a cs => CutsL H' a cs ∧ a ≠ D) ds (rs.take i) ∧ ds.Nodup ∧ (∀ a ∈ ds, H a = none) ∧ Ext H H') ⟨[], upd_same, .nil, List.nodup_nil, (fun _ h => nomatch h), Ext.upd hD⟩ (fun _ _ ⟨_, _, _, _, _, e⟩ => SqL.of (e _ _ r1)) ?_ ?_⟩
    · rintro i x H' hx ⟨ds, d1, d2, d3, d4, e⟩
      obtain ⟨a, rfl, cs, hci, bs, b1, b2⟩ := refs_get r2 hx
      refine ⟨rfl, lc_yes ⟨_, rfl, a, _, rfl, .inl (SqL.of (e _ _ b1)), fun l hl => ?_⟩⟩
      have nlD : l ≠ D := fun z => by
        rw [z, d1] at hl
        cases hl
      have hlH : H l = none := none_of e hl
      have e2 : Ext H' (upd H' l (.lst (bs.map V.ref))) := Ext.upd hl
      have nlds : l ∉ ds := fun hm => by
        obtain ⟨j, hj⟩ := List.getElem?_of_mem hm
        obtain ⟨cs2, _, ⟨_, q1, _⟩, _⟩ := pd_get d2 j l hj
        rw [q1] at hl
        cases hl
      refine ⟨_, e2 _ _ d1, ?_, ds ++ [l], ?_, ?_, ?_, ?_, ext_put (e.trans e2) hD⟩
      · rw [List.length_map, pd_len d2, List.length_take, sizeLine_eq]
        omega
      · rw [upd_same, List.map_append]
        rfl
      · rw [take_snoc hci]
        refine pd_snoc (pd_imp (fun b c q => ⟨side_cuts (e2 _ _ d1) q.2 (q.1.ext e2), q.2⟩) d2) ⟨side_cuts (e2 _ _ d1) nlD ⟨bs, upd_same, pd_imp (fun b c q => e2 _ _ (e _ _ q)) b2⟩, nlD⟩
      · exact List.nodup_append.mpr ⟨d3, List.nodup_cons.mpr ⟨(fun h => nomatch h), List.nodup_nil⟩, fun b hb c hc z => by
          rw [List.mem_singleton.mp hc] at z
          exact nlds (z ▸ hb)⟩
      · intro b hb
        rcases List.mem_append.mp hb with hb | hb
        · exact d4 b hb
        · rw [List.mem_singleton.mp hb]
          exact hlH
    · rintro H' ⟨ds, d1, d2, d3, d4, e⟩
      rw [List.length_map, pd_len r2, List.take_length] at d2
      refine k D ds H' e hD d4 d3 (fun hm => ?_) d1 (pd_imp (fun _ _ q => q.1) d2)
      obtain ⟨j, hj⟩ := List.getElem?_of_mem hm
      obtain ⟨_, _, _, q⟩ := pd_get d2 j D hj
      exact q rfl
end
end Mc

set_option Elab.async false
set_option linter.all false
set_option maxRecDepth 100000
set_option maxHeartbeats 4000000
set_option exponentiation.threshold 20000
namespace Mc
open PySem PySem.Spec PyProof.Rows L2 ClX StX
section
variable {P : Program} {w : World} {K : PySem.W.Frag} {mg : Str → Option Value} {base : Heap} {f C0 aX : Addr} {mc : Value} {fd : FuncData}
theorem sc_counts_at : FnScope ["plan", "f", "turns", "rest", "columns", "rows", "many", "phase"] ["plan", "f"] (defScope s_counts_at) := ⟨rfl, rfl, rfl, by decide +kernel, rfl, by decide +kernel, by decide +kernel⟩
theorem cut_take (xs : List V) {n : Nat} (h : n ≤ xs.length) : L2.cutV xs Option.none (some ((n : Nat) : Int)) = xs.take n := by
  unfold L2.cutV
  rw [HT.sIx_none, HT.sIx_nat, List.drop_zero, Nat.sub_zero, Nat.min_eq_left h]
theorem pd_take {α β : Type} {F : α → β → Prop} : ∀ (n : Nat) {l : List α} {m : List β}, Paired F l m → Paired F (l.take n) (m.take n)
  | 0, _, _, _ => .nil
  | n + 1, _, _, .nil => .nil
  | n + 1, _, _, .cons r t => .cons r (pd_take n t)
theorem mul_32 {rs : List (List Cut)} (ok : OkR rs) (ps : List Pr) (hs : ∀ q ∈ ps, q ∈ partsF rs) (l3 : ps.length ≤ 3) : (mulF ps).1.natAbs ≤ 32 ^ 3 ∧ (mulF ps).2.natAbs ≤ 32 ^ 3 := by
  have each : ∀ q ∈ ps, q.1.natAbs ≤ 32 ∧ q.2.natAbs ≤ 32 := fun q hq => by
    obtain ⟨cs, hm, rfl⟩ := List.mem_map.mp (hs q hq)
    have h1 := ok.h32 cs hm
    have h2 := pos_cols (ok.hc cs hm)
    have h3 := Nat.le_mul_of_pos_right (colsF cs) h2.2
    have h4 := Nat.le_mul_of_pos_left (rowsF cs) h2.1
    exact ⟨by show ((colsF cs : Int)).natAbs ≤ 32; omega, by show ((rowsF cs : Int)).natAbs ≤ 32; omega⟩
  have m32 : ∀ {x y : Int} {n : Nat}, x.natAbs ≤ n → y.natAbs ≤ 32 → (x * y).natAbs ≤ n * 32 := fun a b => by
    rw [Int.natAbs_mul]
    exact Nat.mul_le_mul a b
  match ps, l3, each with
  | [], _, _ => exact ⟨by decide, by decide⟩
  | [a], _, e => exact ⟨Nat.le_trans (m32 (n := 1) (Nat.le_refl 1) (e a (by simp)).1) (by decide), Nat.le_trans (m32 (n := 1) (Nat.le_refl 1) (e a (by simp)).2) (by decide)⟩
  | [a, b], _, e => exact ⟨Nat.le_trans (m32 (m32 (n := 1) (Nat.le_refl 1) (e a (by simp)).1) (e b (by simp)).1) (by decide), Nat.le_trans (m32 (m32 (n := 1) (Nat.le_refl 1) (e a (by simp)).2) (e b (by simp)).2) (by decide)⟩
  | [a, b, c], _, e => exact ⟨Nat.le_trans (m32 (m32 (m32 (n := 1) (Nat.le_refl 1) (e a (by simp)).1) (e b (by simp)).1) (e c (by simp)).1) (by decide), Nat.le_trans (m32 (m32 (m32 (n := 1) (Nat.le_refl 1) (e a (by simp)).2) (e b (by simp)).2) (e c (by simp)).2) (by decide)⟩
/-- columns and rows of the first i signs -/
def countsF (rs : List (List Cut)) (i : Nat) : Pr :=
  let q := mulF ((partsF rs).take (i % rs.length))
  (q.1 * (mulF (partsF rs)).1 ^ (i / rs.length), q.2 * (mulF (partsF rs)).1 ^ (i / rs.length))
def spCounts (C0 : Addr) : Sp := fun vs H Q _ => ∃ (p : Addr) (rs : List (List Cut)) (i : Nat), vs = [.ref p, .int i] ∧ PlanAt C0 H p rs ∧ OkR rs ∧ i ≤ 1000 ∧
  ∀ t H', Ext H H' → H' t = some (.tup [.int (countsF rs i).1, .int (countsF rs i).2]) → Q (.ref t) H'
theorem ok_counts_at (F : FunD K "counts_at" "counts_at" (defArgs s_counts_at) (defBody s_counts_at) (defScope s_counts_at) [] [] f fd) (T : TB mg) (R : PlanT K mg C0 aX mc) {fLen : Addr} {fdLen : FuncData} (mLen : Meth K C0 "__len__" fLen) (Glen : FnOk P w K mg base CX0 1 fLen fdLen ["self"] (spLen C0)) (bLen : Binds K fdLen ["self"] []) {fPa : Addr} {fdPa : FuncData} (mPa : Meth K C0 "parts" fPa) (Gpa : FnOk P w K mg base CX0 5 fPa fdPa ["self", "phase"] (spPartsM C0)) (bPa : Binds K fdPa ["self", "phase"] []) {pgr fGr : Addr} {fdGr : FuncData} (pGr : PropOf K C0 "growth" pgr fGr) (Ggr : FnOk P w K mg base CX0 1 fGr fdGr ["self"] (spGrowth C0)) (bGr : Binds K fdGr ["self"] []) {fmultiplied : Addr} {fdmultiplied : FuncData} (Dmultiplied : Gd P w K mg base "_multiplied" 1 ["all_parts"] (spMul K) fmultiplied fdmultiplied) {fpower : Addr} {fdpower : FuncData} (Dpower : Gd P w K mg base "_power" 1 ["base", "exponent"] (spPower) fpower fdpower) : FnOk P w K mg base CX0 6 f fd ["plan", "f"] (spCounts C0) := by
  refine F.ok sc_counts_at (fun vs H Q E h => ?_) (fun cdv A outer s H vs Q E hr h => ?_)
  · obtain ⟨p, rs, i, rfl, hp, ok, h1000, k⟩ := h
    rfl
  · obtain ⟨p, rs, i, rfl, hp, ok, h1000, k⟩ := h
    refine ⟨_, (PSs.nox (pss_cons (ps_asg (pe_callB call_divmodW (by rfl) T.divmod (by decide +kernel) (pa_cons (pv 1) (pa_cons (pe_callB (call_lenO mLen Glen bLen (hr.mono (by decide))) (by rfl) T.len PySem.boot_len (pa_cons (pv 0) pa_nil)) pa_nil))) (pg_tup rfl (pgs_cons (pg_name (i := 2) sc_counts_at.nd rfl (.inl rfl)) (pgs_cons (pg_name (i := 3) sc_counts_at.nd rfl (.inl rfl)) pgs_nil))))
      (pss_cons (ps_asg (pe_gd Dmultiplied hr (by decide) (by rfl) (pa_cons (pe_lc (own := [("phase", 7)]) (g := gName 7) (tt := tYes) rfl sc_counts_at.nd (pi_range1 (by rfl) T.range (pa_cons (pv 3) pa_nil)) (blkOk_by (own := [("phase", 7)]) (N := ["plan", "f", "turns", "rest", "columns", "rows", "many", "phase"]) (sc := defScope s_counts_at) (by decide +kernel)) (fun _ _ _ _ _ => (pg_name (i := 7) sc_counts_at.nd rfl (.inl rfl))) (fun _ _ _ _ _ => pts_nil) (fun _ _ _ _ _ => (pe_meth (pv 0) R.cl mPa Gpa (hr.mono (by decide)) bPa .nil pass0 (pa_cons (pv 7) pa_nil)))) pa_nil)) (pg_tup rfl (pgs_cons (pg_name (i := 4) sc_counts_at.nd rfl (.inl rfl)) (pgs_cons (pg_name (i := 5) sc_counts_at.nd rfl (.inl rfl)) pgs_nil))))
      (pss_cons (ps_set (i := 6) sc_counts_at.nd rfl (.inl rfl) (pe_gd Dpower hr (by decide) (by rfl) (pa_cons (pe_prop (pv 0) R.cl pGr Ggr (hr.mono (by decide)) bGr .nil pass0 rfl) (pa_cons (pv 2) pa_nil))))
      (pss_one (ps_ret (pe_tup (pa_cons (pe_op op_mulW (pv 4) (pv 6)) (pa_cons (pe_op op_mulW (pv 5) (pv 6)) pa_nil))))))))), ?_⟩
    obtain ⟨dx, lr, lp, ll, g, h1, h2⟩ := id hp
    obtain ⟨ps, q1, q2⟩ := h2.p
    have n3 := ok.l3
    have n1 := ok.l1
    refine ⟨_, rfl, _, rfl, p, dx, _, rfl, h1, p, rs, rfl, hp, rs.length, rfl, by omega, ?_⟩
    obtain ⟨m, hmd⟩ : ∃ m : Nat, m = i % rs.length := ⟨_, rfl⟩
    obtain ⟨d, hd⟩ : ∃ d : Nat, d = i / rs.length := ⟨_, rfl⟩
    have em : (i : Int) % (rs.length : Int) = (m : Int) := by rw [hmd]; rfl
    have ed : (i : Int) / (rs.length : Int) = (d : Int) := by rw [hd]; rfl
    have hm : m < rs.length := by rw [hmd]; exact Nat.mod_lt i n1
    refine ⟨(i : Int), (rs.length : Int), rfl, plain_div _ (by omega) (len_log (by omega)), fun t ht => ?_⟩
    have e1 : Ext H (upd H t (.tup [.int ((i : Int) / (rs.length : Int)), .int ((i : Int) % (rs.length : Int))])) := Ext.upd ht
    have hT : (upd H t (.tup [.int ((i : Int) / (rs.length : Int)), .int ((i : Int) % (rs.length : Int))])) t = some (.tup [.int d, .int m]) := by rw [upd_same, em, ed]
    generalize upd H t (.tup [.int ((i : Int) / (rs.length : Int)), .int ((i : Int) % (rs.length : Int))]) = H1 at *
    refine ⟨t, _, rfl, SqT.of hT, rfl, _, _, rfl, _, _, rfl, rfl, ?_⟩
    have pm := parts_small ok
    refine ⟨_, rfl, (m : Int), rfl, by omega, by omega, fun D hD => lc_walk (walk_r (lo := 0)) (fun j H' => ∃ ds : List Addr, H' D = some (.lst (ds.map V.ref)) ∧ Paired (fun a (q : Pr) => H' a = some (.tup [.int q.1, .int q.2])) ds ((partsF rs).take j) ∧ Ext H1 H') ⟨[], upd_same, .nil, Ext.upd hD⟩ (fun _ _ _ => trivial) ?_ ?_⟩
    · rintro j x H' hx ⟨ds, d1, d2, e⟩
      have hj : j < m := by
        have := (List.getElem?_eq_some_iff.mp hx).1
        simpa using this
      have hx5 : x = .int (j : Nat) := by
        rw [List.getElem?_map, List.getElem?_range (by simpa using hj)] at hx
        have := Option.some.inj hx
        rw [← this]
        show V.int (0 + (j : Int)) = V.int (j : Int)
        rw [Int.zero_add]
      subst hx5
      have hjl : j < rs.length := by omega
      have hci : rs[j]? = some rs[j] := List.getElem?_eq_getElem hjl
      have hpi : (partsF rs)[j]? = some ((colsF rs[j] : Int), (rowsF rs[j] : Int)) := by
        unfold partsF
        rw [List.getElem?_map, hci]
        rfl
      have hp' := hp.ext (e1.trans e)
      refine ⟨rfl, lc_yes ⟨_, rfl, p, dx, _, rfl, e _ _ (e1 _ _ h1), rfl, _, rfl, p, rs, j, rs[j], rfl, hp', hci, n3, fun a ha => ?_⟩⟩
      have naD : a ≠ D := fun z => by
        rw [z, d1] at ha
        cases ha
      refine ⟨_, d1, ?_, ds ++ [a], ?_, ?_, ext_put e hD⟩
      · rw [List.length_map, pd_len d2, List.length_take, partsF, List.length_map, sizeLine_eq]
        omega
      · rw [upd_same, List.map_append]
        rfl
      · rw [take_snoc hpi]
        refine pd_snoc (pd_imp (fun b q hq => side_t d1 hq) d2) (side_t d1 ha)
    rintro H2 ⟨ds, d1, d2, e2⟩
    have el : (List.map (fun k : Nat => V.int (0 + (k : Int))) (List.range ((m : Int)).toNat)).length = m := by simp
    rw [el] at d2
    refine ⟨D, ds, (partsF rs).take (m), rfl, .inl (SqL.of d1), d2, by rw [List.length_take, partsF, List.length_map]; omega, fun q hq => ⟨(pm q (List.mem_of_mem_take hq)).1, (pm q (List.mem_of_mem_take hq)).2.1⟩, fun t2 H3 e3 ht2 => ?_⟩
    have e13 := (e1.trans e2).trans e3
    refine ⟨t2, _, rfl, SqT.of ht2, rfl, _, _, rfl, _, _, rfl, rfl, ?_⟩
    have hg : ((mulF (partsF rs)).1).natAbs ≤ 32 ^ 3 := (mul_32 ok (partsF rs) (fun q h => h) (by rw [partsF, List.length_map]; exact n3)).1
    have hq3 := mul_32 ok ((partsF rs).take (m)) (fun q h => List.mem_of_mem_take h) (by rw [List.length_take, partsF, List.length_map]; omega)
    have hdv : d ≤ 1000 := by rw [hd]; exact Nat.le_trans (Nat.div_le_self _ _) h1000
    refine ⟨_, rfl, p, dx, _, rfl, e13 _ _ h1, p, rs, rfl, hp.ext e13, _, rfl, _, d, rfl, Nat.lt_of_le_of_lt hg (by decide), hdv, ?_⟩
    have hpw : ((mulF (partsF rs)).1 ^ (d)).natAbs < 2 ^ 15001 := by
      rw [Int.natAbs_pow]
      refine Nat.lt_of_le_of_lt (Nat.pow_le_pow_left hg _) ?_
      rw [show 32 ^ 3 = 2 ^ 15 from rfl, ← Nat.pow_mul]
      exact Nat.pow_lt_pow_right (by decide) (by omega)
    have b1 : (mulF ((partsF rs).take (m))).1.natAbs < 2 ^ 16 := Nat.lt_of_le_of_lt hq3.1 (by decide)
    have b2 : (mulF ((partsF rs).take (m))).2.natAbs < 2 ^ 16 := Nat.lt_of_le_of_lt hq3.2 (by decide)
    refine ⟨_, rfl, _, rfl, _, _, rfl, rfl, mulW b1 hpw, _, rfl, _, rfl, _, _, rfl, rfl, mulW b2 hpw, (by show 2 ≤ sizeLine; decide), fun t4 ht4 => ?_⟩
    refine k t4 _ (e13.trans (Ext.upd ht4)) ?_
    rw [upd_same]
    unfold countsF
    rw [← hmd, ← hd]

end
end Mc

set_option Elab.async false
set_option linter.all false
set_option maxRecDepth 100000
set_option maxHeartbeats 4000000
set_option exponentiation.threshold 20000
namespace Mc
open PySem PySem.Spec PyProof.Rows L2 ClX StX
open RZ
section
variable {P : Program} {w : World} {K : PySem.W.Frag} {mg : Str → Option Value} {base : Heap} {f C0 aX : Addr} {mc : Value} {fd : FuncData}
theorem lc_zipT {K : PySem.W.Frag} {a b : Addr} {xs ys : List V} {g : TG} {tt : TT} {te : TE} {vs : List Nat} {σ : L2.St} {H1 : Hp} {D : Addr} {Qd : Hp → Prop} (hl : xs.length = ys.length) (Pv : Nat → Hp → Prop) (h0 : Pv 0 (upd H1 D (.lst []))) (hS : ∀ i H, Pv i H → SqT K H a xs ∧ SqT K H b ys)
    (hs : ∀ i x y T H, xs[i]? = some x → ys[i]? = some y → H T = none → Pv i H → g (.ref T) (wipe σ vs) (upd H T (.tup [x, y])) fun σ2 H2 => wipe σ2 vs = wipe σ vs ∧ tt σ2 H2 fun b H3 => if b = true then te σ2 H3 fun y H4 => ∃ acc, H4 D = some (.lst acc) ∧ acc.length < sizeLine ∧ Pv (i + 1) (upd H4 D (.lst (acc ++ [y]))) else Pv (i + 1) H3) (hd : ∀ H, Pv xs.length H → Qd H) : ∃ W : Nat → Nat → Hp → Prop, (∃ m, W 0 m (upd H1 D (.lst []))) ∧ ∀ i m H, W i m H →
      ((ItzT K a b).stop i H ∧ Qd H) ∨ ((ItzT K a b).go i H ∧ ∃ Nx : Hp → Prop, (∀ H', Nx H' → ∃ m', m' < m ∧ W (i + 1) m' H') ∧ ∀ x H', (ItzT K a b).yld i H x H' → g x (wipe σ vs) H' fun σ2 H2 => wipe σ2 vs = wipe σ vs ∧ tt σ2 H2 fun b H3 => if b = true then te σ2 H3 fun y H4 => ∃ acc, H4 D = some (.lst acc) ∧ acc.length < sizeLine ∧ Nx (upd H4 D (.lst (acc ++ [y]))) else Nx H3) := by
  refine ⟨fun i m H => i + m = xs.length ∧ Pv i H, ⟨xs.length, Nat.zero_add _, h0⟩, fun i m H ⟨hm, p⟩ => ?_⟩
  obtain ⟨s1, s2⟩ := hS i H p
  rcases Nat.eq_zero_or_pos m with z | z
  · have e : i = xs.length := by omega
    exact .inl ⟨⟨xs, ys, s1, s2, .inl (Nat.le_of_eq e.symm)⟩, hd H (e ▸ p)⟩
  · have lt : i < xs.length := by omega
    refine .inr ⟨⟨xs, ys, xs[i], ys[i]'(hl ▸ lt), s1, s2, List.getElem?_eq_getElem lt, List.getElem?_eq_getElem _⟩, Pv (i + 1), fun _ q => ⟨m - 1, by omega, by omega, q⟩, ?_⟩
    rintro v H' ⟨T, x, y, rfl, hT, rfl, hx, hy⟩
    exact hs i x y T H (hx xs s1) (hy ys s2) hT p
def spPairOk : Sp := fun vs H Q _ => ∃ (a b : Addr) (x y c r : Int), vs = [.ref a, .ref b] ∧ H a = some (.tup [.int x, .int y]) ∧ H b = some (.tup [.int c, .int r]) ∧ x ≥ 0 ∧ x < c ∧ y ≥ 0 ∧ y < r ∧ ∀ H', Ext H H' → Q .non H'

end
end Mc

set_option Elab.async false
set_option linter.all false
set_option maxRecDepth 100000
set_option maxHeartbeats 4000000
set_option exponentiation.threshold 20000
namespace Mc
open PySem PySem.Spec PyProof.Rows L2 ClX StX
section
variable {P : Program} {w : World} {K : PySem.W.Frag} {mg : Str → Option Value} {base : Heap} {f C0 aX : Addr} {mc : Value} {fd : FuncData}
theorem hu65 {k : Nat} {A : Around} (hr : Room k A) : A.units + 65 < cLine := by
  have := hr.un
  omega
def dqT (q : Pr) : PyData := .tuple [.int q.1, .int q.2]
theorem dp_pr {K : PySem.W.Frag} {H : Hp} {a : Addr} {q : Pr} (h : H a = some (.tup [.int q.1, .int q.2])) : Dp K H (.ref a) (dqT q) := .tup (SqT.of h) (.cons (.int _) (.cons (.int _) .nil))
theorem dp_prs {K : PySem.W.Frag} {H : Hp} : ∀ {as : List Addr} {ps : List Pr}, Paired (fun a (p : Pr) => H a = some (.tup [.int p.1, .int p.2])) as ps → DpAll K H (as.map V.ref) (ps.map dqT)
  | _, _, .nil => .nil
  | _, _, .cons r t => .cons (dp_pr r) (dp_prs t)
theorem dq_eqv (q r : Pr) : PyData.eqv (dqT q) (dqT r) = true ↔ q = r := by
  obtain ⟨a, b⟩ := q
  obtain ⟨c, d⟩ := r
  simp [dqT, PyData.eqv, PyData.eqvAll]
theorem shaped_pr (q : Pr) : SeqAt.shaped (dqT q) = true := by
  simp [dqT, SeqAt.shaped, PyData.canLay0, PyData.canLayAll0, PyData.depth, PyData.depthAll]
theorem shaped_prs (ps : List Pr) : SeqAt.shaped (.list (ps.map dqT)) = true := by
  have h1 : PyData.canLayAll0 (ps.map dqT) = true := by
    induction ps with
    | nil => rfl
    | cons q r ih => rw [List.map_cons, PyData.canLayAll0, ih]; simp [dqT, PyData.canLay0, PyData.canLayAll0]
  have h2 : PyData.depthAll (ps.map dqT) ≤ 1 := by
    clear h1
    induction ps with
    | nil => simp [PyData.depthAll]
    | cons q r ih =>
      rw [List.map_cons, PyData.depthAll]
      have : PyData.depth (dqT q) = 1 := by simp [dqT, PyData.depth, PyData.depthAll]
      rw [this]
      exact Nat.max_le.mpr ⟨Nat.le_refl 1, ih⟩
  unfold SeqAt.shaped
  rw [PyData.canLay0, h1, PyData.depth, Bool.true_and]
  exact decide_eq_true (by omega)
def spSignAt (C0 : Addr) : Sp := fun vs H Q _ => ∃ (p : Addr) (rs : List (List Cut)) (i : Nat) (cs : List Cut) (a : Addr) (q : Pr) (j : Nat), vs = [.ref p, .int i, .ref a] ∧ PlanAt C0 H p rs ∧ rs[i]? = some cs ∧ rs.length ≤ 3 ∧ H a = some (.tup [.int q.1, .int q.2]) ∧ (∀ c ∈ cs, okC c) ∧ (placesF cs)[j]? = some q ∧ (∀ m, m < j → (placesF cs)[m]? ≠ some q) ∧
  ∀ H', Ext H H' → Q (.int j) H'

end
end Mc

set_option Elab.async false
set_option linter.all false
set_option maxRecDepth 100000
set_option maxHeartbeats 4000000
set_option exponentiation.threshold 20000
namespace Mc
open PySem PySem.Spec PyProof.Rows L2 ClX StX
section
variable {P : Program} {w : World} {K : PySem.W.Frag} {mg : Str → Option Value} {base : Heap} {f C0 aX : Addr} {mc : Value} {fd : FuncData}
def tMakeS (K : PySem.W.Frag) (C : Addr) (sp : Sp) (te : TE) : TE := fun σ H Q => te σ H fun y H1 => ∃ a xs, y = V.ref a ∧ (SqT K H1 a xs ∨ SqL K H1 a xs) ∧ ∀ x dx, H1 x = Option.none → H1 dx = Option.none → dx ≠ x →
  sp (V.ref x :: xs) (upd (upd H1 dx (.own x)) x (.ins C dx [])) (fun v H2 => v = .non ∧ Q (.ref x) H2) E0
theorem pe_makeS1 {X : Cx} {k : Nat} {f C : Addr} {sp : Sp} {x : Str} {e : Expr} {te : TE} {p q pos : Pos} (M : Mk X.K C f) (F : FnR X.prog X.w X.K X.mg X.base CX0 k f sp) (hr : Room (k + 1) X.A) (hg : Gl X x) (hm : X.mg x = some (.ref C)) (hx : Passes CX0 X E0) (he : PE X e te) (hdb : (x == ("__debug__" : Str)) = false := by decide)
    (hst : starEach [.Starred e q] X.env = [(true, eval e X.env)] := by rfl) : PE X (.Call (.Name x p) [.Starred e q] [] pos) (tMakeS X.K C sp te) := by
  constructor
  intro pins s σ H Q I h
  refine wpAny_Call_Name_kw (ld_glob I hg hm ?_ hdb)
  refine PySem.W.callWith_S (h₀ := X.base) I.ok.mod.kin M.kp (thn (he.run pins s σ H _ I h) ?_) hst
  rintro v s1 ⟨y, H1, I1, ry, a, xs, rfl, hxs, q⟩
  cases (show v = Value.ref a from ry)
  exact star_any I1 hxs fun us s2 I2 rv => ⟨I2.kIn, run_makeR M F hr hx I2 rv q⟩
theorem made_ext {H H' : Hp} {x dx : Addr} {o o' : HO} (hx : H x = none) (hdx : H dx = none) (F : Frm [x] (upd (upd H dx o) x o') H') : Ext H H' := fun a u e => F a u (by
  rw [upd_ne (ne_of_none e hx), upd_ne (ne_of_none e hdx)]
  exact e) fun z => by
    rw [List.mem_singleton.mp z, hx] at e
    cases e
theorem cutsAt_of {K : PySem.W.Frag} {H : Hp} {l : Addr} {cs : List Cut} (h : CutsL H l cs) : CutsAt K H (.ref l) cs := by
  obtain ⟨as, h1, h2⟩ := h
  exact ⟨l, as, rfl, .inl (SqL.of h1), h2⟩
theorem pd_refs {α : Type} {F : V → α → Prop} : ∀ {l : List Addr} {m : List α}, Paired (fun a c => F (.ref a) c) l m → Paired F (l.map V.ref) m
  | _, _, .nil => .nil
  | _, _, .cons r t => .cons r (pd_refs t)
theorem cols_turn : ∀ cs : List Cut, colsF (turnF cs) = rowsF cs ∧ rowsF (turnF cs) = colsF cs
  | [] => ⟨rfl, rfl⟩
  | c :: r => by
    obtain ⟨h1, h2⟩ := cols_turn r
    unfold turnF at *
    rw [List.map_cons]
    unfold colsF rowsF
    rw [h1, h2]
    cases c.1 <;> exact ⟨rfl, rfl⟩
theorem mul_swap (ps : List Pr) : mulF (ps.map fun q => (q.2, q.1)) = ((mulF ps).2, (mulF ps).1) := by
  have : ∀ (ps : List Pr) (s : Pr), (ps.map fun q => (q.2, q.1)).foldl (fun (q p : Pr) => (q.1 * p.1, q.2 * p.2)) (s.2, s.1) = ((ps.foldl (fun (q p : Pr) => (q.1 * p.1, q.2 * p.2)) s).2, (ps.foldl (fun (q p : Pr) => (q.1 * p.1, q.2 * p.2)) s).1) := fun ps => by
    induction ps with
    | nil => intro s; rfl
    | cons p r ih => intro s; exact ih (s.1 * p.1, s.2 * p.2)
  exact this ps (1, 1)
theorem parts_turn (rs : List (List Cut)) : partsF (rs.map turnF) = (partsF rs).map fun q => (q.2, q.1) := by
  unfold partsF
  rw [List.map_map, List.map_map]
  refine List.map_congr_left fun cs _ => ?_
  show ((colsF (turnF cs) : Int), (rowsF (turnF cs) : Int)) = _
  rw [(cols_turn cs).1, (cols_turn cs).2]
  rfl
theorem ok_turn {rs : List (List Cut)} (ok : OkR rs) : OkR (rs.map turnF) := by
  refine ⟨by rw [List.length_map]; exact ok.l1, by rw [List.length_map]; exact ok.l3, ?_, ?_, ?_, ?_, ?_⟩
  · intro cs h
    obtain ⟨c, hc, rfl⟩ := List.mem_map.mp h
    rw [turnF, List.length_map]
    exact ok.h1 c hc
  · intro cs h
    obtain ⟨c, hc, rfl⟩ := List.mem_map.mp h
    rw [turnF, List.length_map]
    exact ok.h5 c hc
  · intro cs h d hd
    obtain ⟨c, hc, rfl⟩ := List.mem_map.mp h
    obtain ⟨d2, hd2, rfl⟩ := List.mem_map.mp hd
    exact ok.hc c hc d2 hd2
  · intro cs h
    obtain ⟨c, hc, rfl⟩ := List.mem_map.mp h
    rw [(cols_turn c).1, (cols_turn c).2, Nat.mul_comm]
    exact ok.h32 c hc
  · rw [parts_turn, mul_swap]
    exact ok.bal.symm
def spTurned (C0 : Addr) : Sp := fun vs H Q _ => ∃ (p : Addr) (rs : List (List Cut)), vs = [.ref p] ∧ PlanAt C0 H p rs ∧ OkR rs ∧
  ∀ x H', Ext H H' → H x = none → PlanAt C0 H' x (rs.map turnF) → Q (.ref x) H'

end
end Mc

set_option Elab.async false
set_option linter.all false
set_option maxRecDepth 100000
set_option maxHeartbeats 4000000
set_option exponentiation.threshold 20000
namespace Mc
open PySem PySem.Spec PyProof.Rows L2 ClX StX
section
variable {P : Program} {w : World} {K : PySem.W.Frag} {mg : Str → Option Value} {base : Heap} {f C0 aX : Addr} {mc : Value} {fd : FuncData}
theorem sc_Plan___eq : FnScope ["self", "other"] ["self", "other"] (defScope s_Plan___eq) := ⟨rfl, rfl, rfl, by decide +kernel, rfl, by decide +kernel, by decide +kernel⟩
theorem hu64 {k : Nat} {A : Around} (hr : Room k A) : A.units + 64 < cLine := by
  have := hr.un
  omega
/-- what the text says of Plan's comparisons -/
structure PlanE (K : PySem.W.Frag) (C0 : Addr) : Prop where
  ca : PySem.W.findIn K (.ref C0) "__class__" = some (some (.builtin "object.__class__"))
  cn : PySem.W.specialIn K (.builtin "object.__class__") "__get__" = some (some (.builtin "getset_descriptor.__get__"))
  ct : PySem.W.takesIn K (.builtin "object.__class__") = some true
  cm : PySem.W.mroIn K C0 (.type "object") = some true
  ne : PySem.W.findIn K (.ref C0) "__ne__" = some (some (.builtin "object.__ne__"))
  kR : PySem.W.kitOne K (.ref C0) (.ref C0) = some true
  kk : ∀ x ∈ (["NoneType", "bool", "int", "str", "list", "tuple", "dict"] : List String), PySem.W.kitOne K (.type x) (.ref C0) = some false
  nf : ∀ x ∈ (["NoneType", "bool", "int", "str", "list", "tuple", "dict"] : List String), PySem.W.notFirst K C0 (.type x) = true
def dqC (c : Cut) : PyData := .tuple [.str (axS c.1), .int c.2]
def dqL (cs : List Cut) : PyData := .list (cs.map dqC)
def dqR (rs : List (List Cut)) : PyData := .list (rs.map dqL)
theorem dp_cuts {K : PySem.W.Frag} {H : Hp} : ∀ {as : List Addr} {cs : List Cut}, Paired (fun a c => H a = some (.tup (cutV c))) as cs → DpAll K H (as.map V.ref) (cs.map dqC)
  | _, _, .nil => .nil
  | _, _, .cons r t => .cons (.tup (SqT.of r) (.cons (.str _) (.cons (.int _) .nil))) (dp_cuts t)
theorem dp_lists {K : PySem.W.Frag} {H : Hp} : ∀ {as : List Addr} {rs : List (List Cut)}, Paired (fun a cs => CutsL H a cs) as rs → DpAll K H (as.map V.ref) (rs.map dqL)
  | _, _, .nil => .nil
  | _, _, .cons ⟨_, h1, h2⟩ t => .cons (.lst (SqL.of h1) (dp_cuts h2)) (dp_lists t)
theorem dp_rounds {K : PySem.W.Frag} {H : Hp} {l : Addr} {rs : List (List Cut)} (h : ∃ as : List Addr, H l = some (.lst (as.map V.ref)) ∧ Paired (fun a cs => CutsL H a cs) as rs) : Dp K H (.ref l) (dqR rs) := by
  obtain ⟨as, h1, h2⟩ := h
  exact .lst (SqL.of h1) (dp_lists h2)
theorem axS_inj {a b : Bool} (h : axS a = axS b) : a = b := by
  cases a <;> cases b
  · rfl
  · exact absurd h (by decide +kernel)
  · exact absurd h (by decide +kernel)
  · rfl
theorem eqv_C (c d : Cut) : PyData.eqv (dqC c) (dqC d) = decide (c = d) := by
  obtain ⟨a, n⟩ := c
  obtain ⟨b, m⟩ := d
  have e : PyData.eqv (dqC (a, n)) (dqC (b, m)) = (axS a == axS b && ((n : Int) == (m : Int) && true)) := by simp [dqC, PyData.eqv, PyData.eqvAll]
  rw [e, Bool.eq_iff_iff]
  simp only [Bool.and_true, Bool.and_eq_true, beq_iff_eq, decide_eq_true_eq, Prod.mk.injEq]
  exact ⟨fun ⟨h1, h2⟩ => ⟨axS_inj h1, by omega⟩, fun ⟨h1, h2⟩ => ⟨by rw [h1], by omega⟩⟩
theorem eqv_all {α : Type} [DecidableEq α] {F : α → PyData} (h : ∀ a b, PyData.eqv (F a) (F b) = decide (a = b)) : ∀ l m : List α, PyData.eqvAll (l.map F) (m.map F) = decide (l = m)
  | [], [] => by simp [PyData.eqvAll]
  | [], _ :: _ => by simp [PyData.eqvAll]
  | _ :: _, [] => by simp [PyData.eqvAll]
  | a :: l, b :: m => by
    rw [List.map_cons, List.map_cons, PyData.eqvAll, h, eqv_all h l m, Bool.eq_iff_iff]
    simp
theorem eqv_L (c d : List Cut) : PyData.eqv (dqL c) (dqL d) = decide (c = d) := by
  unfold dqL
  rw [PyData.eqv]
  exact eqv_all eqv_C c d
theorem eqv_R (c d : List (List Cut)) : PyData.eqv (dqR c) (dqR d) = decide (c = d) := by
  unfold dqR
  rw [PyData.eqv]
  exact eqv_all eqv_L c d
theorem lay_all {α : Type} {F : α → PyData} (h : ∀ a, PyData.canLay0 (F a) = true) : ∀ l : List α, PyData.canLayAll0 (l.map F) = true
  | [] => by simp [PyData.canLayAll0]
  | a :: l => by rw [List.map_cons, PyData.canLayAll0, h, lay_all h l]; rfl
theorem dep_all {α : Type} {F : α → PyData} {n : Nat} (h : ∀ a, PyData.depth (F a) ≤ n) : ∀ l : List α, PyData.depthAll (l.map F) ≤ n
  | [] => by simp [PyData.depthAll]
  | a :: l => by
    rw [List.map_cons, PyData.depthAll]
    exact Nat.max_le.mpr ⟨h a, dep_all h l⟩
theorem lay_C (c : Cut) : PyData.canLay0 (dqC c) = true := by
  obtain ⟨a, n⟩ := c
  have e : PyData.strOk (axS a) = true := by cases a <;> decide +kernel
  simp [dqC, PyData.canLay0, PyData.canLayAll0, e]
theorem lay_L (cs : List Cut) : PyData.canLay0 (dqL cs) = true := by
  unfold dqL
  rw [PyData.canLay0]
  exact lay_all lay_C cs
theorem dep_C (c : Cut) : PyData.depth (dqC c) ≤ 1 := by simp [dqC, PyData.depth, PyData.depthAll]
theorem dep_L (cs : List Cut) : PyData.depth (dqL cs) ≤ 2 := by
  unfold dqL
  rw [PyData.depth]
  exact Nat.succ_le_succ (dep_all dep_C cs)
theorem shaped_R (rs : List (List Cut)) : SeqAt.shaped (dqR rs) = true := by
  have h1 : PyData.canLay0 (dqR rs) = true := by
    unfold dqR
    rw [PyData.canLay0]
    exact lay_all lay_L rs
  have h2 : PyData.depth (dqR rs) ≤ 64 := by
    unfold dqR
    rw [PyData.depth]
    exact Nat.le_trans (Nat.succ_le_succ (dep_all dep_L rs)) (by decide)
  unfold SeqAt.shaped
  rw [h1, Bool.true_and]
  exact decide_eq_true h2
def spEqP (K : PySem.W.Frag) (C0 : Addr) : Sp := fun vs H Q _ => ∃ (p : Addr) (y : V) (rs : List (List Cut)), vs = [.ref p, y] ∧ PlanAt C0 H p rs ∧ rs.length ≤ 3 ∧
  ((∃ (q : Addr) (rs2 : List (List Cut)), y = .ref q ∧ PlanAt C0 H q rs2 ∧ rs2.length ≤ 3 ∧ Q (.bl (decide (rs = rs2))) H) ∨
   (∃ t : String, TyX K H y (.type t) ∧ t ∈ (["NoneType", "bool", "int", "str", "list", "tuple", "dict"] : List String) ∧ Q (.bl false) H))
theorem ok_Plan___eq (F : FunD K "__eq__" "Plan.__eq__" (defArgs s_Plan___eq) (defBody s_Plan___eq) (defScope s_Plan___eq) [] [] f fd) (T : TB mg) (R : PlanT K mg C0 aX mc) (RE : PlanE K C0) : FnOk P w K mg base CX0 1 f fd ["self", "other"] (spEqP K C0) := by
  refine F.ok sc_Plan___eq (fun vs H Q E h => ?_) (fun cdv A outer s H vs Q E hr h => ?_)
  · obtain ⟨p, y, rs, rfl, hp, l3, hy⟩ := h
    rfl
  · obtain ⟨p, y, rs, rfl, hp, l3, hy⟩ := h
    refine ⟨_, (PSs.nox (pss_one (ps_ret (pe_and (pe_callB call_isi (by rfl) T.isinstance (by decide +kernel) (pa_cons (pv 1) (pa_cons (pe_glob (v := .ref C0) (by rfl) R.mgP rfl) pa_nil))) (pe_one (pe_cmpR (op_eqD (hu64 hr)) (pe_fld (pv 0) rfl) (pe_fld (pv 1) rfl) (nomark _))))))), ?_⟩
    obtain ⟨dx, lr, lp, ll, g, h1, h2⟩ := id hp
    rcases hy with ⟨q, rs2, rfl, hq, m3, k⟩ | ⟨t, ty, ht, k⟩
    · obtain ⟨dx2, lr2, lp2, ll2, g2, g1, g3⟩ := id hq
      refine ⟨_, rfl, .ref q, _, _, _, true, rfl, .own C0, .base (.ins g1 R.cl RE.ca RE.cn RE.ct RE.cm), RE.kR, true, rfl, iteT ?_⟩
      refine ⟨_, rfl, p, C0, dx, _, _, rfl, h1, R.cl, R.nR, rfl, _, rfl, q, C0, dx2, _, _, rfl, g1, R.cl, R.nR, rfl, ?_⟩
      refine ⟨dqR rs, dqR rs2, dp_rounds h2.r, dp_rounds g3.r, shaped_R rs, shaped_R rs2, ?_⟩
      rw [eqv_R]
      exact k
    · exact ⟨_, rfl, y, _, _, _, false, rfl, .own C0, ty, RE.kk t ht, false, rfl, iteF k⟩
end
end Mc

set_option Elab.async false
set_option linter.all false
set_option maxRecDepth 100000
set_option maxHeartbeats 4000000
set_option exponentiation.threshold 20000
namespace Mc
open PySem PySem.Spec PyProof.Rows L2 ClX StX
section
variable {P : Program} {w : World} {K : PySem.W.Frag} {mg : Str → Option Value} {base : Heap} {f C0 aX : Addr} {mc : Value} {fd : FuncData}
theorem sc_Plan___repr : FnScope ["self", "cuts"] ["self"] (defScope s_Plan___repr) := ⟨rfl, rfl, rfl, by decide +kernel, rfl, by decide +kernel, by decide +kernel⟩
theorem boot_repr : bootBuiltins (Str.ofString "repr") = some (.builtin "repr") := by decide +kernel
def planText (rs : List (List Cut)) : Str := Str.empty ++ Str.ofString "Plan(" ++ Txt.join (Str.ofString ", ") (rs.map fun cs => (dqL cs).shown) ++ Str.ofString ")"
theorem shown_C {c : Cut} (h : okC c) : (dqC c).shown.length ≤ 14 ∧ (dqC c).showable = true := by
  obtain ⟨a, n⟩ := c
  obtain ⟨h2, h4⟩ := h
  have h2 : 2 ≤ n := h2
  have h4 : n ≤ 4 := h4
  have e : n = 2 ∨ n = 3 ∨ n = 4 := by omega
  rcases e with rfl | rfl | rfl <;> cases a <;> decide +kernel
theorem shown_L {cs : List Cut} (h : ∀ c ∈ cs, okC c) (l : cs.length ≤ 5) : (dqL cs).shown.length ≤ 100 ∧ (dqL cs).showable = true ∧ (dqL cs).hasDict = false := by
  have e1 : ∀ cs : List Cut, PyData.shownAll (cs.map dqC) = cs.map fun c => (dqC c).shown := fun cs => by
    induction cs with
    | nil => simp [PyData.shownAll]
    | cons c r ih => rw [List.map_cons, PyData.shownAll, ih]; rfl
  refine ⟨?_, ?_, ?_⟩
  · unfold dqL
    rw [PyData.shown, e1]
    have h1 := listText_le (cs.map fun c => (dqC c).shown)
    have h2 := piled_le (c := 14) (ts := cs.map fun c => (dqC c).shown) fun t ht => by
      obtain ⟨c, hc, rfl⟩ := List.mem_map.mp ht
      exact (shown_C (h c hc)).1
    rw [List.length_map] at h2
    omega
  · unfold dqL
    rw [PyData.showable]
    clear l
    induction cs with
    | nil => simp [PyData.showableAll]
    | cons c r ih =>
      rw [List.map_cons, PyData.showableAll, (shown_C (h c List.mem_cons_self)).2, ih fun d hd => h d (List.mem_cons_of_mem _ hd)]
      rfl
  · unfold dqL
    rw [PyData.hasDict]
    clear l h
    induction cs with
    | nil => simp [PyData.hasDictAll]
    | cons c r ih =>
      rw [List.map_cons, PyData.hasDictAll, ih]
      simp [dqC, PyData.hasDict, PyData.hasDictAll]
theorem join_le (sep : Str) : ∀ ys : List Str, (Txt.join sep ys).length ≤ (ys.map (·.length)).sum + ys.length * sep.length
  | [] => by
    rw [TL.join_eq]
    exact Nat.zero_le _
  | [a] => by
    rw [TL.join_eq]
    show a.length ≤ _
    simp
  | a :: b :: r => by
    have ih := join_le sep (b :: r)
    rw [TL.join_eq] at ih ⊢
    show (a ++ sep ++ Str.join sep (b :: r)).length ≤ _
    rw [Str.length_append, Str.length_append, List.map_cons, List.sum_cons, List.length_cons, Nat.succ_mul]
    omega
theorem text_sizes {rs : List (List Cut)} (ok : OkR rs) : ((rs.map fun cs => (dqL cs).shown).map (·.length)).sum ≤ 300 := by
  have each : ∀ cs ∈ rs, (dqL cs).shown.length ≤ 100 := fun cs h => (shown_L (ok.hc cs h) (ok.h5 cs h)).1
  have l3 := ok.l3
  match rs, l3, each with
  | [], _, _ => simp
  | [a], _, e => have := e a (by simp); simp; omega
  | [a, b], _, e => have := e a (by simp); have := e b (by simp); simp; omega
  | [a, b, c], _, e => have := e a (by simp); have := e b (by simp); have := e c (by simp); simp; omega
def spReprP (C0 : Addr) : Sp := fun vs H Q _ => ∃ (p : Addr) (rs : List (List Cut)), vs = [.ref p] ∧ PlanAt C0 H p rs ∧ OkR rs ∧ ∀ H', Ext H H' → Q (.str (planText rs)) H'
theorem ok_Plan___repr (F : FunD K "__repr__" "Plan.__repr__" (defArgs s_Plan___repr) (defBody s_Plan___repr) (defScope s_Plan___repr) [] [] f fd) (T : TB mg) (R : PlanT K mg C0 aX mc) : FnOkG P w K mg base CX0 3 f fd ["self"] (spReprP C0) := by
  refine okG F sc_Plan___repr (fun vs H Q E h => ?_) (fun cdv A outer s H vs Q E hr h => ?_)
  · obtain ⟨p, rs, rfl, hp, ok, k⟩ := h
    rfl
  · obtain ⟨p, rs, rfl, hp, ok, k⟩ := h
    refine ⟨_, (pss_one (ps_ret (pe_joined (PJ.cons pe_str (PJ.cons (pe_fmt (pe_join pe_str (pe_lc (own := [("cuts", 1)]) (g := gName 1) (tt := tYes) rfl sc_Plan___repr.nd (pi_list (pe_fld (pv 0) rfl)) (blkOk_by (own := [("cuts", 1)]) (N := ["self", "cuts"]) (sc := defScope s_Plan___repr) (by decide +kernel)) (fun _ _ _ _ _ => (pg_name (i := 1) sc_Plan___repr.nd rfl (.inl rfl))) (fun _ _ _ _ _ => pts_nil) (fun _ _ _ _ _ => (pe_callB (call_reprDK (K := K) hr rfl) (by rfl) T.repr boot_repr (pa_cons (pv 1) pa_nil)))))) (PJ.cons pe_str PJ.nil)))))), ?_⟩
    obtain ⟨dx, lr, lp, ll, g, h1, h2⟩ := id hp
    obtain ⟨as, r1, r2⟩ := h2.r
    have l3 := ok.l3
    have ts := text_sizes ok
    have tj := join_le (Str.ofString ", ") (rs.map fun cs => (dqL cs).shown)
    have ln : (rs.map fun cs => (dqL cs).shown).length ≤ 3 := by rw [List.length_map]; exact l3
    have c0 : (Str.empty : Str).length = 0 := rfl
    have c1 : (Str.ofString "Plan(").length = 5 := rfl
    have c2 : (Str.ofString ", ").length = 2 := rfl
    have c3 : (Str.ofString ")").length = 1 := rfl
    rw [c2] at tj
    refine ⟨_, rfl, ?_, ⟨_, rfl⟩, _, rfl, p, C0, dx, _, _, rfl, h1, R.cl, R.nR, rfl, lr, rfl, ⟨_, SqL.of r1⟩, fun D hD => lc_walk walk_l (fun i H' => H' D = some (.lst (((rs.take i).map fun cs => (dqL cs).shown).map V.str)) ∧ Ext H H') ⟨upd_same, Ext.upd hD⟩ (fun _ _ ⟨_, e⟩ => SqL.of (e _ _ r1)) ?_ ?_⟩
    · show (Str.empty ++ Str.ofString "Plan(").length ≤ sizeLine
      rw [Str.length_append, sizeLine_eq]
      omega
    · rintro i x H' hx ⟨d1, e⟩
      obtain ⟨a, rfl, cs, hci, bs, b1, b2⟩ := refs_get r2 hx
      have hm := List.mem_of_getElem? hci
      obtain ⟨s1, s2, s3⟩ := shown_L (ok.hc cs hm) (ok.h5 cs hm)
      refine ⟨rfl, lc_yes ⟨_, rfl, a, dqL cs, rfl, .lst (SqL.of (e _ _ b1)) (dp_cuts (pd_imp (fun _ _ q => e _ _ q) b2)), s2, s3, Nat.le_trans (dep_L cs) (by decide), by rw [sizeLine_eq]; omega, ?_⟩⟩
      refine ⟨_, d1, ?_, ?_, ext_put e hD⟩
      · rw [List.length_map, List.length_map, List.length_take, sizeLine_eq]
        omega
      · rw [upd_same, take_snoc hci, List.map_append, List.map_append]
        rfl
    · rintro H' ⟨d1, e⟩
      rw [List.length_map, pd_len r2, List.take_length] at d1
      refine ⟨_, D, _, rfl, rfl, .inl (SqL.of d1), by rw [c2]; omega, .inl ⟨_, rfl, by rw [sizeLine_eq]; omega, _, rfl, ?_, _, rfl, ?_, ?_⟩⟩
      · rw [Str.length_append, Str.length_append, sizeLine_eq]
        omega
      · rw [Str.length_append, Str.length_append, Str.length_append, sizeLine_eq]
        omega
      · exact k H' e
end
end Mc

set_option Elab.async false
set_option linter.all false
set_option maxRecDepth 100000
set_option maxHeartbeats 4000000
set_option exponentiation.threshold 20000
namespace Mc
open PySem PySem.Spec PyProof.Rows L2 ClX StX
/-- what the text says of Ratio -/
structure RatT (K : PySem.W.Frag) (mg : Str → Option Value) (R0 : Addr) : Prop where
  cl : Cls K R0
  nT : NoAttr K R0 "_top"
  nB : NoAttr K R0 "_bottom"
  mgR : mg "Ratio" = some (.ref R0)
  gcd : mg "gcd" = some (.builtin "math.gcd")
  ca : PySem.W.findIn K (.ref R0) "__class__" = some (some (.builtin "object.__class__"))
  cn : PySem.W.specialIn K (.builtin "object.__class__") "__get__" = some (some (.builtin "getset_descriptor.__get__"))
  ct : PySem.W.takesIn K (.builtin "object.__class__") = some true
  cm : PySem.W.mroIn K R0 (.type "object") = some true
  ne : PySem.W.findIn K (.ref R0) "__ne__" = some (some (.builtin "object.__ne__"))
  kR : PySem.W.kitOne K (.ref R0) (.ref R0) = some true
  kI : PySem.W.kitOne K (.ref R0) (.type "int") = some false
  kk : PySem.W.kitOne K (.type "int") (.ref R0) = some false
  nf : PySem.W.notFirst K R0 (.type "int") = true
section
variable {P : Program} {w : World} {K : PySem.W.Frag} {mg : Str → Option Value} {base : Heap} {f R0 C0 aX : Addr} {mc : Value} {fd : FuncData}
theorem tyx_rat (RQ : RatT K mg R0) {H : Hp} {p : Addr} {n d : Int} (h : RatAt R0 H p n d) : TyX K H (.ref p) (.ref R0) := h.elim fun _ e => .base (.ins e RQ.cl RQ.ca RQ.cn RQ.ct RQ.cm)
theorem nf_self (K : PySem.W.Frag) (C : Addr) : PySem.W.notFirst K C (.ref C) = true := by
  unfold PySem.W.notFirst
  rw [beq_self_eq_true, Bool.true_or]
theorem b4000 {a b : Int} {m : Nat} (h : a.natAbs < 2 ^ m) (e : b.natAbs ≤ a.natAbs) : b.natAbs < 2 ^ m := Nat.lt_of_le_of_lt e h
/-- of an int or a Ratio -/
def spIsIntV (R0 : Addr) : Sp := fun vs H Q _ => ∃ x : V, vs = [x] ∧ ((∃ n : Int, x = .int n ∧ Q (.bl true) H) ∨ (∃ (p : Addr) (n d : Int), x = .ref p ∧ RatAt R0 H p n d ∧ Q (.bl false) H))
theorem ok_is_intV (F : FunD K "is_int" "is_int" (defArgs s_is_int) (defBody s_is_int) (defScope s_is_int) [] [] f fd) (T : TB mg) (RQ : RatT K mg R0) : FnOk P w K mg base CX0 1 f fd ["value"] (spIsIntV R0) := by
  refine F.ok sc_is_int (fun vs H Q E h => ?_) (fun cdv A outer s H vs Q E hr h => ?_)
  · obtain ⟨x, rfl, hx⟩ := h
    rfl
  · obtain ⟨x, rfl, hx⟩ := h
    refine ⟨_, (PSs.nox (pss_one (ps_ret (pe_and (pe_callB call_isi (by rfl) T.isinstance (by decide +kernel) (pa_cons (pv 0) (pa_cons (pe_bltn (v := .ty "int") (by rfl) T.int (by decide +kernel) rfl) pa_nil))) (pe_one (pe_not (pe_callB call_isi (by rfl) T.isinstance (by decide +kernel) (pa_cons (pv 0) (pa_cons (pe_bltn (v := .ty "bool") (by rfl) T.bool (by decide +kernel) rfl) pa_nil))))))))), ?_⟩
    rcases hx with ⟨n, rfl, k⟩ | ⟨p, n, d, rfl, h, k⟩
    · refine ⟨_, rfl, .int n, _, _, _, true, rfl, .ty "int", .base (.int n), kit_ty (by decide +kernel), true, rfl, iteT ?_⟩
      exact ⟨_, rfl, .int n, _, _, _, false, rfl, .ty "bool", .base (.int n), kit_ty (by decide +kernel), false, rfl, k⟩
    · exact ⟨_, rfl, .ref p, _, _, _, false, rfl, .ty "int", tyx_rat RQ h, RQ.kI, false, rfl, iteF k⟩
theorem sc_Ratio___init : FnScope ["self", "top", "bottom", "divisor"] ["self", "top", "bottom"] (defScope s_Ratio___init) := ⟨rfl, rfl, rfl, by decide +kernel, rfl, by decide +kernel, by decide +kernel⟩
def spInitR (R0 : Addr) : Sp := fun vs H Q _ => ∃ (p dx : Addr) (a b : Int), vs = [.ref p, .int a, .int b] ∧ H p = some (.ins R0 dx []) ∧ b ≠ 0 ∧ b.natAbs < 2 ^ 8000 ∧
  ∀ H', Frm [p] H H' → H' p = some (.ins R0 dx (fl (redN a b) (redD a b))) → Q .non H'
theorem ok_Ratio___init (F : FunD K "__init__" "Ratio.__init__" (defArgs s_Ratio___init) (defBody s_Ratio___init) (defScope s_Ratio___init) [.int 1] [] f fd) (T : TB mg) (RQ : RatT K mg R0) {fis_int : Addr} {fdis_int : FuncData} (Dis_int : Gd P w K mg base "is_int" 1 ["value"] (spIsInt) fis_int fdis_int) : FnOk P w K mg base CX0 2 f fd ["self", "top", "bottom"] (spInitR R0) := by
  refine F.ok sc_Ratio___init (fun vs H Q E h => ?_) (fun cdv A outer s H vs Q E hr h => ?_)
  · obtain ⟨p, dx, a, b, rfl, hp, hb, hbz, k⟩ := h
    rfl
  · obtain ⟨p, dx, a, b, rfl, hp, hb, hbz, k⟩ := h
    refine ⟨_, (PSs.nox (pss_cons (ps_if (pt_not (pt_val (pe_gd Dis_int hr (by decide) (by rfl) (pa_cons (pv 1) pa_nil)))) (pss_one ps_never) pss_nil)
      (pss_cons (ps_if (PW.pt (pw_or (pt_not (pt_val (pe_gd Dis_int hr (by decide) (by rfl) (pa_cons (pv 2) pa_nil)))) (pw_or1 (pt_cmpR op_eq (pv 2) pe_int (nomark _))))) (pss_one ps_never) pss_nil)
      (pss_cons (ps_set (i := 3) sc_Ratio___init.nd rfl (.inl rfl) (pe_callBfun cr_gcd (by rfl) RQ.gcd (pa_cons (pv 1) (pa_cons (pv 2) pa_nil))))
      (pss_cons (ps_if (pt_cmpR op_lt (pv 2) pe_int (nomark _)) (pss_one (ps_set (i := 3) sc_Ratio___init.nd rfl (.inl rfl) (pe_un un_neg (pv 3)))) pss_nil)
      (pss_cons (ps_fld (pv 0) (pe_op op_fdivX (pv 1) (pv 3)) rfl)
      (pss_one (ps_fld (pv 0) (pe_op op_fdivX (pv 2) (pv 3)) rfl)))))))), ?_⟩
    refine ⟨_, rfl, a, rfl, _, rfl, iteF ?_⟩
    refine ⟨_, rfl, b, rfl, _, rfl, iteF ⟨_, rfl, rfl, _, rfl, ?_⟩⟩
    refine ite2 (fun hz => absurd (V.int.inj (of_decide_eq_true hz)) hb) (fun _ => ?_)
    refine ⟨_, rfl, _, rfl, a, b, rfl, ?_⟩
    have hg0 : Nat.gcd a.natAbs b.natAbs ≠ 0 := fun z => hb (by have := Nat.eq_zero_of_gcd_eq_zero_right z; omega)
    have hgl : Nat.gcd a.natAbs b.natAbs ≤ b.natAbs := Nat.gcd_le_right _ (by omega)
    have hgz : Nat.gcd a.natAbs b.natAbs < 2 ^ 8000 := Nat.lt_of_le_of_lt hgl hbz
    have e0 : ¬ (("_top" : Str) = "_bottom") := by decide +kernel
    refine ⟨_, rfl, _, _, rfl, rfl, _, rfl, ?_⟩
    refine ite2 (fun hs => ?_) (fun hs => ?_)
    · have hd : dv a b = -((Nat.gcd a.natAbs b.natAbs : Nat) : Int) := if_pos (of_decide_eq_true hs)
      have hz : dv a b ≠ 0 := by omega
      have hw : (dv a b).natAbs < 2 ^ 8000 := by omega
      refine ⟨_, rfl, _, rfl, ?_⟩
      refine ⟨_, rfl, _, rfl, _, _, rfl, rfl, ⟨by rw [← hd]; exact hz, by rw [← hd]; exact small_log hw (by decide) (by decide)⟩, _, rfl, p, R0, dx, [], rfl, hp, RQ.cl, RQ.nT, (by show 0 < 1000; decide), ?_⟩
      refine ⟨_, rfl, _, rfl, _, _, rfl, rfl, ⟨by rw [← hd]; exact hz, by rw [← hd]; exact small_log hw (by decide) (by decide)⟩, _, rfl, p, R0, dx, _, rfl, upd_same, RQ.cl, RQ.nB, (by show 1 < 1000; decide), ?_⟩
      rw [upd_upd, ← hd]
      exact k _ (Frm.put (List.mem_singleton.mpr rfl)) (by rw [upd_same]; exact congrArg (fun l => some (HO.ins R0 dx l)) (fl_put _ _))
    · have hd : dv a b = ((Nat.gcd a.natAbs b.natAbs : Nat) : Int) := if_neg (fun z => hs (decide_eq_true z))
      have hz : dv a b ≠ 0 := by omega
      have hw : (dv a b).natAbs < 2 ^ 8000 := by omega
      refine ⟨_, rfl, _, rfl, _, _, rfl, rfl, ⟨by rw [← hd]; exact hz, by rw [← hd]; exact small_log hw (by decide) (by decide)⟩, _, rfl, p, R0, dx, [], rfl, hp, RQ.cl, RQ.nT, (by show 0 < 1000; decide), ?_⟩
      refine ⟨_, rfl, _, rfl, _, _, rfl, rfl, ⟨by rw [← hd]; exact hz, by rw [← hd]; exact small_log hw (by decide) (by decide)⟩, _, rfl, p, R0, dx, _, rfl, upd_same, RQ.cl, RQ.nB, (by show 1 < 1000; decide), ?_⟩
      rw [upd_upd, ← hd]
      exact k _ (Frm.put (List.mem_singleton.mpr rfl)) (by rw [upd_same]; exact congrArg (fun l => some (HO.ins R0 dx l)) (fl_put _ _))
theorem sc_Ratio_top : FnScope ["self"] ["self"] (defScope s_Ratio_top) := ⟨rfl, rfl, rfl, by decide +kernel, rfl, by decide +kernel, by decide +kernel⟩
def spTopR (R0 : Addr) : Sp := fun vs H Q _ => ∃ (p : Addr) (n d : Int), vs = [.ref p] ∧ RatAt R0 H p n d ∧ Q (.int n) H
def spBotR (R0 : Addr) : Sp := fun vs H Q _ => ∃ (p : Addr) (n d : Int), vs = [.ref p] ∧ RatAt R0 H p n d ∧ Q (.int d) H
theorem ok_Ratio_top (F : FunD K "top" "Ratio.top" (defArgs s_Ratio_top) (defBody s_Ratio_top) (defScope s_Ratio_top) [] [] f fd) (T : TB mg) (RQ : RatT K mg R0) : FnOk P w K mg base CX0 1 f fd ["self"] (spTopR R0) := by
  refine F.ok sc_Ratio_top (fun vs H Q E h => ?_) (fun cdv A outer s H vs Q E hr h => ?_)
  · obtain ⟨p, n, d, rfl, ⟨dx, hp⟩, k⟩ := h
    rfl
  · obtain ⟨p, n, d, rfl, ⟨dx, hp⟩, k⟩ := h
    refine ⟨_, (PSs.nox (pss_one (ps_ret (pe_fld (pv 0) rfl)))), ?_⟩
    exact ⟨_, rfl, p, R0, dx, _, _, rfl, hp, RQ.cl, RQ.nT, fl_top _ _, k⟩
theorem sc_Ratio_bottom : FnScope ["self"] ["self"] (defScope s_Ratio_bottom) := ⟨rfl, rfl, rfl, by decide +kernel, rfl, by decide +kernel, by decide +kernel⟩
theorem ok_Ratio_bottom (F : FunD K "bottom" "Ratio.bottom" (defArgs s_Ratio_bottom) (defBody s_Ratio_bottom) (defScope s_Ratio_bottom) [] [] f fd) (T : TB mg) (RQ : RatT K mg R0) : FnOk P w K mg base CX0 1 f fd ["self"] (spBotR R0) := by
  refine F.ok sc_Ratio_bottom (fun vs H Q E h => ?_) (fun cdv A outer s H vs Q E hr h => ?_)
  · obtain ⟨p, n, d, rfl, ⟨dx, hp⟩, k⟩ := h
    rfl
  · obtain ⟨p, n, d, rfl, ⟨dx, hp⟩, k⟩ := h
    refine ⟨_, (PSs.nox (pss_one (ps_ret (pe_fld (pv 0) rfl)))), ?_⟩
    exact ⟨_, rfl, p, R0, dx, _, _, rfl, hp, RQ.cl, RQ.nB, fl_bottom _ _, k⟩
theorem sc_Ratio_sign : FnScope ["self"] ["self"] (defScope s_Ratio_sign) := ⟨rfl, rfl, rfl, by decide +kernel, rfl, by decide +kernel, by decide +kernel⟩
def sgnI (a : Int) : Int := if a = 0 then 0 else if a < 0 then -1 else 1
def spSignR (R0 : Addr) : Sp := fun vs H Q _ => ∃ (p : Addr) (a b : Int), vs = [.ref p] ∧ RatV R0 H p a b ∧ Q (.int (sgnI a)) H
theorem ok_Ratio_sign (F : FunD K "sign" "Ratio.sign" (defArgs s_Ratio_sign) (defBody s_Ratio_sign) (defScope s_Ratio_sign) [] [] f fd) (T : TB mg) (RQ : RatT K mg R0) : FnOk P w K mg base CX0 1 f fd ["self"] (spSignR R0) := by
  refine F.ok sc_Ratio_sign (fun vs H Q E h => ?_) (fun cdv A outer s H vs Q E hr h => ?_)
  · obtain ⟨p, a, b, rfl, ⟨hb, dx, hp⟩, k⟩ := h
    rfl
  · obtain ⟨p, a, b, rfl, ⟨hb, dx, hp⟩, k⟩ := h
    refine ⟨_, (PSs.nox (pss_cons (ps_if (pt_cmpR op_eq (pe_fld (pv 0) rfl) pe_int (nomark _)) (pss_one (ps_ret pe_int)) pss_nil)
      (pss_cons (ps_if (pt_cmpR op_lt (pe_fld (pv 0) rfl) pe_int (nomark _)) (pss_one (ps_ret (pe_un un_neg pe_int))) pss_nil)
      (pss_one (ps_ret pe_int))))), ?_⟩
    obtain ⟨s1, s2⟩ := red_sgn (a := a) hb
    unfold sgnI at k
    refine ⟨_, rfl, p, R0, dx, _, _, rfl, hp, RQ.cl, RQ.nT, fl_top _ _, rfl, _, rfl, ite2 (fun hz => ?_) (fun hz => ?_)⟩
    · rw [if_pos (s1.mp (V.int.inj (of_decide_eq_true hz)))] at k
      exact k
    have hz := fun z => hz (decide_eq_true (congrArg V.int (s1.mpr z)))
    rw [if_neg hz] at k
    refine ⟨_, rfl, p, R0, dx, _, _, rfl, hp, RQ.cl, RQ.nT, fl_top _ _, _, _, rfl, rfl, _, rfl, ite2 (fun hy => ?_) (fun hy => ?_)⟩
    · rw [if_pos (s2.mp (of_decide_eq_true hy))] at k
      exact ⟨_, rfl, k⟩
    · rw [if_neg (fun z => hy (decide_eq_true (s2.mpr z)))] at k
      exact k
theorem sc_as_ratio : FnScope ["value"] ["value"] (defScope s_as_ratio) := ⟨rfl, rfl, rfl, by decide +kernel, rfl, by decide +kernel, by decide +kernel⟩
def spAsR (R0 : Addr) : Sp := fun vs H Q _ => ∃ (x : V) (a b : Int), vs = [x] ∧ NumV R0 H x a b ∧ ∀ p H', Ext H H' → RatV R0 H' p a b → Q (.ref p) H'
theorem ok_as_ratio (F : FunD K "as_ratio" "as_ratio" (defArgs s_as_ratio) (defBody s_as_ratio) (defScope s_as_ratio) [] [] f fd) (T : TB mg) (RQ : RatT K mg R0) {fI : Addr} {fdI : FuncData} {dsI : List Value} (MI : Mk K R0 fI) (GI : FnOk P w K mg base CX0 2 fI fdI ["self", "top", "bottom"] (spInitR R0)) (bI2 : Binds K fdI ["self", "top", "bottom"] []) (hdI : Vals [.int 1] dsI) (bI1 : Binds K fdI ["self", "top", "bottom"] dsI) : FnOk P w K mg base CX0 4 f fd ["value"] (spAsR R0) := by
  refine F.ok sc_as_ratio (fun vs H Q E h => ?_) (fun cdv A outer s H vs Q E hr h => ?_)
  · obtain ⟨x, a, b, rfl, hx, k⟩ := h
    rfl
  · obtain ⟨x, a, b, rfl, hx, k⟩ := h
    refine ⟨_, (PSs.nox (pss_cons (ps_if (pt_val (pe_callB call_isi (by rfl) T.isinstance (by decide +kernel) (pa_cons (pv 0) (pa_cons (pe_glob (v := .ref R0) (by rfl) RQ.mgR rfl) pa_nil)))) (pss_one (ps_ret (pv 0))) pss_nil)
      (pss_one (ps_ret (pe_make MI GI (hr.mono (by decide)) (by rfl) RQ.mgR bI1 hdI pass0 (pa_cons (pv 0) pa_nil)))))), ?_⟩
    rcases hx with ⟨p, rfl, hb, hp⟩ | ⟨rfl, rfl⟩
    · refine ⟨_, rfl, .ref p, _, _, _, true, rfl, .own R0, tyx_rat RQ hp, RQ.kR, true, rfl, iteT ?_⟩
      exact ⟨_, rfl, k p H Ext.rfl' ⟨hb, hp⟩⟩
    · refine ⟨_, rfl, .int a, _, _, _, false, rfl, .own R0, .base (.int a), RQ.kk, false, rfl, iteF ?_⟩
      refine ⟨_, rfl, fun x dx hx hdx ne => ⟨x, dx, a, 1, rfl, upd_same, by decide, by decide, fun H' F1 h1 => ⟨rfl, ?_⟩⟩⟩
      exact k x H' (made_ext hx hdx F1) ⟨by decide, dx, h1⟩
theorem sc_Ratio___mul : FnScope ["self", "other", "number"] ["self", "other"] (defScope s_Ratio___mul) := ⟨rfl, rfl, rfl, by decide +kernel, rfl, by decide +kernel, by decide +kernel⟩
def spMulR (R0 : Addr) : Sp := fun vs H Q _ => ∃ (p : Addr) (x : V) (a b c d : Int) (m1 m2 : Nat), vs = [.ref p, x] ∧ RatV R0 H p a b ∧ NumV R0 H x c d ∧ a.natAbs < 2 ^ m1 ∧ b.natAbs < 2 ^ m1 ∧ c.natAbs < 2 ^ m2 ∧ d.natAbs < 2 ^ m2 ∧ 0 < m1 ∧ 0 < m2 ∧ m1 + m2 ≤ 8000 ∧ ∀ q H', Ext H H' → RatV R0 H' q (a * c) (b * d) → Q (.ref q) H'
def spOverR (R0 : Addr) : Sp := fun vs H Q _ => ∃ (p : Addr) (x : V) (a b c d : Int) (m1 m2 : Nat), vs = [.ref p, x] ∧ RatV R0 H p a b ∧ NumV R0 H x c d ∧ a.natAbs < 2 ^ m1 ∧ b.natAbs < 2 ^ m1 ∧ c.natAbs < 2 ^ m2 ∧ d.natAbs < 2 ^ m2 ∧ 0 < m1 ∧ 0 < m2 ∧ m1 + m2 ≤ 8000 ∧ 0 < c ∧ ∀ q H', Ext H H' → RatV R0 H' q (a * d) (b * c) → Q (.ref q) H'
def spAddR (R0 : Addr) : Sp := fun vs H Q _ => ∃ (p : Addr) (x : V) (a b c d : Int) (m1 m2 : Nat), vs = [.ref p, x] ∧ RatV R0 H p a b ∧ NumV R0 H x c d ∧ a.natAbs < 2 ^ m1 ∧ b.natAbs < 2 ^ m1 ∧ c.natAbs < 2 ^ m2 ∧ d.natAbs < 2 ^ m2 ∧ 0 < m1 ∧ 0 < m2 ∧ m1 + m2 ≤ 8000 ∧ ∀ q H', Ext H H' → RatV R0 H' q (a * d + c * b) (b * d) → Q (.ref q) H'
def spSubR (R0 : Addr) : Sp := fun vs H Q _ => ∃ (p : Addr) (x : V) (a b c d : Int) (m1 m2 : Nat), vs = [.ref p, x] ∧ RatV R0 H p a b ∧ NumV R0 H x c d ∧ a.natAbs < 2 ^ m1 ∧ b.natAbs < 2 ^ m1 ∧ c.natAbs < 2 ^ m2 ∧ d.natAbs < 2 ^ m2 ∧ 0 < m1 ∧ 0 < m2 ∧ m1 + m2 ≤ 8000 ∧ ∀ q H', Ext H H' → RatV R0 H' q (a * d - c * b) (b * d) → Q (.ref q) H'
def spBelowR (R0 : Addr) : Sp := fun vs H Q _ => ∃ (p : Addr) (x : V) (a b c d : Int) (m1 m2 : Nat), vs = [.ref p, x] ∧ RatV R0 H p a b ∧ NumV R0 H x c d ∧ a.natAbs < 2 ^ m1 ∧ b.natAbs < 2 ^ m1 ∧ c.natAbs < 2 ^ m2 ∧ d.natAbs < 2 ^ m2 ∧ 0 < m1 ∧ 0 < m2 ∧ m1 + m2 ≤ 8000 ∧ ∀ H', Ext H H' → Q (.bl (decide (a * d < c * b))) H'
theorem ok_Ratio___mul (F : FunD K "__mul__" "Ratio.__mul__" (defArgs s_Ratio___mul) (defBody s_Ratio___mul) (defScope s_Ratio___mul) [] [] f fd) (T : TB mg) (RQ : RatT K mg R0) {p_Ratio_top f_Ratio_top : Addr} {fd_Ratio_top : FuncData} (m_Ratio_top : PropOf K R0 "top" p_Ratio_top f_Ratio_top) (g_Ratio_top : FnOk P w K mg base CX0 1 f_Ratio_top fd_Ratio_top ["self"] (spTopR R0)) (b_Ratio_top : Binds K fd_Ratio_top ["self"] []) {p_Ratio_bottom f_Ratio_bottom : Addr} {fd_Ratio_bottom : FuncData} (m_Ratio_bottom : PropOf K R0 "bottom" p_Ratio_bottom f_Ratio_bottom) (g_Ratio_bottom : FnOk P w K mg base CX0 1 f_Ratio_bottom fd_Ratio_bottom ["self"] (spBotR R0)) (b_Ratio_bottom : Binds K fd_Ratio_bottom ["self"] []) {fas_ratio : Addr} {fdas_ratio : FuncData} (Das_ratio : Gd P w K mg base "as_ratio" 4 ["value"] (spAsR R0) fas_ratio fdas_ratio) {fI : Addr} {fdI : FuncData} {dsI : List Value} (MI : Mk K R0 fI) (GI : FnOk P w K mg base CX0 2 fI fdI ["self", "top", "bottom"] (spInitR R0)) (bI2 : Binds K fdI ["self", "top", "bottom"] []) (hdI : Vals [.int 1] dsI) (bI1 : Binds K fdI ["self", "top", "bottom"] dsI) : FnOk P w K mg base CX0 5 f fd ["self", "other"] (spMulR R0) := by
  refine F.ok sc_Ratio___mul (fun vs H Q E h => ?_) (fun cdv A outer s H vs Q E hr h => ?_)
  · obtain ⟨p, x, a, b, c, d, m1, m2, rfl, hp, hx, za, zb, zc, zd, hm1, hm2, hmm, k⟩ := h
    rfl
  · obtain ⟨p, x, a, b, c, d, m1, m2, rfl, hp, hx, za, zb, zc, zd, hm1, hm2, hmm, k⟩ := h
    refine ⟨_, (PSs.nox (pss_cons (ps_set (i := 2) sc_Ratio___mul.nd rfl (.inl rfl) (pe_gd Das_ratio hr (by decide) (by rfl) (pa_cons (pv 1) pa_nil)))
      (pss_one (ps_ret (pe_make MI GI (hr.mono (by decide)) (by rfl) RQ.mgR bI2 .nil pass0 (pa_cons (pe_op op_mulW (pe_fld (pv 0) rfl) (pe_prop (pv 2) RQ.cl m_Ratio_top g_Ratio_top (hr.mono (by decide)) b_Ratio_top .nil pass0 rfl)) (pa_cons (pe_op op_mulW (pe_fld (pv 0) rfl) (pe_prop (pv 2) RQ.cl m_Ratio_bottom g_Ratio_bottom (hr.mono (by decide)) b_Ratio_bottom .nil pass0 rfl)) pa_nil))))))), ?_⟩
    refine ⟨_, rfl, x, c, d, rfl, hx, fun q H1 e1 hq => ?_⟩
    obtain ⟨hb, dx, hp1⟩ := hp.ext e1
    obtain ⟨hd, dq, hq1⟩ := id hq
    have l1 := red_le a b
    have l2 := red_le c d
    have za1 := b4000 za l1.1
    have zb1 := b4000 zb l1.2
    have zc1 := b4000 zc l2.1
    have zd1 := b4000 zd l2.2

    have q1 : redD a b * redD c d ≠ 0 := Int.mul_ne_zero (by have := redD_pos (a := a) (b := b) (by omega); omega) (by have := redD_pos (a := c) (b := d) (by omega); omega)
    have q2 : (redD a b * redD c d).natAbs < 2 ^ 8000 := Nat.lt_of_lt_of_le (wide_lt zb1 zd1) (Nat.pow_le_pow_right (by decide) hmm)
    refine ⟨_, rfl, p, R0, dx, _, _, rfl, hp1, RQ.cl, RQ.nT, fl_top _ _, _, rfl, q, dq, _, rfl, hq1, q, _, _, rfl, ⟨dq, hq1⟩, _, _, rfl, rfl, (mulW za1 zc1 hm1 hm2 (by omega)), _, rfl, p, R0, dx, _, _, rfl, hp1, RQ.cl, RQ.nB, fl_bottom _ _, _, rfl, q, dq, _, rfl, hq1, q, _, _, rfl, ⟨dq, hq1⟩, _, _, rfl, rfl, (mulW zb1 zd1 hm1 hm2 (by omega)), ?_⟩
    refine fun x dx hx hdx ne => ⟨x, dx, _, _, rfl, upd_same, q1, q2, fun H' F1 h1 => ⟨rfl, ?_⟩⟩
    obtain ⟨m1, m2⟩ := red_mulR (a := a) (c := c) hb hd
    exact k x H' (e1.trans (made_ext hx hdx F1)) ⟨Int.mul_pos hb hd, dx, by rw [h1, m1, m2]⟩
theorem sc_Ratio_over : FnScope ["self", "other", "number"] ["self", "other"] (defScope s_Ratio_over) := ⟨rfl, rfl, rfl, by decide +kernel, rfl, by decide +kernel, by decide +kernel⟩
theorem ok_Ratio_over (F : FunD K "over" "Ratio.over" (defArgs s_Ratio_over) (defBody s_Ratio_over) (defScope s_Ratio_over) [] [] f fd) (T : TB mg) (RQ : RatT K mg R0) {p_Ratio_top f_Ratio_top : Addr} {fd_Ratio_top : FuncData} (m_Ratio_top : PropOf K R0 "top" p_Ratio_top f_Ratio_top) (g_Ratio_top : FnOk P w K mg base CX0 1 f_Ratio_top fd_Ratio_top ["self"] (spTopR R0)) (b_Ratio_top : Binds K fd_Ratio_top ["self"] []) {p_Ratio_bottom f_Ratio_bottom : Addr} {fd_Ratio_bottom : FuncData} (m_Ratio_bottom : PropOf K R0 "bottom" p_Ratio_bottom f_Ratio_bottom) (g_Ratio_bottom : FnOk P w K mg base CX0 1 f_Ratio_bottom fd_Ratio_bottom ["self"] (spBotR R0)) (b_Ratio_bottom : Binds K fd_Ratio_bottom ["self"] []) {p_Ratio_sign f_Ratio_sign : Addr} {fd_Ratio_sign : FuncData} (m_Ratio_sign : PropOf K R0 "sign" p_Ratio_sign f_Ratio_sign) (g_Ratio_sign : FnOk P w K mg base CX0 1 f_Ratio_sign fd_Ratio_sign ["self"] (spSignR R0)) (b_Ratio_sign : Binds K fd_Ratio_sign ["self"] []) {fas_ratio : Addr} {fdas_ratio : FuncData} (Das_ratio : Gd P w K mg base "as_ratio" 4 ["value"] (spAsR R0) fas_ratio fdas_ratio) {fI : Addr} {fdI : FuncData} {dsI : List Value} (MI : Mk K R0 fI) (GI : FnOk P w K mg base CX0 2 fI fdI ["self", "top", "bottom"] (spInitR R0)) (bI2 : Binds K fdI ["self", "top", "bottom"] []) (hdI : Vals [.int 1] dsI) (bI1 : Binds K fdI ["self", "top", "bottom"] dsI) : FnOk P w K mg base CX0 5 f fd ["self", "other"] (spOverR R0) := by
  refine F.ok sc_Ratio_over (fun vs H Q E h => ?_) (fun cdv A outer s H vs Q E hr h => ?_)
  · obtain ⟨p, x, a, b, c, d, m1, m2, rfl, hp, hx, za, zb, zc, zd, hm1, hm2, hmm, hc, k⟩ := h
    rfl
  · obtain ⟨p, x, a, b, c, d, m1, m2, rfl, hp, hx, za, zb, zc, zd, hm1, hm2, hmm, hc, k⟩ := h
    refine ⟨_, (PSs.nox (pss_cons (ps_set (i := 2) sc_Ratio_over.nd rfl (.inl rfl) (pe_gd Das_ratio hr (by decide) (by rfl) (pa_cons (pv 1) pa_nil)))
      (pss_cons (ps_if (pt_cmpR op_eq (pe_prop (pv 2) RQ.cl m_Ratio_sign g_Ratio_sign (hr.mono (by decide)) b_Ratio_sign .nil pass0 rfl) pe_int (nomark _)) (pss_one ps_never) pss_nil)
      (pss_one (ps_ret (pe_make MI GI (hr.mono (by decide)) (by rfl) RQ.mgR bI2 .nil pass0 (pa_cons (pe_op op_mulW (pe_fld (pv 0) rfl) (pe_prop (pv 2) RQ.cl m_Ratio_bottom g_Ratio_bottom (hr.mono (by decide)) b_Ratio_bottom .nil pass0 rfl)) (pa_cons (pe_op op_mulW (pe_fld (pv 0) rfl) (pe_prop (pv 2) RQ.cl m_Ratio_top g_Ratio_top (hr.mono (by decide)) b_Ratio_top .nil pass0 rfl)) pa_nil)))))))), ?_⟩
    refine ⟨_, rfl, x, c, d, rfl, hx, fun q H1 e1 hq => ?_⟩
    obtain ⟨hb, dx, hp1⟩ := hp.ext e1
    obtain ⟨hd, dq, hq1⟩ := id hq
    have l1 := red_le a b
    have l2 := red_le c d
    have za1 := b4000 za l1.1
    have zb1 := b4000 zb l1.2
    have zc1 := b4000 zc l2.1
    have zd1 := b4000 zd l2.2

    refine ⟨_, rfl, q, dq, _, rfl, hq1, q, c, d, rfl, hq, rfl, _, rfl, ite2 (fun hz => ?_) (fun _ => ?_)⟩
    · have := V.int.inj (of_decide_eq_true hz)
      unfold sgnI at this
      rw [if_neg (by omega), if_neg (by omega)] at this
      omega
    have s := red_sgn (a := c) hd
    have q1 : redD a b * redN c d ≠ 0 := Int.mul_ne_zero (by have := redD_pos (a := a) (b := b) (by omega); omega) (by have := s.1; omega)
    have q2 : (redD a b * redN c d).natAbs < 2 ^ 8000 := Nat.lt_of_lt_of_le (wide_lt zb1 zc1) (Nat.pow_le_pow_right (by decide) hmm)
    refine ⟨_, rfl, p, R0, dx, _, _, rfl, hp1, RQ.cl, RQ.nT, fl_top _ _, _, rfl, q, dq, _, rfl, hq1, q, _, _, rfl, ⟨dq, hq1⟩, _, _, rfl, rfl, (mulW za1 zd1 hm1 hm2 (by omega)), _, rfl, p, R0, dx, _, _, rfl, hp1, RQ.cl, RQ.nB, fl_bottom _ _, _, rfl, q, dq, _, rfl, hq1, q, _, _, rfl, ⟨dq, hq1⟩, _, _, rfl, rfl, (mulW zb1 zc1 hm1 hm2 (by omega)), ?_⟩
    refine fun x dx hx hdx ne => ⟨x, dx, _, _, rfl, upd_same, q1, q2, fun H' F1 h1 => ⟨rfl, ?_⟩⟩
    obtain ⟨m1, m2⟩ := red_overR (a := a) (c := c) hb hd hc
    exact k x H' (e1.trans (made_ext hx hdx F1)) ⟨Int.mul_pos hb hc, dx, by rw [h1, m1, m2]⟩
theorem sc_Ratio_is_below : FnScope ["self", "other", "number"] ["self", "other"] (defScope s_Ratio_is_below) := ⟨rfl, rfl, rfl, by decide +kernel, rfl, by decide +kernel, by decide +kernel⟩
theorem ok_Ratio_is_below (F : FunD K "is_below" "Ratio.is_below" (defArgs s_Ratio_is_below) (defBody s_Ratio_is_below) (defScope s_Ratio_is_below) [] [] f fd) (T : TB mg) (RQ : RatT K mg R0) {p_Ratio_top f_Ratio_top : Addr} {fd_Ratio_top : FuncData} (m_Ratio_top : PropOf K R0 "top" p_Ratio_top f_Ratio_top) (g_Ratio_top : FnOk P w K mg base CX0 1 f_Ratio_top fd_Ratio_top ["self"] (spTopR R0)) (b_Ratio_top : Binds K fd_Ratio_top ["self"] []) {p_Ratio_bottom f_Ratio_bottom : Addr} {fd_Ratio_bottom : FuncData} (m_Ratio_bottom : PropOf K R0 "bottom" p_Ratio_bottom f_Ratio_bottom) (g_Ratio_bottom : FnOk P w K mg base CX0 1 f_Ratio_bottom fd_Ratio_bottom ["self"] (spBotR R0)) (b_Ratio_bottom : Binds K fd_Ratio_bottom ["self"] []) {fas_ratio : Addr} {fdas_ratio : FuncData} (Das_ratio : Gd P w K mg base "as_ratio" 4 ["value"] (spAsR R0) fas_ratio fdas_ratio) : FnOk P w K mg base CX0 5 f fd ["self", "other"] (spBelowR R0) := by
  refine F.ok sc_Ratio_is_below (fun vs H Q E h => ?_) (fun cdv A outer s H vs Q E hr h => ?_)
  · obtain ⟨p, x, a, b, c, d, m1, m2, rfl, hp, hx, za, zb, zc, zd, hm1, hm2, hmm, k⟩ := h
    rfl
  · obtain ⟨p, x, a, b, c, d, m1, m2, rfl, hp, hx, za, zb, zc, zd, hm1, hm2, hmm, k⟩ := h
    refine ⟨_, (PSs.nox (pss_cons (ps_set (i := 2) sc_Ratio_is_below.nd rfl (.inl rfl) (pe_gd Das_ratio hr (by decide) (by rfl) (pa_cons (pv 1) pa_nil)))
      (pss_one (ps_ret (pe_cmpR op_lt (pe_op op_mulW (pe_fld (pv 0) rfl) (pe_prop (pv 2) RQ.cl m_Ratio_bottom g_Ratio_bottom (hr.mono (by decide)) b_Ratio_bottom .nil pass0 rfl)) (pe_op op_mulW (pe_prop (pv 2) RQ.cl m_Ratio_top g_Ratio_top (hr.mono (by decide)) b_Ratio_top .nil pass0 rfl) (pe_fld (pv 0) rfl)) (nomark _)))))), ?_⟩
    refine ⟨_, rfl, x, c, d, rfl, hx, fun q H1 e1 hq => ?_⟩
    obtain ⟨hb, dx, hp1⟩ := hp.ext e1
    obtain ⟨hd, dq, hq1⟩ := id hq
    have l1 := red_le a b
    have l2 := red_le c d
    have za1 := b4000 za l1.1
    have zb1 := b4000 zb l1.2
    have zc1 := b4000 zc l2.1
    have zd1 := b4000 zd l2.2

    refine ⟨_, rfl, p, R0, dx, _, _, rfl, hp1, RQ.cl, RQ.nT, fl_top _ _, _, rfl, q, dq, _, rfl, hq1, q, _, _, rfl, ⟨dq, hq1⟩, _, _, rfl, rfl, (mulW za1 zd1 hm1 hm2 (by omega)), _, rfl, q, dq, _, rfl, hq1, q, _, _, rfl, ⟨dq, hq1⟩, _, rfl, p, R0, dx, _, _, rfl, hp1, RQ.cl, RQ.nB, fl_bottom _ _, _, _, rfl, rfl, (mulW zc1 zb1 hm2 hm1 (by omega)), _, _, rfl, rfl, ?_⟩
    have e : decide (redN a b * redD c d < redN c d * redD a b) = decide (a * d < c * b) := decide_eq_decide.mpr (red_lt hb hd)
    show Q (.bl (decide (redN a b * redD c d < redN c d * redD a b))) H1
    rw [e]
    exact k H1 e1
theorem sc_Ratio___eq : FnScope ["self", "other"] ["self", "other"] (defScope s_Ratio___eq) := ⟨rfl, rfl, rfl, by decide +kernel, rfl, by decide +kernel, by decide +kernel⟩
def spEqRV (K : PySem.W.Frag) (R0 : Addr) : Sp := fun vs H Q _ => ∃ (p : Addr) (y : V) (a b : Int), vs = [.ref p, y] ∧ RatV R0 H p a b ∧
  ((∃ (q : Addr) (c d : Int), y = .ref q ∧ RatV R0 H q c d ∧ Q (.bl (decide (a * d = c * b))) H) ∨ (∃ t, TyX K H y t ∧ PySem.W.kitOne K t (.ref R0) = some false ∧ Q (.bl false) H))
theorem ok_Ratio___eq (F : FunD K "__eq__" "Ratio.__eq__" (defArgs s_Ratio___eq) (defBody s_Ratio___eq) (defScope s_Ratio___eq) [] [] f fd) (T : TB mg) (RQ : RatT K mg R0) : FnOk P w K mg base CX0 1 f fd ["self", "other"] (spEqRV K R0) := by
  refine F.ok sc_Ratio___eq (fun vs H Q E h => ?_) (fun cdv A outer s H vs Q E hr h => ?_)
  · obtain ⟨p, y, a, b, rfl, ⟨hb, dx, hp⟩, hy⟩ := h
    rfl
  · obtain ⟨p, y, a, b, rfl, ⟨hb, dx, hp⟩, hy⟩ := h
    refine ⟨_, (PSs.nox (pss_one (ps_ret (pe_and (pe_callB call_isi (by rfl) T.isinstance (by decide +kernel) (pa_cons (pv 1) (pa_cons (pe_glob (v := .ref R0) (by rfl) RQ.mgR rfl) pa_nil))) (pe_and (pe_cmpR op_eq (pe_fld (pv 0) rfl) (pe_fld (pv 1) rfl) (nomark _)) (pe_one (pe_cmpR op_eq (pe_fld (pv 0) rfl) (pe_fld (pv 1) rfl) (nomark _)))))))), ?_⟩
    rcases hy with ⟨q, c, d, rfl, ⟨hd, dq, hq⟩, k⟩ | ⟨t, ty, hk, k⟩
    · refine ⟨_, rfl, .ref q, _, _, _, true, rfl, .own R0, tyx_rat RQ ⟨dq, hq⟩, RQ.kR, true, rfl, iteT ?_⟩
      have re := red_eq (a := a) (b := b) (c := c) (d := d) (by omega) (by omega)
      refine ⟨_, rfl, p, R0, dx, _, _, rfl, hp, RQ.cl, RQ.nT, fl_top _ _, _, rfl, q, R0, dq, _, _, rfl, hq, RQ.cl, RQ.nT, fl_top _ _, rfl, _, rfl, ite2 (fun h1 => ?_) (fun h1 => ?_)⟩
      · have h1 := V.int.inj (of_decide_eq_true h1)
        refine ⟨_, rfl, p, R0, dx, _, _, rfl, hp, RQ.cl, RQ.nB, fl_bottom _ _, _, rfl, q, R0, dq, _, _, rfl, hq, RQ.cl, RQ.nB, fl_bottom _ _, rfl, ?_⟩
        have e : decide (V.int (redD a b) = V.int (redD c d)) = decide (a * d = c * b) := decide_eq_decide.mpr ⟨fun z => re.mp ⟨h1, V.int.inj z⟩, fun z => congrArg V.int (re.mpr z).2⟩
        rw [e]
        exact k
      · rw [decide_eq_false (fun z => h1 (decide_eq_true (congrArg V.int (re.mpr z).1)))] at k
        exact k
    · exact ⟨_, rfl, y, _, _, _, false, rfl, .own R0, ty, hk, false, rfl, iteF k⟩
theorem sc_is_number : FnScope ["value"] ["value"] (defScope s_is_number) := ⟨rfl, rfl, rfl, by decide +kernel, rfl, by decide +kernel, by decide +kernel⟩
def spIsNumV (R0 : Addr) : Sp := fun vs H Q _ => ∃ (x : V) (a b : Int), vs = [x] ∧ NumV R0 H x a b ∧ Q (.bl true) H
theorem ok_is_number (F : FunD K "is_number" "is_number" (defArgs s_is_number) (defBody s_is_number) (defScope s_is_number) [] [] f fd) (T : TB mg) (RQ : RatT K mg R0) {fiV : Addr} {fdiV : FuncData} (Dis_intV : Gd P w K mg base "is_int" 1 ["value"] (spIsIntV R0) fiV fdiV) : FnOk P w K mg base CX0 2 f fd ["value"] (spIsNumV R0) := by
  refine F.ok sc_is_number (fun vs H Q E h => ?_) (fun cdv A outer s H vs Q E hr h => ?_)
  · obtain ⟨x, a, b, rfl, hx, k⟩ := h
    rfl
  · obtain ⟨x, a, b, rfl, hx, k⟩ := h
    refine ⟨_, (PSs.nox (pss_one (ps_ret (pe_or (pe_gd Dis_intV hr (by decide) (by rfl) (pa_cons (pv 0) pa_nil)) (pe_one (pe_callB call_isi (by rfl) T.isinstance (by decide +kernel) (pa_cons (pv 0) (pa_cons (pe_glob (v := .ref R0) (by rfl) RQ.mgR rfl) pa_nil)))))))), ?_⟩
    rcases hx with ⟨p, rfl, _, hp⟩ | ⟨rfl, rfl⟩
    · exact ⟨_, rfl, .ref p, rfl, .inr ⟨p, _, _, rfl, hp, false, rfl, iteF ⟨_, rfl, .ref p, _, _, _, true, rfl, .own R0, tyx_rat RQ hp, RQ.kR, k⟩⟩⟩
    · exact ⟨_, rfl, _, rfl, .inl ⟨_, rfl, true, rfl, iteT k⟩⟩
theorem sc_is_above_0 : FnScope ["value"] ["value"] (defScope s_is_above_0) := ⟨rfl, rfl, rfl, by decide +kernel, rfl, by decide +kernel, by decide +kernel⟩
def spAboveR (R0 : Addr) : Sp := fun vs H Q _ => ∃ (x : V) (a b : Int), vs = [x] ∧ NumV R0 H x a b ∧ ∀ H', Ext H H' → Q (.bl (decide (0 < a))) H'
theorem ok_is_above_0 (F : FunD K "is_above_0" "is_above_0" (defArgs s_is_above_0) (defBody s_is_above_0) (defScope s_is_above_0) [] [] f fd) (T : TB mg) (RQ : RatT K mg R0) {p_Ratio_sign f_Ratio_sign : Addr} {fd_Ratio_sign : FuncData} (m_Ratio_sign : PropOf K R0 "sign" p_Ratio_sign f_Ratio_sign) (g_Ratio_sign : FnOk P w K mg base CX0 1 f_Ratio_sign fd_Ratio_sign ["self"] (spSignR R0)) (b_Ratio_sign : Binds K fd_Ratio_sign ["self"] []) {fis_number : Addr} {fdis_number : FuncData} (Dis_number : Gd P w K mg base "is_number" 2 ["value"] (spIsNumV R0) fis_number fdis_number) {fas_ratio : Addr} {fdas_ratio : FuncData} (Das_ratio : Gd P w K mg base "as_ratio" 4 ["value"] (spAsR R0) fas_ratio fdas_ratio) : FnOk P w K mg base CX0 5 f fd ["value"] (spAboveR R0) := by
  refine F.ok sc_is_above_0 (fun vs H Q E h => ?_) (fun cdv A outer s H vs Q E hr h => ?_)
  · obtain ⟨x, a, b, rfl, hx, k⟩ := h
    rfl
  · obtain ⟨x, a, b, rfl, hx, k⟩ := h
    refine ⟨_, (PSs.nox (pss_one (ps_ret (pe_and (pe_gd Dis_number hr (by decide) (by rfl) (pa_cons (pv 0) pa_nil)) (pe_one (pe_cmpR op_eq (pe_prop (pe_gd Das_ratio hr (by decide) (by rfl) (pa_cons (pv 0) pa_nil)) RQ.cl m_Ratio_sign g_Ratio_sign (hr.mono (by decide)) b_Ratio_sign .nil pass0 rfl) pe_int (nomark _))))))), ?_⟩
    refine ⟨_, rfl, x, a, b, rfl, hx, true, rfl, iteT ⟨_, rfl, x, a, b, rfl, hx, fun q H1 e1 hq => ?_⟩⟩
    obtain ⟨hd, dq, hq1⟩ := id hq
    refine ⟨q, dq, _, rfl, hq1, q, a, b, rfl, hq, rfl, ?_⟩
    have e : decide (V.int (sgnI a) = V.int 1) = decide (0 < a) := decide_eq_decide.mpr ⟨fun z => by
      have := V.int.inj z
      unfold sgnI at this
      split at this
      · omega
      · split at this <;> omega, fun z => by
      unfold sgnI
      rw [if_neg (by omega), if_neg (by omega)]⟩
    rw [e]
    exact k H1 e1
theorem sc_smaller : FnScope ["one", "other"] ["one", "other"] (defScope s_smaller) := ⟨rfl, rfl, rfl, by decide +kernel, rfl, by decide +kernel, by decide +kernel⟩
def spSmaller (R0 : Addr) : Sp := fun vs H Q _ => ∃ (p q : Addr) (a b c d : Int) (m : Nat), vs = [.ref p, .ref q] ∧ RatV R0 H p a b ∧ RatV R0 H q c d ∧ a.natAbs < 2 ^ m ∧ b.natAbs < 2 ^ m ∧ c.natAbs < 2 ^ m ∧ d.natAbs < 2 ^ m ∧ 0 < m ∧ m ≤ 4000 ∧ ∀ H', Ext H H' → Q (.ref (if c * b < a * d then q else p)) H'
theorem ok_smaller (F : FunD K "smaller" "smaller" (defArgs s_smaller) (defBody s_smaller) (defScope s_smaller) [] [] f fd) (T : TB mg) (RQ : RatT K mg R0) {f_Ratio_is_below : Addr} {fd_Ratio_is_below : FuncData} (m_Ratio_is_below : Meth K R0 "is_below" f_Ratio_is_below) (g_Ratio_is_below : FnOk P w K mg base CX0 5 f_Ratio_is_below fd_Ratio_is_below ["self", "other"] (spBelowR R0)) (b_Ratio_is_below : Binds K fd_Ratio_is_below ["self", "other"] []) : FnOk P w K mg base CX0 6 f fd ["one", "other"] (spSmaller R0) := by
  refine F.ok sc_smaller (fun vs H Q E h => ?_) (fun cdv A outer s H vs Q E hr h => ?_)
  · obtain ⟨p, q, a, b, c, d, m, rfl, hp, hq, za, zb, zc, zd, hm, hmm, k⟩ := h
    rfl
  · obtain ⟨p, q, a, b, c, d, m, rfl, hp, hq, za, zb, zc, zd, hm, hmm, k⟩ := h
    refine ⟨_, (PSs.nox (pss_cons (ps_if (pt_val (pe_meth (pv 1) RQ.cl m_Ratio_is_below g_Ratio_is_below (hr.mono (by decide)) b_Ratio_is_below .nil pass0 (pa_cons (pv 0) pa_nil))) (pss_one (ps_ret (pv 1))) pss_nil)
      (pss_one (ps_ret (pv 0))))), ?_⟩
    obtain ⟨dq, hq1⟩ := id hq.2
    refine ⟨_, rfl, q, dq, _, rfl, hq1, rfl, _, rfl, q, .ref p, c, d, a, b, m, m, rfl, hq, .inl ⟨p, rfl, hp⟩, zc, zd, za, zb, hm, hm, (by omega), fun H1 e1 => ?_⟩
    have k := k H1 e1
    refine ⟨_, rfl, ite2 (fun hz => ?_) (fun hz => ?_)⟩
    · rw [if_pos (of_decide_eq_true hz)] at k
      exact ⟨_, rfl, k⟩
    · rw [if_neg (fun z => hz (decide_eq_true z))] at k
      exact ⟨_, rfl, k⟩
theorem sc_greater : FnScope ["one", "other"] ["one", "other"] (defScope s_greater) := ⟨rfl, rfl, rfl, by decide +kernel, rfl, by decide +kernel, by decide +kernel⟩
def spGreater (R0 : Addr) : Sp := fun vs H Q _ => ∃ (p q : Addr) (a b c d : Int) (m : Nat), vs = [.ref p, .ref q] ∧ RatV R0 H p a b ∧ RatV R0 H q c d ∧ a.natAbs < 2 ^ m ∧ b.natAbs < 2 ^ m ∧ c.natAbs < 2 ^ m ∧ d.natAbs < 2 ^ m ∧ 0 < m ∧ m ≤ 4000 ∧ ∀ H', Ext H H' → Q (.ref (if a * d < c * b then q else p)) H'
theorem ok_greater (F : FunD K "greater" "greater" (defArgs s_greater) (defBody s_greater) (defScope s_greater) [] [] f fd) (T : TB mg) (RQ : RatT K mg R0) {f_Ratio_is_below : Addr} {fd_Ratio_is_below : FuncData} (m_Ratio_is_below : Meth K R0 "is_below" f_Ratio_is_below) (g_Ratio_is_below : FnOk P w K mg base CX0 5 f_Ratio_is_below fd_Ratio_is_below ["self", "other"] (spBelowR R0)) (b_Ratio_is_below : Binds K fd_Ratio_is_below ["self", "other"] []) : FnOk P w K mg base CX0 6 f fd ["one", "other"] (spGreater R0) := by
  refine F.ok sc_greater (fun vs H Q E h => ?_) (fun cdv A outer s H vs Q E hr h => ?_)
  · obtain ⟨p, q, a, b, c, d, m, rfl, hp, hq, za, zb, zc, zd, hm, hmm, k⟩ := h
    rfl
  · obtain ⟨p, q, a, b, c, d, m, rfl, hp, hq, za, zb, zc, zd, hm, hmm, k⟩ := h
    refine ⟨_, (PSs.nox (pss_cons (ps_if (pt_val (pe_meth (pv 0) RQ.cl m_Ratio_is_below g_Ratio_is_below (hr.mono (by decide)) b_Ratio_is_below .nil pass0 (pa_cons (pv 1) pa_nil))) (pss_one (ps_ret (pv 1))) pss_nil)
      (pss_one (ps_ret (pv 0))))), ?_⟩
    obtain ⟨dq, hq1⟩ := id hp.2
    refine ⟨_, rfl, p, dq, _, rfl, hq1, rfl, _, rfl, p, .ref q, a, b, c, d, m, m, rfl, hp, .inl ⟨q, rfl, hq⟩, za, zb, zc, zd, hm, hm, (by omega), fun H1 e1 => ?_⟩
    have k := k H1 e1
    refine ⟨_, rfl, ite2 (fun hz => ?_) (fun hz => ?_)⟩
    · rw [if_pos (of_decide_eq_true hz)] at k
      exact ⟨_, rfl, k⟩
    · rw [if_neg (fun z => hz (decide_eq_true z))] at k
      exact ⟨_, rfl, k⟩
end
end Mc

set_option Elab.async false
set_option linter.all false
set_option maxRecDepth 100000
set_option maxHeartbeats 4000000
set_option exponentiation.threshold 20000
namespace Mc
open PySem PySem.Spec PyProof.Rows L2 ClX StX
section
variable {P : Program} {w : World} {K : PySem.W.Frag} {mg : Str → Option Value} {base : Heap} {f C0 aX : Addr} {mc : Value} {fd : FuncData}
def tMakeV (C : Addr) (i : Nat) (sp : Sp) (t : TA) : TE := fun σ H Q => σ[i]? = some (some (V.ref C)) ∧ tMakeR C sp E0 t σ H Q
theorem pe_makeV {X : Cx} {k i : Nat} {f C : Addr} {sp : Sp} {x : Str} {e : Expr} {es : List Expr} {t : TA} {p pos : Pos} (M : Mk X.K C f) (F : FnR X.prog X.w X.K X.mg X.base CX0 k f sp) (hr : Room (k + 1) X.A) (hN : X.N[i]? = some x) (hv : Vis X.env.scope x) (hx : Passes CX0 X E0) (ha : PA X (e :: es) t)
    (hd : (x == ("__debug__" : Str)) = false := by decide) (hcd : (x == ("__classdict__" : Str)) = false := by decide) (he : starEach (e :: es) X.env = (false, eval e X.env) :: starEach es X.env := by rfl) (hpl : (backTo pos (starEach es X.env)).any (·.1) = false := by rfl) :
    PE X (.Call (.Name x p) (e :: es) [] pos) (tMakeV C i sp t) := by
  constructor
  intro pins s σ H Q I h
  obtain ⟨hs, ht⟩ := h
  refine wpAny_Call_Name_kw (thn ((pe_var (pos := p) hN hv hd hcd).run pins s σ H (fun v H1 => v = .ref C ∧ H1 = H) I ⟨.ref C, hs, rfl, rfl⟩) ?_)
  rintro u s1 ⟨v, H1, I1, r1, rfl, rfl⟩
  cases (show u = Value.ref C from r1)
  refine PySem.W.callWith_K (h₀ := X.base) I1.ok.mod.kin M.kp (thn (ha.run pos pins s1 σ H1 _ I1 ht) ?_) he hpl
  rintro us s2 ⟨vs, H2, I2, r, q⟩
  exact ⟨I2.kIn, run_makeR M F hr hx I2 r q⟩
theorem mk_ext {H : Hp} {x dx : Addr} {o o' : HO} (hx : H x = none) (hdx : H dx = none) : Ext H (upd (upd H dx o) x o') := fun a u z => by
  rw [upd_ne (ne_of_none z hx), upd_ne (ne_of_none z hdx)]
  exact z
instance (c : Cut) : Decidable (okC c) := inferInstanceAs (Decidable (2 ≤ c.2 ∧ c.2 ≤ 4))
def codesR : List (List Cut) := [[(true, 2), (false, 2), (true, 2), (false, 2), (true, 2)], [(false, 2), (true, 2), (false, 2), (true, 2), (false, 2)]]
theorem ok_codes : OkR codesR := ⟨by decide, by decide, by decide, by decide, by decide, by decide, by decide⟩
def sqR (n : Nat) : List (List Cut) := [[(true, n), (false, n)]]
theorem ok_sq {n : Nat} (h2 : 2 ≤ n) (h4 : n ≤ 4) : OkR (sqR n) := by
  have e : n = 2 ∨ n = 3 ∨ n = 4 := by omega
  rcases e with rfl | rfl | rfl <;> exact ⟨by decide, by decide, by decide, by decide, by decide, by decide, by decide⟩
def spCodes (C0 : Addr) : Sp := fun vs H Q _ => vs = [.ref C0] ∧ ∀ x H', Ext H H' → H x = none → PlanAt C0 H' x codesR → Q (.ref x) H'
def spSquares (C0 : Addr) : Sp := fun vs H Q _ => ∃ n : Nat, vs = [.ref C0, .int n] ∧ 2 ≤ n ∧ n ≤ 4 ∧ ∀ x H', Ext H H' → H x = none → PlanAt C0 H' x (sqR n) → Q (.ref x) H'


end
end Mc

set_option Elab.async false
set_option linter.all false
set_option maxRecDepth 100000
set_option maxHeartbeats 4000000
namespace Mc
/-! ### the place of a sign, by digits -/
theorem spread_get {c : Cut} (h : 0 < c.2) : ∀ (ps : List Pr) (g : Nat), (spread ps c)[g]? = (ps[g / c.2]?).map fun p => stepC p c (g % c.2)
  | [], g => by simp [spread]
  | p :: r, g => by
    have e : spread (p :: r) c = ((List.range c.2).map fun k => stepC p c k) ++ spread r c := by
      unfold spread
      rw [List.flatMap_cons]
    rw [e]
    by_cases lt : g < c.2
    · rw [List.getElem?_append_left (by rw [List.length_map, List.length_range]; exact lt), List.getElem?_map, List.getElem?_range lt, Nat.div_eq_of_lt lt, Nat.mod_eq_of_lt lt]
      rfl
    · have ge : c.2 ≤ g := Nat.le_of_not_lt lt
      obtain ⟨m, rfl⟩ : ∃ m, g = m + c.2 := ⟨g - c.2, by omega⟩
      rw [List.getElem?_append_right (by rw [List.length_map, List.length_range]; exact ge), List.length_map, List.length_range, Nat.add_sub_cancel, spread_get h r m, Nat.add_div_right _ h, Nat.add_mod_right, List.getElem?_cons_succ]
theorem placesF_get (cs : List Cut) {c : Cut} (h : 0 < c.2) (g : Nat) : (placesF (cs ++ [c]))[g]? = ((placesF cs)[g / c.2]?).map fun p => stepC p c (g % c.2) := by
  rw [placesF_snoc]
  exact spread_get h _ g
theorem stepC_inj {p q : Pr} {c : Cut} {k m : Nat} (hk : k < c.2) (hm : m < c.2) (h : stepC p c k = stepC q c m) : p = q ∧ k = m := by
  have key : ∀ x y : Int, x * (c.2 : Int) + (k : Int) = y * (c.2 : Int) + (m : Int) → x = y ∧ k = m := fun x y e => by
    have e1 := congrArg (· / (c.2 : Int)) e
    have e2 := congrArg (· % (c.2 : Int)) e
    have hc : (c.2 : Int) ≠ 0 := by omega
    simp only [Int.add_comm (x * _), Int.add_comm (y * _), Int.add_mul_ediv_right _ _ hc, Int.add_mul_emod_self_right] at e1 e2
    rw [Int.ediv_eq_zero_of_lt (by omega) (by omega), Int.ediv_eq_zero_of_lt (by omega) (by omega)] at e1
    rw [Int.emod_eq_of_lt (by omega) (by omega), Int.emod_eq_of_lt (by omega) (by omega)] at e2
    omega
  unfold stepC at h
  obtain ⟨p1, p2⟩ := p
  obtain ⟨q1, q2⟩ := q
  split at h
  · have h1 := congrArg Prod.fst h
    have h2 : p2 = q2 := congrArg Prod.snd h
    obtain ⟨e1, e2⟩ := key p1 q1 h1
    exact ⟨by rw [e1, h2], e2⟩
  · have h1 : p1 = q1 := congrArg Prod.fst h
    have h2 := congrArg Prod.snd h
    obtain ⟨e1, e2⟩ := key p2 q2 h2
    exact ⟨by rw [e1, h1], e2⟩
/-- no place stands twice -/
theorem place_inj {cs : List Cut} : (∀ c ∈ cs, okC c) → ∀ {g h : Nat} {q : Pr}, (placesF cs)[g]? = some q → (placesF cs)[h]? = some q → g = h := by
  refine snoc_ind (P := fun cs => (∀ c ∈ cs, okC c) → ∀ {g h : Nat} {q : Pr}, (placesF cs)[g]? = some q → (placesF cs)[h]? = some q → g = h) ?_ (fun cs c ih ok g h q e1 e2 => ?_) cs
  · intro _ g h q e1 e2
    have l1 := (List.getElem?_eq_some_iff.mp e1).1
    have l2 := (List.getElem?_eq_some_iff.mp e2).1
    have : (placesF []).length = 1 := rfl
    omega
  · have hc := (ok c (List.mem_append_right _ List.mem_cons_self)).1
    have h0 : 0 < c.2 := by omega
    rw [placesF_get cs h0] at e1 e2
    obtain ⟨p1, a1, b1⟩ := Option.map_eq_some_iff.mp e1
    obtain ⟨p2, a2, b2⟩ := Option.map_eq_some_iff.mp e2
    obtain ⟨e, ek⟩ := stepC_inj (Nat.mod_lt g h0) (Nat.mod_lt h h0) (b1.trans b2.symm)
    subst e
    have ed := ih (fun d hd => ok d (List.mem_append_left _ hd)) a1 a2
    rw [← Nat.div_add_mod g c.2, ← Nat.div_add_mod h c.2, ed, ek]
end Mc

set_option Elab.async false
set_option linter.all false
set_option maxRecDepth 100000
set_option maxHeartbeats 4000000
namespace Mc
/-! ### names, as pure lists -/
def csA (rs : List (List Cut)) (i : Nat) : List Cut := rs.getD (i % rs.length) []
theorem csA_get {rs : List (List Cut)} (h : 0 < rs.length) (i : Nat) : rs[i % rs.length]? = some (csA rs i) := by
  have hl := Nat.mod_lt i h
  unfold csA
  rw [List.getElem?_eq_getElem hl, List.getD_eq_getElem?_getD, List.getElem?_eq_getElem hl]
  rfl
theorem csA_mem {rs : List (List Cut)} (h : 0 < rs.length) (i : Nat) : csA rs i ∈ rs := List.mem_of_getElem? (csA_get h i)
def sgF (rs : List (List Cut)) (i : Nat) : Nat := (placesF (csA rs i)).length
def NameOk (rs : List (List Cut)) (zs : List Nat) : Prop := ∀ i z, zs[i]? = some z → z < sgF rs i
theorem NameOk.nil {rs : List (List Cut)} : NameOk rs [] := fun i z h => by simp at h
theorem NameOk.take {rs : List (List Cut)} {zs : List Nat} (h : NameOk rs zs) (n : Nat) : NameOk rs (zs.take n) := fun i z e => by
  rw [List.getElem?_take] at e
  split at e
  · exact h i z e
  · cases e
theorem NameOk.snoc {rs : List (List Cut)} {zs : List Nat} {z : Nat} (h : NameOk rs zs) (hz : z < sgF rs zs.length) : NameOk rs (zs ++ [z]) := fun i y e => by
  by_cases l : i < zs.length
  · rw [List.getElem?_append_left l] at e
    exact h i y e
  · have hi : i = zs.length := by
      have := (List.getElem?_eq_some_iff.mp e).1
      rw [List.length_append, List.length_singleton] at this
      omega
    subst hi
    rw [List.getElem?_append_right (Nat.le_refl _), Nat.sub_self] at e
    cases e
    exact hz
def plA (rs : List (List Cut)) (i z : Nat) : Pr := (placesF (csA rs i)).getD z (0, 0)
theorem plA_get {rs : List (List Cut)} {i z : Nat} (h : z < sgF rs i) : (placesF (csA rs i))[z]? = some (plA rs i z) := by
  unfold plA
  have h : z < (placesF (csA rs i)).length := h
  rw [List.getD_eq_getElem?_getD, List.getElem?_eq_getElem h]
  rfl
def stepN (rs : List (List Cut)) (q : Pr) (i z : Nat) : Pr := (q.1 * (colsF (csA rs i) : Int) + (plA rs i z).1, q.2 * (rowsF (csA rs i) : Int) + (plA rs i z).2)
def pairFrom (rs : List (List Cut)) (k : Nat) (q : Pr) : List Nat → Pr
  | [] => q
  | z :: r => pairFrom rs (k + 1) (stepN rs q k z) r
def pairF (rs : List (List Cut)) (zs : List Nat) : Pr := pairFrom rs 0 (0, 0) zs
theorem pairFrom_append (rs : List (List Cut)) : ∀ (a b : List Nat) (k : Nat) (q : Pr), pairFrom rs k q (a ++ b) = pairFrom rs (k + a.length) (pairFrom rs k q a) b
  | [], b, k, q => rfl
  | z :: r, b, k, q => by
    show pairFrom rs (k + 1) (stepN rs q k z) (r ++ b) = _
    rw [pairFrom_append rs r b, List.length_cons, Nat.add_right_comm, Nat.add_assoc k]
    rfl
theorem pairF_snoc (rs : List (List Cut)) (zs : List Nat) (z : Nat) : pairF rs (zs ++ [z]) = stepN rs (pairF rs zs) zs.length z := by
  unfold pairF
  rw [pairFrom_append, Nat.zero_add]
  rfl
theorem pairF_take {rs : List (List Cut)} {zs : List Nat} {i z : Nat} (h : zs[i]? = some z) : pairF rs (zs.take (i + 1)) = stepN rs (pairF rs (zs.take i)) i z := by
  have e : zs.take (i + 1) = zs.take i ++ [z] := by
    rw [List.take_add_one, h]
    rfl
  have l : (zs.take i).length = i := by
    have := (List.getElem?_eq_some_iff.mp h).1
    rw [List.length_take]
    omega
  rw [e, pairF_snoc, l]
/-- columns (rows) of m signs from the k-th one on -/
def dcF (rs : List (List Cut)) (k : Nat) : Nat → Nat
  | 0 => 1
  | m + 1 => dcF rs k m * colsF (csA rs (k + m))
def drF (rs : List (List Cut)) (k : Nat) : Nat → Nat
  | 0 => 1
  | m + 1 => drF rs k m * rowsF (csA rs (k + m))
structure OkN (rs : List (List Cut)) : Prop where
  l1 : 0 < rs.length
  hc : ∀ cs ∈ rs, ∀ c ∈ cs, okC c
  h32 : ∀ cs ∈ rs, colsF cs * rowsF cs ≤ 32
theorem OkN.pos {rs : List (List Cut)} (ok : OkN rs) (i : Nat) : 0 < colsF (csA rs i) ∧ 0 < rowsF (csA rs i) := pos_cols (ok.hc _ (csA_mem ok.l1 i))
theorem OkN.le {rs : List (List Cut)} (ok : OkN rs) (i : Nat) : colsF (csA rs i) ≤ 32 ∧ rowsF (csA rs i) ≤ 32 := by
  have h := ok.h32 _ (csA_mem ok.l1 i)
  have p := ok.pos i
  exact ⟨Nat.le_trans (Nat.le_mul_of_pos_right _ p.2) h, Nat.le_trans (Nat.le_mul_of_pos_left _ p.1) h⟩
theorem dc_pos {rs : List (List Cut)} (ok : OkN rs) (k : Nat) : ∀ m, 0 < dcF rs k m ∧ 0 < drF rs k m
  | 0 => ⟨Nat.zero_lt_one, Nat.zero_lt_one⟩
  | m + 1 => ⟨Nat.mul_pos (dc_pos ok k m).1 (ok.pos _).1, Nat.mul_pos (dc_pos ok k m).2 (ok.pos _).2⟩
theorem dc_add (rs : List (List Cut)) (k : Nat) : ∀ m n, dcF rs k (m + n) = dcF rs k m * dcF rs (k + m) n ∧ drF rs k (m + n) = drF rs k m * drF rs (k + m) n
  | m, 0 => ⟨(Nat.mul_one _).symm, (Nat.mul_one _).symm⟩
  | m, n + 1 => by
    obtain ⟨h1, h2⟩ := dc_add rs k m n
    constructor
    · show dcF rs k (m + n) * colsF (csA rs (k + (m + n))) = dcF rs k m * (dcF rs (k + m) n * colsF (csA rs (k + m + n)))
      rw [h1, Nat.mul_assoc, Nat.add_assoc]
    · show drF rs k (m + n) * rowsF (csA rs (k + (m + n))) = drF rs k m * (drF rs (k + m) n * rowsF (csA rs (k + m + n)))
      rw [h2, Nat.mul_assoc, Nat.add_assoc]
theorem dc_bits {rs : List (List Cut)} (ok : OkN rs) (k : Nat) : ∀ m, dcF rs k m ≤ 2 ^ (5 * m) ∧ drF rs k m ≤ 2 ^ (5 * m)
  | 0 => ⟨Nat.le_refl 1, Nat.le_refl 1⟩
  | m + 1 => by
    obtain ⟨h1, h2⟩ := dc_bits ok k m
    have l := ok.le (k + m)
    rw [Nat.mul_succ, Nat.pow_add]
    exact ⟨Nat.mul_le_mul h1 l.1, Nat.mul_le_mul h2 l.2⟩
theorem pl_in {rs : List (List Cut)} {i z : Nat} (h : z < sgF rs i) : 0 ≤ (plA rs i z).1 ∧ (plA rs i z).1 < colsF (csA rs i) ∧ 0 ≤ (plA rs i z).2 ∧ (plA rs i z).2 < rowsF (csA rs i) := placesF_mem _ (List.mem_of_getElem? (plA_get h))
/-- x * (a * c) + r * c + p, one step of a row of digits -/
theorem dig_step {x r p : Int} {a c : Nat} (h0 : 0 ≤ r) (h1 : r < a) (p0 : 0 ≤ p) (p1 : p < c) : (x * (a : Int) + r) * (c : Int) + p = x * ((a * c : Nat) : Int) + (r * (c : Int) + p) ∧ 0 ≤ r * (c : Int) + p ∧ r * (c : Int) + p < ((a * c : Nat) : Int) := by
  obtain ⟨r', rfl⟩ := Int.eq_ofNat_of_zero_le h0
  have e : ((r' : Nat) : Int) * (c : Int) = ((r' * c : Nat) : Int) := (Int.natCast_mul _ _).symm
  have l := Nat.mul_le_mul_right c (show r' + 1 ≤ a by omega)
  rw [Nat.succ_mul] at l
  refine ⟨?_, ?_, ?_⟩
  · rw [Int.add_mul, Int.mul_assoc, ← Int.natCast_mul, Int.add_assoc]
  · rw [e]; omega
  · rw [e]; omega
/-- from place k on: the number so far times the columns to come, and less than these -/
theorem pairFrom_div {rs : List (List Cut)} (ok : OkN rs) (k : Nat) (q : Pr) : ∀ (n : Nat) (b : List Nat), b.length = n → (∀ i z, b[i]? = some z → z < sgF rs (k + i)) → ∃ r1 r2 : Int, pairFrom rs k q b = (q.1 * (dcF rs k n : Int) + r1, q.2 * (drF rs k n : Int) + r2) ∧ 0 ≤ r1 ∧ r1 < dcF rs k n ∧ 0 ≤ r2 ∧ r2 < drF rs k n
  | 0, [], _, _ => ⟨0, 0, by simp [pairFrom, dcF, drF], by decide, by show (0 : Int) < ((1 : Nat) : Int); decide, by decide, by show (0 : Int) < ((1 : Nat) : Int); decide⟩
  | n + 1, b, hb, h => by
    obtain ⟨a, z, rfl⟩ : ∃ a z, b = a ++ [z] := by
      have ne : b ≠ [] := fun e => by rw [e] at hb; simp at hb
      exact ⟨b.dropLast, b.getLast ne, (List.dropLast_concat_getLast ne).symm⟩
    have ha : a.length = n := by rw [List.length_append, List.length_singleton] at hb; omega
    obtain ⟨r1, r2, e, a1, a2, a3, a4⟩ := pairFrom_div ok k q n a ha fun i y hy => h i y (by rw [List.getElem?_append_left (List.getElem?_eq_some_iff.mp hy).1]; exact hy)
    have hz : z < sgF rs (k + n) := h n z (by rw [List.getElem?_append_right (by omega), ha, Nat.sub_self]; rfl)
    obtain ⟨p1, p2, p3, p4⟩ := pl_in hz
    rw [pairFrom_append, ha, e]
    obtain ⟨s1, s2, s3⟩ := dig_step (x := q.1) a1 a2 p1 p2
    obtain ⟨t1, t2, t3⟩ := dig_step (x := q.2) a3 a4 p3 p4
    refine ⟨r1 * (colsF (csA rs (k + n)) : Int) + (plA rs (k + n) z).1, r2 * (rowsF (csA rs (k + n)) : Int) + (plA rs (k + n) z).2, ?_, s2, s3, t2, t3⟩
    show stepN rs _ (k + n) z = _
    unfold stepN
    exact Prod.ext s1 t1
theorem pairF_in {rs : List (List Cut)} (ok : OkN rs) {zs : List Nat} (h : NameOk rs zs) : 0 ≤ (pairF rs zs).1 ∧ (pairF rs zs).1 < dcF rs 0 zs.length ∧ 0 ≤ (pairF rs zs).2 ∧ (pairF rs zs).2 < drF rs 0 zs.length := by
  obtain ⟨r1, r2, e, a1, a2, a3, a4⟩ := pairFrom_div ok 0 (0, 0) zs.length zs rfl fun i z hz => by rw [Nat.zero_add]; exact h i z hz
  unfold pairF
  rw [e]
  refine ⟨?_, ?_, ?_, ?_⟩ <;> simp <;> assumption
theorem pairF_bits {rs : List (List Cut)} (ok : OkN rs) {zs : List Nat} (h : NameOk rs zs) {n : Nat} (hn : zs.length ≤ n) : (pairF rs zs).1.natAbs < 2 ^ (5 * n + 1) ∧ (pairF rs zs).2.natAbs < 2 ^ (5 * n + 1) := by
  obtain ⟨a1, a2, a3, a4⟩ := pairF_in ok h
  obtain ⟨b1, b2⟩ := dc_bits ok 0 zs.length
  have b3 : 2 ^ (5 * zs.length) ≤ 2 ^ (5 * n) := Nat.pow_le_pow_right (by decide) (by omega)
  have b4 : 2 ^ (5 * n) < 2 ^ (5 * n + 1) := Nat.pow_lt_pow_right (by decide) (by omega)
  exact ⟨by omega, by omega⟩
theorem mul_mod_inj {x y p q : Int} {c : Nat} (p0 : 0 ≤ p) (p1 : p < c) (q0 : 0 ≤ q) (q1 : q < c) (h : x * (c : Int) + p = y * (c : Int) + q) : x = y ∧ p = q := by
  have hc : (c : Int) ≠ 0 := by omega
  have e1 := congrArg (· / (c : Int)) h
  have e2 := congrArg (· % (c : Int)) h
  simp only [Int.add_comm (x * _), Int.add_comm (y * _), Int.add_mul_ediv_right _ _ hc, Int.add_mul_emod_self_right] at e1 e2
  rw [Int.ediv_eq_zero_of_lt p0 p1, Int.ediv_eq_zero_of_lt q0 q1] at e1
  rw [Int.emod_eq_of_lt p0 p1, Int.emod_eq_of_lt q0 q1] at e2
  omega
/-- unlike names of one length have unlike pairs -/
theorem pairF_inj {rs : List (List Cut)} (ok : OkN rs) : ∀ (n : Nat) (a b : List Nat), a.length = n → b.length = n → NameOk rs a → NameOk rs b → pairF rs a = pairF rs b → a = b
  | 0, a, b, ha, hb, _, _, _ => by rw [List.length_eq_zero_iff.mp ha, List.length_eq_zero_iff.mp hb]
  | n + 1, a, b, ha, hb, na, nb, e => by
    have sp : ∀ c : List Nat, c.length = n + 1 → ∃ d z, c = d ++ [z] := fun c hc => by
      have ne : c ≠ [] := fun e => by rw [e] at hc; simp at hc
      exact ⟨c.dropLast, c.getLast ne, (List.dropLast_concat_getLast ne).symm⟩
    obtain ⟨a, y, rfl⟩ := sp a ha
    obtain ⟨b, z, rfl⟩ := sp b hb
    rw [List.length_append, List.length_singleton] at ha hb
    have la : a.length = n := by omega
    have lb : b.length = n := by omega
    have hy : y < sgF rs n := na n y (by rw [List.getElem?_append_right (by omega), la, Nat.sub_self]; rfl)
    have hz : z < sgF rs n := nb n z (by rw [List.getElem?_append_right (by omega), lb, Nat.sub_self]; rfl)
    have oa : NameOk rs a := by have := na.take n; rwa [List.take_append_of_le_length (by omega), List.take_of_length_le (by omega)] at this
    have ob : NameOk rs b := by have := nb.take n; rwa [List.take_append_of_le_length (by omega), List.take_of_length_le (by omega)] at this
    rw [pairF_snoc, pairF_snoc, la, lb] at e
    unfold stepN at e
    obtain ⟨y1, y2, y3, y4⟩ := pl_in hy
    obtain ⟨z1, z2, z3, z4⟩ := pl_in hz
    obtain ⟨e1, e2⟩ := mul_mod_inj y1 y2 z1 z2 (congrArg Prod.fst e)
    obtain ⟨e3, e4⟩ := mul_mod_inj y3 y4 z3 z4 (congrArg Prod.snd e)
    have ei := pairF_inj ok n a b la lb oa ob (Prod.ext e1 e3)
    have ep : plA rs n y = plA rs n z := Prod.ext e2 e4
    have hyz := place_inj (ok.hc _ (csA_mem ok.l1 n)) (plA_get hy) ((plA_get hz).trans (congrArg some ep.symm))
    rw [ei, hyz]
theorem pairF_cut {rs : List (List Cut)} (ok : OkN rs) {zs : List Nat} (h : NameOk rs zs) {n : Nat} (hn : n ≤ zs.length) : (pairF rs zs).1 / ((dcF rs 0 zs.length / dcF rs 0 n : Nat) : Int) = (pairF rs (zs.take n)).1 ∧ (pairF rs zs).2 / ((drF rs 0 zs.length / drF rs 0 n : Nat) : Int) = (pairF rs (zs.take n)).2 := by
  have el : zs.length = n + (zs.length - n) := by omega
  obtain ⟨d1, d2⟩ := dc_add rs 0 n (zs.length - n)
  rw [← el, Nat.zero_add] at d1 d2
  have q := dc_pos ok 0 n
  have ed1 : dcF rs 0 zs.length / dcF rs 0 n = dcF rs n (zs.length - n) := by rw [d1, Nat.mul_div_cancel_left _ q.1]
  have ed2 : drF rs 0 zs.length / drF rs 0 n = drF rs n (zs.length - n) := by rw [d2, Nat.mul_div_cancel_left _ q.2]
  rw [ed1, ed2]
  have tl : (zs.take n).length = n := by rw [List.length_take]; omega
  obtain ⟨r1, r2, e, a1, a2, a3, a4⟩ := pairFrom_div ok n (pairF rs (zs.take n)) (zs.length - n) (zs.drop n) (by rw [List.length_drop]) fun i z hz => h (n + i) z (by rw [List.getElem?_drop] at hz; exact hz)
  have e2 : pairF rs zs = pairFrom rs n (pairF rs (zs.take n)) (zs.drop n) := by
    conv => lhs; rw [← List.take_append_drop n zs]
    unfold pairF
    rw [pairFrom_append, Nat.zero_add, tl]
  rw [e2, e]
  have p := dc_pos ok n (zs.length - n)
  constructor
  · show ((pairF rs (zs.take n)).1 * _ + r1) / _ = _
    rw [Int.add_comm, Int.add_mul_ediv_right _ _ (by omega), Int.ediv_eq_zero_of_lt a1 a2, Int.zero_add]
  · show ((pairF rs (zs.take n)).2 * _ + r2) / _ = _
    rw [Int.add_comm, Int.add_mul_ediv_right _ _ (by omega), Int.ediv_eq_zero_of_lt a3 a4, Int.zero_add]
/-- a cell lies in another one just where the name begins with the other's -/
theorem lies_iff {rs : List (List Cut)} (ok : OkN rs) {zs ws : List Nat} (hz : NameOk rs zs) (hw : NameOk rs ws) (hn : ws.length ≤ zs.length) :
    ((pairF rs zs).1 / ((dcF rs 0 zs.length / dcF rs 0 ws.length : Nat) : Int) = (pairF rs ws).1 ∧ (pairF rs zs).2 / ((drF rs 0 zs.length / drF rs 0 ws.length : Nat) : Int) = (pairF rs ws).2) ↔ zs.take ws.length = ws := by
  obtain ⟨c1, c2⟩ := pairF_cut ok hz hn
  rw [c1, c2]
  constructor
  · rintro ⟨h1, h2⟩
    exact pairF_inj ok ws.length _ _ (by rw [List.length_take]; omega) rfl (hz.take _) hw (Prod.ext h1 h2)
  · intro h
    rw [h]
    exact ⟨rfl, rfl⟩
/-- how many signs are common -/
def lcpN : List Nat → List Nat → Nat
  | a :: x, b :: y => if a = b then lcpN x y + 1 else 0
  | _, _ => 0
def lcp (x y : List Nat) : List Nat := x.take (lcpN x y)
theorem lcpN_le : ∀ x y : List Nat, lcpN x y ≤ x.length ∧ lcpN x y ≤ y.length
  | [], y => by simp [lcpN]
  | a :: x, [] => by simp [lcpN]
  | a :: x, b :: y => by
    unfold lcpN
    have := lcpN_le x y
    split <;> simp <;> omega
theorem lcpN_get : ∀ (x y : List Nat) (m : Nat), m ≤ lcpN x y → (m < lcpN x y ↔ ∃ z, x[m]? = some z ∧ y[m]? = some z)
  | [], y, m, h => by simp [lcpN]
  | a :: x, [], m, h => by simp [lcpN]
  | a :: x, b :: y, 0, h => by
    unfold lcpN
    by_cases e : a = b
    · simp [e]
    · rw [if_neg e]
      constructor
      · intro z; omega
      · rintro ⟨z, h1, h2⟩
        simp at h1 h2
        exact absurd (h1.trans h2.symm) e
  | a :: x, b :: y, m + 1, h => by
    unfold lcpN at h ⊢
    by_cases e : a = b
    · rw [if_pos e] at h ⊢
      have := lcpN_get x y m (by omega)
      simp only [List.getElem?_cons_succ]
      rw [← this]
      omega
    · rw [if_neg e] at h
      omega
theorem lcp_take : ∀ x y : List Nat, x.take (lcpN x y) = y.take (lcpN x y)
  | [], y => by simp [lcpN]
  | a :: x, [] => by simp [lcpN]
  | a :: x, b :: y => by
    unfold lcpN
    by_cases e : a = b
    · rw [if_pos e, e, List.take_succ_cons, List.take_succ_cons, lcp_take x y]
    · rw [if_neg e]; rfl
theorem lcpN_comm : ∀ x y : List Nat, lcpN x y = lcpN y x
  | [], [] => rfl
  | [], _ :: _ => rfl
  | _ :: _, [] => rfl
  | a :: x, b :: y => by
    unfold lcpN
    rw [lcpN_comm x y]
    by_cases e : a = b
    · rw [if_pos e, if_pos e.symm]
    · rw [if_neg e, if_neg fun z => e z.symm]
theorem lcp_comm (x y : List Nat) : lcp x y = lcp y x := by
  unfold lcp
  rw [lcp_take, lcpN_comm]
theorem lcp_length (x y : List Nat) : (lcp x y).length = lcpN x y := by
  have := lcpN_le x y
  unfold lcp
  rw [List.length_take]
  omega
theorem lcp_begins (x y : List Nat) : x.take (lcp x y).length = lcp x y ∧ y.take (lcp x y).length = lcp x y := by
  rw [lcp_length]
  exact ⟨rfl, (lcp_take x y).symm⟩
theorem lcp_all : ∀ x y : List Nat, x.take y.length = y → lcpN x y = y.length
  | [], [], h => rfl
  | [], b :: y, h => by simp at h
  | a :: x, [], h => rfl
  | a :: x, b :: y, h => by
    rw [List.length_cons, List.take_succ_cons] at h
    injection h with h1 h2
    unfold lcpN
    rw [if_pos h1, lcp_all x y h2]
    rfl
theorem lcp_eq_iff (x y : List Nat) : lcp x y = y ↔ x.take y.length = y := by
  constructor
  · intro h
    have := (lcp_begins x y).1
    rwa [h] at this
  · intro h
    unfold lcp
    rw [lcp_all x y h]
    exact h

theorem OkR.n {rs : List (List Cut)} (ok : OkR rs) : OkN rs := ⟨ok.l1, ok.hc, ok.h32⟩
end Mc

set_option Elab.async false
set_option linter.all false
set_option maxRecDepth 100000
set_option maxHeartbeats 4000000
namespace Mc
/-! ### counts, rounds taken apart, moved on, turned -/
theorem csA_len (rs : List (List Cut)) (i : Nat) : csA rs (i + rs.length) = csA rs i := by
  unfold csA
  rw [Nat.add_mod_right]
theorem dc_shift (rs : List (List Cut)) (k : Nat) : ∀ m, dcF rs (k + rs.length) m = dcF rs k m ∧ drF rs (k + rs.length) m = drF rs k m
  | 0 => ⟨rfl, rfl⟩
  | m + 1 => by
    obtain ⟨h1, h2⟩ := dc_shift rs k m
    have e : csA rs (k + rs.length + m) = csA rs (k + m) := by rw [Nat.add_right_comm, csA_len]
    constructor
    · show dcF rs (k + rs.length) m * colsF (csA rs (k + rs.length + m)) = dcF rs k m * colsF (csA rs (k + m))
      rw [h1, e]
    · show drF rs (k + rs.length) m * rowsF (csA rs (k + rs.length + m)) = drF rs k m * rowsF (csA rs (k + m))
      rw [h2, e]
theorem dc_shifts (rs : List (List Cut)) (m : Nat) : ∀ q, dcF rs (rs.length * q) m = dcF rs 0 m ∧ drF rs (rs.length * q) m = drF rs 0 m
  | 0 => ⟨rfl, rfl⟩
  | q + 1 => by
    have h := dc_shift rs (rs.length * q) m
    rw [Nat.mul_succ, h.1, h.2]
    exact dc_shifts rs m q
theorem dc_pows (rs : List (List Cut)) : ∀ q, dcF rs 0 (rs.length * q) = dcF rs 0 rs.length ^ q ∧ drF rs 0 (rs.length * q) = drF rs 0 rs.length ^ q
  | 0 => ⟨rfl, rfl⟩
  | q + 1 => by
    obtain ⟨h1, h2⟩ := dc_pows rs q
    obtain ⟨a1, a2⟩ := dc_add rs 0 (rs.length * q) rs.length
    obtain ⟨s1, s2⟩ := dc_shifts rs rs.length q
    rw [Nat.mul_succ, a1, a2, h1, h2, Nat.zero_add, s1, s2, Nat.pow_succ, Nat.pow_succ]
    exact ⟨rfl, rfl⟩
theorem csA_at {rs : List (List Cut)} {r : Nat} (h : r < rs.length) : rs[r]? = some (csA rs r) := by
  have := csA_get (Nat.lt_of_le_of_lt (Nat.zero_le _) h) r
  rwa [Nat.mod_eq_of_lt h] at this
theorem mul_take (rs : List (List Cut)) : ∀ r, r ≤ rs.length → mulF ((partsF rs).take r) = (((dcF rs 0 r : Nat) : Int), ((drF rs 0 r : Nat) : Int))
  | 0, _ => by rw [List.take_zero]; rfl
  | r + 1, h => by
    have hp : (partsF rs)[r]? = some ((colsF (csA rs r) : Int), (rowsF (csA rs r) : Int)) := by
      unfold partsF
      rw [List.getElem?_map, csA_at (show r < rs.length by omega)]
      rfl
    have e : (partsF rs).take (r + 1) = (partsF rs).take r ++ [((colsF (csA rs r) : Int), (rowsF (csA rs r) : Int))] := by
      rw [List.take_add_one, hp]
      rfl
    have ih := mul_take rs r (by omega)
    rw [e]
    unfold mulF at ih ⊢
    rw [List.foldl_append, ih]
    show ((dcF rs 0 r : Int) * (colsF (csA rs r) : Int), (drF rs 0 r : Int) * (rowsF (csA rs r) : Int)) = (((dcF rs 0 r * colsF (csA rs (0 + r)) : Nat) : Int), ((drF rs 0 r * rowsF (csA rs (0 + r)) : Nat) : Int))
    rw [Nat.zero_add, Int.natCast_mul, Int.natCast_mul]
theorem growth_eq (rs : List (List Cut)) : mulF (partsF rs) = (((dcF rs 0 rs.length : Nat) : Int), ((drF rs 0 rs.length : Nat) : Int)) := by
  have := mul_take rs rs.length (Nat.le_refl _)
  rwa [List.take_of_length_le (by unfold partsF; rw [List.length_map]; exact Nat.le_refl _)] at this
theorem counts_eq {rs : List (List Cut)} (l1 : 0 < rs.length) (bal : (mulF (partsF rs)).1 = (mulF (partsF rs)).2) (n : Nat) : countsF rs n = (((dcF rs 0 n : Nat) : Int), ((drF rs 0 n : Nat) : Int)) := by
  unfold countsF
  have g := growth_eq rs
  rw [g] at bal ⊢
  have bal : ((dcF rs 0 rs.length : Nat) : Int) = ((drF rs 0 rs.length : Nat) : Int) := bal
  have ml := Nat.mod_lt n l1
  rw [mul_take rs (n % rs.length) (by omega)]
  obtain ⟨p1, p2⟩ := dc_pows rs (n / rs.length)
  obtain ⟨a1, a2⟩ := dc_add rs 0 (rs.length * (n / rs.length)) (n % rs.length)
  obtain ⟨s1, s2⟩ := dc_shifts rs (n % rs.length) (n / rs.length)
  rw [Nat.zero_add, s1, p1] at a1
  rw [Nat.zero_add, s2, p2] at a2
  have e : rs.length * (n / rs.length) + n % rs.length = n := Nat.div_add_mod n rs.length
  rw [e] at a1 a2
  rw [a1, a2]
  refine Prod.ext ?_ ?_
  · show ((dcF rs 0 (n % rs.length) : Nat) : Int) * ((dcF rs 0 rs.length : Nat) : Int) ^ (n / rs.length) = _
    rw [Int.natCast_mul, Int.natCast_pow, Int.mul_comm]
  · show ((drF rs 0 (n % rs.length) : Nat) : Int) * ((dcF rs 0 rs.length : Nat) : Int) ^ (n / rs.length) = ((drF rs 0 rs.length ^ (n / rs.length) * drF rs 0 (n % rs.length) : Nat) : Int)
    rw [Int.natCast_mul, Int.natCast_pow, ← bal, Int.mul_comm]
/-! taken apart -/
theorem cols_app (a b : List Cut) : colsF (a ++ b) = colsF a * colsF b ∧ rowsF (a ++ b) = rowsF a * rowsF b := by
  induction a with
  | nil => exact ⟨(Nat.one_mul _).symm, (Nat.one_mul _).symm⟩
  | cons c r ih =>
    constructor
    · show (if c.1 then c.2 else 1) * colsF (r ++ b) = (if c.1 then c.2 else 1) * colsF r * colsF b
      rw [ih.1, Nat.mul_assoc]
    · show (if c.1 then 1 else c.2) * rowsF (r ++ b) = (if c.1 then 1 else c.2) * rowsF r * rowsF b
      rw [ih.2, Nat.mul_assoc]
theorem place_app (a : List Cut) : ∀ b : List Cut, (∀ c ∈ b, okC c) → ∀ (g : Nat) (p q : Pr), (placesF a)[g / (placesF b).length]? = some p → (placesF b)[g % (placesF b).length]? = some q → (placesF (a ++ b))[g]? = some (p.1 * (colsF b : Int) + q.1, p.2 * (rowsF b : Int) + q.2) := by
  refine fun b => snoc_ind (P := fun b => (∀ c ∈ b, okC c) → ∀ (g : Nat) (p q : Pr), (placesF a)[g / (placesF b).length]? = some p → (placesF b)[g % (placesF b).length]? = some q → (placesF (a ++ b))[g]? = some (p.1 * (colsF b : Int) + q.1, p.2 * (rowsF b : Int) + q.2)) ?_ (fun b c ih ok g p q hp hq => ?_) b
  · intro _ g p q hp hq
    have e : (placesF []).length = 1 := rfl
    rw [e, Nat.div_one] at hp
    rw [e, Nat.mod_one] at hq
    cases hq
    rw [List.append_nil, hp]
    simp [colsF, rowsF]
  · have hc := (ok c (List.mem_append_right _ List.mem_cons_self)).1
    have h0 : 0 < c.2 := by omega
    have el : (placesF (b ++ [c])).length = (placesF b).length * c.2 := by rw [placesF_snoc, spread_length]
    rw [el] at hp hq
    rw [placesF_get b h0] at hq
    obtain ⟨q0, h1, h2⟩ := Option.map_eq_some_iff.mp hq
    have e1 : g % ((placesF b).length * c.2) / c.2 = g / c.2 % (placesF b).length := by
      rw [Nat.mul_comm (placesF b).length, Nat.mod_mul_right_div_self]
    have e2 : g % ((placesF b).length * c.2) % c.2 = g % c.2 := Nat.mod_mul_left_mod _ _ _
    rw [e1] at h1
    rw [e2] at h2
    have e3 : g / ((placesF b).length * c.2) = g / c.2 / (placesF b).length := by rw [Nat.mul_comm, Nat.div_div_eq_div_mul]
    rw [e3] at hp
    have := ih (fun d hd => ok d (List.mem_append_left _ hd)) (g / c.2) p q0 hp h1
    rw [← List.append_assoc, placesF_get (a ++ b) h0, this, ← h2]
    show some (stepC _ c (g % c.2)) = _
    rw [colsF_snoc, rowsF_snoc]
    unfold stepC
    cases c.1
    · simp only [Bool.false_eq_true, if_false, Nat.mul_one]
      rw [Int.add_mul, Int.mul_assoc, ← Int.natCast_mul, Int.add_assoc]
    · simp only [if_true, Nat.mul_one]
      rw [Int.add_mul, Int.mul_assoc, ← Int.natCast_mul, Int.add_assoc]
/-- rs with its k-th round cut behind s cuts -/
def cutR (rs : List (List Cut)) (k s : Nat) : List (List Cut) := rs.take k ++ [(csA rs k).take s, (csA rs k).drop s] ++ rs.drop (k + 1)
def posF (n k : Nat) : Nat → Nat
  | 0 => 0
  | i + 1 => posF n k i + (if i % n = k then 2 else 1)
theorem pos_mod {n k : Nat} (hk : k < n) : ∀ i, posF n k i % (n + 1) = if i % n ≤ k then i % n else i % n + 1
  | 0 => by
    rw [Nat.zero_mod, if_pos (Nat.zero_le _)]
    rfl
  | i + 1 => by
    have ih := pos_mod hk i
    have hn : 0 < n := by omega
    have hl := Nat.mod_lt i hn
    have es : (i + 1) % n = if i % n + 1 = n then 0 else i % n + 1 := by
      rw [Nat.add_mod]
      by_cases h1 : n = 1
      · subst h1
        have : i % 1 = 0 := Nat.mod_one i
        simp [this]
      · rw [Nat.mod_eq_of_lt (show 1 < n by omega)]
        by_cases h2 : i % n + 1 = n
        · rw [if_pos h2, h2, Nat.mod_self]
        · rw [if_neg h2, Nat.mod_eq_of_lt (by omega)]
    show (posF n k i + _) % (n + 1) = _
    rw [Nat.add_mod, ih, es]
    by_cases h : i % n = k
    · rw [if_pos h, if_pos (by omega)]
      by_cases h2 : i % n + 1 = n
      · rw [if_pos h2, if_pos (Nat.zero_le _)]
        by_cases h3 : n = 1
        · subst h3
          rw [h]
          have : k = 0 := by omega
          subst this
          rfl
        · rw [Nat.mod_eq_of_lt (show 2 < n + 1 by omega), show i % n + 2 = n + 1 by omega, Nat.mod_self]
      · rw [if_neg h2, if_neg (by omega), Nat.mod_eq_of_lt (show 2 < n + 1 by omega), Nat.mod_eq_of_lt (by omega)]
    · rw [if_neg h]
      have h1 : 1 < n + 1 := by omega
      rw [Nat.mod_eq_of_lt h1]
      by_cases h3 : i % n ≤ k
      · rw [if_pos h3, if_neg (show ¬ (i % n + 1 = n) by omega), if_pos (show i % n + 1 ≤ k by omega), Nat.mod_eq_of_lt (show i % n + 1 < n + 1 by omega)]
      · rw [if_neg h3]
        by_cases h2 : i % n + 1 = n
        · rw [if_pos h2, if_pos (Nat.zero_le _), show i % n + 1 + 1 = n + 1 by omega, Nat.mod_self]
        · rw [if_neg h2, if_neg (show ¬ (i % n + 1 ≤ k) by omega), Nat.mod_eq_of_lt (show i % n + 1 + 1 < n + 1 by omega)]
theorem cutR_len {rs : List (List Cut)} {k s : Nat} (hk : k < rs.length) : (cutR rs k s).length = rs.length + 1 := by
  unfold cutR
  rw [List.length_append, List.length_append, List.length_take, List.length_drop]
  show min k rs.length + 2 + _ = _
  omega
theorem cutR_at {rs : List (List Cut)} {k s : Nat} (hk : k < rs.length) (p : Nat) (hp : p < rs.length + 1) : (cutR rs k s)[p]? = some (if p < k then csA rs p else if p = k then (csA rs k).take s else if p = k + 1 then (csA rs k).drop s else csA rs (p - 1)) := by
  have tl : (rs.take k).length = k := by rw [List.length_take]; omega
  unfold cutR
  rw [List.append_assoc]
  by_cases h1 : p < k
  · rw [if_pos h1, List.getElem?_append_left (by omega), List.getElem?_take_of_lt h1]
    exact csA_at (by omega)
  · rw [if_neg h1, List.getElem?_append_right (by omega), tl]
    by_cases h2 : p = k
    · subst h2
      rw [if_pos rfl, Nat.sub_self]
      rfl
    · rw [if_neg h2]
      by_cases h3 : p = k + 1
      · subst h3
        rw [if_pos rfl, show k + 1 - k = 1 by omega]
        rfl
      · rw [if_neg h3, List.getElem?_append_right (by show 2 ≤ p - k; omega), List.getElem?_drop]
        show rs[k + 1 + (p - k - 2)]? = _
        rw [show k + 1 + (p - k - 2) = p - 1 by omega]
        exact csA_at (by omega)
theorem csA_cut {rs : List (List Cut)} {k s : Nat} (hk : k < rs.length) (i : Nat) : (i % rs.length = k → csA (cutR rs k s) (posF rs.length k i) = (csA rs k).take s ∧ csA (cutR rs k s) (posF rs.length k i + 1) = (csA rs k).drop s) ∧ (i % rs.length ≠ k → csA (cutR rs k s) (posF rs.length k i) = csA rs i) := by
  have hn : 0 < rs.length := by omega
  have cl := cutR_len (s := s) hk
  have pm := pos_mod hk i
  have hl := Nat.mod_lt i hn
  have get : ∀ j, (cutR rs k s)[j % (rs.length + 1)]? = some (csA (cutR rs k s) j) := fun j => by
    have := csA_get (rs := cutR rs k s) (by omega) j
    rwa [cl] at this
  have ci : csA rs i = csA rs (i % rs.length) := by unfold csA; rw [Nat.mod_mod]
  constructor
  · intro h
    have g1 := get (posF rs.length k i)
    rw [pm, if_pos (by omega), h, cutR_at hk k (by omega), if_neg (Nat.lt_irrefl k), if_pos rfl] at g1
    have g2 := get (posF rs.length k i + 1)
    rw [Nat.add_mod, pm, if_pos (by omega), h, Nat.mod_eq_of_lt (show 1 < rs.length + 1 by omega), Nat.mod_eq_of_lt (show k + 1 < rs.length + 1 by omega), cutR_at hk (k + 1) (by omega), if_neg (by omega), if_neg (by omega), if_pos rfl] at g2
    exact ⟨(Option.some.inj g1).symm, (Option.some.inj g2).symm⟩
  · intro h
    have g1 := get (posF rs.length k i)
    rw [pm] at g1
    by_cases h1 : i % rs.length ≤ k
    · rw [if_pos h1, cutR_at hk _ (by omega), if_pos (by omega)] at g1
      rw [ci]
      exact (Option.some.inj g1).symm
    · rw [if_neg h1, cutR_at hk _ (by omega), if_neg (by omega), if_neg (by omega)] at g1
      by_cases h2 : i % rs.length + 1 = k + 1
      · omega
      · rw [if_neg h2, Nat.add_sub_cancel] at g1
        rw [ci]
        exact (Option.some.inj g1).symm
/-- the signs of a name, each of the cut round as two -/
def apF (rs : List (List Cut)) (k s : Nat) : Nat → List Nat → List Nat
  | _, [] => []
  | i, z :: r => (if i % rs.length = k then [z / (placesF ((csA rs k).drop s)).length, z % (placesF ((csA rs k).drop s)).length] else [z]) ++ apF rs k s (i + 1) r
structure CutOk (rs : List (List Cut)) (k : Nat) : Prop where
  hk : k < rs.length
  hc : ∀ cs ∈ rs, ∀ c ∈ cs, okC c
theorem CutOk.pos {rs : List (List Cut)} {k : Nat} (o : CutOk rs k) (s : Nat) : 0 < (placesF ((csA rs k).drop s)).length := by
  have h := pos_cols (cs := (csA rs k).drop s) fun d hd => o.hc _ (csA_mem (Nat.lt_of_le_of_lt (Nat.zero_le _) o.hk) k) d (List.mem_of_mem_drop hd)
  rw [placesF_length]
  exact Nat.mul_pos h.1 h.2
theorem size_cut (cs : List Cut) (s : Nat) : (placesF cs).length = (placesF (cs.take s)).length * (placesF (cs.drop s)).length := by
  have := cols_app (cs.take s) (cs.drop s)
  rw [List.take_append_drop] at this
  rw [placesF_length, placesF_length, placesF_length, this.1, this.2]
  simp only [Nat.mul_assoc, Nat.mul_left_comm]
theorem csA_k {rs : List (List Cut)} {k i : Nat} (hk : k < rs.length) (h : i % rs.length = k) : csA rs i = csA rs k := by
  unfold csA
  rw [h, Nat.mod_eq_of_lt hk]
theorem ap_step {rs : List (List Cut)} {k : Nat} (o : CutOk rs k) (s i z : Nat) (h : i % rs.length = k) (hz : z < sgF rs i) (q : Pr) :
    stepN (cutR rs k s) (stepN (cutR rs k s) q (posF rs.length k i) (z / (placesF ((csA rs k).drop s)).length)) (posF rs.length k i + 1) (z % (placesF ((csA rs k).drop s)).length) = stepN rs q i z ∧
    z / (placesF ((csA rs k).drop s)).length < sgF (cutR rs k s) (posF rs.length k i) ∧ z % (placesF ((csA rs k).drop s)).length < sgF (cutR rs k s) (posF rs.length k i + 1) := by
  obtain ⟨c1, c2⟩ := (csA_cut (s := s) o.hk i).1 h
  have ck := csA_k o.hk h
  have p0 := o.pos s
  have hz2 : z < (placesF (csA rs k)).length := by
    have : z < (placesF (csA rs i)).length := hz
    rwa [ck] at this
  have hs := size_cut (csA rs k) s
  have b1 : z / (placesF ((csA rs k).drop s)).length < (placesF ((csA rs k).take s)).length := by
    rw [Nat.div_lt_iff_lt_mul p0]
    omega
  have b2 := Nat.mod_lt z p0
  refine ⟨?_, ?_, ?_⟩
  · have g1 : (placesF ((csA rs k).take s))[z / (placesF ((csA rs k).drop s)).length]? = some (plA (cutR rs k s) (posF rs.length k i) (z / (placesF ((csA rs k).drop s)).length)) := by
      have := plA_get (rs := cutR rs k s) (i := posF rs.length k i) (z := z / (placesF ((csA rs k).drop s)).length) (by show _ < (placesF (csA (cutR rs k s) (posF rs.length k i))).length; rw [c1]; exact b1)
      rwa [c1] at this
    have g2 : (placesF ((csA rs k).drop s))[z % (placesF ((csA rs k).drop s)).length]? = some (plA (cutR rs k s) (posF rs.length k i + 1) (z % (placesF ((csA rs k).drop s)).length)) := by
      have := plA_get (rs := cutR rs k s) (i := posF rs.length k i + 1) (z := z % (placesF ((csA rs k).drop s)).length) (by show _ < (placesF (csA (cutR rs k s) (posF rs.length k i + 1))).length; rw [c2]; exact b2)
      rwa [c2] at this
    have g3 := place_app ((csA rs k).take s) ((csA rs k).drop s) (fun d hd => o.hc _ (csA_mem (Nat.lt_of_le_of_lt (Nat.zero_le _) o.hk) k) d (List.mem_of_mem_drop hd)) z _ _ g1 g2
    rw [List.take_append_drop, ← ck] at g3
    have g4 := plA_get hz
    rw [g3] at g4
    have g5 := (Option.some.inj g4).symm
    have ca := cols_app ((csA rs k).take s) ((csA rs k).drop s)
    rw [List.take_append_drop] at ca
    unfold stepN
    rw [c1, c2, g5, ck, ca.1, ca.2]
    refine Prod.ext ?_ ?_
    · show (q.1 * _ + _) * _ + _ = q.1 * _ + (_ * _ + _)
      rw [Int.add_mul, Int.mul_assoc, ← Int.natCast_mul, Int.add_assoc]
    · show (q.2 * _ + _) * _ + _ = q.2 * _ + (_ * _ + _)
      rw [Int.add_mul, Int.mul_assoc, ← Int.natCast_mul, Int.add_assoc]
  · show _ < (placesF (csA (cutR rs k s) (posF rs.length k i))).length
    rw [c1]
    exact b1
  · show _ < (placesF (csA (cutR rs k s) (posF rs.length k i + 1))).length
    rw [c2]
    exact b2
theorem ap_pair {rs : List (List Cut)} {k : Nat} (o : CutOk rs k) (s : Nat) : ∀ (zs : List Nat) (i : Nat) (q : Pr), (∀ j z, zs[j]? = some z → z < sgF rs (i + j)) →
    pairFrom (cutR rs k s) (posF rs.length k i) q (apF rs k s i zs) = pairFrom rs i q zs ∧ (∀ j z, (apF rs k s i zs)[j]? = some z → z < sgF (cutR rs k s) (posF rs.length k i + j)) ∧ (apF rs k s i zs).length ≤ 2 * zs.length
  | [], i, q, _ => ⟨rfl, fun j z h => by simp [apF] at h, Nat.le_refl 0⟩
  | z :: r, i, q, h => by
    have hz : z < sgF rs i := h 0 z rfl
    have hr : ∀ j y, r[j]? = some y → y < sgF rs (i + 1 + j) := fun j y e => by
      have := h (j + 1) y (by simpa using e)
      rwa [show i + (j + 1) = i + 1 + j by omega] at this
    by_cases hk : i % rs.length = k
    · obtain ⟨e1, e2, e3⟩ := ap_step o s i z hk hz q
      obtain ⟨h1, h2, h3⟩ := ap_pair o s r (i + 1) (stepN rs q i z) hr
      have ep : posF rs.length k (i + 1) = posF rs.length k i + 1 + 1 := by
        show posF rs.length k i + _ = _
        rw [if_pos hk]
      have ea : apF rs k s i (z :: r) = (z / (placesF ((csA rs k).drop s)).length) :: (z % (placesF ((csA rs k).drop s)).length) :: apF rs k s (i + 1) r := by
        show (if i % rs.length = k then _ else _) ++ _ = _
        rw [if_pos hk]
        rfl
      rw [ea]
      refine ⟨?_, fun j y e => ?_, ?_⟩
      · show pairFrom (cutR rs k s) (posF rs.length k i + 1 + 1) (stepN _ (stepN _ _ _ _) _ _) (apF rs k s (i + 1) r) = pairFrom rs (i + 1) (stepN rs q i z) r
        rw [e1, ← ep]
        exact h1
      · match j, e with
        | 0, e => cases e; exact e2
        | 1, e => cases e; exact e3
        | j + 2, e =>
          have := h2 j y (by simpa using e)
          rw [ep] at this
          rwa [show posF rs.length k i + (j + 2) = posF rs.length k i + 1 + 1 + j by omega]
      · show (apF rs k s (i + 1) r).length + 1 + 1 ≤ 2 * (r.length + 1)
        omega
    · have c := (csA_cut (s := s) o.hk i).2 hk
      obtain ⟨h1, h2, h3⟩ := ap_pair o s r (i + 1) (stepN rs q i z) hr
      have ep : posF rs.length k (i + 1) = posF rs.length k i + 1 := by
        show posF rs.length k i + _ = _
        rw [if_neg hk]
      have ea : apF rs k s i (z :: r) = z :: apF rs k s (i + 1) r := by
        show (if i % rs.length = k then _ else _) ++ _ = _
        rw [if_neg hk]
        rfl
      have es : stepN (cutR rs k s) q (posF rs.length k i) z = stepN rs q i z := by
        unfold stepN plA
        rw [c]
      rw [ea]
      refine ⟨?_, fun j y e => ?_, ?_⟩
      · show pairFrom (cutR rs k s) (posF rs.length k i + 1) (stepN _ q _ z) (apF rs k s (i + 1) r) = pairFrom rs (i + 1) (stepN rs q i z) r
        rw [es, ← ep]
        exact h1
      · match j, e with
        | 0, e =>
          cases e
          show z < (placesF (csA (cutR rs k s) (posF rs.length k i))).length
          rw [c]
          exact hz
        | j + 1, e =>
          have := h2 j y (by simpa using e)
          rw [ep] at this
          rwa [show posF rs.length k i + (j + 1) = posF rs.length k i + 1 + j by omega]
      · show (apF rs k s (i + 1) r).length + 1 ≤ 2 * (r.length + 1)
        omega
theorem ap_prefix {rs : List (List Cut)} {k : Nat} (s : Nat) : ∀ (ws zs : List Nat) (i : Nat), apF rs k s i ws <+: apF rs k s i zs ↔ ws <+: zs
  | [], zs, i => ⟨fun _ => List.nil_prefix, fun _ => List.nil_prefix⟩
  | w :: ws, [], i => by
    constructor
    · intro h
      have hl := h.length_le
      have : 1 ≤ (apF rs k s i (w :: ws)).length := by
        show 1 ≤ ((if i % rs.length = k then _ else _) ++ _ : List Nat).length
        rw [List.length_append]
        split <;> simp <;> omega
      have e : (apF rs k s i []).length = 0 := rfl
      omega
    · intro h
      have := h.length_le
      simp at this
  | w :: ws, z :: zs, i => by
    show ((if i % rs.length = k then _ else _) ++ apF rs k s (i + 1) ws) <+: ((if i % rs.length = k then _ else _) ++ apF rs k s (i + 1) zs) ↔ _
    have ih := ap_prefix s ws zs (i + 1) (rs := rs) (k := k)
    by_cases hk : i % rs.length = k
    · simp only [if_pos hk, List.cons_append, List.nil_append, List.cons_prefix_cons, ih]
      constructor
      · rintro ⟨h1, h2, h3⟩
        refine ⟨?_, h3⟩
        rw [← Nat.div_add_mod w (placesF ((csA rs k).drop s)).length, h1, h2, Nat.div_add_mod]
      · rintro ⟨rfl, h⟩
        exact ⟨rfl, rfl, h⟩
    · simp only [if_neg hk, List.cons_append, List.nil_append, List.cons_prefix_cons, ih]
theorem lcp_greatest : ∀ {c x y : List Nat}, c <+: x → c <+: y → c <+: lcp x y
  | [], _, _, _, _ => List.nil_prefix
  | a :: c, [], y, h, _ => by simp at h
  | a :: c, x :: xs, [], _, h => by simp at h
  | a :: c, x :: xs, y :: ys, h1, h2 => by
    obtain ⟨e1, g1⟩ := List.cons_prefix_cons.mp h1
    obtain ⟨e2, g2⟩ := List.cons_prefix_cons.mp h2
    have ih := lcp_greatest g1 g2
    unfold lcp at ih ⊢
    unfold lcpN
    rw [if_pos (e1.symm.trans e2), List.take_succ_cons]
    exact List.cons_prefix_cons.mpr ⟨e1, ih⟩
theorem take_iff (zs ws : List Nat) : zs.take ws.length = ws ↔ ws <+: zs := by
  rw [List.prefix_iff_eq_take]
  exact eq_comm
/-! moved on by one round -/
def rotR (rs : List (List Cut)) : List (List Cut) := rs.drop 1 ++ rs.take 1
theorem csA_rot {rs : List (List Cut)} (l1 : 0 < rs.length) (i : Nat) : csA (rotR rs) i = csA rs (i + 1) := by
  match rs, l1 with
  | c :: r, _ =>
    have hn : 0 < r.length + 1 := by omega
    have hl := Nat.mod_lt i hn
    have el : (rotR (c :: r)).length = r.length + 1 := by
      unfold rotR
      show (r ++ [c]).length = _
      rw [List.length_append]
      rfl
    have g1 := csA_get (rs := rotR (c :: r)) (by omega) i
    have g2 := csA_get (rs := c :: r) (by simp) (i + 1)
    rw [el] at g1
    have e2 : (c :: r).length = r.length + 1 := rfl
    rw [e2] at g2
    have g1' : (r ++ [c])[i % (r.length + 1)]? = some (csA (rotR (c :: r)) i) := g1
    have es : (i + 1) % (r.length + 1) = if i % (r.length + 1) = r.length then 0 else i % (r.length + 1) + 1 := by
      rw [Nat.add_mod]
      by_cases h1 : r.length = 0
      · rw [h1]
        have : i % 1 = 0 := Nat.mod_one i
        simp [this]
      · rw [Nat.mod_eq_of_lt (show 1 < r.length + 1 by omega)]
        by_cases h2 : i % (r.length + 1) = r.length
        · rw [if_pos h2, h2, Nat.mod_self]
        · rw [if_neg h2, Nat.mod_eq_of_lt (by omega)]
    rw [es] at g2
    by_cases h : i % (r.length + 1) = r.length
    · rw [if_pos h] at g2
      rw [h, List.getElem?_append_right (Nat.le_refl _), Nat.sub_self] at g1'
      have a1 : c = csA (rotR (c :: r)) i := Option.some.inj g1'
      have a2 : c = csA (c :: r) (i + 1) := Option.some.inj g2
      rw [← a1]
      exact a2
    · rw [if_neg h, List.getElem?_cons_succ] at g2
      rw [List.getElem?_append_left (by omega), g2] at g1'
      exact (Option.some.inj g1').symm
theorem pair_rot {rs : List (List Cut)} (l1 : 0 < rs.length) : ∀ (t : List Nat) (k : Nat) (q : Pr), pairFrom rs (k + 1) q t = pairFrom (rotR rs) k q t
  | [], k, q => rfl
  | z :: r, k, q => by
    show pairFrom rs (k + 1 + 1) (stepN rs q (k + 1) z) r = pairFrom (rotR rs) (k + 1) (stepN (rotR rs) q k z) r
    have e : stepN (rotR rs) q k z = stepN rs q (k + 1) z := by
      unfold stepN plA
      rw [csA_rot l1]
    rw [e]
    exact pair_rot l1 r (k + 1) _
theorem pair_lin (rs : List (List Cut)) : ∀ (t : List Nat) (k : Nat) (q : Pr), pairFrom rs k q t = (q.1 * (dcF rs k t.length : Int) + (pairFrom rs k (0, 0) t).1, q.2 * (drF rs k t.length : Int) + (pairFrom rs k (0, 0) t).2)
  | [], k, q => by simp [pairFrom, dcF, drF]
  | z :: r, k, q => by
    obtain ⟨d1, d2⟩ := dc_add rs k 1 r.length
    have e1 : dcF rs k 1 = colsF (csA rs k) := by
      show 1 * colsF (csA rs (k + 0)) = _
      rw [Nat.one_mul]
      rfl
    have e2 : drF rs k 1 = rowsF (csA rs k) := by
      show 1 * rowsF (csA rs (k + 0)) = _
      rw [Nat.one_mul]
      rfl
    rw [Nat.add_comm 1, e1] at d1
    rw [Nat.add_comm 1, e2] at d2
    have h1 := pair_lin rs r (k + 1) (stepN rs q k z)
    have h2 := pair_lin rs r (k + 1) (stepN rs (0, 0) k z)
    show pairFrom rs (k + 1) (stepN rs q k z) r = (q.1 * (dcF rs k (r.length + 1) : Int) + (pairFrom rs (k + 1) (stepN rs (0, 0) k z) r).1, q.2 * (drF rs k (r.length + 1) : Int) + (pairFrom rs (k + 1) (stepN rs (0, 0) k z) r).2)
    rw [h1, h2, d1, d2, Int.natCast_mul, Int.natCast_mul]
    refine Prod.ext ?_ ?_
    · show (q.1 * _ + (plA rs k z).1) * _ + _ = q.1 * (_ * _) + ((0 * _ + (plA rs k z).1) * _ + _)
      rw [Int.add_mul, Int.zero_mul, Int.zero_add, Int.mul_assoc, Int.add_assoc]
    · show (q.2 * _ + (plA rs k z).2) * _ + _ = q.2 * (_ * _) + ((0 * _ + (plA rs k z).2) * _ + _)
      rw [Int.add_mul, Int.zero_mul, Int.zero_add, Int.mul_assoc, Int.add_assoc]
theorem rot_name {rs : List (List Cut)} (l1 : 0 < rs.length) {zs : List Nat} (h : NameOk rs zs) : NameOk (rotR rs) (zs.drop 1) := fun i z e => by
  rw [List.getElem?_drop] at e
  have := h (1 + i) z e
  show z < (placesF (csA (rotR rs) i)).length
  rw [csA_rot l1, Nat.add_comm i]
  exact this
theorem moved_eq {rs : List (List Cut)} (l1 : 0 < rs.length) {zs : List Nat} (h1 : 1 ≤ zs.length) :
    pairF rs zs = ((pairF rs (zs.take 1)).1 * (dcF rs 1 (zs.length - 1) : Int) + (pairF (rotR rs) (zs.drop 1)).1, (pairF rs (zs.take 1)).2 * (drF rs 1 (zs.length - 1) : Int) + (pairF (rotR rs) (zs.drop 1)).2) := by
  have tl : (zs.take 1).length = 1 := by rw [List.length_take]; omega
  have e : pairF rs zs = pairFrom rs 1 (pairF rs (zs.take 1)) (zs.drop 1) := by
    conv => lhs; rw [← List.take_append_drop 1 zs]
    unfold pairF
    rw [pairFrom_append, Nat.zero_add, tl]
  rw [e, pair_lin, List.length_drop]
  have := pair_rot l1 (zs.drop 1) 0 (0, 0)
  rw [Nat.zero_add] at this
  rw [this]
  rfl
/-! turned -/
theorem places_turn (cs : List Cut) : placesF (turnF cs) = (placesF cs).map fun q => (q.2, q.1) := by
  refine snoc_ind (P := fun cs => placesF (turnF cs) = (placesF cs).map fun q => (q.2, q.1)) rfl (fun cs c ih => ?_) cs
  have e : turnF (cs ++ [c]) = turnF cs ++ [(!c.1, c.2)] := by unfold turnF; rw [List.map_append]; rfl
  rw [e, placesF_snoc, placesF_snoc, ih]
  unfold spread
  rw [List.flatMap_map, List.map_flatMap]
  congr 1
  funext p
  rw [List.map_map]
  refine List.map_congr_left fun j _ => ?_
  show stepC (p.2, p.1) (!c.1, c.2) j = ((stepC p c j).2, (stepC p c j).1)
  unfold stepC
  cases c.1 <;> rfl
theorem csA_turn (rs : List (List Cut)) (i : Nat) : csA (rs.map turnF) i = turnF (csA rs i) := by
  unfold csA
  rw [List.length_map, List.getD_eq_getElem?_getD, List.getD_eq_getElem?_getD, List.getElem?_map]
  cases rs[i % rs.length]? <;> rfl
theorem pair_turn (rs : List (List Cut)) : ∀ (zs : List Nat) (k : Nat) (q : Pr), pairFrom (rs.map turnF) k (q.2, q.1) zs = ((pairFrom rs k q zs).2, (pairFrom rs k q zs).1)
  | [], k, q => rfl
  | z :: r, k, q => by
    show pairFrom (rs.map turnF) (k + 1) (stepN (rs.map turnF) (q.2, q.1) k z) r = _
    have e : stepN (rs.map turnF) (q.2, q.1) k z = ((stepN rs q k z).2, (stepN rs q k z).1) := by
      unfold stepN plA
      rw [csA_turn, places_turn, (cols_turn (csA rs k)).1, (cols_turn (csA rs k)).2, List.getD_eq_getElem?_getD, List.getD_eq_getElem?_getD, List.getElem?_map]
      cases (placesF (csA rs k))[z]? <;> rfl
    rw [e]
    exact pair_turn rs r (k + 1) _
theorem turn_name {rs : List (List Cut)} {zs : List Nat} (h : NameOk rs zs) : NameOk (rs.map turnF) zs := fun i z e => by
  have := h i z e
  show z < (placesF (csA (rs.map turnF) i)).length
  rw [csA_turn, places_turn, List.length_map]
  exact this
theorem turn_turn (rs : List (List Cut)) : (rs.map turnF).map turnF = rs := by
  rw [List.map_map]
  conv => rhs; rw [← List.map_id rs]
  refine List.map_congr_left fun cs _ => ?_
  show turnF (turnF cs) = cs
  unfold turnF
  rw [List.map_map]
  conv => rhs; rw [← List.map_id cs]
  refine List.map_congr_left fun c _ => ?_
  show (!(!c.1), c.2) = c
  rw [Bool.not_not]

theorem counts_ok {rs : List (List Cut)} (ok : OkR rs) (n : Nat) : countsF rs n = (((dcF rs 0 n : Nat) : Int), ((drF rs 0 n : Nat) : Int)) := counts_eq ok.l1 ok.bal n
end Mc

set_option Elab.async false
set_option linter.all false
set_option maxRecDepth 100000
set_option maxHeartbeats 4000000
set_option exponentiation.threshold 20000
namespace Mc
open PySem PySem.Spec PyProof.Rows L2 ClX StX
/-- what the text says of Map -/
structure MapT (K : PySem.W.Frag) (mg : Str → Option Value) (M0 : Addr) : Prop where
  cl : Cls K M0
  nP : NoAttr K M0 "_plan"
  nE : NoAttr K M0 "_east"
  nN : NoAttr K M0 "_north"
  nC : NoAttr K M0 "_closed"
  mgM : mg "Map" = some (.ref M0)
  ca : PySem.W.findIn K (.ref M0) "__class__" = some (some (.builtin "object.__class__"))
  cn : PySem.W.specialIn K (.builtin "object.__class__") "__get__" = some (some (.builtin "getset_descriptor.__get__"))
  ct : PySem.W.takesIn K (.builtin "object.__class__") = some true
  cm : PySem.W.mroIn K M0 (.type "object") = some true
  ne : PySem.W.findIn K (.ref M0) "__ne__" = some (some (.builtin "object.__ne__"))
  kM : PySem.W.kitOne K (.ref M0) (.ref M0) = some true
section
variable {P : Program} {w : World} {K : PySem.W.Frag} {mg : Str → Option Value} {base : Heap} {f M0 R0 C0 aX : Addr} {mc : Value} {fd : FuncData}
theorem op_in_seqK {X : Cx} {K : PySem.W.Frag} (hK : X.K = K) : OpR X (compareOp .In) (rIn K false) := by
  subst hK
  exact op_in_seq
/-- closed axes: true is east -/
def okCl (cl : List Bool) : Prop := cl = [] ∨ cl = [true] ∨ cl = [false] ∨ cl = [true, false] ∨ cl = [false, true]
def axV (b : Bool) : V := .str (axS b)
def sortCl (cl : List Bool) : List Bool := [true, false].filter fun b => cl.contains b
theorem okCl.len {cl : List Bool} (h : okCl cl) : (sortCl cl).length = cl.length ∧ cl.length ≤ 2 := by
  rcases h with rfl | rfl | rfl | rfl | rfl <;> decide
theorem okCl.flat {cl : List Bool} (h : okCl cl) : (cl.map axV).all flatV = true := by
  rcases h with rfl | rfl | rfl | rfl | rfl <;> rfl
theorem okCl.inv {cl : List Bool} (h : okCl cl) (b : Bool) : inV (axV b) (cl.map axV) = cl.contains b := by
  rcases h with rfl | rfl | rfl | rfl | rfl <;> cases b <;> decide +kernel
def ClosedAt (K : PySem.W.Frag) (H : Hp) (v : V) (cl : List Bool) : Prop := ∃ l, v = .ref l ∧ SqA K H l (cl.map axV)
theorem ClosedAt.ext {K : PySem.W.Frag} {H H' : Hp} {v : V} {cl : List Bool} (h : ClosedAt K H v cl) (e : Ext H H') : ClosedAt K H' v cl := h.elim fun l ⟨a, b⟩ => ⟨l, a, sq_ext b e⟩
theorem axes_get {i : Nat} {x : V} (h : ([V.str "east", .str "north"] : List V)[i]? = some x) : ∃ b, x = axV b ∧ [true, false][i]? = some b := by
  match i, h with
  | 0, h => exact ⟨true, (Option.some.inj h).symm, rfl⟩
  | 1, h => exact ⟨false, (Option.some.inj h).symm, rfl⟩
theorem filt_snoc {l : List Bool} {i : Nat} {b : Bool} (p : Bool → Bool) (h : l[i]? = some b) : (l.take (i + 1)).filter p = (l.take i).filter p ++ (if p b then [b] else []) := by
  rw [take_snoc h, List.filter_append]
  congr 1
  by_cases e : p b = true
  · rw [if_pos e, List.filter_cons_of_pos e]; rfl
  · rw [if_neg e, List.filter_cons_of_neg e]; rfl
def flM (pp re rn tc : Addr) : List (Str × V) := [("_plan", .ref pp), ("_east", .ref re), ("_north", .ref rn), ("_closed", .ref tc)]
structure MapIn (C0 R0 : Addr) (H : Hp) (pp re rn tc : Addr) (rs : List (List Cut)) (le ln : Int × Int) (cl : List Bool) : Prop where
  p : PlanAt C0 H pp rs
  ok : OkR rs
  e : RatV R0 H re le.1 le.2
  n : RatV R0 H rn ln.1 ln.2
  c : H tc = some (.tup ((sortCl cl).map axV))
  cl : okCl cl
  e0 : 0 < le.1
  n0 : 0 < ln.1
/-- a map stands at m -/
def MapAt (C0 R0 M0 : Addr) (H : Hp) (m : Addr) (rs : List (List Cut)) (e n : Int × Int) (cl : List Bool) : Prop := ∃ dx pp re rn tc, H m = some (.ins M0 dx (flM pp re rn tc)) ∧ MapIn C0 R0 H pp re rn tc rs e n cl
theorem MapIn.ext {C0 R0 : Addr} {H H' : Hp} {pp re rn tc : Addr} {rs : List (List Cut)} {e n : Int × Int} {cl : List Bool} (h : MapIn C0 R0 H pp re rn tc rs e n cl) (x : Ext H H') : MapIn C0 R0 H' pp re rn tc rs e n cl :=
  ⟨h.p.ext x, h.ok, h.e.ext x, h.n.ext x, x _ _ h.c, h.cl, h.e0, h.n0⟩
theorem MapAt.ext {C0 R0 M0 : Addr} {H H' : Hp} {m : Addr} {rs : List (List Cut)} {e n : Int × Int} {cl : List Bool} (h : MapAt C0 R0 M0 H m rs e n cl) (x : Ext H H') : MapAt C0 R0 M0 H' m rs e n cl := by
  obtain ⟨dx, pp, re, rn, tc, a, b⟩ := h
  exact ⟨dx, pp, re, rn, tc, x _ _ a, b.ext x⟩
theorem putM1 (pp : Addr) : putF "_plan" (.ref pp) [] = ([("_plan", V.ref pp)] : List (Str × V)) := rfl
theorem putM2 (pp re : Addr) : putF "_east" (.ref re) [("_plan", V.ref pp)] = ([("_plan", V.ref pp), ("_east", .ref re)] : List (Str × V)) := rfl
theorem putM3 (pp re rn : Addr) : putF "_north" (.ref rn) [("_plan", V.ref pp), ("_east", .ref re)] = ([("_plan", V.ref pp), ("_east", .ref re), ("_north", .ref rn)] : List (Str × V)) := rfl
theorem putM4 (pp re rn tc : Addr) : putF "_closed" (.ref tc) [("_plan", V.ref pp), ("_east", .ref re), ("_north", .ref rn)] = flM pp re rn tc := rfl
theorem rat_nm {R0 M0 : Addr} {H : Hp} {re m dx : Addr} {a b : Int} {u : V} {fs : List (Str × V)} (h : RatV R0 H re a b) (hm : H m = some (.ins M0 dx (("_plan", u) :: fs))) : re ∉ [m] := fun z => by
  obtain ⟨_, dr, e⟩ := h
  rw [List.mem_singleton.mp z, hm] at e
  have e2 := (HO.ins.inj (Option.some.inj e)).2.2
  have e3 := congrArg Prod.fst (List.cons.inj e2).1
  exact absurd (show ("_plan" : Str) = "_top" from e3) (by decide +kernel)
theorem sc_check_plan : FnScope ["plan"] ["plan"] (defScope s_check_plan) := ⟨rfl, rfl, rfl, by decide +kernel, rfl, by decide +kernel, by decide +kernel⟩
def spChkPlan (C0 : Addr) : Sp := fun vs H Q _ => ∃ (p : Addr) (rs : List (List Cut)), vs = [.ref p] ∧ PlanAt C0 H p rs ∧ Q .non H
theorem ok_check_plan (F : FunD K "check_plan" "check_plan" (defArgs s_check_plan) (defBody s_check_plan) (defScope s_check_plan) [] [] f fd) (T : TB mg) (R : PlanT K mg C0 aX mc) (RE : PlanE K C0) : FnOk P w K mg base CX0 1 f fd ["plan"] (spChkPlan C0) := by
  refine F.ok sc_check_plan (fun vs H Q E h => ?_) (fun cdv A outer s H vs Q E hr h => ?_)
  · obtain ⟨p, rs, rfl, hp, k⟩ := h
    rfl
  · obtain ⟨p, rs, rfl, hp, k⟩ := h
    refine ⟨_, (PSs.nox (pss_one (ps_if (pt_not (pt_val (pe_callB call_isi (by rfl) T.isinstance (by decide +kernel) (pa_cons (pv 0) (pa_cons (pe_glob (v := .ref C0) (by rfl) R.mgP rfl) pa_nil))))) (pss_one ps_never) pss_nil))), ?_⟩
    obtain ⟨dx, lr, lp, ll, g, h1, h2⟩ := id hp
    exact ⟨_, rfl, .ref p, _, _, _, true, rfl, .own C0, .base (.ins h1 R.cl RE.ca RE.cn RE.ct RE.cm), RE.kR, _, rfl, iteF k⟩
theorem sc_are_closed : FnScope ["value", "axis"] ["value"] (defScope s_are_closed) := ⟨rfl, rfl, rfl, by decide +kernel, rfl, by decide +kernel, by decide +kernel⟩
def spClosed (K : PySem.W.Frag) : Sp := fun vs H Q _ => ∃ (v : V) (cl : List Bool), vs = [v] ∧ ClosedAt K H v cl ∧ okCl cl ∧ ∀ H', Ext H H' → Q (.bl true) H'
theorem ok_are_closed (F : FunD K "_are_closed" "_are_closed" (defArgs s_are_closed) (defBody s_are_closed) (defScope s_are_closed) [] [] f fd) (T : TB mg) (R : PlanT K mg C0 aX mc) {fis_list : Addr} {fdis_list : FuncData} (Dis_list : Gd P w K mg base "is_list" 1 ["value"] (spIsList K) fis_list fdis_list) {fis_axis : Addr} {fdis_axis : FuncData} (Dis_axis : Gd P w K mg base "is_axis" 1 ["value"] (spAxis) fis_axis fdis_axis) : FnOk P w K mg base CX0 2 f fd ["value"] (spClosed K) := by
  refine F.ok sc_are_closed (fun vs H Q E h => ?_) (fun cdv A outer s H vs Q E hr h => ?_)
  · obtain ⟨v, cl, rfl, hv, ok, k⟩ := h
    rfl
  · obtain ⟨v, cl, rfl, hv, ok, k⟩ := h
    refine ⟨_, (PSs.nox (pss_cons (ps_if (PW.pt (pw_or (pt_not (pt_val (pe_gd Dis_list hr (by decide) (by rfl) (pa_cons (pv 0) pa_nil)))) (pw_or1 (pt_not (pt_val (pe_callB (cr_all rfl) (by rfl) T.all (by decide +kernel) (pa_cons (pe_lc (own := [("axis", 1)]) (g := gName 1) (tt := tYes) rfl sc_are_closed.nd (pi_seq (pv 0)) (blkOk_by (own := [("axis", 1)]) (N := ["value", "axis"]) (sc := defScope s_are_closed) (by decide +kernel)) (fun _ _ _ _ _ => (pg_name (i := 1) sc_are_closed.nd rfl (.inl rfl))) (fun _ _ _ _ _ => pts_nil) (fun _ _ _ _ _ => (pe_gd Dis_axis hr (by decide) (by rfl) (pa_cons (pv 1) pa_nil)))) pa_nil))))))) (pss_one (ps_ret pe_bl)) pss_nil)
      (pss_one (ps_ret (pe_cmpR op_eq (pe_callB call_len_seq (by rfl) T.len PySem.boot_len (pa_cons (pv 0) pa_nil)) (pe_callB call_len_seq (by rfl) T.len PySem.boot_len (pa_cons (pe_lc (own := [("axis", 1)]) (g := gName 1) rfl sc_are_closed.nd (pi_tup (pe_glob (v := .ref aX) (by rfl) R.ax rfl)) (blkOk_by (own := [("axis", 1)]) (N := ["value", "axis"]) (sc := defScope s_are_closed) (by decide +kernel)) (fun _ _ _ _ _ => (pg_name (i := 1) sc_are_closed.nd rfl (.inl rfl))) (fun _ _ _ _ _ => (pts_one (pt_cmpR (op_in_seqK (K := K) rfl) (pv 1) (pv 0) (by rfl)))) (fun _ _ _ _ _ => (pv 1))) pa_nil)) (nomark _)))))), ?_⟩
    obtain ⟨l, rfl, hl⟩ := hv
    refine ⟨_, rfl, l, _, rfl, hl, fun H1 e1 => ⟨_, rfl, iteF ?_⟩⟩
    refine ⟨_, rfl, l, _, rfl, sq_ext hl e1, fun J S wj hS D hD => lc_walk wj (fun i H' => H' D = some (.lst (List.replicate i (.bl true))) ∧ Ext H1 H') ⟨upd_same, Ext.upd hD⟩ (fun _ _ p => hS _ p.2) ?_ ?_⟩
    · rintro i x H' hx ⟨hD', e⟩
      rw [List.getElem?_map] at hx
      obtain ⟨b, hb, rfl⟩ := Option.map_eq_some_iff.mp hx
      refine ⟨rfl, lc_yes ⟨_, rfl, b, rfl, ?_⟩⟩
      refine ⟨_, hD', ?_, ?_, ext_put e hD⟩
      · rw [List.length_replicate]
        have h6 := (List.getElem?_eq_some_iff.mp hb).1
        exact Nat.lt_of_lt_of_le h6 (Nat.le_trans ok.len.2 (by decide))
      · rw [upd_same, rep_put]
    rintro H2 ⟨hD', e2⟩
    have e12 := e1.trans e2
    refine ⟨D, List.replicate cl.length true, rfl, SqL.of (by rw [hD', List.map_replicate, List.length_map]), ?_⟩
    rw [all_rep]
    refine ⟨_, rfl, iteF ?_⟩
    refine ⟨_, rfl, l, _, rfl, sq_ext hl e12, aX, rfl, ⟨_, R.axK H2⟩, fun D2 hD2 => lc_walk walk_t (fun i H' => H' D2 = some (.lst ((([true, false].take i).filter fun b => cl.contains b).map axV)) ∧ Ext H2 H') ⟨upd_same, Ext.upd hD2⟩ (fun _ _ _ => R.axK _) ?_ ?_⟩
    · rintro i x H' hx ⟨hD3, e3⟩
      obtain ⟨b, rfl, hb⟩ := axes_get hx
      refine ⟨rfl, _, rfl, _, rfl, l, _, rfl, sq_ext hl (e12.trans e3), rfl, ok.flat, ?_⟩
      rw [show (if false = true then !inV (axV b) (cl.map axV) else inV (axV b) (cl.map axV)) = cl.contains b from ok.inv b]
      refine ⟨_, rfl, ite2 (fun hz => ?_) (fun hz => ?_)⟩
      · refine ⟨_, rfl, _, hD3, ?_, ?_, ext_put e3 hD2⟩
        · have := (List.getElem?_eq_some_iff.mp hb).1
          have h2 := List.length_filter_le (fun b => cl.contains b) ([true, false].take i)
          rw [List.length_take, show [true, false].length = 2 from rfl] at h2
          rw [List.length_map, sizeLine_eq]
          omega
        · rw [upd_same, filt_snoc _ hb, if_pos hz, List.map_append]
          rfl
      · refine ⟨?_, e3⟩
        rw [filt_snoc _ hb, if_neg hz, List.append_nil]
        exact hD3
    rintro H3 ⟨hD3, e3⟩
    refine ⟨_, _, rfl, .inl (SqL.of hD3), rfl, ?_⟩
    rw [List.length_map, List.length_map]
    show Q (.bl (decide (V.int (cl.length : Nat) = V.int ((sortCl cl).length : Nat)))) H3
    rw [ok.len.1, decide_eq_true rfl]
    exact k H3 (e12.trans e3)
theorem sc_Map___init : FnScope ["self", "plan", "east", "north", "closed", "length", "axis"] ["self", "plan", "east", "north", "closed"] (defScope s_Map___init) := ⟨rfl, rfl, rfl, by decide +kernel, rfl, by decide +kernel, by decide +kernel⟩
def spMapI (K : PySem.W.Frag) (C0 R0 M0 : Addr) : Sp := fun vs H Q _ => ∃ (m dx pp : Addr) (x y v : V) (H0 : Hp) (rs : List (List Cut)) (le ln : Int × Int) (cl : List Bool), vs = [.ref m, .ref pp, x, y, v] ∧ H m = some (.ins M0 dx []) ∧ Ext H0 H ∧ H0 m = none ∧
  PlanAt C0 H0 pp rs ∧ OkR rs ∧ NumV R0 H0 x le.1 le.2 ∧ NumV R0 H0 y ln.1 ln.2 ∧ ClosedAt K H0 v cl ∧ okCl cl ∧ 0 < le.1 ∧ 0 < ln.1 ∧ ∀ H', Frm [m] H H' → Ext H0 H' → MapAt C0 R0 M0 H' m rs le ln cl → Q .non H'
theorem ok_Map___init (F : FunD K "__init__" "Map.__init__" (defArgs s_Map___init) (defBody s_Map___init) (defScope s_Map___init) [] [] f fd) (T : TB mg) (R : PlanT K mg C0 aX mc) (RM : MapT K mg M0) (RE : PlanE K C0) {fcheck_plan : Addr} {fdcheck_plan : FuncData} (Dcheck_plan : Gd P w K mg base "check_plan" 1 ["plan"] (spChkPlan C0) fcheck_plan fdcheck_plan) {fis_above_0 : Addr} {fdis_above_0 : FuncData} (Dis_above_0 : Gd P w K mg base "is_above_0" 5 ["value"] (spAboveR R0) fis_above_0 fdis_above_0) {fare_closed : Addr} {fdare_closed : FuncData} (Dare_closed : Gd P w K mg base "_are_closed" 2 ["value"] (spClosed K) fare_closed fdare_closed) {fas_ratio : Addr} {fdas_ratio : FuncData} (Das_ratio : Gd P w K mg base "as_ratio" 4 ["value"] (spAsR R0) fas_ratio fdas_ratio) : FnOk P w K mg base CX0 7 f fd ["self", "plan", "east", "north", "closed"] (spMapI K C0 R0 M0) := by
  refine F.ok sc_Map___init (fun vs H Q E h => ?_) (fun cdv A outer s H vs Q E hr h => ?_)
  · obtain ⟨m, dx, pp, x, y, v, H0, rs, le, ln, cl, rfl, hm, e0, hm0, hp, ok, hx, hy, hv, ocl, p1, p2, k⟩ := h
    rfl
  · obtain ⟨m, dx, pp, x, y, v, H0, rs, le, ln, cl, rfl, hm, e0, hm0, hp, ok, hx, hy, hv, ocl, p1, p2, k⟩ := h
    refine ⟨_, (PSs.nox (pss_cons (ps_expr (pe_gd Dcheck_plan hr (by decide) (by rfl) (pa_cons (pv 1) pa_nil)))
      (pss_cons (ps_for PassesOwn.never rfl (pi_tup (pe_tup (pa_cons (pv 2) (pa_cons (pv 3) pa_nil)))) (pg_name (i := 5) sc_Map___init.nd rfl (.inl rfl)) (pss_one (ps_if (pt_not (pt_val (pe_gd Dis_above_0 hr (by decide) (by rfl) (pa_cons (pv 5) pa_nil)))) (pss_one ps_never) pss_nil)))
      (pss_cons (ps_if (pt_not (pt_val (pe_gd Dare_closed hr (by decide) (by rfl) (pa_cons (pv 4) pa_nil)))) (pss_one ps_never) pss_nil)
      (pss_cons (ps_fld (pv 0) (pv 1) rfl)
      (pss_cons (ps_fld (pv 0) (pe_gd Das_ratio hr (by decide) (by rfl) (pa_cons (pv 2) pa_nil)) rfl)
      (pss_cons (ps_fld (pv 0) (pe_gd Das_ratio hr (by decide) (by rfl) (pa_cons (pv 3) pa_nil)) rfl)
      (pss_one (ps_fld (pv 0) (pe_callTy call_tuple_of (by rfl) T.tuple (by decide +kernel) (pa_cons (pe_lc (own := [("axis", 6)]) (g := gName 6) rfl sc_Map___init.nd (pi_tup (pe_glob (v := .ref aX) (by rfl) R.ax rfl)) (blkOk_by (own := [("axis", 6)]) (N := ["self", "plan", "east", "north", "closed", "length", "axis"]) (sc := defScope s_Map___init) (by decide +kernel)) (fun _ _ _ _ _ => (pg_name (i := 6) sc_Map___init.nd rfl (.inl rfl))) (fun _ _ _ _ _ => (pts_one (pt_cmpR (op_in_seqK (K := K) rfl) (pv 6) (pv 4) (by rfl)))) (fun _ _ _ _ _ => (pv 6))) pa_nil)) rfl))))))))), ?_⟩
    refine ⟨_, rfl, pp, rs, rfl, hp.ext e0, _, rfl, _, rfl, (by show 2 ≤ sizeLine; decide), fun t ht => ?_⟩
    have e1 : Ext H (upd H t (.tup [x, y])) := Ext.upd ht
    have ht1 : (upd H t (.tup [x, y])) t = some (.tup [x, y]) := upd_same
    generalize upd H t (.tup [x, y]) = H1 at *
    refine ⟨t, rfl, ⟨_, SqT.of ht1⟩, for_walk walk_t (fun i σ H' => ∃ u, σ = [some (.ref m), some (.ref pp), some x, some y, some v, u, none] ∧ Ext H1 H') ⟨none, rfl, Ext.rfl'⟩ (fun _ _ _ ⟨_, _, e⟩ => SqT.of (e _ _ ht1)) ?_ ?_⟩
    · rintro i z σ H' hz ⟨u, rfl, e⟩
      have hz : ∃ c d, NumV R0 H' z c d ∧ 0 < c := by
        match i, hz with
        | 0, hz => cases hz; exact ⟨_, _, hx.ext ((e0.trans e1).trans e), p1⟩
        | 1, hz => cases hz; exact ⟨_, _, hy.ext ((e0.trans e1).trans e), p2⟩
      obtain ⟨c, d, hz, hc⟩ := hz
      refine ⟨_, rfl, z, c, d, rfl, hz, fun H2 e2 => ?_⟩
      rw [decide_eq_true hc]
      exact ⟨_, rfl, iteF ⟨_, rfl, e.trans e2⟩⟩
    rintro σ H2 ⟨u, rfl, e2⟩
    have e02 := (e0.trans e1).trans e2
    refine ⟨_, rfl, v, cl, rfl, hv.ext e02, ocl, fun H3 e3 => ⟨_, rfl, iteF ?_⟩⟩
    have hm3 : H3 m = some (.ins M0 dx []) := e3 _ _ (e2 _ _ (e1 _ _ hm))
    have e03 := e02.trans e3
    have f03 : Frm [m] H H3 := Frm.ext ((e1.trans e2).trans e3)
    clear e3 e02 e2 hm e1 ht1 e0
    refine ⟨_, rfl, _, rfl, m, M0, dx, [], rfl, hm3, RM.cl, RM.nP, (by show 0 < 1000; decide), ?_⟩
    rw [putM1]
    have e04 : Ext H0 (upd H3 m (.ins M0 dx [("_plan", .ref pp)])) := ext_put e03 hm0
    have hm4 : (upd H3 m (.ins M0 dx [("_plan", .ref pp)])) m = some (.ins M0 dx [("_plan", .ref pp)]) := upd_same
    have f04 : Frm [m] H (upd H3 m (.ins M0 dx [("_plan", .ref pp)])) := f03.trans (Frm.put (List.mem_singleton.mpr rfl))
    generalize upd H3 m (.ins M0 dx [("_plan", .ref pp)]) = H4 at *
    refine ⟨_, rfl, x, le.1, le.2, rfl, hx.ext e04, fun re H5 e5 hre => ⟨_, rfl, m, M0, dx, _, rfl, e5 _ _ hm4, RM.cl, RM.nE, (by show 1 < 1000; decide), ?_⟩⟩
    rw [putM2]
    have f5 : Frm [m] H5 (upd H5 m (.ins M0 dx [("_plan", .ref pp), ("_east", .ref re)])) := Frm.put (List.mem_singleton.mpr rfl)
    have hre6 := hre.frm f5 (rat_nm hre (e5 _ _ hm4))
    have e06 : Ext H0 (upd H5 m (.ins M0 dx [("_plan", .ref pp), ("_east", .ref re)])) := ext_put (e04.trans e5) hm0
    have hm6 : (upd H5 m (.ins M0 dx [("_plan", .ref pp), ("_east", .ref re)])) m = some (.ins M0 dx [("_plan", .ref pp), ("_east", .ref re)]) := upd_same
    have f06 := (f04.trans (Frm.ext e5)).trans f5
    generalize upd H5 m (.ins M0 dx [("_plan", .ref pp), ("_east", .ref re)]) = H6 at *
    refine ⟨_, rfl, y, ln.1, ln.2, rfl, hy.ext e06, fun rn H7 e7 hrn => ⟨_, rfl, m, M0, dx, _, rfl, e7 _ _ hm6, RM.cl, RM.nN, (by show 2 < 1000; decide), ?_⟩⟩
    rw [putM3]
    have hre7 := hre6.ext e7
    have f7 : Frm [m] H7 (upd H7 m (.ins M0 dx [("_plan", .ref pp), ("_east", .ref re), ("_north", .ref rn)])) := Frm.put (List.mem_singleton.mpr rfl)
    have hre8 := hre7.frm f7 (rat_nm hre7 (e7 _ _ hm6))
    have hrn8 := hrn.frm f7 (rat_nm hrn (e7 _ _ hm6))
    have e08 : Ext H0 (upd H7 m (.ins M0 dx [("_plan", .ref pp), ("_east", .ref re), ("_north", .ref rn)])) := ext_put (e06.trans e7) hm0
    have hm8 : (upd H7 m (.ins M0 dx [("_plan", .ref pp), ("_east", .ref re), ("_north", .ref rn)])) m = some (.ins M0 dx [("_plan", .ref pp), ("_east", .ref re), ("_north", .ref rn)]) := upd_same
    have f08 := (f06.trans (Frm.ext e7)).trans f7
    generalize upd H7 m (.ins M0 dx [("_plan", .ref pp), ("_east", .ref re), ("_north", .ref rn)]) = H8 at *
    clear f7 f5 hre6 hre7 hm4 hm6 f03 f04 f06 e03 e04 e06 hrn hre
    obtain ⟨l, rfl, hl⟩ := hv
    refine ⟨aX, rfl, ⟨_, R.axK H8⟩, fun D2 hD2 => lc_walk walk_t (fun i H' => H' D2 = some (.lst ((([true, false].take i).filter fun b => cl.contains b).map axV)) ∧ Ext H8 H') ⟨upd_same, Ext.upd hD2⟩ (fun _ _ _ => R.axK _) ?_ ?_⟩
    · rintro i x H' hx ⟨hD3, e3⟩
      obtain ⟨b, rfl, hb⟩ := axes_get hx
      refine ⟨rfl, _, rfl, _, rfl, l, _, rfl, sq_ext hl (e08.trans e3), rfl, ocl.flat, ?_⟩
      rw [show (if false = true then !inV (axV b) (cl.map axV) else inV (axV b) (cl.map axV)) = cl.contains b from ocl.inv b]
      refine ⟨_, rfl, ite2 (fun hz => ?_) (fun hz => ?_)⟩
      · refine ⟨_, rfl, _, hD3, ?_, ?_, ext_put e3 hD2⟩
        · have := (List.getElem?_eq_some_iff.mp hb).1
          have h2 := List.length_filter_le (fun b => cl.contains b) ([true, false].take i)
          rw [List.length_take, show [true, false].length = 2 from rfl] at h2
          rw [List.length_map, sizeLine_eq]
          omega
        · rw [upd_same, filt_snoc _ hb, if_pos hz, List.map_append]
          rfl
      · refine ⟨?_, e3⟩
        rw [filt_snoc _ hb, if_neg hz, List.append_nil]
        exact hD3
    rintro H9 ⟨hD9, e9⟩
    refine ⟨D2, _, rfl, .inl ⟨SqL.of hD9, fun tc htc => ⟨_, rfl, m, M0, dx, _, rfl, (e9.trans (Ext.upd htc)) _ _ hm8, RM.cl, RM.nC, (by show 3 < 1000; decide), ?_⟩⟩⟩
    rw [putM4]
    have e10 := e9.trans (Ext.upd (o := .tup ((([true, false].take [V.str "east", V.str "north"].length).filter fun b => cl.contains b).map axV)) htc)
    have htc2 : (upd H9 tc (.tup ((([true, false].take [V.str "east", V.str "north"].length).filter fun b => cl.contains b).map axV))) tc = some (.tup ((sortCl cl).map axV)) := upd_same
    generalize upd H9 tc (.tup ((([true, false].take [V.str "east", V.str "north"].length).filter fun b => cl.contains b).map axV)) = Ha at *
    have fa : Frm [m] Ha (upd Ha m (.ins M0 dx (flM pp re rn tc))) := Frm.put (List.mem_singleton.mpr rfl)
    have hma := e10 _ _ hm8
    have hrea := hre8.ext e10
    have hrna := hrn8.ext e10
    refine k _ ((f08.trans (Frm.ext e10)).trans fa) (ext_put (e08.trans e10) hm0) ⟨dx, pp, re, rn, tc, upd_same, hp.ext (ext_put (e08.trans e10) hm0), ok, hrea.frm fa (rat_nm hrea hma), hrna.frm fa (rat_nm hrna hma), fa _ _ htc2 (fun z => ?_), ocl, p1, p2⟩
    rw [List.mem_singleton.mp z, hma] at htc2
    cases htc2
theorem sc_Map_plan : FnScope ["self"] ["self"] (defScope s_Map_plan) := ⟨rfl, rfl, rfl, by decide +kernel, rfl, by decide +kernel, by decide +kernel⟩
def spMPlan (C0 R0 M0 : Addr) : Sp := fun vs H Q _ => ∃ (m : Addr), vs = [.ref m] ∧ ∃ rs le ln cl, MapAt C0 R0 M0 H m rs le ln cl ∧ ∀ pp, PlanAt C0 H pp rs → Q (.ref pp) H
theorem ok_Map_plan (F : FunD K "plan" "Map.plan" (defArgs s_Map_plan) (defBody s_Map_plan) (defScope s_Map_plan) [] [] f fd) (T : TB mg) (RM : MapT K mg M0) : FnOk P w K mg base CX0 1 f fd ["self"] (spMPlan C0 R0 M0) := by
  refine F.ok sc_Map_plan (fun vs H Q E h => ?_) (fun cdv A outer s H vs Q E hr h => ?_)
  · obtain ⟨m, rfl, rs, le, ln, cl, ⟨dx, pp, re, rn, tc, hm, mi⟩, k⟩ := h
    rfl
  · obtain ⟨m, rfl, rs, le, ln, cl, ⟨dx, pp, re, rn, tc, hm, mi⟩, k⟩ := h
    refine ⟨_, (PSs.nox (pss_one (ps_ret (pe_fld (pv 0) rfl)))), ?_⟩
    exact ⟨_, rfl, m, M0, dx, _, _, rfl, hm, RM.cl, RM.nP, rfl, k pp mi.p⟩
theorem sc_Map_east : FnScope ["self"] ["self"] (defScope s_Map_east) := ⟨rfl, rfl, rfl, by decide +kernel, rfl, by decide +kernel, by decide +kernel⟩
def spMEast (C0 R0 M0 : Addr) : Sp := fun vs H Q _ => ∃ (m : Addr), vs = [.ref m] ∧ ∃ rs le ln cl, MapAt C0 R0 M0 H m rs le ln cl ∧ ∀ re, RatV R0 H re le.1 le.2 → Q (.ref re) H
theorem ok_Map_east (F : FunD K "east" "Map.east" (defArgs s_Map_east) (defBody s_Map_east) (defScope s_Map_east) [] [] f fd) (T : TB mg) (RM : MapT K mg M0) : FnOk P w K mg base CX0 1 f fd ["self"] (spMEast C0 R0 M0) := by
  refine F.ok sc_Map_east (fun vs H Q E h => ?_) (fun cdv A outer s H vs Q E hr h => ?_)
  · obtain ⟨m, rfl, rs, le, ln, cl, ⟨dx, pp, re, rn, tc, hm, mi⟩, k⟩ := h
    rfl
  · obtain ⟨m, rfl, rs, le, ln, cl, ⟨dx, pp, re, rn, tc, hm, mi⟩, k⟩ := h
    refine ⟨_, (PSs.nox (pss_one (ps_ret (pe_fld (pv 0) rfl)))), ?_⟩
    exact ⟨_, rfl, m, M0, dx, _, _, rfl, hm, RM.cl, RM.nE, rfl, k re mi.e⟩
theorem sc_Map_north : FnScope ["self"] ["self"] (defScope s_Map_north) := ⟨rfl, rfl, rfl, by decide +kernel, rfl, by decide +kernel, by decide +kernel⟩
def spMNorth (C0 R0 M0 : Addr) : Sp := fun vs H Q _ => ∃ (m : Addr), vs = [.ref m] ∧ ∃ rs le ln cl, MapAt C0 R0 M0 H m rs le ln cl ∧ ∀ rn, RatV R0 H rn ln.1 ln.2 → Q (.ref rn) H
theorem ok_Map_north (F : FunD K "north" "Map.north" (defArgs s_Map_north) (defBody s_Map_north) (defScope s_Map_north) [] [] f fd) (T : TB mg) (RM : MapT K mg M0) : FnOk P w K mg base CX0 1 f fd ["self"] (spMNorth C0 R0 M0) := by
  refine F.ok sc_Map_north (fun vs H Q E h => ?_) (fun cdv A outer s H vs Q E hr h => ?_)
  · obtain ⟨m, rfl, rs, le, ln, cl, ⟨dx, pp, re, rn, tc, hm, mi⟩, k⟩ := h
    rfl
  · obtain ⟨m, rfl, rs, le, ln, cl, ⟨dx, pp, re, rn, tc, hm, mi⟩, k⟩ := h
    refine ⟨_, (PSs.nox (pss_one (ps_ret (pe_fld (pv 0) rfl)))), ?_⟩
    exact ⟨_, rfl, m, M0, dx, _, _, rfl, hm, RM.cl, RM.nN, rfl, k rn mi.n⟩
theorem sc_check_area : FnScope ["area"] ["area"] (defScope s_check_area) := ⟨rfl, rfl, rfl, by decide +kernel, rfl, by decide +kernel, by decide +kernel⟩
def spChkArea (C0 R0 M0 : Addr) : Sp := fun vs H Q _ => ∃ m rs le ln cl, vs = [.ref m] ∧ MapAt C0 R0 M0 H m rs le ln cl ∧ Q .non H
theorem ok_check_area (F : FunD K "check_area" "check_area" (defArgs s_check_area) (defBody s_check_area) (defScope s_check_area) [] [] f fd) (T : TB mg) (RM : MapT K mg M0) : FnOk P w K mg base CX0 1 f fd ["area"] (spChkArea C0 R0 M0) := by
  refine F.ok sc_check_area (fun vs H Q E h => ?_) (fun cdv A outer s H vs Q E hr h => ?_)
  · obtain ⟨m, rs, le, ln, cl, rfl, hm, k⟩ := h
    rfl
  · obtain ⟨m, rs, le, ln, cl, rfl, hm, k⟩ := h
    refine ⟨_, (PSs.nox (pss_one (ps_if (pt_not (pt_val (pe_callB call_isi (by rfl) T.isinstance (by decide +kernel) (pa_cons (pv 0) (pa_cons (pe_glob (v := .ref M0) (by rfl) RM.mgM rfl) pa_nil))))) (pss_one ps_never) pss_nil))), ?_⟩
    obtain ⟨dx, pp, re, rn, tc, h1, h2⟩ := id hm
    exact ⟨_, rfl, .ref m, _, _, _, true, rfl, .own M0, .base (.ins h1 RM.cl RM.ca RM.cn RM.ct RM.cm), RM.kM, _, rfl, iteF k⟩
theorem sc_sides_at : FnScope ["area", "f", "columns", "rows"] ["area", "f"] (defScope s_sides_at) := ⟨rfl, rfl, rfl, by decide +kernel, rfl, by decide +kernel, by decide +kernel⟩
theorem counts_pos {rs : List (List Cut)} (ok : OkR rs) (i : Nat) : 0 < (countsF rs i).1 ∧ 0 < (countsF rs i).2 := by
  rw [counts_ok ok i]
  have := dc_pos ok.n 0 i
  exact ⟨Int.ofNat_lt.mpr this.1, Int.ofNat_lt.mpr this.2⟩
def spSides (C0 R0 M0 : Addr) : Sp := fun vs H Q _ => ∃ (m : Addr) (rs : List (List Cut)) (le ln : Int × Int) (cl : List Bool) (i m1 m2 : Nat), vs = [.ref m, .int i] ∧ MapAt C0 R0 M0 H m rs le ln cl ∧ i ≤ 1000 ∧
  le.1.natAbs < 2 ^ m1 ∧ le.2.natAbs < 2 ^ m1 ∧ ln.1.natAbs < 2 ^ m1 ∧ ln.2.natAbs < 2 ^ m1 ∧ (countsF rs i).1.natAbs < 2 ^ m2 ∧ (countsF rs i).2.natAbs < 2 ^ m2 ∧ 0 < m1 ∧ 0 < m2 ∧ m1 + m2 ≤ 8000 ∧
  ∀ t s1 s2 H', Ext H H' → H' t = some (.tup [.ref s1, .ref s2]) → RatV R0 H' s1 le.1 (le.2 * (countsF rs i).1) → RatV R0 H' s2 ln.1 (ln.2 * (countsF rs i).2) → Q (.ref t) H'
theorem ok_sides_at (F : FunD K "sides_at" "sides_at" (defArgs s_sides_at) (defBody s_sides_at) (defScope s_sides_at) [] [] f fd) (T : TB mg) (R : PlanT K mg C0 aX mc) (RQ : RatT K mg R0) (RM : MapT K mg M0) {p_Map_plan f_Map_plan : Addr} {fd_Map_plan : FuncData} (m_Map_plan : PropOf K M0 "plan" p_Map_plan f_Map_plan) (g_Map_plan : FnOk P w K mg base CX0 1 f_Map_plan fd_Map_plan ["self"] (spMPlan C0 R0 M0)) (b_Map_plan : Binds K fd_Map_plan ["self"] []) {p_Map_east f_Map_east : Addr} {fd_Map_east : FuncData} (m_Map_east : PropOf K M0 "east" p_Map_east f_Map_east) (g_Map_east : FnOk P w K mg base CX0 1 f_Map_east fd_Map_east ["self"] (spMEast C0 R0 M0)) (b_Map_east : Binds K fd_Map_east ["self"] []) {p_Map_north f_Map_north : Addr} {fd_Map_north : FuncData} (m_Map_north : PropOf K M0 "north" p_Map_north f_Map_north) (g_Map_north : FnOk P w K mg base CX0 1 f_Map_north fd_Map_north ["self"] (spMNorth C0 R0 M0)) (b_Map_north : Binds K fd_Map_north ["self"] []) {fcounts_at : Addr} {fdcounts_at : FuncData} (Dcounts_at : Gd P w K mg base "counts_at" 6 ["plan", "f"] (spCounts C0) fcounts_at fdcounts_at) {f_Ratio_over : Addr} {fd_Ratio_over : FuncData} (m_Ratio_over : Meth K R0 "over" f_Ratio_over) (g_Ratio_over : FnOk P w K mg base CX0 5 f_Ratio_over fd_Ratio_over ["self", "other"] (spOverR R0)) (b_Ratio_over : Binds K fd_Ratio_over ["self", "other"] []) : FnOk P w K mg base CX0 7 f fd ["area", "f"] (spSides C0 R0 M0) := by
  refine F.ok sc_sides_at (fun vs H Q E h => ?_) (fun cdv A outer s H vs Q E hr h => ?_)
  · obtain ⟨m, rs, le, ln, cl, i, m1, m2, rfl, hm, h1000, z1, z2, z3, z4, zc, zd, hm1, hm2, hmm, k⟩ := h
    rfl
  · obtain ⟨m, rs, le, ln, cl, i, m1, m2, rfl, hm, h1000, z1, z2, z3, z4, zc, zd, hm1, hm2, hmm, k⟩ := h
    refine ⟨_, (PSs.nox (pss_cons (ps_asg (pe_gd Dcounts_at hr (by decide) (by rfl) (pa_cons (pe_prop (pv 0) RM.cl m_Map_plan g_Map_plan (hr.mono (by decide)) b_Map_plan .nil pass0 rfl) (pa_cons (pv 1) pa_nil))) (pg_tup rfl (pgs_cons (pg_name (i := 2) sc_sides_at.nd rfl (.inl rfl)) (pgs_cons (pg_name (i := 3) sc_sides_at.nd rfl (.inl rfl)) pgs_nil))))
      (pss_one (ps_ret (pe_tup (pa_cons (pe_meth (pe_prop (pv 0) RM.cl m_Map_east g_Map_east (hr.mono (by decide)) b_Map_east .nil pass0 rfl) RQ.cl m_Ratio_over g_Ratio_over (hr.mono (by decide)) b_Ratio_over .nil pass0 (pa_cons (pv 2) pa_nil)) (pa_cons (pe_meth (pe_prop (pv 0) RM.cl m_Map_north g_Map_north (hr.mono (by decide)) b_Map_north .nil pass0 rfl) RQ.cl m_Ratio_over g_Ratio_over (hr.mono (by decide)) b_Ratio_over .nil pass0 (pa_cons (pv 3) pa_nil)) pa_nil))))))), ?_⟩
    obtain ⟨dx, pp, re, rn, tc, h1, mi⟩ := id hm
    refine ⟨_, rfl, m, dx, _, rfl, h1, m, rfl, rs, le, ln, cl, hm, fun pp hpp => ⟨_, rfl, pp, rs, i, rfl, hpp, mi.ok, h1000, fun t H1 e1 ht => ?_⟩⟩
    refine ⟨t, _, rfl, SqT.of ht, rfl, _, _, rfl, _, _, rfl, rfl, ?_⟩
    have hm1' := hm.ext e1
    have cp := counts_pos mi.ok i
    have one2 : (1 : Int).natAbs < 2 ^ m2 := Nat.lt_of_lt_of_le (by decide) (Nat.pow_le_pow_right (n := 2) (by decide) (show 1 ≤ m2 from hm2))
    refine ⟨_, rfl, m, dx, _, rfl, e1 _ _ h1, m, rfl, rs, le, ln, cl, hm1', fun r1 hr1 => ?_⟩
    obtain ⟨d1, hd1⟩ := id hr1.2
    refine ⟨r1, d1, _, rfl, hd1, rfl, _, rfl, r1, _, le.1, le.2, _, 1, m1, m2, rfl, hr1, .inr ⟨rfl, rfl⟩, z1, z2, zc, one2, hm1, hm2, hmm, cp.1, fun s1 H2 e2 hs1 => ?_⟩
    have hm2' := hm1'.ext e2
    refine ⟨_, rfl, m, dx, _, rfl, e2 _ _ (e1 _ _ h1), m, rfl, rs, le, ln, cl, hm2', fun r2 hr2 => ?_⟩
    obtain ⟨d2, hd2⟩ := id hr2.2
    refine ⟨r2, d2, _, rfl, hd2, rfl, _, rfl, r2, _, ln.1, ln.2, _, 1, m1, m2, rfl, hr2, .inr ⟨rfl, rfl⟩, z3, z4, zd, one2, hm1, hm2, hmm, cp.2, fun s2 H3 e3 hs2 => ?_⟩
    rw [Int.mul_one] at hs1 hs2
    refine ⟨(by show 2 ≤ sizeLine; decide), fun t2 ht2 => ?_⟩
    have e4 := Ext.upd (H := H3) (o := .tup [.ref s1, .ref s2]) ht2
    exact k t2 s1 s2 _ (((e1.trans e2).trans e3).trans e4) upd_same (hs1.ext (e3.trans e4)) (hs2.ext e4)
end
end Mc

set_option Elab.async false
set_option linter.all false
set_option maxRecDepth 100000
set_option maxHeartbeats 4000000
set_option exponentiation.threshold 20000
namespace Mc
open PySem PySem.Spec PyProof.Rows L2 ClX StX
open RZ
/-- what the text says of Gauge -/
structure GaugeT (K : PySem.W.Frag) (mg : Str → Option Value) (U0 kX : Addr) : Prop where
  cl : Cls K U0
  nA : NoAttr K U0 "_area"
  nR : NoAttr K U0 "_reaches"
  nK : NoAttr K U0 "_kind"
  nT : NoAttr K U0 "_taken"
  nD : NoAttr K U0 "_reached"
  mgU : mg "Gauge" = some (.ref U0)
  kx : mg "KINDS" = some (.ref kX)
  kxK : ∀ H, SqT K H kX [.str "box", .str "sum"]
  kxT : ∃ o, K.lookup kX = some o ∧ o.cls = .type "tuple" ∧ o.dict = none
section
variable {P : Program} {w : World} {K : PySem.W.Frag} {mg : Str → Option Value} {base : Heap} {f U0 kX M0 R0 C0 aX : Addr} {mc : Value} {fd : FuncData}
/-- a kind by its first sign -/
def kdS (b : Bool) : Str := if b then "box" else "sum"
def kdI (b : Bool) : Nat := if b then 0 else 1
theorem kd_first (b : Bool) : ∀ m, m < kdI b → (["box", "sum"] : List Str)[m]? ≠ some (kdS b) := by
  intro m hm
  cases b with
  | true => exact absurd hm (Nat.not_lt_zero m)
  | false =>
    have e : m = 0 := by
      have : m < 1 := hm
      omega
    subst e
    decide +kernel
def flU (m tr : Addr) (b : Bool) (u v : V) : List (Str × V) := [("_area", .ref m), ("_reaches", .ref tr), ("_kind", .str (kdS b)), ("_taken", u), ("_reached", v)]
theorem putU1 (m : Addr) : putF "_area" (.ref m) [] = ([("_area", V.ref m)] : List (Str × V)) := rfl
theorem putU2 (m tr : Addr) : putF "_reaches" (.ref tr) [("_area", V.ref m)] = ([("_area", V.ref m), ("_reaches", .ref tr)] : List (Str × V)) := rfl
theorem putU3 (m tr : Addr) (b : Bool) : putF "_kind" (.str (kdS b)) [("_area", V.ref m), ("_reaches", .ref tr)] = ([("_area", V.ref m), ("_reaches", .ref tr), ("_kind", .str (kdS b))] : List (Str × V)) := rfl
theorem putU4 (m tr : Addr) (b : Bool) (u : V) : putF "_taken" u [("_area", V.ref m), ("_reaches", .ref tr), ("_kind", .str (kdS b))] = ([("_area", V.ref m), ("_reaches", .ref tr), ("_kind", .str (kdS b)), ("_taken", u)] : List (Str × V)) := rfl
theorem putU5 (m tr : Addr) (b : Bool) (u v : V) : putF "_reached" v [("_area", V.ref m), ("_reaches", .ref tr), ("_kind", .str (kdS b)), ("_taken", u)] = flU m tr b u v := rfl
theorem rat_nu {R0 U0 : Addr} {H : Hp} {re g dx : Addr} {a b : Int} {u : V} {fs : List (Str × V)} (h : RatV R0 H re a b) (hg : H g = some (.ins U0 dx (("_area", u) :: fs))) : re ∉ [g] := fun z => by
  obtain ⟨_, dr, e⟩ := h
  rw [List.mem_singleton.mp z, hg] at e
  have e2 := (HO.ins.inj (Option.some.inj e)).2.2
  have e3 := congrArg Prod.fst (List.cons.inj e2).1
  exact absurd (show ("_area" : Str) = "_top" from e3) (by decide +kernel)
/-- what a gauge is of: the rounds, the lengths, the closed axes, the reaches, the kind -/
structure GaugeM where
  rs : List (List Cut)
  le : Int × Int
  ln : Int × Int
  cl : List Bool
  re : Int × Int
  rn : Int × Int
  kd : Bool
structure GaugeIn (C0 R0 M0 : Addr) (H : Hp) (m tr r1 r2 : Addr) (g : GaugeM) : Prop where
  m : MapAt C0 R0 M0 H m g.rs g.le g.ln g.cl
  t : H tr = some (.tup [.ref r1, .ref r2])
  e : RatV R0 H r1 g.re.1 g.re.2
  n : RatV R0 H r2 g.rn.1 g.rn.2
  e0 : 0 < g.re.1
  n0 : 0 < g.rn.1
/-- a gauge stands at a -/
def GaugeAt (C0 R0 M0 U0 : Addr) (H : Hp) (a : Addr) (g : GaugeM) : Prop := ∃ dx m tr r1 r2 u v, H a = some (.ins U0 dx (flU m tr g.kd u v)) ∧ GaugeIn C0 R0 M0 H m tr r1 r2 g
/-- .. just made: nothing is taken yet -/
def GaugeNew (C0 R0 M0 U0 : Addr) (H : Hp) (a d : Addr) (g : GaugeM) : Prop := ∃ dx m tr r1 r2, H a = some (.ins U0 dx (flU m tr g.kd .non (.ref d))) ∧ GaugeIn C0 R0 M0 H m tr r1 r2 g ∧ H d = some (.dT [])
theorem GaugeNew.at {C0 R0 M0 U0 : Addr} {H : Hp} {a d : Addr} {g : GaugeM} (h : GaugeNew C0 R0 M0 U0 H a d g) : GaugeAt C0 R0 M0 U0 H a g := by
  obtain ⟨dx, m, tr, r1, r2, e, i, _⟩ := h
  exact ⟨dx, m, tr, r1, r2, _, _, e, i⟩
theorem GaugeIn.ext {C0 R0 M0 : Addr} {H H' : Hp} {m tr r1 r2 : Addr} {g : GaugeM} (h : GaugeIn C0 R0 M0 H m tr r1 r2 g) (x : Ext H H') : GaugeIn C0 R0 M0 H' m tr r1 r2 g := ⟨h.m.ext x, x _ _ h.t, h.e.ext x, h.n.ext x, h.e0, h.n0⟩
theorem GaugeAt.ext {C0 R0 M0 U0 : Addr} {H H' : Hp} {a : Addr} {g : GaugeM} (h : GaugeAt C0 R0 M0 U0 H a g) (x : Ext H H') : GaugeAt C0 R0 M0 U0 H' a g := by
  obtain ⟨dx, m, tr, r1, r2, u, v, e, i⟩ := h
  exact ⟨dx, m, tr, r1, r2, u, v, x _ _ e, i.ext x⟩
theorem sc_is_kind : FnScope ["value"] ["value"] (defScope s_is_kind) := ⟨rfl, rfl, rfl, by decide +kernel, rfl, by decide +kernel, by decide +kernel⟩
def spKind : Sp := fun vs H Q _ => ∃ b : Bool, vs = [.str (kdS b)] ∧ Q (.bl true) H
theorem ok_is_kind (F : FunD K "is_kind" "is_kind" (defArgs s_is_kind) (defBody s_is_kind) (defScope s_is_kind) [] [] f fd) (T : TB mg) (RU : GaugeT K mg U0 kX) : FnOk P w K mg base CX0 1 f fd ["value"] (spKind) := by
  refine F.ok sc_is_kind (fun vs H Q E h => ?_) (fun cdv A outer s H vs Q E hr h => ?_)
  · obtain ⟨b, rfl, k⟩ := h
    rfl
  · obtain ⟨b, rfl, k⟩ := h
    refine ⟨_, (PSs.nox (pss_one (ps_ret (pe_and (pe_callB call_isi (by rfl) T.isinstance (by decide +kernel) (pa_cons (pv 0) (pa_cons (pe_bltn (v := .ty "str") (by rfl) T.str (by decide +kernel) rfl) pa_nil))) (pe_one (pe_cmpR op_in_seq (pv 0) (pe_glob (v := .ref kX) (by rfl) RU.kx rfl) (by rfl))))))), ?_⟩
    refine ⟨_, rfl, .str _, _, _, _, true, rfl, .ty "str", .base (.str _), kit_ty (by decide +kernel), true, rfl, iteT ?_⟩
    refine ⟨_, rfl, kX, _, rfl, .inr (RU.kxK H), rfl, rfl, ?_⟩
    have e : inV (.str (kdS b)) [.str "box", .str "sum"] = true := by cases b <;> decide +kernel
    rw [e]
    exact k
theorem sc_check_kind : FnScope ["kind"] ["kind"] (defScope s_check_kind) := ⟨rfl, rfl, rfl, by decide +kernel, rfl, by decide +kernel, by decide +kernel⟩
def spChkKind : Sp := fun vs H Q _ => ∃ b : Bool, vs = [.str (kdS b)] ∧ Q .non H
theorem ok_check_kind (F : FunD K "check_kind" "check_kind" (defArgs s_check_kind) (defBody s_check_kind) (defScope s_check_kind) [] [] f fd) (T : TB mg) {fis_kind : Addr} {fdis_kind : FuncData} (Dis_kind : Gd P w K mg base "is_kind" 1 ["value"] (spKind) fis_kind fdis_kind) : FnOk P w K mg base CX0 2 f fd ["kind"] (spChkKind) := by
  refine F.ok sc_check_kind (fun vs H Q E h => ?_) (fun cdv A outer s H vs Q E hr h => ?_)
  · obtain ⟨b, rfl, k⟩ := h
    rfl
  · obtain ⟨b, rfl, k⟩ := h
    refine ⟨_, (PSs.nox (pss_one (ps_if (pt_not (pt_val (pe_gd Dis_kind hr (by decide) (by rfl) (pa_cons (pv 0) pa_nil)))) (pss_one ps_never) pss_nil))), ?_⟩
    exact ⟨_, rfl, b, rfl, _, rfl, iteF k⟩
theorem sc_is_reach : FnScope ["value"] ["value"] (defScope s_is_reach) := ⟨rfl, rfl, rfl, by decide +kernel, rfl, by decide +kernel, by decide +kernel⟩
def spReach (R0 : Addr) : Sp := fun vs H Q _ => ∃ (x : V) (a b : Int) (m : Nat), vs = [x] ∧ NumV R0 H x a b ∧ 0 < a ∧ a ≤ b ∧ a.natAbs < 2 ^ m ∧ b.natAbs < 2 ^ m ∧ 0 < m ∧ m ≤ 4000 ∧ ∀ H', Ext H H' → Q (.bl true) H'
theorem ok_is_reach (F : FunD K "_is_reach" "_is_reach" (defArgs s_is_reach) (defBody s_is_reach) (defScope s_is_reach) [] [] f fd) (T : TB mg) (RQ : RatT K mg R0) {fis_above_0 : Addr} {fdis_above_0 : FuncData} (Dis_above_0 : Gd P w K mg base "is_above_0" 5 ["value"] (spAboveR R0) fis_above_0 fdis_above_0) {fI : Addr} {fdI : FuncData} {dsI : List Value} (MI : Mk K R0 fI) (GI : FnOk P w K mg base CX0 2 fI fdI ["self", "top", "bottom"] (spInitR R0)) (bI2 : Binds K fdI ["self", "top", "bottom"] []) (hdI : Vals [.int 1] dsI) (bI1 : Binds K fdI ["self", "top", "bottom"] dsI) {f_Ratio_is_below : Addr} {fd_Ratio_is_below : FuncData} (m_Ratio_is_below : Meth K R0 "is_below" f_Ratio_is_below) (g_Ratio_is_below : FnOk P w K mg base CX0 5 f_Ratio_is_below fd_Ratio_is_below ["self", "other"] (spBelowR R0)) (b_Ratio_is_below : Binds K fd_Ratio_is_below ["self", "other"] []) : FnOk P w K mg base CX0 6 f fd ["value"] (spReach R0) := by
  refine F.ok sc_is_reach (fun vs H Q E h => ?_) (fun cdv A outer s H vs Q E hr h => ?_)
  · obtain ⟨x, a, b, m, rfl, hx, h0, hab, za, zb, hm, hmm, k⟩ := h
    rfl
  · obtain ⟨x, a, b, m, rfl, hx, h0, hab, za, zb, hm, hmm, k⟩ := h
    refine ⟨_, (PSs.nox (pss_one (ps_ret (pe_and (pe_gd Dis_above_0 hr (by decide) (by rfl) (pa_cons (pv 0) pa_nil)) (pe_one (pe_not (pe_meth (pe_make MI GI (hr.mono (by decide)) (by rfl) RQ.mgR bI1 hdI pass0 (pa_cons pe_int pa_nil)) RQ.cl m_Ratio_is_below g_Ratio_is_below (hr.mono (by decide)) b_Ratio_is_below .nil pass0 (pa_cons (pv 0) pa_nil)))))))), ?_⟩
    refine ⟨_, rfl, x, a, b, rfl, hx, fun H1 e1 => ?_⟩
    rw [decide_eq_true h0]
    refine ⟨_, rfl, iteT ?_⟩
    refine fun q dq hq hdq ne => ⟨q, dq, 1, 1, rfl, upd_same, by decide, by decide, fun H2 F2 h2 => ⟨rfl, ?_⟩⟩
    have e2 := made_ext hq hdq F2
    have one2 : (1 : Int).natAbs < 2 ^ m := Nat.lt_of_lt_of_le (by decide) (Nat.pow_le_pow_right (n := 2) (by decide) (show 1 ≤ m from hm))
    refine ⟨q, dq, _, rfl, h2, rfl, _, rfl, q, x, 1, 1, a, b, m, m, rfl, ⟨by decide, dq, h2⟩, (hx.ext (e1.trans e2)), one2, one2, za, zb, hm, hm, by omega, fun H3 e3 => ?_⟩
    rw [decide_eq_false (by omega)]
    exact ⟨_, rfl, k H3 ((e1.trans e2).trans e3)⟩
theorem sc_check_reaches : FnScope ["east", "north", "reach"] ["east", "north"] (defScope s_check_reaches) := ⟨rfl, rfl, rfl, by decide +kernel, rfl, by decide +kernel, by decide +kernel⟩
def spChkReaches (R0 : Addr) : Sp := fun vs H Q _ => ∃ (x y : V) (re rn : Int × Int) (m : Nat), vs = [x, y] ∧ NumV R0 H x re.1 re.2 ∧ NumV R0 H y rn.1 rn.2 ∧ 0 < re.1 ∧ re.1 ≤ re.2 ∧ 0 < rn.1 ∧ rn.1 ≤ rn.2 ∧ re.1.natAbs < 2 ^ m ∧ re.2.natAbs < 2 ^ m ∧ rn.1.natAbs < 2 ^ m ∧ rn.2.natAbs < 2 ^ m ∧ 0 < m ∧ m ≤ 4000 ∧ ∀ H', Ext H H' → Q .non H'
theorem ok_check_reaches (F : FunD K "_check_reaches" "_check_reaches" (defArgs s_check_reaches) (defBody s_check_reaches) (defScope s_check_reaches) [] [] f fd) (T : TB mg) {fis_reach : Addr} {fdis_reach : FuncData} (Dis_reach : Gd P w K mg base "_is_reach" 6 ["value"] (spReach R0) fis_reach fdis_reach) : FnOk P w K mg base CX0 7 f fd ["east", "north"] (spChkReaches R0) := by
  refine F.ok sc_check_reaches (fun vs H Q E h => ?_) (fun cdv A outer s H vs Q E hr h => ?_)
  · obtain ⟨x, y, re, rn, m, rfl, hx, hy, p1, p2, p3, p4, z1, z2, z3, z4, hm, hmm, k⟩ := h
    rfl
  · obtain ⟨x, y, re, rn, m, rfl, hx, hy, p1, p2, p3, p4, z1, z2, z3, z4, hm, hmm, k⟩ := h
    refine ⟨_, (PSs.nox (pss_one (ps_for PassesOwn.never rfl (pi_tup (pe_tup (pa_cons (pv 0) (pa_cons (pv 1) pa_nil)))) (pg_name (i := 2) sc_check_reaches.nd rfl (.inl rfl)) (pss_one (ps_if (pt_not (pt_val (pe_gd Dis_reach hr (by decide) (by rfl) (pa_cons (pv 2) pa_nil)))) (pss_one ps_never) pss_nil))))), ?_⟩
    refine ⟨_, rfl, _, rfl, (by show 2 ≤ sizeLine; decide), fun t ht => ?_⟩
    have e1 : Ext H (upd H t (.tup [x, y])) := Ext.upd ht
    have ht1 : (upd H t (.tup [x, y])) t = some (.tup [x, y]) := upd_same
    generalize upd H t (.tup [x, y]) = H1 at *
    refine ⟨t, rfl, ⟨_, SqT.of ht1⟩, for_walk walk_t (fun i σ H' => ∃ u, σ = [some x, some y, u] ∧ Ext H1 H') ⟨none, rfl, Ext.rfl'⟩ (fun _ _ _ ⟨_, _, e⟩ => SqT.of (e _ _ ht1)) ?_ ?_⟩
    · rintro i z σ H' hz ⟨u, rfl, e⟩
      have hz : ∃ c d, NumV R0 H' z c d ∧ 0 < c ∧ c ≤ d ∧ c.natAbs < 2 ^ m ∧ d.natAbs < 2 ^ m := by
        match i, hz with
        | 0, hz => cases hz; exact ⟨_, _, hx.ext (e1.trans e), p1, p2, z1, z2⟩
        | 1, hz => cases hz; exact ⟨_, _, hy.ext (e1.trans e), p3, p4, z3, z4⟩
      obtain ⟨c, d, hz, hc, hcd, s1, s2⟩ := hz
      exact ⟨_, rfl, z, c, d, m, rfl, hz, hc, hcd, s1, s2, hm, hmm, fun H2 e2 => ⟨_, rfl, iteF ⟨_, rfl, e.trans e2⟩⟩⟩
    rintro σ H2 ⟨u, rfl, e2⟩
    exact k H2 (e1.trans e2)
theorem sc_Gauge___init : FnScope ["self", "area", "east", "north", "kind"] ["self", "area", "east", "north", "kind"] (defScope s_Gauge___init) := ⟨rfl, rfl, rfl, by decide +kernel, rfl, by decide +kernel, by decide +kernel⟩
def spGaugeI (C0 R0 M0 U0 : Addr) : Sp := fun vs H Q _ => ∃ (g dx m : Addr) (x y : V) (H0 : Hp) (gm : GaugeM) (mm : Nat), vs = [.ref g, .ref m, x, y, .str (kdS gm.kd)] ∧ H g = some (.ins U0 dx []) ∧ Ext H0 H ∧ H0 g = none ∧ MapAt C0 R0 M0 H0 m gm.rs gm.le gm.ln gm.cl ∧ NumV R0 H0 x gm.re.1 gm.re.2 ∧ NumV R0 H0 y gm.rn.1 gm.rn.2 ∧
  0 < gm.re.1 ∧ gm.re.1 ≤ gm.re.2 ∧ 0 < gm.rn.1 ∧ gm.rn.1 ≤ gm.rn.2 ∧ gm.re.1.natAbs < 2 ^ mm ∧ gm.re.2.natAbs < 2 ^ mm ∧ gm.rn.1.natAbs < 2 ^ mm ∧ gm.rn.2.natAbs < 2 ^ mm ∧ 0 < mm ∧ mm ≤ 4000 ∧ ∀ d H', Frm [g] H H' → Ext H0 H' → H0 d = none → GaugeNew C0 R0 M0 U0 H' g d gm → Q .non H'
theorem ok_Gauge___init (F : FunD K "__init__" "Gauge.__init__" (defArgs s_Gauge___init) (defBody s_Gauge___init) (defScope s_Gauge___init) [] [] f fd) (T : TB mg) (RU : GaugeT K mg U0 kX) {fcheck_area : Addr} {fdcheck_area : FuncData} (Dcheck_area : Gd P w K mg base "check_area" 1 ["area"] (spChkArea C0 R0 M0) fcheck_area fdcheck_area) {fcheck_reaches : Addr} {fdcheck_reaches : FuncData} (Dcheck_reaches : Gd P w K mg base "_check_reaches" 7 ["east", "north"] (spChkReaches R0) fcheck_reaches fdcheck_reaches) {fcheck_kind : Addr} {fdcheck_kind : FuncData} (Dcheck_kind : Gd P w K mg base "check_kind" 2 ["kind"] (spChkKind) fcheck_kind fdcheck_kind) {fas_ratio : Addr} {fdas_ratio : FuncData} (Das_ratio : Gd P w K mg base "as_ratio" 4 ["value"] (spAsR R0) fas_ratio fdas_ratio) : FnOk P w K mg base CX0 8 f fd ["self", "area", "east", "north", "kind"] (spGaugeI C0 R0 M0 U0) := by
  refine F.ok sc_Gauge___init (fun vs H Q E h => ?_) (fun cdv A outer s H vs Q E hr h => ?_)
  · obtain ⟨g, dx, m, x, y, H0, gm, mm, rfl, hg, e0, hg0, hm, hx, hy, p1, p2, p3, p4, z1, z2, z3, z4, hm1, hm2, k⟩ := h
    rfl
  · obtain ⟨g, dx, m, x, y, H0, gm, mm, rfl, hg, e0, hg0, hm, hx, hy, p1, p2, p3, p4, z1, z2, z3, z4, hm1, hm2, k⟩ := h
    refine ⟨_, (PSs.nox (pss_cons (ps_expr (pe_gd Dcheck_area hr (by decide) (by rfl) (pa_cons (pv 1) pa_nil)))
      (pss_cons (ps_expr (pe_gd Dcheck_reaches hr (by decide) (by rfl) (pa_cons (pv 2) (pa_cons (pv 3) pa_nil))))
      (pss_cons (ps_expr (pe_gd Dcheck_kind hr (by decide) (by rfl) (pa_cons (pv 4) pa_nil)))
      (pss_cons (ps_fld (pv 0) (pv 1) rfl)
      (pss_cons (ps_fld (pv 0) (pe_tup (pa_cons (pe_gd Das_ratio hr (by decide) (by rfl) (pa_cons (pv 2) pa_nil)) (pa_cons (pe_gd Das_ratio hr (by decide) (by rfl) (pa_cons (pv 3) pa_nil)) pa_nil))) rfl)
      (pss_cons (ps_fld (pv 0) (pe_ix (ix_seqK (K := K) rfl) (pe_glob (v := .ref kX) (by rfl) RU.kx rfl) (pe_bmK (K := K) rfl PySem.F.plainAttrs_tuple PySem.F.slot_tuple_index PySem.F.type_tuple_index (mt_tupK rfl) (pe_glob (v := .ref kX) (by rfl) RU.kx rfl) (pa_cons (pv 4) pa_nil)) (fun _ _ => rfl)) rfl)
      (pss_cons (ps_fld (pv 0) pe_non rfl)
      (pss_one (ps_fld (pv 0) pe_dnewT rfl)))))))))), ?_⟩
    refine ⟨_, rfl, m, _, _, _, _, rfl, hm.ext e0, _, rfl, _, rfl, x, y, gm.re, gm.rn, mm, rfl, hx.ext e0, hy.ext e0, p1, p2, p3, p4, z1, z2, z3, z4, hm1, hm2, fun H3 e3 => ⟨_, rfl, gm.kd, rfl, ?_⟩⟩
    have hg3 : H3 g = some (.ins U0 dx []) := e3 _ _ hg
    have e03 := e0.trans e3
    have f03 : Frm [g] H H3 := Frm.ext e3
    clear e3 hg
    refine ⟨_, rfl, _, rfl, g, U0, dx, [], rfl, hg3, RU.cl, RU.nA, (by show 0 < 1000; decide), ?_⟩
    rw [putU1]
    have e04 : Ext H0 (upd H3 g (.ins U0 dx [("_area", .ref m)])) := ext_put e03 hg0
    have hg4 : (upd H3 g (.ins U0 dx [("_area", .ref m)])) g = some (.ins U0 dx [("_area", .ref m)]) := upd_same
    have f04 : Frm [g] H (upd H3 g (.ins U0 dx [("_area", .ref m)])) := f03.trans (Frm.put (List.mem_singleton.mpr rfl))
    generalize upd H3 g (.ins U0 dx [("_area", .ref m)]) = H4 at *
    refine ⟨_, rfl, x, _, _, rfl, hx.ext e04, fun r1 H5 e5 h1 => ⟨_, rfl, y, _, _, rfl, hy.ext (e04.trans e5), fun r2 H6 e6 h2 => ⟨(by show 2 ≤ sizeLine; decide), fun tr htr => ?_⟩⟩⟩
    have e7 := Ext.upd (H := H6) (o := .tup [.ref r1, .ref r2]) htr
    have t7 : (upd H6 tr (.tup [.ref r1, .ref r2])) tr = some (.tup [.ref r1, .ref r2]) := upd_same
    have h17 := h1.ext (e6.trans e7)
    have h27 := h2.ext e7
    generalize upd H6 tr (.tup [.ref r1, .ref r2]) = H7 at *
    have hg7 := e7 _ _ (e6 _ _ (e5 _ _ hg4))
    have e07 := ((e04.trans e5).trans e6).trans e7
    have f07 := ((f04.trans (Frm.ext e5)).trans (Frm.ext e6)).trans (Frm.ext e7)
    refine ⟨_, rfl, g, U0, dx, _, rfl, hg7, RU.cl, RU.nR, (by show 1 < 1000; decide), ?_⟩
    rw [putU2]
    have f8 : Frm [g] H7 (upd H7 g (.ins U0 dx [("_area", .ref m), ("_reaches", .ref tr)])) := Frm.put (List.mem_singleton.mpr rfl)
    have nt : tr ∉ [g] := fun z => by
      rw [List.mem_singleton.mp z, hg7] at t7
      cases t7
    have g8 : (upd H7 g (.ins U0 dx [("_area", .ref m), ("_reaches", .ref tr)])) g = some (.ins U0 dx [("_area", .ref m), ("_reaches", .ref tr)]) := upd_same
    have t8 := f8 _ _ t7 nt
    have h18 := h17.frm f8 (rat_nu h17 hg7)
    have h28 := h27.frm f8 (rat_nu h27 hg7)
    have e08 : Ext H0 (upd H7 g (.ins U0 dx [("_area", .ref m), ("_reaches", .ref tr)])) := ext_put e07 hg0
    have f08 := f07.trans f8
    generalize upd H7 g (.ins U0 dx [("_area", .ref m), ("_reaches", .ref tr)]) = H8 at *
    clear f8 h17 h27 t7 hg7 f07 e07 f04 e04 hg4
    refine ⟨.inr (.inl ⟨rfl, RU.kxT⟩), _, rfl, kX, ["box", "sum"], kdS gm.kd, kdI gm.kd, rfl, rfl, RU.kxK _, by cases gm.kd <;> rfl, kd_first _, .inr (.inl ⟨kX, _, _, .str (kdS gm.kd), rfl, rfl, RU.kxK _, atI_nat (by cases gm.kd <;> rfl), _, rfl, g, U0, dx, _, rfl, g8, RU.cl, RU.nK, (by show 2 < 1000; decide), ?_⟩)⟩
    rw [putU3]
    refine ⟨_, rfl, g, U0, dx, _, rfl, upd_same, RU.cl, RU.nT, (by show 3 < 1000; decide), ?_⟩
    rw [putU4, upd_upd]
    have f9 : Frm [g] H8 (upd H8 g (.ins U0 dx [("_area", .ref m), ("_reaches", .ref tr), ("_kind", .str (kdS gm.kd)), ("_taken", .non)])) := Frm.put (List.mem_singleton.mpr rfl)
    have t9 := f9 _ _ t8 nt
    have h19 := h18.frm f9 (rat_nu h18 g8)
    have h29 := h28.frm f9 (rat_nu h28 g8)
    have g9 : (upd H8 g (.ins U0 dx [("_area", .ref m), ("_reaches", .ref tr), ("_kind", .str (kdS gm.kd)), ("_taken", .non)])) g = some (.ins U0 dx [("_area", .ref m), ("_reaches", .ref tr), ("_kind", .str (kdS gm.kd)), ("_taken", .non)]) := upd_same
    have e09 : Ext H0 (upd H8 g (.ins U0 dx [("_area", .ref m), ("_reaches", .ref tr), ("_kind", .str (kdS gm.kd)), ("_taken", .non)])) := ext_put e08 hg0
    have f09 := f08.trans f9
    generalize upd H8 g (.ins U0 dx [("_area", .ref m), ("_reaches", .ref tr), ("_kind", .str (kdS gm.kd)), ("_taken", .non)]) = H9 at *
    refine fun d hd => ⟨_, rfl, g, U0, dx, _, rfl, (Ext.upd hd) _ _ g9, RU.cl, RU.nD, (by show 4 < 1000; decide), ?_⟩
    rw [putU5]
    have ed := Ext.upd (H := H9) (o := .dT []) hd
    have fa : Frm [g] (upd H9 d (.dT [])) (upd (upd H9 d (.dT [])) g (.ins U0 dx (flU m tr gm.kd .non (.ref d)))) := Frm.put (List.mem_singleton.mpr rfl)
    refine k d _ ((f09.trans (Frm.ext ed)).trans fa) (ext_put (e09.trans ed) hg0) (by cases z : H0 d with | none => rfl | some o => rw [e09 _ _ z] at hd; cases hd) ⟨dx, m, tr, r1, r2, upd_same, ⟨hm.ext (ext_put (e09.trans ed) hg0), fa _ _ (ed _ _ t9) nt, (h19.ext ed).frm fa (rat_nu (h19.ext ed) (ed _ _ g9)), (h29.ext ed).frm fa (rat_nu (h29.ext ed) (ed _ _ g9)), p1, p3⟩, fa _ _ upd_same (fun z => by rw [List.mem_singleton.mp z, g9] at hd; cases hd)⟩
theorem sc_Gauge_area : FnScope ["self"] ["self"] (defScope s_Gauge_area) := ⟨rfl, rfl, rfl, by decide +kernel, rfl, by decide +kernel, by decide +kernel⟩
def spGArea (C0 R0 M0 U0 : Addr) : Sp := fun vs H Q _ => ∃ (a : Addr) (g : GaugeM), vs = [.ref a] ∧ GaugeAt C0 R0 M0 U0 H a g ∧ ∀ m, MapAt C0 R0 M0 H m g.rs g.le g.ln g.cl → Q (.ref m) H
def spGReaches (C0 R0 M0 U0 : Addr) : Sp := fun vs H Q _ => ∃ (a : Addr) (g : GaugeM), vs = [.ref a] ∧ GaugeAt C0 R0 M0 U0 H a g ∧ ∀ t r1 r2, H t = some (.tup [.ref r1, .ref r2]) → RatV R0 H r1 g.re.1 g.re.2 → RatV R0 H r2 g.rn.1 g.rn.2 → Q (.ref t) H
theorem ok_Gauge_area (F : FunD K "area" "Gauge.area" (defArgs s_Gauge_area) (defBody s_Gauge_area) (defScope s_Gauge_area) [] [] f fd) (T : TB mg) (RU : GaugeT K mg U0 kX) : FnOk P w K mg base CX0 1 f fd ["self"] (spGArea C0 R0 M0 U0) := by
  refine F.ok sc_Gauge_area (fun vs H Q E h => ?_) (fun cdv A outer s H vs Q E hr h => ?_)
  · obtain ⟨a, g, rfl, ⟨dx, m, tr, r1, r2, u, v, ha, gi⟩, k⟩ := h
    rfl
  · obtain ⟨a, g, rfl, ⟨dx, m, tr, r1, r2, u, v, ha, gi⟩, k⟩ := h
    refine ⟨_, (PSs.nox (pss_one (ps_ret (pe_fld (pv 0) rfl)))), ?_⟩
    exact ⟨_, rfl, a, U0, dx, _, _, rfl, ha, RU.cl, RU.nA, rfl, k m gi.m⟩
theorem sc_Gauge_reaches : FnScope ["self"] ["self"] (defScope s_Gauge_reaches) := ⟨rfl, rfl, rfl, by decide +kernel, rfl, by decide +kernel, by decide +kernel⟩
theorem ok_Gauge_reaches (F : FunD K "reaches" "Gauge.reaches" (defArgs s_Gauge_reaches) (defBody s_Gauge_reaches) (defScope s_Gauge_reaches) [] [] f fd) (T : TB mg) (RU : GaugeT K mg U0 kX) : FnOk P w K mg base CX0 1 f fd ["self"] (spGReaches C0 R0 M0 U0) := by
  refine F.ok sc_Gauge_reaches (fun vs H Q E h => ?_) (fun cdv A outer s H vs Q E hr h => ?_)
  · obtain ⟨a, g, rfl, ⟨dx, m, tr, r1, r2, u, v, ha, gi⟩, k⟩ := h
    rfl
  · obtain ⟨a, g, rfl, ⟨dx, m, tr, r1, r2, u, v, ha, gi⟩, k⟩ := h
    refine ⟨_, (PSs.nox (pss_one (ps_ret (pe_fld (pv 0) rfl)))), ?_⟩
    exact ⟨_, rfl, a, U0, dx, _, _, rfl, ha, RU.cl, RU.nR, rfl, k tr r1 r2 gi.t gi.e gi.n⟩
theorem sc_Gauge_kind : FnScope ["self"] ["self"] (defScope s_Gauge_kind) := ⟨rfl, rfl, rfl, by decide +kernel, rfl, by decide +kernel, by decide +kernel⟩
def spGKind (C0 R0 M0 U0 : Addr) : Sp := fun vs H Q _ => ∃ (a : Addr) (g : GaugeM), vs = [.ref a] ∧ GaugeAt C0 R0 M0 U0 H a g ∧ Q (.str (kdS g.kd)) H
theorem ok_Gauge_kind (F : FunD K "kind" "Gauge.kind" (defArgs s_Gauge_kind) (defBody s_Gauge_kind) (defScope s_Gauge_kind) [] [] f fd) (T : TB mg) (RU : GaugeT K mg U0 kX) : FnOk P w K mg base CX0 1 f fd ["self"] (spGKind C0 R0 M0 U0) := by
  refine F.ok sc_Gauge_kind (fun vs H Q E h => ?_) (fun cdv A outer s H vs Q E hr h => ?_)
  · obtain ⟨a, g, rfl, ⟨dx, m, tr, r1, r2, u, v, ha, gi⟩, k⟩ := h
    rfl
  · obtain ⟨a, g, rfl, ⟨dx, m, tr, r1, r2, u, v, ha, gi⟩, k⟩ := h
    refine ⟨_, (PSs.nox (pss_one (ps_ret (pe_fld (pv 0) rfl)))), ?_⟩
    exact ⟨_, rfl, a, U0, dx, _, _, rfl, ha, RU.cl, RU.nK, rfl, k⟩
theorem sc_greatest_at : FnScope ["gauge", "f", "sides", "east", "north", "side", "reach"] ["gauge", "f"] (defScope s_greatest_at) := ⟨rfl, rfl, rfl, by decide +kernel, rfl, by decide +kernel, by decide +kernel⟩
/-- the greatest distance of a fineness, as a fraction -/
def gtE (g : GaugeM) (i : Nat) : Int × Int := (g.le.1 * g.re.1, g.le.2 * (countsF g.rs i).1 * g.re.2)
def gtN (g : GaugeM) (i : Nat) : Int × Int := (g.ln.1 * g.rn.1, g.ln.2 * (countsF g.rs i).2 * g.rn.2)
def gtF (g : GaugeM) (i : Nat) : Int × Int := if (gtN g i).1 * (gtE g i).2 < (gtE g i).1 * (gtN g i).2 then gtN g i else gtE g i
def spGreatest (C0 R0 M0 U0 : Addr) : Sp := fun vs H Q _ => ∃ (a : Addr) (g : GaugeM) (i m1 m2 : Nat), vs = [.ref a, .int i] ∧ GaugeAt C0 R0 M0 U0 H a g ∧ i ≤ 1000 ∧
  g.le.1.natAbs < 2 ^ m1 ∧ g.le.2.natAbs < 2 ^ m1 ∧ g.ln.1.natAbs < 2 ^ m1 ∧ g.ln.2.natAbs < 2 ^ m1 ∧ g.re.1.natAbs < 2 ^ m1 ∧ g.re.2.natAbs < 2 ^ m1 ∧ g.rn.1.natAbs < 2 ^ m1 ∧ g.rn.2.natAbs < 2 ^ m1 ∧
  (countsF g.rs i).1.natAbs < 2 ^ m2 ∧ (countsF g.rs i).2.natAbs < 2 ^ m2 ∧ 0 < m1 ∧ 0 < m2 ∧ 2 * m1 + m2 ≤ 4000 ∧
  ∀ q H', Ext H H' → RatV R0 H' q (gtF g i).1 (gtF g i).2 → Q (.ref q) H'
theorem ok_greatest_at (F : FunD K "greatest_at" "greatest_at" (defArgs s_greatest_at) (defBody s_greatest_at) (defScope s_greatest_at) [] [] f fd) (T : TB mg) (RU : GaugeT K mg U0 kX) {p_Gauge_area f_Gauge_area : Addr} {fd_Gauge_area : FuncData} (m_Gauge_area : PropOf K U0 "area" p_Gauge_area f_Gauge_area) (g_Gauge_area : FnOk P w K mg base CX0 1 f_Gauge_area fd_Gauge_area ["self"] (spGArea C0 R0 M0 U0)) (b_Gauge_area : Binds K fd_Gauge_area ["self"] []) {p_Gauge_reaches f_Gauge_reaches : Addr} {fd_Gauge_reaches : FuncData} (m_Gauge_reaches : PropOf K U0 "reaches" p_Gauge_reaches f_Gauge_reaches) (g_Gauge_reaches : FnOk P w K mg base CX0 1 f_Gauge_reaches fd_Gauge_reaches ["self"] (spGReaches C0 R0 M0 U0)) (b_Gauge_reaches : Binds K fd_Gauge_reaches ["self"] []) {fsides_at : Addr} {fdsides_at : FuncData} (Dsides_at : Gd P w K mg base "sides_at" 7 ["area", "f"] (spSides C0 R0 M0) fsides_at fdsides_at) {fsmaller : Addr} {fdsmaller : FuncData} (Dsmaller : Gd P w K mg base "smaller" 6 ["one", "other"] (spSmaller R0) fsmaller fdsmaller) {f_Ratio___mul__ : Addr} {fd_Ratio___mul__ : FuncData} (o_Ratio___mul__ : OwnB K R0 "mul" f_Ratio___mul__) (g_Ratio___mul__ : FnOk P w K mg base CX0 5 f_Ratio___mul__ fd_Ratio___mul__ ["self", "other"] (spMulR R0)) (b_Ratio___mul__ : Binds K fd_Ratio___mul__ ["self", "other"] []) : FnOk P w K mg base CX0 8 f fd ["gauge", "f"] (spGreatest C0 R0 M0 U0) := by
  refine F.ok sc_greatest_at (fun vs H Q E h => ?_) (fun cdv A outer s H vs Q E hr h => ?_)
  · obtain ⟨a, g, i, m1, m2, rfl, hg, h1000, z1, z2, z3, z4, y1, y2, y3, y4, zc, zd, hm1, hm2, hmm, k⟩ := h
    rfl
  · obtain ⟨a, g, i, m1, m2, rfl, hg, h1000, z1, z2, z3, z4, y1, y2, y3, y4, zc, zd, hm1, hm2, hmm, k⟩ := h
    refine ⟨_, (PSs.nox (pss_cons (ps_set (i := 2) sc_greatest_at.nd rfl (.inl rfl) (pe_gd Dsides_at hr (by decide) (by rfl) (pa_cons (pe_prop (pv 0) RU.cl m_Gauge_area g_Gauge_area (hr.mono (by decide)) b_Gauge_area .nil pass0 rfl) (pa_cons (pv 1) pa_nil))))
      (pss_cons (ps_asg (pe_lc (own := [("side", 5), ("reach", 6)]) (g := gTup K 2 (gCons (gName 5) (gCons (gName 6) gNil))) (tt := tYes) rfl sc_greatest_at.nd (pi_zipA (by rfl) T.zip (pa_cons (pv 2) (pa_cons (pe_prop (pv 0) RU.cl m_Gauge_reaches g_Gauge_reaches (hr.mono (by decide)) b_Gauge_reaches .nil pass0 rfl) pa_nil))) (blkOk_by (own := [("side", 5), ("reach", 6)]) (N := ["gauge", "f", "sides", "east", "north", "side", "reach"]) (sc := defScope s_greatest_at) (by decide +kernel)) (fun _ _ _ _ _ => (pg_tup rfl (pgs_cons (pg_name (i := 5) sc_greatest_at.nd rfl (.inl rfl)) (pgs_cons (pg_name (i := 6) sc_greatest_at.nd rfl (.inl rfl)) pgs_nil)))) (fun _ _ _ _ _ => pts_nil) (fun _ _ _ _ _ => (pe_op (op_binO o_Ratio___mul__ g_Ratio___mul__ b_Ratio___mul__ (hr.mono (by decide))) (pv 5) (pv 6)))) (pg_unl rfl (pgs_cons (pg_name (i := 3) sc_greatest_at.nd rfl (.inl rfl)) (pgs_cons (pg_name (i := 4) sc_greatest_at.nd rfl (.inl rfl)) pgs_nil))))
      (pss_one (ps_ret (pe_gd Dsmaller hr (by decide) (by rfl) (pa_cons (pv 3) (pa_cons (pv 4) pa_nil)))))))), ?_⟩
    obtain ⟨dx, m, tr, r1, r2, u, v, ha, gi⟩ := id hg
    refine ⟨_, rfl, a, dx, _, rfl, ha, a, g, rfl, hg, fun m hm => ⟨_, rfl, m, g.rs, g.le, g.ln, g.cl, i, m1, m2, rfl, hm, h1000, z1, z2, z3, z4, zc, zd, hm1, hm2, by omega, fun t s1 s2 H1 e1 ht hs1 hs2 => ?_⟩⟩
    have hg1 := hg.ext e1
    obtain ⟨dx, m, tr, r1, r2, u, v, ha1, gi1⟩ := id hg1
    refine ⟨_, rfl, _, rfl, a, dx, _, rfl, ha1, a, g, rfl, hg1, fun tq q1 q2 htq hq1 hq2 => ?_⟩
    have w1 := wide_lt z2 zc
    have w2 := wide_lt z4 zd
    have up1 : ∀ {x : Int}, x.natAbs < 2 ^ m1 → x.natAbs < 2 ^ (m1 + m2) := fun h => Nat.lt_of_lt_of_le h (Nat.pow_le_pow_right (by decide) (by omega))
    refine ⟨t, tq, [.ref s1, .ref s2], [.ref q1, .ref q2], rfl, .inr ⟨SqT.of ht, SqT.of htq, fun D hD => lc_zipT (xs := [.ref s1, .ref s2]) (ys := [.ref q1, .ref q2]) rfl (fun j H' => ∃ ps : List Addr, H' D = some (.lst (ps.map V.ref)) ∧ ps.length = j ∧ (∀ p, ps[0]? = some p → RatV R0 H' p (gtE g i).1 (gtE g i).2) ∧ (∀ p, ps[1]? = some p → RatV R0 H' p (gtN g i).1 (gtN g i).2) ∧ Ext H1 H') ⟨[], upd_same, rfl, fun _ z => (nomatch z), fun _ z => (nomatch z), Ext.upd hD⟩ (fun _ _ ⟨_, _, _, _, _, e⟩ => ⟨SqT.of (e _ _ ht), SqT.of (e _ _ htq)⟩) ?_ ?_⟩⟩
    · rintro j x y T2 H' hx hy hT ⟨ps, d1, d2, d3, d4, e⟩
      have key : ∃ (s q : Addr) (a b c d : Int), x = .ref s ∧ y = .ref q ∧ RatV R0 H' s a b ∧ RatV R0 H' q c d ∧ a.natAbs < 2 ^ (m1 + m2) ∧ b.natAbs < 2 ^ (m1 + m2) ∧ c.natAbs < 2 ^ m1 ∧ d.natAbs < 2 ^ m1 ∧ ((j = 0 ∧ (a * c, b * d) = gtE g i) ∨ (j = 1 ∧ (a * c, b * d) = gtN g i)) := by
        match j, hx, hy with
        | 0, hx, hy => cases hx; cases hy; exact ⟨_, _, _, _, _, _, rfl, rfl, hs1.ext e, hq1.ext e, up1 z1, w1, y1, y2, .inl ⟨rfl, rfl⟩⟩
        | 1, hx, hy => cases hx; cases hy; exact ⟨_, _, _, _, _, _, rfl, rfl, hs2.ext e, hq2.ext e, up1 z3, w2, y3, y4, .inr ⟨rfl, rfl⟩⟩
      obtain ⟨s, q, a, b, c, d, rfl, rfl, hs, hq, za, zb, zc, zd, hj⟩ := key
      have eT : Ext H' (upd H' T2 (.tup [.ref s, .ref q])) := Ext.upd hT
      have hT2 : (upd H' T2 (.tup [.ref s, .ref q])) T2 = some (.tup [.ref s, .ref q]) := upd_same
      have hDT : (upd H' T2 (.tup [.ref s, .ref q])) D = some (.lst (ps.map V.ref)) := eT _ _ d1
      generalize upd H' T2 (.tup [.ref s, .ref q]) = H2 at *
      have hs2' := hs.ext eT
      have hq2' := hq.ext eT
      obtain ⟨ds, hds⟩ := id hs2'.2
      obtain ⟨dq, hdq⟩ := id hq2'.2
      refine ⟨T2, _, rfl, SqT.of hT2, rfl, _, _, rfl, _, _, rfl, rfl, rfl, lc_yes ⟨_, rfl, _, rfl, s, ds, _, rfl, hds, .inl ⟨q, dq, _, rfl, hdq⟩, s, _, a, b, c, d, m1 + m2, m1, rfl, hs2', .inl ⟨q, rfl, hq2'⟩, za, zb, zc, zd, by omega, hm1, by omega, fun p H3 e3 hp => ⟨p, rfl, _, e3 _ _ hDT, ?_, ps ++ [p], ?_, ?_, ?_, ?_, ?_⟩⟩⟩
      · rw [List.length_map, d2, sizeLine_eq]
        have := (List.getElem?_eq_some_iff.mp hx).1
        have : j < 2 := this
        omega
      · rw [upd_same, List.map_append]
        rfl
      · rw [List.length_append, d2] <;> rfl
      · intro p' hp'
        have fD : Frm [D] H3 (upd H3 D (.lst (ps.map V.ref ++ [V.ref p]))) := Frm.put (List.mem_singleton.mpr rfl)
        have nD : ∀ {r : Addr} {a b : Int}, RatV R0 H3 r a b → r ∉ [D] := fun hr z => by
          obtain ⟨_, dr, er⟩ := hr
          rw [List.mem_singleton.mp z, e3 _ _ hDT] at er
          cases er
        rcases hj with ⟨rfl, hj⟩ | ⟨rfl, hj⟩
        · have : ps = [] := List.length_eq_zero_iff.mp d2
          subst this
          cases hp'
          rw [← hj]
          exact hp.frm fD (nD hp)
        · have := d3 p' (by rwa [List.getElem?_append_left (by omega)] at hp')
          exact (this.ext (eT.trans e3)).frm fD (nD (this.ext (eT.trans e3)))
      · intro p' hp'
        have fD : Frm [D] H3 (upd H3 D (.lst (ps.map V.ref ++ [V.ref p]))) := Frm.put (List.mem_singleton.mpr rfl)
        have nD : ∀ {r : Addr} {a b : Int}, RatV R0 H3 r a b → r ∉ [D] := fun hr z => by
          obtain ⟨_, dr, er⟩ := hr
          rw [List.mem_singleton.mp z, e3 _ _ hDT] at er
          cases er
        rcases hj with ⟨rfl, hj⟩ | ⟨rfl, hj⟩
        · have := (List.getElem?_eq_some_iff.mp hp').1
          rw [List.length_append, d2] at this
          simp at this
        · have e4 : (ps ++ [p])[1]? = some p := by rw [List.getElem?_append_right (by omega), d2] <;> rfl
          rw [e4] at hp'
          cases hp'
          rw [← hj]
          exact hp.frm fD (nD hp)
      · exact ext_put ((e.trans eT).trans e3) hD
    rintro H2 ⟨ps, d1, d2, d3, d4, e⟩
    match ps, d2 with
    | [p1, p2], _ =>
      have h1 := d3 p1 rfl
      have h2 := d4 p2 rfl
      have v1 : (gtE g i).1.natAbs < 2 ^ (2 * m1 + m2) := Nat.lt_of_lt_of_le (wide_lt z1 y1) (Nat.pow_le_pow_right (by decide) (by omega))
      have v2 : (gtE g i).2.natAbs < 2 ^ (2 * m1 + m2) := Nat.lt_of_lt_of_le (wide_lt w1 y2) (Nat.pow_le_pow_right (by decide) (by omega))
      have v3 : (gtN g i).1.natAbs < 2 ^ (2 * m1 + m2) := Nat.lt_of_lt_of_le (wide_lt z3 y3) (Nat.pow_le_pow_right (by decide) (by omega))
      have v4 : (gtN g i).2.natAbs < 2 ^ (2 * m1 + m2) := Nat.lt_of_lt_of_le (wide_lt w2 y4) (Nat.pow_le_pow_right (by decide) (by omega))
      refine ⟨D, _, rfl, SqL.of d1, rfl, _, _, rfl, _, _, rfl, rfl, _, rfl, _, rfl, p1, p2, _, _, _, _, 2 * m1 + m2, rfl, h1, h2, v1, v2, v3, v4, by omega, hmm, fun H3 e3 => ?_⟩
      refine k _ H3 ((e1.trans e).trans e3) ?_
      unfold gtF
      split
      · exact h2.ext e3
      · exact h1.ext e3
theorem sc_Gauge_greatest : FnScope ["self", "f"] ["self", "f"] (defScope s_Gauge_greatest) := ⟨rfl, rfl, rfl, by decide +kernel, rfl, by decide +kernel, by decide +kernel⟩
def spGreatest1 (C0 R0 M0 U0 : Addr) : Sp := fun vs H Q _ => ∃ (a : Addr) (g : GaugeM) (i m1 m2 : Nat), vs = [.ref a, .int i] ∧ GaugeAt C0 R0 M0 U0 H a g ∧ 0 < i ∧ i ≤ 1000 ∧
  g.le.1.natAbs < 2 ^ m1 ∧ g.le.2.natAbs < 2 ^ m1 ∧ g.ln.1.natAbs < 2 ^ m1 ∧ g.ln.2.natAbs < 2 ^ m1 ∧ g.re.1.natAbs < 2 ^ m1 ∧ g.re.2.natAbs < 2 ^ m1 ∧ g.rn.1.natAbs < 2 ^ m1 ∧ g.rn.2.natAbs < 2 ^ m1 ∧
  (countsF g.rs i).1.natAbs < 2 ^ m2 ∧ (countsF g.rs i).2.natAbs < 2 ^ m2 ∧ 0 < m1 ∧ 0 < m2 ∧ 2 * m1 + m2 ≤ 4000 ∧
  ∀ q H', Ext H H' → RatV R0 H' q (gtF g i).1 (gtF g i).2 → Q (.ref q) H'
theorem ok_Gauge_greatest (F : FunD K "greatest" "Gauge.greatest" (defArgs s_Gauge_greatest) (defBody s_Gauge_greatest) (defScope s_Gauge_greatest) [] [] f fd) (T : TB mg) {fcheck_fineness : Addr} {fdcheck_fineness : FuncData} (Dcheck_fineness : Gd P w K mg base "check_fineness" 3 ["f"] (spFine) fcheck_fineness fdcheck_fineness) {fgreatest_at : Addr} {fdgreatest_at : FuncData} (Dgreatest_at : Gd P w K mg base "greatest_at" 8 ["gauge", "f"] (spGreatest C0 R0 M0 U0) fgreatest_at fdgreatest_at) : FnOk P w K mg base CX0 9 f fd ["self", "f"] (spGreatest1 C0 R0 M0 U0) := by
  refine F.ok sc_Gauge_greatest (fun vs H Q E h => ?_) (fun cdv A outer s H vs Q E hr h => ?_)
  · obtain ⟨a, g, i, m1, m2, rfl, hg, h0, h1000, hrest⟩ := h
    rfl
  · obtain ⟨a, g, i, m1, m2, rfl, hg, h0, h1000, hrest⟩ := h
    refine ⟨_, (PSs.nox (pss_cons (ps_expr (pe_gd Dcheck_fineness hr (by decide) (by rfl) (pa_cons (pv 1) pa_nil)))
      (pss_cons (ps_if (pt_cmpR op_eq (pv 1) pe_int (nomark _)) (pss_one ps_never) pss_nil)
      (pss_one (ps_ret (pe_gd Dgreatest_at hr (by decide) (by rfl) (pa_cons (pv 0) (pa_cons (pv 1) pa_nil)))))))), ?_⟩
    refine ⟨_, rfl, i, rfl, by omega, by omega, _, rfl, rfl, _, rfl, ite2 (fun hz => ?_) (fun _ => ?_)⟩
    · have := V.int.inj (of_decide_eq_true hz)
      omega
    · exact ⟨_, rfl, _, rfl, a, g, i, m1, m2, rfl, hg, h1000, hrest⟩
end
end Mc

set_option Elab.async false
set_option linter.all false
set_option maxRecDepth 100000
set_option maxHeartbeats 4000000
set_option exponentiation.threshold 20000
namespace Mc
open PySem PySem.Spec PyProof.Rows L2 ClX StX
open RZ
/-- the rounds as the law has them: a list of lists of cuts -/
def RowsL (H : Hp) (l : Addr) (rs : List (List Cut)) : Prop := ∃ as : List Addr, H l = some (.lst (as.map V.ref)) ∧ Paired (CutsL H) as rs
theorem cl_ext {H H' : Hp} {l : Addr} {cs : List Cut} (h : CutsL H l cs) (e : Ext H H') : CutsL H' l cs := by
  obtain ⟨as, h1, h2⟩ := h
  exact ⟨as, e _ _ h1, pd_imp (fun _ _ q => e _ _ q) h2⟩
theorem RowsL.ext {H H' : Hp} {l : Addr} {rs : List (List Cut)} (h : RowsL H l rs) (e : Ext H H') : RowsL H' l rs := by
  obtain ⟨as, h1, h2⟩ := h
  exact ⟨as, e _ _ h1, pd_imp (fun _ _ q => cl_ext q e) h2⟩
def okrB (rs : List (List Cut)) : Bool := decide (0 < rs.length ∧ rs.length ≤ 3) && (rs.all (fun cs => decide (1 ≤ cs.length ∧ cs.length ≤ 5 ∧ colsF cs * rowsF cs ≤ 32) && cs.all fun c => decide (okC c)) && decide ((mulF (partsF rs)).1 = (mulF (partsF rs)).2))
theorem okr_of {rs : List (List Cut)} (h : okrB rs = true) : OkR rs := by
  obtain ⟨h1, h⟩ := Bool.and_eq_true_iff.mp h
  obtain ⟨h2, h3⟩ := Bool.and_eq_true_iff.mp h
  have h1 := of_decide_eq_true h1
  have h3 := of_decide_eq_true h3
  have each : ∀ cs ∈ rs, (1 ≤ cs.length ∧ cs.length ≤ 5 ∧ colsF cs * rowsF cs ≤ 32) ∧ ∀ c ∈ cs, okC c := fun cs hcs => by
    obtain ⟨a, b⟩ := Bool.and_eq_true_iff.mp (List.all_eq_true.mp h2 cs hcs)
    exact ⟨of_decide_eq_true a, fun c hc => of_decide_eq_true (List.all_eq_true.mp b c hc)⟩
  exact ⟨h1.1, h1.2, fun cs q => (each cs q).1.1, fun cs q => (each cs q).1.2.1, fun cs q => (each cs q).2, fun cs q => (each cs q).1.2.2, h3⟩
theorem rep_flat (a : Addr) : ∀ n : Nat, (List.replicate n [V.ref a]).flatten = (List.replicate n a).map V.ref
  | 0 => rfl
  | n + 1 => by rw [List.replicate_succ, List.flatten_cons, rep_flat a n, List.replicate_succ]; rfl
theorem rep_pd {α β : Type} {F : α → β → Prop} {a : α} {b : β} (h : F a b) : ∀ n : Nat, Paired F (List.replicate n a) (List.replicate n b)
  | 0 => .nil
  | n + 1 => by rw [List.replicate_succ, List.replicate_succ]; exact .cons h (rep_pd h n)
theorem rep_rows {H : Hp} {x a : Addr} {i : Int} {n : Nat} {cs : List Cut} (h : H x = some (.lst (List.replicate i.toNat [V.ref a]).flatten)) (e : i.toNat = n) (c : CutsL H a cs) : RowsL H x (List.replicate n cs) := by
  rw [e, rep_flat] at h
  exact ⟨_, h, rep_pd c n⟩
section
variable {P : Program} {w : World} {K : PySem.W.Frag} {mg : Str → Option Value} {base : Heap} {f U0 kX M0 R0 C0 aX : Addr} {mc : Value} {fd : FuncData}
def spRounds5 : Sp := fun vs H Q _ => ∃ (p : Addr) (B0 : Hp), vs = [.ref p] ∧ Bld p [] H B0 B0 H ∧ ∀ l H' B rs, Bld p [] H B0 B H' → RowsL B l rs → OkR rs → Q (.ref l) H'
theorem sc_rounds : FnScope ["_law_pot_here", "_law_many", "_law_more", "_law_one", "_law_other", "_law_some"] ["_law_pot_here"] (defScope s_rounds) := ⟨rfl, rfl, rfl, by decide +kernel, rfl, by decide +kernel, by decide +kernel⟩
theorem ok_rounds (F : FunD K "_law_rounds" "_law_rounds" (defArgs s_rounds) (defBody s_rounds) (defScope s_rounds) [] [] f fd) (T : TB mg) {fdraw : Addr} {fddraw : FuncData} (Ddraw : Gd P w K mg base "_law_draw" 1 ["_law_pot_here", "_law_size"] (spDraw) fdraw fddraw) {fpick : Addr} {fdpick : FuncData} (Dpick : Gd P w K mg base "_law_pick" 2 ["_law_pot_here", "_law_some"] (spPick) fpick fdpick) : FnOk P w K mg base CX0 3 f fd ["_law_pot_here"] (spRounds5) := by
  refine F.ok sc_rounds (fun vs H Q E h => ?_) (fun cdv A outer s H vs Q E hr h => ?_)
  · obtain ⟨p, B0, rfl, bs, k⟩ := h
    rfl
  · obtain ⟨p, B0, rfl, bs, k⟩ := h
    refine ⟨_, (PSs.nox (pss_cons (ps_par (i := 1) (j := 2) (by rfl) sc_rounds.nd rfl rfl (by decide) rfl rfl (pa_cons (pe_op op_add pe_int (pe_gd Ddraw hr (by decide) (by rfl) (pa_cons (pv 0) (pa_cons pe_int pa_nil)))) (pa_cons (pe_op op_add pe_int (pe_gd Ddraw hr (by decide) (by rfl) (pa_cons (pv 0) (pa_cons pe_int pa_nil)))) pa_nil)) (by rfl))
      (pss_cons (ps_par (i := 3) (j := 4) (by rfl) sc_rounds.nd rfl rfl (by decide) rfl rfl (pa_cons (pe_tup (pa_cons pe_str (pa_cons (pv 1) pa_nil))) (pa_cons (pe_tup (pa_cons pe_str (pa_cons (pv 1) pa_nil))) pa_nil)) (by rfl))
      (pss_cons (ps_set (i := 5) sc_rounds.nd rfl (.inl rfl) (pe_lst (pa_cons (pe_lst (pa_cons (pe_lst (pa_cons (pv 3) (pa_cons (pv 4) pa_nil))) pa_nil)) (pa_cons (pe_lst (pa_cons (pe_lst (pa_cons (pv 4) (pa_cons (pv 3) pa_nil))) pa_nil)) (pa_cons (pe_lst (pa_cons (pe_lst (pa_cons (pv 3) pa_nil)) (pa_cons (pe_lst (pa_cons (pv 4) pa_nil)) pa_nil))) (pa_cons (pe_lst (pa_cons (pe_lst (pa_cons (pv 4) pa_nil)) (pa_cons (pe_lst (pa_cons (pv 3) pa_nil)) pa_nil))) pa_nil))))))
      (pss_cons (ps_expr (pe_bm PySem.F.plainAttrs_list PySem.F.slot_list_append PySem.F.type_list_append mt_append (pv 5) (pa_cons (pe_lst (pa_cons (pe_lst (pa_cons (pe_tup (pa_cons pe_str (pa_cons pe_int pa_nil))) (pa_cons (pe_tup (pa_cons pe_str (pa_cons pe_int pa_nil))) (pa_cons (pe_tup (pa_cons pe_str (pa_cons pe_int pa_nil))) pa_nil)))) (pa_cons (pe_lst (pa_cons (pe_tup (pa_cons pe_str (pa_cons pe_int pa_nil))) (pa_cons (pe_tup (pa_cons pe_str (pa_cons pe_int pa_nil))) (pa_cons (pe_tup (pa_cons pe_str (pa_cons pe_int pa_nil))) pa_nil)))) pa_nil))) pa_nil)))
      (pss_cons (ps_expr (pe_bm PySem.F.plainAttrs_list PySem.F.slot_list_append PySem.F.type_list_append mt_append (pv 5) (pa_cons (pe_lst (pa_cons (pe_lst (pa_cons (pv 3) pa_nil)) (pa_cons (pe_lst (pa_cons (pe_tup (pa_cons pe_str (pa_cons (pv 2) pa_nil))) pa_nil)) (pa_cons (pe_lst (pa_cons (pv 4) (pa_cons (pe_tup (pa_cons pe_str (pa_cons (pv 2) pa_nil))) pa_nil))) pa_nil)))) pa_nil)))
      (pss_cons (ps_expr (pe_bm PySem.F.plainAttrs_list PySem.F.slot_list_append PySem.F.type_list_append mt_append (pv 5) (pa_cons (pe_lst (pa_cons (pe_lst (pa_cons (pe_tup (pa_cons pe_str (pa_cons pe_int pa_nil))) (pa_cons (pe_tup (pa_cons pe_str (pa_cons pe_int pa_nil))) pa_nil))) (pa_cons (pe_lst (pa_cons (pe_tup (pa_cons pe_str (pa_cons pe_int pa_nil))) pa_nil)) pa_nil))) pa_nil)))
      (pss_cons (ps_expr (pe_bm PySem.F.plainAttrs_list PySem.F.slot_list_append PySem.F.type_list_append mt_append (pv 5) (pa_cons (pe_lst (pa_cons (pe_lst (pa_cons (pe_tup (pa_cons pe_str (pa_cons pe_int pa_nil))) (pa_cons (pe_tup (pa_cons pe_str (pa_cons pe_int pa_nil))) pa_nil))) (pa_cons (pe_lst (pa_cons (pe_tup (pa_cons pe_str (pa_cons pe_int pa_nil))) (pa_cons (pe_tup (pa_cons pe_str (pa_cons pe_int pa_nil))) pa_nil))) pa_nil))) pa_nil)))
      (pss_cons (ps_expr (pe_bm PySem.F.plainAttrs_list PySem.F.slot_list_append PySem.F.type_list_append mt_append (pv 5) (pa_cons (pe_op op_rep (pe_lst (pa_cons (pe_lst (pa_cons (pv 3) (pa_cons (pv 4) pa_nil))) pa_nil)) (pe_op op_add pe_int (pe_gd Ddraw hr (by decide) (by rfl) (pa_cons (pv 0) (pa_cons pe_int pa_nil))))) pa_nil)))
      (pss_one (ps_ret (pe_gd Dpick hr (by decide) (by rfl) (pa_cons (pv 0) (pa_cons (pv 5) pa_nil)))))))))))))), ?_⟩
    have hp := bs.hp
    refine ⟨_, rfl, p, 3, rfl, hp, by decide, by decide, fun r H1 r0 r1 F1 hp1 => ⟨_, _, rfl, rfl, _, rfl, p, 3, rfl, hp1, by decide, by decide, fun s H2 s0 s1 F2 hp2 => ⟨_, _, rfl, rfl, _, _, rfl, ?_⟩⟩⟩
    obtain ⟨m, rfl⟩ := Int.eq_ofNat_of_zero_le r0
    obtain ⟨q, rfl⟩ := Int.eq_ofNat_of_zero_le s0
    have b0 := (bs.draw F1 hp1).draw F2 hp2
    refine ⟨_, rfl, (by show 2 ≤ sizeLine; decide), fun tE htE => ?_⟩
    obtain ⟨b1, e1⟩ := b0.new (o := .tup [.str "east", .int (2 + (m : Nat))]) htE
    have c1 : (upd B0 tE (.tup [.str "east", .int (2 + (m : Nat))])) tE = some (.tup [.str "east", .int (2 + (m : Nat))]) := upd_same
    generalize upd B0 tE (.tup [.str "east", .int (2 + (m : Nat))]) = B1 at b1 e1 c1
    generalize upd H2 tE (.tup [.str "east", .int (2 + (m : Nat))]) = H1 at b1  ⊢
    clear e1 b0 htE
    refine ⟨_, rfl, (by show 2 ≤ sizeLine; decide), fun tN htN => ?_⟩
    obtain ⟨b2, e2⟩ := b1.new (o := .tup [.str "north", .int (2 + (m : Nat))]) htN
    have c2 : (upd B1 tN (.tup [.str "north", .int (2 + (m : Nat))])) tN = some (.tup [.str "north", .int (2 + (m : Nat))]) := upd_same
    generalize upd B1 tN (.tup [.str "north", .int (2 + (m : Nat))]) = B2 at b2 e2 c2
    generalize upd H1 tN (.tup [.str "north", .int (2 + (m : Nat))]) = H2 at b2  ⊢
    replace c1 := e2 _ _ c1
    clear e2 b1 htN
    clear B1 H1
    refine ⟨_, _, rfl, ?_⟩
    refine ⟨_, rfl, _, rfl, (by show 2 ≤ sizeLine; decide), fun x3 hx3 => ?_⟩
    obtain ⟨b4, e4⟩ := b2.new (o := .lst [.ref tE, .ref tN]) hx3
    have c4 : (upd B2 x3 (.lst [.ref tE, .ref tN])) x3 = some (.lst [.ref tE, .ref tN]) := upd_same
    generalize upd B2 x3 (.lst [.ref tE, .ref tN]) = B4 at b4 e4 c4
    generalize upd H2 x3 (.lst [.ref tE, .ref tN]) = H4 at b4  ⊢
    replace c1 := e4 _ _ c1
    replace c2 := e4 _ _ c2
    clear e4 b2 hx3
    clear B2 H2
    refine ⟨(by show 1 ≤ sizeLine; decide), fun x5 hx5 => ?_⟩
    obtain ⟨b6, e6⟩ := b4.new (o := .lst [.ref x3]) hx5
    have c6 : (upd B4 x5 (.lst [.ref x3])) x5 = some (.lst [.ref x3]) := upd_same
    generalize upd B4 x5 (.lst [.ref x3]) = B6 at b6 e6 c6
    generalize upd H4 x5 (.lst [.ref x3]) = H6 at b6  ⊢
    replace c1 := e6 _ _ c1
    replace c2 := e6 _ _ c2
    replace c4 := e6 _ _ c4
    clear e6 b4 hx5
    clear B4 H4
    have a0 : RowsL B6 x5 [[(true, 2 + m), (false, 2 + m)]] := ⟨[x3], c6, .cons ⟨[tE, tN], c4, .cons c1 (.cons c2 (.nil))⟩ (.nil)⟩
    clear c4 c6
    refine ⟨_, rfl, _, rfl, (by show 2 ≤ sizeLine; decide), fun x7 hx7 => ?_⟩
    obtain ⟨b8, e8⟩ := b6.new (o := .lst [.ref tN, .ref tE]) hx7
    have c8 : (upd B6 x7 (.lst [.ref tN, .ref tE])) x7 = some (.lst [.ref tN, .ref tE]) := upd_same
    generalize upd B6 x7 (.lst [.ref tN, .ref tE]) = B8 at b8 e8 c8
    generalize upd H6 x7 (.lst [.ref tN, .ref tE]) = H8 at b8  ⊢
    replace c1 := e8 _ _ c1
    replace c2 := e8 _ _ c2
    replace a0 := a0.ext e8
    clear e8 b6 hx7
    clear B6 H6
    refine ⟨(by show 1 ≤ sizeLine; decide), fun x9 hx9 => ?_⟩
    obtain ⟨b10, e10⟩ := b8.new (o := .lst [.ref x7]) hx9
    have c10 : (upd B8 x9 (.lst [.ref x7])) x9 = some (.lst [.ref x7]) := upd_same
    generalize upd B8 x9 (.lst [.ref x7]) = B10 at b10 e10 c10
    generalize upd H8 x9 (.lst [.ref x7]) = H10 at b10  ⊢
    replace c1 := e10 _ _ c1
    replace c2 := e10 _ _ c2
    replace a0 := a0.ext e10
    replace c8 := e10 _ _ c8
    clear e10 b8 hx9
    clear B8 H8
    have a1 : RowsL B10 x9 [[(false, 2 + m), (true, 2 + m)]] := ⟨[x7], c10, .cons ⟨[tN, tE], c8, .cons c2 (.cons c1 (.nil))⟩ (.nil)⟩
    clear c8 c10
    refine ⟨_, rfl, (by show 1 ≤ sizeLine; decide), fun x11 hx11 => ?_⟩
    obtain ⟨b12, e12⟩ := b10.new (o := .lst [.ref tE]) hx11
    have c12 : (upd B10 x11 (.lst [.ref tE])) x11 = some (.lst [.ref tE]) := upd_same
    generalize upd B10 x11 (.lst [.ref tE]) = B12 at b12 e12 c12
    generalize upd H10 x11 (.lst [.ref tE]) = H12 at b12  ⊢
    replace c1 := e12 _ _ c1
    replace c2 := e12 _ _ c2
    replace a0 := a0.ext e12
    replace a1 := a1.ext e12
    clear e12 b10 hx11
    clear B10 H10
    refine ⟨_, rfl, (by show 1 ≤ sizeLine; decide), fun x13 hx13 => ?_⟩
    obtain ⟨b14, e14⟩ := b12.new (o := .lst [.ref tN]) hx13
    have c14 : (upd B12 x13 (.lst [.ref tN])) x13 = some (.lst [.ref tN]) := upd_same
    generalize upd B12 x13 (.lst [.ref tN]) = B14 at b14 e14 c14
    generalize upd H12 x13 (.lst [.ref tN]) = H14 at b14  ⊢
    replace c1 := e14 _ _ c1
    replace c2 := e14 _ _ c2
    replace a0 := a0.ext e14
    replace a1 := a1.ext e14
    replace c12 := e14 _ _ c12
    clear e14 b12 hx13
    clear B12 H12
    refine ⟨(by show 2 ≤ sizeLine; decide), fun x15 hx15 => ?_⟩
    obtain ⟨b16, e16⟩ := b14.new (o := .lst [.ref x11, .ref x13]) hx15
    have c16 : (upd B14 x15 (.lst [.ref x11, .ref x13])) x15 = some (.lst [.ref x11, .ref x13]) := upd_same
    generalize upd B14 x15 (.lst [.ref x11, .ref x13]) = B16 at b16 e16 c16
    generalize upd H14 x15 (.lst [.ref x11, .ref x13]) = H16 at b16  ⊢
    replace c1 := e16 _ _ c1
    replace c2 := e16 _ _ c2
    replace a0 := a0.ext e16
    replace a1 := a1.ext e16
    replace c12 := e16 _ _ c12
    replace c14 := e16 _ _ c14
    clear e16 b14 hx15
    clear B14 H14
    have a2 : RowsL B16 x15 [[(true, 2 + m)], [(false, 2 + m)]] := ⟨[x11, x13], c16, .cons ⟨[tE], c12, .cons c1 (.nil)⟩ (.cons ⟨[tN], c14, .cons c2 (.nil)⟩ (.nil))⟩
    clear c12 c14 c16
    refine ⟨_, rfl, (by show 1 ≤ sizeLine; decide), fun x17 hx17 => ?_⟩
    obtain ⟨b18, e18⟩ := b16.new (o := .lst [.ref tN]) hx17
    have c18 : (upd B16 x17 (.lst [.ref tN])) x17 = some (.lst [.ref tN]) := upd_same
    generalize upd B16 x17 (.lst [.ref tN]) = B18 at b18 e18 c18
    generalize upd H16 x17 (.lst [.ref tN]) = H18 at b18  ⊢
    replace c1 := e18 _ _ c1
    replace c2 := e18 _ _ c2
    replace a0 := a0.ext e18
    replace a1 := a1.ext e18
    replace a2 := a2.ext e18
    clear e18 b16 hx17
    clear B16 H16
    refine ⟨_, rfl, (by show 1 ≤ sizeLine; decide), fun x19 hx19 => ?_⟩
    obtain ⟨b20, e20⟩ := b18.new (o := .lst [.ref tE]) hx19
    have c20 : (upd B18 x19 (.lst [.ref tE])) x19 = some (.lst [.ref tE]) := upd_same
    generalize upd B18 x19 (.lst [.ref tE]) = B20 at b20 e20 c20
    generalize upd H18 x19 (.lst [.ref tE]) = H20 at b20  ⊢
    replace c1 := e20 _ _ c1
    replace c2 := e20 _ _ c2
    replace a0 := a0.ext e20
    replace a1 := a1.ext e20
    replace a2 := a2.ext e20
    replace c18 := e20 _ _ c18
    clear e20 b18 hx19
    clear B18 H18
    refine ⟨(by show 2 ≤ sizeLine; decide), fun x21 hx21 => ?_⟩
    obtain ⟨b22, e22⟩ := b20.new (o := .lst [.ref x17, .ref x19]) hx21
    have c22 : (upd B20 x21 (.lst [.ref x17, .ref x19])) x21 = some (.lst [.ref x17, .ref x19]) := upd_same
    generalize upd B20 x21 (.lst [.ref x17, .ref x19]) = B22 at b22 e22 c22
    generalize upd H20 x21 (.lst [.ref x17, .ref x19]) = H22 at b22  ⊢
    replace c1 := e22 _ _ c1
    replace c2 := e22 _ _ c2
    replace a0 := a0.ext e22
    replace a1 := a1.ext e22
    replace a2 := a2.ext e22
    replace c18 := e22 _ _ c18
    replace c20 := e22 _ _ c20
    clear e22 b20 hx21
    clear B20 H20
    have a3 : RowsL B22 x21 [[(false, 2 + m)], [(true, 2 + m)]] := ⟨[x17, x19], c22, .cons ⟨[tN], c18, .cons c2 (.nil)⟩ (.cons ⟨[tE], c20, .cons c1 (.nil)⟩ (.nil))⟩
    clear c18 c20 c22
    refine ⟨(by show 4 ≤ sizeLine; decide), fun x23 hx23 => ?_⟩
    have b24 := b22.own (o := .lst [.ref x5, .ref x9, .ref x15, .ref x21]) hx23
    have h24 : (upd H22 x23 (.lst [.ref x5, .ref x9, .ref x15, .ref x21])) x23 = some (.lst [.ref x5, .ref x9, .ref x15, .ref x21]) := upd_same
    generalize upd H22 x23 (.lst [.ref x5, .ref x9, .ref x15, .ref x21]) = H24 at b24 h24 ⊢
    clear b22 hx23
    obtain ⟨L4, hL4⟩ : ∃ L : List V, L = [.ref x5, .ref x9, .ref x15, .ref x21] := ⟨_, rfl⟩
    rw [← hL4] at h24
    have l4 : L4.length = 4 := by rw [hL4] <;> rfl
    refine ⟨_, rfl, .inl ⟨rfl, _, SqL.of h24⟩, (by show 2 ≤ sizeLine; decide), fun x25 hx25 => ?_⟩
    replace h24 : (upd H24 x25 (.tup [.str "east", .int 2])) x23 = some (.lst L4) := by rw [upd_ne (ne_of_none h24 hx25)]; exact h24
    obtain ⟨b26, e26⟩ := b24.new (o := .tup [.str "east", .int 2]) hx25
    have c26 : (upd B22 x25 (.tup [.str "east", .int 2])) x25 = some (.tup [.str "east", .int 2]) := upd_same
    generalize upd B22 x25 (.tup [.str "east", .int 2]) = B26 at b26 e26 c26
    generalize upd H24 x25 (.tup [.str "east", .int 2]) = H26 at b26 h24 ⊢
    replace c1 := e26 _ _ c1
    replace c2 := e26 _ _ c2
    replace a0 := a0.ext e26
    replace a1 := a1.ext e26
    replace a2 := a2.ext e26
    replace a3 := a3.ext e26
    clear e26 b24 hx25
    clear B22 H24
    refine ⟨(by show 2 ≤ sizeLine; decide), fun x27 hx27 => ?_⟩
    replace h24 : (upd H26 x27 (.tup [.str "north", .int 2])) x23 = some (.lst L4) := by rw [upd_ne (ne_of_none h24 hx27)]; exact h24
    obtain ⟨b28, e28⟩ := b26.new (o := .tup [.str "north", .int 2]) hx27
    have c28 : (upd B26 x27 (.tup [.str "north", .int 2])) x27 = some (.tup [.str "north", .int 2]) := upd_same
    generalize upd B26 x27 (.tup [.str "north", .int 2]) = B28 at b28 e28 c28
    generalize upd H26 x27 (.tup [.str "north", .int 2]) = H28 at b28 h24 ⊢
    replace c1 := e28 _ _ c1
    replace c2 := e28 _ _ c2
    replace a0 := a0.ext e28
    replace a1 := a1.ext e28
    replace a2 := a2.ext e28
    replace a3 := a3.ext e28
    replace c26 := e28 _ _ c26
    clear e28 b26 hx27
    clear B26 H26
    refine ⟨(by show 2 ≤ sizeLine; decide), fun x29 hx29 => ?_⟩
    replace h24 : (upd H28 x29 (.tup [.str "east", .int 2])) x23 = some (.lst L4) := by rw [upd_ne (ne_of_none h24 hx29)]; exact h24
    obtain ⟨b30, e30⟩ := b28.new (o := .tup [.str "east", .int 2]) hx29
    have c30 : (upd B28 x29 (.tup [.str "east", .int 2])) x29 = some (.tup [.str "east", .int 2]) := upd_same
    generalize upd B28 x29 (.tup [.str "east", .int 2]) = B30 at b30 e30 c30
    generalize upd H28 x29 (.tup [.str "east", .int 2]) = H30 at b30 h24 ⊢
    replace c1 := e30 _ _ c1
    replace c2 := e30 _ _ c2
    replace a0 := a0.ext e30
    replace a1 := a1.ext e30
    replace a2 := a2.ext e30
    replace a3 := a3.ext e30
    replace c26 := e30 _ _ c26
    replace c28 := e30 _ _ c28
    clear e30 b28 hx29
    clear B28 H28
    refine ⟨(by show 3 ≤ sizeLine; decide), fun x31 hx31 => ?_⟩
    replace h24 : (upd H30 x31 (.lst [.ref x25, .ref x27, .ref x29])) x23 = some (.lst L4) := by rw [upd_ne (ne_of_none h24 hx31)]; exact h24
    obtain ⟨b32, e32⟩ := b30.new (o := .lst [.ref x25, .ref x27, .ref x29]) hx31
    have c32 : (upd B30 x31 (.lst [.ref x25, .ref x27, .ref x29])) x31 = some (.lst [.ref x25, .ref x27, .ref x29]) := upd_same
    generalize upd B30 x31 (.lst [.ref x25, .ref x27, .ref x29]) = B32 at b32 e32 c32
    generalize upd H30 x31 (.lst [.ref x25, .ref x27, .ref x29]) = H32 at b32 h24 ⊢
    replace c1 := e32 _ _ c1
    replace c2 := e32 _ _ c2
    replace a0 := a0.ext e32
    replace a1 := a1.ext e32
    replace a2 := a2.ext e32
    replace a3 := a3.ext e32
    replace c26 := e32 _ _ c26
    replace c28 := e32 _ _ c28
    replace c30 := e32 _ _ c30
    clear e32 b30 hx31
    clear B30 H30
    refine ⟨(by show 2 ≤ sizeLine; decide), fun x33 hx33 => ?_⟩
    replace h24 : (upd H32 x33 (.tup [.str "north", .int 2])) x23 = some (.lst L4) := by rw [upd_ne (ne_of_none h24 hx33)]; exact h24
    obtain ⟨b34, e34⟩ := b32.new (o := .tup [.str "north", .int 2]) hx33
    have c34 : (upd B32 x33 (.tup [.str "north", .int 2])) x33 = some (.tup [.str "north", .int 2]) := upd_same
    generalize upd B32 x33 (.tup [.str "north", .int 2]) = B34 at b34 e34 c34
    generalize upd H32 x33 (.tup [.str "north", .int 2]) = H34 at b34 h24 ⊢
    replace c1 := e34 _ _ c1
    replace c2 := e34 _ _ c2
    replace a0 := a0.ext e34
    replace a1 := a1.ext e34
    replace a2 := a2.ext e34
    replace a3 := a3.ext e34
    replace c26 := e34 _ _ c26
    replace c28 := e34 _ _ c28
    replace c30 := e34 _ _ c30
    replace c32 := e34 _ _ c32
    clear e34 b32 hx33
    clear B32 H32
    refine ⟨(by show 2 ≤ sizeLine; decide), fun x35 hx35 => ?_⟩
    replace h24 : (upd H34 x35 (.tup [.str "east", .int 2])) x23 = some (.lst L4) := by rw [upd_ne (ne_of_none h24 hx35)]; exact h24
    obtain ⟨b36, e36⟩ := b34.new (o := .tup [.str "east", .int 2]) hx35
    have c36 : (upd B34 x35 (.tup [.str "east", .int 2])) x35 = some (.tup [.str "east", .int 2]) := upd_same
    generalize upd B34 x35 (.tup [.str "east", .int 2]) = B36 at b36 e36 c36
    generalize upd H34 x35 (.tup [.str "east", .int 2]) = H36 at b36 h24 ⊢
    replace c1 := e36 _ _ c1
    replace c2 := e36 _ _ c2
    replace a0 := a0.ext e36
    replace a1 := a1.ext e36
    replace a2 := a2.ext e36
    replace a3 := a3.ext e36
    replace c26 := e36 _ _ c26
    replace c28 := e36 _ _ c28
    replace c30 := e36 _ _ c30
    replace c32 := e36 _ _ c32
    replace c34 := e36 _ _ c34
    clear e36 b34 hx35
    clear B34 H34
    refine ⟨(by show 2 ≤ sizeLine; decide), fun x37 hx37 => ?_⟩
    replace h24 : (upd H36 x37 (.tup [.str "north", .int 2])) x23 = some (.lst L4) := by rw [upd_ne (ne_of_none h24 hx37)]; exact h24
    obtain ⟨b38, e38⟩ := b36.new (o := .tup [.str "north", .int 2]) hx37
    have c38 : (upd B36 x37 (.tup [.str "north", .int 2])) x37 = some (.tup [.str "north", .int 2]) := upd_same
    generalize upd B36 x37 (.tup [.str "north", .int 2]) = B38 at b38 e38 c38
    generalize upd H36 x37 (.tup [.str "north", .int 2]) = H38 at b38 h24 ⊢
    replace c1 := e38 _ _ c1
    replace c2 := e38 _ _ c2
    replace a0 := a0.ext e38
    replace a1 := a1.ext e38
    replace a2 := a2.ext e38
    replace a3 := a3.ext e38
    replace c26 := e38 _ _ c26
    replace c28 := e38 _ _ c28
    replace c30 := e38 _ _ c30
    replace c32 := e38 _ _ c32
    replace c34 := e38 _ _ c34
    replace c36 := e38 _ _ c36
    clear e38 b36 hx37
    clear B36 H36
    refine ⟨(by show 3 ≤ sizeLine; decide), fun x39 hx39 => ?_⟩
    replace h24 : (upd H38 x39 (.lst [.ref x33, .ref x35, .ref x37])) x23 = some (.lst L4) := by rw [upd_ne (ne_of_none h24 hx39)]; exact h24
    obtain ⟨b40, e40⟩ := b38.new (o := .lst [.ref x33, .ref x35, .ref x37]) hx39
    have c40 : (upd B38 x39 (.lst [.ref x33, .ref x35, .ref x37])) x39 = some (.lst [.ref x33, .ref x35, .ref x37]) := upd_same
    generalize upd B38 x39 (.lst [.ref x33, .ref x35, .ref x37]) = B40 at b40 e40 c40
    generalize upd H38 x39 (.lst [.ref x33, .ref x35, .ref x37]) = H40 at b40 h24 ⊢
    replace c1 := e40 _ _ c1
    replace c2 := e40 _ _ c2
    replace a0 := a0.ext e40
    replace a1 := a1.ext e40
    replace a2 := a2.ext e40
    replace a3 := a3.ext e40
    replace c26 := e40 _ _ c26
    replace c28 := e40 _ _ c28
    replace c30 := e40 _ _ c30
    replace c32 := e40 _ _ c32
    replace c34 := e40 _ _ c34
    replace c36 := e40 _ _ c36
    replace c38 := e40 _ _ c38
    clear e40 b38 hx39
    clear B38 H38
    refine ⟨(by show 2 ≤ sizeLine; decide), fun x41 hx41 => ?_⟩
    replace h24 : (upd H40 x41 (.lst [.ref x31, .ref x39])) x23 = some (.lst L4) := by rw [upd_ne (ne_of_none h24 hx41)]; exact h24
    obtain ⟨b42, e42⟩ := b40.new (o := .lst [.ref x31, .ref x39]) hx41
    have c42 : (upd B40 x41 (.lst [.ref x31, .ref x39])) x41 = some (.lst [.ref x31, .ref x39]) := upd_same
    generalize upd B40 x41 (.lst [.ref x31, .ref x39]) = B42 at b42 e42 c42
    generalize upd H40 x41 (.lst [.ref x31, .ref x39]) = H42 at b42 h24 ⊢
    replace c1 := e42 _ _ c1
    replace c2 := e42 _ _ c2
    replace a0 := a0.ext e42
    replace a1 := a1.ext e42
    replace a2 := a2.ext e42
    replace a3 := a3.ext e42
    replace c26 := e42 _ _ c26
    replace c28 := e42 _ _ c28
    replace c30 := e42 _ _ c30
    replace c32 := e42 _ _ c32
    replace c34 := e42 _ _ c34
    replace c36 := e42 _ _ c36
    replace c38 := e42 _ _ c38
    replace c40 := e42 _ _ c40
    clear e42 b40 hx41
    clear B40 H40
    have a4 : RowsL B42 x41 [[(true, 2), (false, 2), (true, 2)], [(false, 2), (true, 2), (false, 2)]] := ⟨[x31, x39], c42, .cons ⟨[x25, x27, x29], c32, .cons c26 (.cons c28 (.cons c30 (.nil)))⟩ (.cons ⟨[x33, x35, x37], c40, .cons c34 (.cons c36 (.cons c38 (.nil)))⟩ (.nil))⟩
    clear c26 c28 c30 c32 c34 c36 c38 c40 c42
    refine ⟨x23, _, _, rfl, rfl, h24, by rw [l4, sizeLine_eq]; decide, ?_⟩
    have b43 := b42.put (o := .lst (L4 ++ [.ref x41])) List.mem_cons_self
    have h43 : (upd H42 x23 (.lst (L4 ++ [.ref x41]))) x23 = some (.lst (L4 ++ [.ref x41])) := upd_same
    generalize upd H42 x23 (.lst (L4 ++ [.ref x41])) = H43 at b43 h43 ⊢
    clear b42 h24
    clear H42
    obtain ⟨L5, hL5⟩ : ∃ L : List V, L = L4 ++ [.ref x41] := ⟨_, rfl⟩
    rw [← hL5] at h43
    have l5 : L5.length = 5 := by rw [hL5, List.length_append, l4] <;> rfl
    refine ⟨_, rfl, .inl ⟨rfl, _, SqL.of h43⟩, _, rfl, (by show 1 ≤ sizeLine; decide), fun x44 hx44 => ?_⟩
    replace h43 : (upd H43 x44 (.lst [.ref tE])) x23 = some (.lst L5) := by rw [upd_ne (ne_of_none h43 hx44)]; exact h43
    obtain ⟨b45, e45⟩ := b43.new (o := .lst [.ref tE]) hx44
    have c45 : (upd B42 x44 (.lst [.ref tE])) x44 = some (.lst [.ref tE]) := upd_same
    generalize upd B42 x44 (.lst [.ref tE]) = B45 at b45 e45 c45
    generalize upd H43 x44 (.lst [.ref tE]) = H45 at b45 h43 ⊢
    replace c1 := e45 _ _ c1
    replace c2 := e45 _ _ c2
    replace a0 := a0.ext e45
    replace a1 := a1.ext e45
    replace a2 := a2.ext e45
    replace a3 := a3.ext e45
    replace a4 := a4.ext e45
    clear e45 b43 hx44
    clear B42 H43
    refine ⟨_, rfl, (by show 2 ≤ sizeLine; decide), fun x46 hx46 => ?_⟩
    replace h43 : (upd H45 x46 (.tup [.str "north", .int (2 + (q : Nat))])) x23 = some (.lst L5) := by rw [upd_ne (ne_of_none h43 hx46)]; exact h43
    obtain ⟨b47, e47⟩ := b45.new (o := .tup [.str "north", .int (2 + (q : Nat))]) hx46
    have c47 : (upd B45 x46 (.tup [.str "north", .int (2 + (q : Nat))])) x46 = some (.tup [.str "north", .int (2 + (q : Nat))]) := upd_same
    generalize upd B45 x46 (.tup [.str "north", .int (2 + (q : Nat))]) = B47 at b47 e47 c47
    generalize upd H45 x46 (.tup [.str "north", .int (2 + (q : Nat))]) = H47 at b47 h43 ⊢
    replace c1 := e47 _ _ c1
    replace c2 := e47 _ _ c2
    replace a0 := a0.ext e47
    replace a1 := a1.ext e47
    replace a2 := a2.ext e47
    replace a3 := a3.ext e47
    replace a4 := a4.ext e47
    replace c45 := e47 _ _ c45
    clear e47 b45 hx46
    clear B45 H45
    refine ⟨(by show 1 ≤ sizeLine; decide), fun x48 hx48 => ?_⟩
    replace h43 : (upd H47 x48 (.lst [.ref x46])) x23 = some (.lst L5) := by rw [upd_ne (ne_of_none h43 hx48)]; exact h43
    obtain ⟨b49, e49⟩ := b47.new (o := .lst [.ref x46]) hx48
    have c49 : (upd B47 x48 (.lst [.ref x46])) x48 = some (.lst [.ref x46]) := upd_same
    generalize upd B47 x48 (.lst [.ref x46]) = B49 at b49 e49 c49
    generalize upd H47 x48 (.lst [.ref x46]) = H49 at b49 h43 ⊢
    replace c1 := e49 _ _ c1
    replace c2 := e49 _ _ c2
    replace a0 := a0.ext e49
    replace a1 := a1.ext e49
    replace a2 := a2.ext e49
    replace a3 := a3.ext e49
    replace a4 := a4.ext e49
    replace c45 := e49 _ _ c45
    replace c47 := e49 _ _ c47
    clear e49 b47 hx48
    clear B47 H47
    refine ⟨_, rfl, _, rfl, (by show 2 ≤ sizeLine; decide), fun x50 hx50 => ?_⟩
    replace h43 : (upd H49 x50 (.tup [.str "east", .int (2 + (q : Nat))])) x23 = some (.lst L5) := by rw [upd_ne (ne_of_none h43 hx50)]; exact h43
    obtain ⟨b51, e51⟩ := b49.new (o := .tup [.str "east", .int (2 + (q : Nat))]) hx50
    have c51 : (upd B49 x50 (.tup [.str "east", .int (2 + (q : Nat))])) x50 = some (.tup [.str "east", .int (2 + (q : Nat))]) := upd_same
    generalize upd B49 x50 (.tup [.str "east", .int (2 + (q : Nat))]) = B51 at b51 e51 c51
    generalize upd H49 x50 (.tup [.str "east", .int (2 + (q : Nat))]) = H51 at b51 h43 ⊢
    replace c1 := e51 _ _ c1
    replace c2 := e51 _ _ c2
    replace a0 := a0.ext e51
    replace a1 := a1.ext e51
    replace a2 := a2.ext e51
    replace a3 := a3.ext e51
    replace a4 := a4.ext e51
    replace c45 := e51 _ _ c45
    replace c47 := e51 _ _ c47
    replace c49 := e51 _ _ c49
    clear e51 b49 hx50
    clear B49 H49
    refine ⟨(by show 2 ≤ sizeLine; decide), fun x52 hx52 => ?_⟩
    replace h43 : (upd H51 x52 (.lst [.ref tN, .ref x50])) x23 = some (.lst L5) := by rw [upd_ne (ne_of_none h43 hx52)]; exact h43
    obtain ⟨b53, e53⟩ := b51.new (o := .lst [.ref tN, .ref x50]) hx52
    have c53 : (upd B51 x52 (.lst [.ref tN, .ref x50])) x52 = some (.lst [.ref tN, .ref x50]) := upd_same
    generalize upd B51 x52 (.lst [.ref tN, .ref x50]) = B53 at b53 e53 c53
    generalize upd H51 x52 (.lst [.ref tN, .ref x50]) = H53 at b53 h43 ⊢
    replace c1 := e53 _ _ c1
    replace c2 := e53 _ _ c2
    replace a0 := a0.ext e53
    replace a1 := a1.ext e53
    replace a2 := a2.ext e53
    replace a3 := a3.ext e53
    replace a4 := a4.ext e53
    replace c45 := e53 _ _ c45
    replace c47 := e53 _ _ c47
    replace c49 := e53 _ _ c49
    replace c51 := e53 _ _ c51
    clear e53 b51 hx52
    clear B51 H51
    refine ⟨(by show 3 ≤ sizeLine; decide), fun x54 hx54 => ?_⟩
    replace h43 : (upd H53 x54 (.lst [.ref x44, .ref x48, .ref x52])) x23 = some (.lst L5) := by rw [upd_ne (ne_of_none h43 hx54)]; exact h43
    obtain ⟨b55, e55⟩ := b53.new (o := .lst [.ref x44, .ref x48, .ref x52]) hx54
    have c55 : (upd B53 x54 (.lst [.ref x44, .ref x48, .ref x52])) x54 = some (.lst [.ref x44, .ref x48, .ref x52]) := upd_same
    generalize upd B53 x54 (.lst [.ref x44, .ref x48, .ref x52]) = B55 at b55 e55 c55
    generalize upd H53 x54 (.lst [.ref x44, .ref x48, .ref x52]) = H55 at b55 h43 ⊢
    replace c1 := e55 _ _ c1
    replace c2 := e55 _ _ c2
    replace a0 := a0.ext e55
    replace a1 := a1.ext e55
    replace a2 := a2.ext e55
    replace a3 := a3.ext e55
    replace a4 := a4.ext e55
    replace c45 := e55 _ _ c45
    replace c47 := e55 _ _ c47
    replace c49 := e55 _ _ c49
    replace c51 := e55 _ _ c51
    replace c53 := e55 _ _ c53
    clear e55 b53 hx54
    clear B53 H53
    have a5 : RowsL B55 x54 [[(true, 2 + m)], [(false, 2 + q)], [(false, 2 + m), (true, 2 + q)]] := ⟨[x44, x48, x52], c55, .cons ⟨[tE], c45, .cons c1 (.nil)⟩ (.cons ⟨[x46], c49, .cons c47 (.nil)⟩ (.cons ⟨[tN, x50], c53, .cons c2 (.cons c51 (.nil))⟩ (.nil)))⟩
    clear c45 c47 c49 c51 c53 c55
    refine ⟨x23, _, _, rfl, rfl, h43, by rw [l5, sizeLine_eq]; decide, ?_⟩
    have b56 := b55.put (o := .lst (L5 ++ [.ref x54])) List.mem_cons_self
    have h56 : (upd H55 x23 (.lst (L5 ++ [.ref x54]))) x23 = some (.lst (L5 ++ [.ref x54])) := upd_same
    generalize upd H55 x23 (.lst (L5 ++ [.ref x54])) = H56 at b56 h56 ⊢
    clear b55 h43
    clear H55
    obtain ⟨L6, hL6⟩ : ∃ L : List V, L = L5 ++ [.ref x54] := ⟨_, rfl⟩
    rw [← hL6] at h56
    have l6 : L6.length = 6 := by rw [hL6, List.length_append, l5] <;> rfl
    refine ⟨_, rfl, .inl ⟨rfl, _, SqL.of h56⟩, (by show 2 ≤ sizeLine; decide), fun x57 hx57 => ?_⟩
    replace h56 : (upd H56 x57 (.tup [.str "east", .int 2])) x23 = some (.lst L6) := by rw [upd_ne (ne_of_none h56 hx57)]; exact h56
    obtain ⟨b58, e58⟩ := b56.new (o := .tup [.str "east", .int 2]) hx57
    have c58 : (upd B55 x57 (.tup [.str "east", .int 2])) x57 = some (.tup [.str "east", .int 2]) := upd_same
    generalize upd B55 x57 (.tup [.str "east", .int 2]) = B58 at b58 e58 c58
    generalize upd H56 x57 (.tup [.str "east", .int 2]) = H58 at b58 h56 ⊢
    replace c1 := e58 _ _ c1
    replace c2 := e58 _ _ c2
    replace a0 := a0.ext e58
    replace a1 := a1.ext e58
    replace a2 := a2.ext e58
    replace a3 := a3.ext e58
    replace a4 := a4.ext e58
    replace a5 := a5.ext e58
    clear e58 b56 hx57
    clear B55 H56
    refine ⟨(by show 2 ≤ sizeLine; decide), fun x59 hx59 => ?_⟩
    replace h56 : (upd H58 x59 (.tup [.str "east", .int 2])) x23 = some (.lst L6) := by rw [upd_ne (ne_of_none h56 hx59)]; exact h56
    obtain ⟨b60, e60⟩ := b58.new (o := .tup [.str "east", .int 2]) hx59
    have c60 : (upd B58 x59 (.tup [.str "east", .int 2])) x59 = some (.tup [.str "east", .int 2]) := upd_same
    generalize upd B58 x59 (.tup [.str "east", .int 2]) = B60 at b60 e60 c60
    generalize upd H58 x59 (.tup [.str "east", .int 2]) = H60 at b60 h56 ⊢
    replace c1 := e60 _ _ c1
    replace c2 := e60 _ _ c2
    replace a0 := a0.ext e60
    replace a1 := a1.ext e60
    replace a2 := a2.ext e60
    replace a3 := a3.ext e60
    replace a4 := a4.ext e60
    replace a5 := a5.ext e60
    replace c58 := e60 _ _ c58
    clear e60 b58 hx59
    clear B58 H58
    refine ⟨(by show 2 ≤ sizeLine; decide), fun x61 hx61 => ?_⟩
    replace h56 : (upd H60 x61 (.lst [.ref x57, .ref x59])) x23 = some (.lst L6) := by rw [upd_ne (ne_of_none h56 hx61)]; exact h56
    obtain ⟨b62, e62⟩ := b60.new (o := .lst [.ref x57, .ref x59]) hx61
    have c62 : (upd B60 x61 (.lst [.ref x57, .ref x59])) x61 = some (.lst [.ref x57, .ref x59]) := upd_same
    generalize upd B60 x61 (.lst [.ref x57, .ref x59]) = B62 at b62 e62 c62
    generalize upd H60 x61 (.lst [.ref x57, .ref x59]) = H62 at b62 h56 ⊢
    replace c1 := e62 _ _ c1
    replace c2 := e62 _ _ c2
    replace a0 := a0.ext e62
    replace a1 := a1.ext e62
    replace a2 := a2.ext e62
    replace a3 := a3.ext e62
    replace a4 := a4.ext e62
    replace a5 := a5.ext e62
    replace c58 := e62 _ _ c58
    replace c60 := e62 _ _ c60
    clear e62 b60 hx61
    clear B60 H60
    refine ⟨(by show 2 ≤ sizeLine; decide), fun x63 hx63 => ?_⟩
    replace h56 : (upd H62 x63 (.tup [.str "north", .int 4])) x23 = some (.lst L6) := by rw [upd_ne (ne_of_none h56 hx63)]; exact h56
    obtain ⟨b64, e64⟩ := b62.new (o := .tup [.str "north", .int 4]) hx63
    have c64 : (upd B62 x63 (.tup [.str "north", .int 4])) x63 = some (.tup [.str "north", .int 4]) := upd_same
    generalize upd B62 x63 (.tup [.str "north", .int 4]) = B64 at b64 e64 c64
    generalize upd H62 x63 (.tup [.str "north", .int 4]) = H64 at b64 h56 ⊢
    replace c1 := e64 _ _ c1
    replace c2 := e64 _ _ c2
    replace a0 := a0.ext e64
    replace a1 := a1.ext e64
    replace a2 := a2.ext e64
    replace a3 := a3.ext e64
    replace a4 := a4.ext e64
    replace a5 := a5.ext e64
    replace c58 := e64 _ _ c58
    replace c60 := e64 _ _ c60
    replace c62 := e64 _ _ c62
    clear e64 b62 hx63
    clear B62 H62
    refine ⟨(by show 1 ≤ sizeLine; decide), fun x65 hx65 => ?_⟩
    replace h56 : (upd H64 x65 (.lst [.ref x63])) x23 = some (.lst L6) := by rw [upd_ne (ne_of_none h56 hx65)]; exact h56
    obtain ⟨b66, e66⟩ := b64.new (o := .lst [.ref x63]) hx65
    have c66 : (upd B64 x65 (.lst [.ref x63])) x65 = some (.lst [.ref x63]) := upd_same
    generalize upd B64 x65 (.lst [.ref x63]) = B66 at b66 e66 c66
    generalize upd H64 x65 (.lst [.ref x63]) = H66 at b66 h56 ⊢
    replace c1 := e66 _ _ c1
    replace c2 := e66 _ _ c2
    replace a0 := a0.ext e66
    replace a1 := a1.ext e66
    replace a2 := a2.ext e66
    replace a3 := a3.ext e66
    replace a4 := a4.ext e66
    replace a5 := a5.ext e66
    replace c58 := e66 _ _ c58
    replace c60 := e66 _ _ c60
    replace c62 := e66 _ _ c62
    replace c64 := e66 _ _ c64
    clear e66 b64 hx65
    clear B64 H64
    refine ⟨(by show 2 ≤ sizeLine; decide), fun x67 hx67 => ?_⟩
    replace h56 : (upd H66 x67 (.lst [.ref x61, .ref x65])) x23 = some (.lst L6) := by rw [upd_ne (ne_of_none h56 hx67)]; exact h56
    obtain ⟨b68, e68⟩ := b66.new (o := .lst [.ref x61, .ref x65]) hx67
    have c68 : (upd B66 x67 (.lst [.ref x61, .ref x65])) x67 = some (.lst [.ref x61, .ref x65]) := upd_same
    generalize upd B66 x67 (.lst [.ref x61, .ref x65]) = B68 at b68 e68 c68
    generalize upd H66 x67 (.lst [.ref x61, .ref x65]) = H68 at b68 h56 ⊢
    replace c1 := e68 _ _ c1
    replace c2 := e68 _ _ c2
    replace a0 := a0.ext e68
    replace a1 := a1.ext e68
    replace a2 := a2.ext e68
    replace a3 := a3.ext e68
    replace a4 := a4.ext e68
    replace a5 := a5.ext e68
    replace c58 := e68 _ _ c58
    replace c60 := e68 _ _ c60
    replace c62 := e68 _ _ c62
    replace c64 := e68 _ _ c64
    replace c66 := e68 _ _ c66
    clear e68 b66 hx67
    clear B66 H66
    have a6 : RowsL B68 x67 [[(true, 2), (true, 2)], [(false, 4)]] := ⟨[x61, x65], c68, .cons ⟨[x57, x59], c62, .cons c58 (.cons c60 (.nil))⟩ (.cons ⟨[x63], c66, .cons c64 (.nil)⟩ (.nil))⟩
    clear c58 c60 c62 c64 c66 c68
    refine ⟨x23, _, _, rfl, rfl, h56, by rw [l6, sizeLine_eq]; decide, ?_⟩
    have b69 := b68.put (o := .lst (L6 ++ [.ref x67])) List.mem_cons_self
    have h69 : (upd H68 x23 (.lst (L6 ++ [.ref x67]))) x23 = some (.lst (L6 ++ [.ref x67])) := upd_same
    generalize upd H68 x23 (.lst (L6 ++ [.ref x67])) = H69 at b69 h69 ⊢
    clear b68 h56
    clear H68
    obtain ⟨L7, hL7⟩ : ∃ L : List V, L = L6 ++ [.ref x67] := ⟨_, rfl⟩
    rw [← hL7] at h69
    have l7 : L7.length = 7 := by rw [hL7, List.length_append, l6] <;> rfl
    refine ⟨_, rfl, .inl ⟨rfl, _, SqL.of h69⟩, (by show 2 ≤ sizeLine; decide), fun x70 hx70 => ?_⟩
    replace h69 : (upd H69 x70 (.tup [.str "east", .int 3])) x23 = some (.lst L7) := by rw [upd_ne (ne_of_none h69 hx70)]; exact h69
    obtain ⟨b71, e71⟩ := b69.new (o := .tup [.str "east", .int 3]) hx70
    have c71 : (upd B68 x70 (.tup [.str "east", .int 3])) x70 = some (.tup [.str "east", .int 3]) := upd_same
    generalize upd B68 x70 (.tup [.str "east", .int 3]) = B71 at b71 e71 c71
    generalize upd H69 x70 (.tup [.str "east", .int 3]) = H71 at b71 h69 ⊢
    replace c1 := e71 _ _ c1
    replace c2 := e71 _ _ c2
    replace a0 := a0.ext e71
    replace a1 := a1.ext e71
    replace a2 := a2.ext e71
    replace a3 := a3.ext e71
    replace a4 := a4.ext e71
    replace a5 := a5.ext e71
    replace a6 := a6.ext e71
    clear e71 b69 hx70
    clear B68 H69
    refine ⟨(by show 2 ≤ sizeLine; decide), fun x72 hx72 => ?_⟩
    replace h69 : (upd H71 x72 (.tup [.str "north", .int 2])) x23 = some (.lst L7) := by rw [upd_ne (ne_of_none h69 hx72)]; exact h69
    obtain ⟨b73, e73⟩ := b71.new (o := .tup [.str "north", .int 2]) hx72
    have c73 : (upd B71 x72 (.tup [.str "north", .int 2])) x72 = some (.tup [.str "north", .int 2]) := upd_same
    generalize upd B71 x72 (.tup [.str "north", .int 2]) = B73 at b73 e73 c73
    generalize upd H71 x72 (.tup [.str "north", .int 2]) = H73 at b73 h69 ⊢
    replace c1 := e73 _ _ c1
    replace c2 := e73 _ _ c2
    replace a0 := a0.ext e73
    replace a1 := a1.ext e73
    replace a2 := a2.ext e73
    replace a3 := a3.ext e73
    replace a4 := a4.ext e73
    replace a5 := a5.ext e73
    replace a6 := a6.ext e73
    replace c71 := e73 _ _ c71
    clear e73 b71 hx72
    clear B71 H71
    refine ⟨(by show 2 ≤ sizeLine; decide), fun x74 hx74 => ?_⟩
    replace h69 : (upd H73 x74 (.lst [.ref x70, .ref x72])) x23 = some (.lst L7) := by rw [upd_ne (ne_of_none h69 hx74)]; exact h69
    obtain ⟨b75, e75⟩ := b73.new (o := .lst [.ref x70, .ref x72]) hx74
    have c75 : (upd B73 x74 (.lst [.ref x70, .ref x72])) x74 = some (.lst [.ref x70, .ref x72]) := upd_same
    generalize upd B73 x74 (.lst [.ref x70, .ref x72]) = B75 at b75 e75 c75
    generalize upd H73 x74 (.lst [.ref x70, .ref x72]) = H75 at b75 h69 ⊢
    replace c1 := e75 _ _ c1
    replace c2 := e75 _ _ c2
    replace a0 := a0.ext e75
    replace a1 := a1.ext e75
    replace a2 := a2.ext e75
    replace a3 := a3.ext e75
    replace a4 := a4.ext e75
    replace a5 := a5.ext e75
    replace a6 := a6.ext e75
    replace c71 := e75 _ _ c71
    replace c73 := e75 _ _ c73
    clear e75 b73 hx74
    clear B73 H73
    refine ⟨(by show 2 ≤ sizeLine; decide), fun x76 hx76 => ?_⟩
    replace h69 : (upd H75 x76 (.tup [.str "north", .int 3])) x23 = some (.lst L7) := by rw [upd_ne (ne_of_none h69 hx76)]; exact h69
    obtain ⟨b77, e77⟩ := b75.new (o := .tup [.str "north", .int 3]) hx76
    have c77 : (upd B75 x76 (.tup [.str "north", .int 3])) x76 = some (.tup [.str "north", .int 3]) := upd_same
    generalize upd B75 x76 (.tup [.str "north", .int 3]) = B77 at b77 e77 c77
    generalize upd H75 x76 (.tup [.str "north", .int 3]) = H77 at b77 h69 ⊢
    replace c1 := e77 _ _ c1
    replace c2 := e77 _ _ c2
    replace a0 := a0.ext e77
    replace a1 := a1.ext e77
    replace a2 := a2.ext e77
    replace a3 := a3.ext e77
    replace a4 := a4.ext e77
    replace a5 := a5.ext e77
    replace a6 := a6.ext e77
    replace c71 := e77 _ _ c71
    replace c73 := e77 _ _ c73
    replace c75 := e77 _ _ c75
    clear e77 b75 hx76
    clear B75 H75
    refine ⟨(by show 2 ≤ sizeLine; decide), fun x78 hx78 => ?_⟩
    replace h69 : (upd H77 x78 (.tup [.str "east", .int 2])) x23 = some (.lst L7) := by rw [upd_ne (ne_of_none h69 hx78)]; exact h69
    obtain ⟨b79, e79⟩ := b77.new (o := .tup [.str "east", .int 2]) hx78
    have c79 : (upd B77 x78 (.tup [.str "east", .int 2])) x78 = some (.tup [.str "east", .int 2]) := upd_same
    generalize upd B77 x78 (.tup [.str "east", .int 2]) = B79 at b79 e79 c79
    generalize upd H77 x78 (.tup [.str "east", .int 2]) = H79 at b79 h69 ⊢
    replace c1 := e79 _ _ c1
    replace c2 := e79 _ _ c2
    replace a0 := a0.ext e79
    replace a1 := a1.ext e79
    replace a2 := a2.ext e79
    replace a3 := a3.ext e79
    replace a4 := a4.ext e79
    replace a5 := a5.ext e79
    replace a6 := a6.ext e79
    replace c71 := e79 _ _ c71
    replace c73 := e79 _ _ c73
    replace c75 := e79 _ _ c75
    replace c77 := e79 _ _ c77
    clear e79 b77 hx78
    clear B77 H77
    refine ⟨(by show 2 ≤ sizeLine; decide), fun x80 hx80 => ?_⟩
    replace h69 : (upd H79 x80 (.lst [.ref x76, .ref x78])) x23 = some (.lst L7) := by rw [upd_ne (ne_of_none h69 hx80)]; exact h69
    obtain ⟨b81, e81⟩ := b79.new (o := .lst [.ref x76, .ref x78]) hx80
    have c81 : (upd B79 x80 (.lst [.ref x76, .ref x78])) x80 = some (.lst [.ref x76, .ref x78]) := upd_same
    generalize upd B79 x80 (.lst [.ref x76, .ref x78]) = B81 at b81 e81 c81
    generalize upd H79 x80 (.lst [.ref x76, .ref x78]) = H81 at b81 h69 ⊢
    replace c1 := e81 _ _ c1
    replace c2 := e81 _ _ c2
    replace a0 := a0.ext e81
    replace a1 := a1.ext e81
    replace a2 := a2.ext e81
    replace a3 := a3.ext e81
    replace a4 := a4.ext e81
    replace a5 := a5.ext e81
    replace a6 := a6.ext e81
    replace c71 := e81 _ _ c71
    replace c73 := e81 _ _ c73
    replace c75 := e81 _ _ c75
    replace c77 := e81 _ _ c77
    replace c79 := e81 _ _ c79
    clear e81 b79 hx80
    clear B79 H79
    refine ⟨(by show 2 ≤ sizeLine; decide), fun x82 hx82 => ?_⟩
    replace h69 : (upd H81 x82 (.lst [.ref x74, .ref x80])) x23 = some (.lst L7) := by rw [upd_ne (ne_of_none h69 hx82)]; exact h69
    obtain ⟨b83, e83⟩ := b81.new (o := .lst [.ref x74, .ref x80]) hx82
    have c83 : (upd B81 x82 (.lst [.ref x74, .ref x80])) x82 = some (.lst [.ref x74, .ref x80]) := upd_same
    generalize upd B81 x82 (.lst [.ref x74, .ref x80]) = B83 at b83 e83 c83
    generalize upd H81 x82 (.lst [.ref x74, .ref x80]) = H83 at b83 h69 ⊢
    replace c1 := e83 _ _ c1
    replace c2 := e83 _ _ c2
    replace a0 := a0.ext e83
    replace a1 := a1.ext e83
    replace a2 := a2.ext e83
    replace a3 := a3.ext e83
    replace a4 := a4.ext e83
    replace a5 := a5.ext e83
    replace a6 := a6.ext e83
    replace c71 := e83 _ _ c71
    replace c73 := e83 _ _ c73
    replace c75 := e83 _ _ c75
    replace c77 := e83 _ _ c77
    replace c79 := e83 _ _ c79
    replace c81 := e83 _ _ c81
    clear e83 b81 hx82
    clear B81 H81
    have a7 : RowsL B83 x82 [[(true, 3), (false, 2)], [(false, 3), (true, 2)]] := ⟨[x74, x80], c83, .cons ⟨[x70, x72], c75, .cons c71 (.cons c73 (.nil))⟩ (.cons ⟨[x76, x78], c81, .cons c77 (.cons c79 (.nil))⟩ (.nil))⟩
    clear c71 c73 c75 c77 c79 c81 c83
    refine ⟨x23, _, _, rfl, rfl, h69, by rw [l7, sizeLine_eq]; decide, ?_⟩
    have b84 := b83.put (o := .lst (L7 ++ [.ref x82])) List.mem_cons_self
    have h84 : (upd H83 x23 (.lst (L7 ++ [.ref x82]))) x23 = some (.lst (L7 ++ [.ref x82])) := upd_same
    generalize upd H83 x23 (.lst (L7 ++ [.ref x82])) = H84 at b84 h84 ⊢
    clear b83 h69
    clear H83
    obtain ⟨L8, hL8⟩ : ∃ L : List V, L = L7 ++ [.ref x82] := ⟨_, rfl⟩
    rw [← hL8] at h84
    have l8 : L8.length = 8 := by rw [hL8, List.length_append, l7] <;> rfl
    refine ⟨_, rfl, .inl ⟨rfl, _, SqL.of h84⟩, _, rfl, _, rfl, (by show 2 ≤ sizeLine; decide), fun x85 hx85 => ?_⟩
    replace h84 : (upd H84 x85 (.lst [.ref tE, .ref tN])) x23 = some (.lst L8) := by rw [upd_ne (ne_of_none h84 hx85)]; exact h84
    obtain ⟨b86, e86⟩ := b84.new (o := .lst [.ref tE, .ref tN]) hx85
    have c86 : (upd B83 x85 (.lst [.ref tE, .ref tN])) x85 = some (.lst [.ref tE, .ref tN]) := upd_same
    generalize upd B83 x85 (.lst [.ref tE, .ref tN]) = B86 at b86 e86 c86
    generalize upd H84 x85 (.lst [.ref tE, .ref tN]) = H86 at b86 h84 ⊢
    replace c1 := e86 _ _ c1
    replace c2 := e86 _ _ c2
    replace a0 := a0.ext e86
    replace a1 := a1.ext e86
    replace a2 := a2.ext e86
    replace a3 := a3.ext e86
    replace a4 := a4.ext e86
    replace a5 := a5.ext e86
    replace a6 := a6.ext e86
    replace a7 := a7.ext e86
    clear e86 b84 hx85
    clear B83 H84
    refine ⟨(by show 1 ≤ sizeLine; decide), fun x87 hx87 => ?_⟩
    replace h84 : (upd H86 x87 (.lst [.ref x85])) x23 = some (.lst L8) := by rw [upd_ne (ne_of_none h84 hx87)]; exact h84
    obtain ⟨b88, e88⟩ := b86.new (o := .lst [.ref x85]) hx87
    have c88 : (upd B86 x87 (.lst [.ref x85])) x87 = some (.lst [.ref x85]) := upd_same
    generalize upd B86 x87 (.lst [.ref x85]) = B88 at b88 e88 c88
    generalize upd H86 x87 (.lst [.ref x85]) = H88 at b88 h84 ⊢
    replace c1 := e88 _ _ c1
    replace c2 := e88 _ _ c2
    replace a0 := a0.ext e88
    replace a1 := a1.ext e88
    replace a2 := a2.ext e88
    replace a3 := a3.ext e88
    replace a4 := a4.ext e88
    replace a5 := a5.ext e88
    replace a6 := a6.ext e88
    replace a7 := a7.ext e88
    replace c86 := e88 _ _ c86
    clear e88 b86 hx87
    clear B86 H86
    refine ⟨_, rfl, p, 3, rfl, b88.hp, by decide, by decide, fun t Hd t0 t1 Fd hpd => ?_⟩
    obtain ⟨t, rfl⟩ := Int.eq_ofNat_of_zero_le t0
    have bd := b88.draw Fd hpd
    have hd := pk Fd b88.hp h84 (noPot_len (by rw [l8]; decide))
    clear h84
    refine ⟨_, _, rfl, rfl, x87, _, _, rfl, rfl, bd.E _ _ c88, by omega, by omega, by rw [sizeLine_eq]; show 1 * _ ≤ _; omega, fun xr hxr => ?_⟩
    clear Fd hpd
    replace hd : (upd Hd xr (.lst (List.replicate (1 + ((t : Nat) : Int)).toNat [V.ref x85]).flatten)) x23 = some (.lst L8) := by rw [upd_ne (ne_of_none hd hxr)]; exact hd
    obtain ⟨b89, e89⟩ := bd.new (o := .lst (List.replicate (1 + ((t : Nat) : Int)).toNat [V.ref x85]).flatten) hxr
    have c89 : (upd B88 xr (.lst (List.replicate (1 + ((t : Nat) : Int)).toNat [V.ref x85]).flatten)) xr = some (.lst (List.replicate (1 + ((t : Nat) : Int)).toNat [V.ref x85]).flatten) := upd_same
    generalize upd B88 xr (.lst (List.replicate (1 + ((t : Nat) : Int)).toNat [V.ref x85]).flatten) = B89 at b89 e89 c89
    generalize upd Hd xr (.lst (List.replicate (1 + ((t : Nat) : Int)).toNat [V.ref x85]).flatten) = H89 at b89 hd ⊢
    replace c1 := e89 _ _ c1
    replace c2 := e89 _ _ c2
    replace a0 := a0.ext e89
    replace a1 := a1.ext e89
    replace a2 := a2.ext e89
    replace a3 := a3.ext e89
    replace a4 := a4.ext e89
    replace a5 := a5.ext e89
    replace a6 := a6.ext e89
    replace a7 := a7.ext e89
    replace c86 := e89 _ _ c86
    replace c88 := e89 _ _ c88
    clear e89 bd hxr
    have a8 : RowsL B89 xr (List.replicate (1 + t) [(true, 2 + m), (false, 2 + m)]) := rep_rows c89 (by omega) ⟨[tE, tN], c86, .cons c1 (.cons c2 .nil)⟩
    refine ⟨x23, _, _, rfl, rfl, hd, by rw [l8, sizeLine_eq]; decide, ?_⟩
    have b90 := b89.put (o := .lst (L8 ++ [.ref xr])) List.mem_cons_self
    have h90 : (upd H89 x23 (.lst (L8 ++ [.ref xr]))) x23 = some (.lst (L8 ++ [.ref xr])) := upd_same
    generalize upd H89 x23 (.lst (L8 ++ [.ref xr])) = H90 at b90 h90 ⊢
    clear b89 hd
    clear H89
    obtain ⟨L9, hL9⟩ : ∃ L : List V, L = L8 ++ [.ref xr] := ⟨_, rfl⟩
    rw [← hL9] at h90
    have l9 : L9.length = 9 := by rw [hL9, List.length_append, l8] <;> rfl
    refine ⟨_, rfl, _, rfl, p, x23, _, rfl, b90.hp, h90, b90.ne List.mem_cons_self, by rw [l9]; decide, by rw [l9]; decide, fun i v Hz hv Fz hpz => ?_⟩
    subst hL9 hL8 hL7 hL6 hL5 hL4
    have bz := b90.draw Fz hpz
    have mm : m = 0 ∨ m = 1 ∨ m = 2 := by omega
    have qq : q = 0 ∨ q = 1 ∨ q = 2 := by omega
    have tt : t = 0 ∨ t = 1 ∨ t = 2 := by omega
    match i, hv with
    | 0, hv => cases hv; exact k _ Hz _ _ (bz.drop (fun _ z => nomatch z)) a0 (by rcases mm with rfl | rfl | rfl <;> exact (okr_of (by decide +kernel)))
    | 1, hv => cases hv; exact k _ Hz _ _ (bz.drop (fun _ z => nomatch z)) a1 (by rcases mm with rfl | rfl | rfl <;> exact (okr_of (by decide +kernel)))
    | 2, hv => cases hv; exact k _ Hz _ _ (bz.drop (fun _ z => nomatch z)) a2 (by rcases mm with rfl | rfl | rfl <;> exact (okr_of (by decide +kernel)))
    | 3, hv => cases hv; exact k _ Hz _ _ (bz.drop (fun _ z => nomatch z)) a3 (by rcases mm with rfl | rfl | rfl <;> exact (okr_of (by decide +kernel)))
    | 4, hv => cases hv; exact k _ Hz _ _ (bz.drop (fun _ z => nomatch z)) a4 (okr_of (by decide +kernel))
    | 5, hv => cases hv; exact k _ Hz _ _ (bz.drop (fun _ z => nomatch z)) a5 (by rcases mm with rfl | rfl | rfl <;> rcases qq with rfl | rfl | rfl <;> exact (okr_of (by decide +kernel)))
    | 6, hv => cases hv; exact k _ Hz _ _ (bz.drop (fun _ z => nomatch z)) a6 (okr_of (by decide +kernel))
    | 7, hv => cases hv; exact k _ Hz _ _ (bz.drop (fun _ z => nomatch z)) a7 (okr_of (by decide +kernel))
    | 8, hv => cases hv; exact k _ Hz _ _ (bz.drop (fun _ z => nomatch z)) a8 (by rcases mm with rfl | rfl | rfl <;> rcases tt with rfl | rfl | rfl <;> exact (okr_of (by decide +kernel)))
end
end Mc

set_option Elab.async false
set_option linter.all false
set_option maxRecDepth 100000
set_option maxHeartbeats 4000000
set_option exponentiation.threshold 20000
namespace Mc
open PySem PySem.Spec PyProof.Rows L2 ClX StX
open RZ
section
variable {P : Program} {w : World} {K : PySem.W.Frag} {mg : Str → Option Value} {base : Heap} {f U0 kX M0 R0 C0 aX : Addr} {mc : Value} {fd : FuncData}
theorem sc_plan : FnScope ["_law_rounds_here"] ["_law_rounds_here"] (defScope s_plan) := ⟨rfl, rfl, rfl, by decide +kernel, rfl, by decide +kernel, by decide +kernel⟩
theorem len2 {α : Type} : ∀ {l : List α}, l.length = 2 → ∃ a b, l = [a, b]
  | [a, b], _ => ⟨a, b, rfl⟩
theorem len3 {α : Type} : ∀ {l : List α}, l.length = 3 → ∃ a b c, l = [a, b, c]
  | [a, b, c], _ => ⟨a, b, c, rfl⟩
def spPlan5 (C0 : Addr) : Sp := fun vs H Q _ => ∃ (l : Addr) (rs : List (List Cut)), vs = [.ref l] ∧ RowsL H l rs ∧ OkR rs ∧ ∀ x H', Ext H H' → H x = none → PlanAt C0 H' x rs → Q (.ref x) H'
theorem ok_plan (F : FunD K "_law_plan" "_law_plan" (defArgs s_plan) (defBody s_plan) (defScope s_plan) [] [] f fd) (T : TB mg) (R : PlanT K mg C0 aX mc) {fI : Addr} (MkP : Mk K C0 fI) (GP : FnR P w K mg base CX0 6 fI (spPlanI K C0)) : FnOk P w K mg base CX0 8 f fd ["_law_rounds_here"] (spPlan5 C0) := by
  refine F.ok sc_plan (fun vs H Q E h => ?_) (fun cdv A outer s H vs Q E hr h => ?_)
  · obtain ⟨l, rs, rfl, hl0, ok, k⟩ := h
    rfl
  · obtain ⟨l, rs, rfl, hl0, ok, k⟩ := h
    refine ⟨_, (PSs.nox (pss_cons (ps_if (pt_cmpR op_eq (pe_callB call_len_seq (by rfl) T.len PySem.boot_len (pa_cons (pv 0) pa_nil)) pe_int (nomark _)) (pss_one (ps_ret (pe_makeR MkP GP (hr.mono (by decide)) (by rfl) R.mgP pass0 (pa_cons (pe_ix ix_seq (pv 0) pe_int (fun _ _ => rfl)) pa_nil)))) pss_nil)
      (pss_cons (ps_if (pt_cmpR op_eq (pe_callB call_len_seq (by rfl) T.len PySem.boot_len (pa_cons (pv 0) pa_nil)) pe_int (nomark _)) (pss_one (ps_ret (pe_makeR MkP GP (hr.mono (by decide)) (by rfl) R.mgP pass0 (pa_cons (pe_ix ix_seq (pv 0) pe_int (fun _ _ => rfl)) (pa_cons (pe_ix ix_seq (pv 0) pe_int (fun _ _ => rfl)) pa_nil))))) pss_nil)
      (pss_one (ps_ret (pe_makeR MkP GP (hr.mono (by decide)) (by rfl) R.mgP pass0 (pa_cons (pe_ix ix_seq (pv 0) pe_int (fun _ _ => rfl)) (pa_cons (pe_ix ix_seq (pv 0) pe_int (fun _ _ => rfl)) (pa_cons (pe_ix ix_seq (pv 0) pe_int (fun _ _ => rfl)) pa_nil))))))))), ?_⟩
    obtain ⟨as, hl, hpd⟩ := hl0
    obtain ⟨vs0, hvs⟩ : ∃ vs0, vs0 = as.map V.ref := ⟨_, rfl⟩
    have hv : Paired (CutsAt K H) vs0 rs := by rw [hvs]; exact pd_refs (pd_imp (fun _ _ q => cutsAt_of q) hpd)
    rw [← hvs] at hl
    clear hvs hpd
    have lv := pd_len hv
    have l3 := ok.l3
    have l1 := ok.l1
    refine ⟨_, rfl, l, _, rfl, .inl (SqL.of hl), rfl, _, rfl, ite2 (fun h1 => ?_) (fun h1 => ?_)⟩
    · have h1 := V.int.inj (of_decide_eq_true h1)
      obtain ⟨v1, rfl⟩ := List.length_eq_one_iff.mp (show vs0.length = 1 by omega)
      refine ⟨_, rfl, .inl ⟨l, _, 0, _, rfl, rfl, SqL.of hl, rfl, fun x dx hx hdx ne => ?_⟩⟩
      have e4 : Ext H (upd (upd H dx (.own x)) x (.ins C0 dx [])) := mk_ext hx hdx
      exact ⟨x, dx, [v1], rs, rfl, upd_same, pd_imp (fun v cs q => CutsAt.ext q e4) hv, ok, fun H5 f5 hp5 => ⟨rfl, k x H5 (made_ext hx hdx f5) hx hp5⟩⟩
    · have h1 : ¬ vs0.length = 1 := fun z => h1 (decide_eq_true (by rw [z]; rfl))
      refine ⟨_, rfl, l, _, rfl, .inl (SqL.of hl), rfl, _, rfl, ite2 (fun h2 => ?_) (fun h2 => ?_)⟩
      · have h2 := V.int.inj (of_decide_eq_true h2)
        obtain ⟨v1, v2, rfl⟩ := len2 (show vs0.length = 2 by omega)
        refine ⟨_, rfl, .inl ⟨l, _, 0, _, rfl, rfl, SqL.of hl, rfl, _, rfl, .inl ⟨l, _, 1, _, rfl, rfl, SqL.of hl, rfl, fun x dx hx hdx ne => ?_⟩⟩⟩
        have e4 : Ext H (upd (upd H dx (.own x)) x (.ins C0 dx [])) := mk_ext hx hdx
        exact ⟨x, dx, [v1, v2], rs, rfl, upd_same, pd_imp (fun v cs q => CutsAt.ext q e4) hv, ok, fun H5 f5 hp5 => ⟨rfl, k x H5 (made_ext hx hdx f5) hx hp5⟩⟩
      · have h2 : ¬ vs0.length = 2 := fun z => h2 (decide_eq_true (by rw [z]; rfl))
        obtain ⟨v1, v2, v3, rfl⟩ := len3 (show vs0.length = 3 by omega)
        refine ⟨_, rfl, .inl ⟨l, _, 0, _, rfl, rfl, SqL.of hl, rfl, _, rfl, .inl ⟨l, _, 1, _, rfl, rfl, SqL.of hl, rfl, _, rfl, .inl ⟨l, _, 2, _, rfl, rfl, SqL.of hl, rfl, fun x dx hx hdx ne => ?_⟩⟩⟩⟩
        have e4 : Ext H (upd (upd H dx (.own x)) x (.ins C0 dx [])) := mk_ext hx hdx
        exact ⟨x, dx, [v1, v2, v3], rs, rfl, upd_same, pd_imp (fun v cs q => CutsAt.ext q e4) hv, ok, fun H5 f5 hp5 => ⟨rfl, k x H5 (made_ext hx hdx f5) hx hp5⟩⟩
theorem sc_length : FnScope ["_law_pot_here", "_law_great"] ["_law_pot_here"] (defScope s_length) := ⟨rfl, rfl, rfl, by decide +kernel, rfl, by decide +kernel, by decide +kernel⟩
theorem log6 : ((10 : Int) ^ (6 : Int).toNat).natAbs.log2 < 9000 := by decide
def spLength5 : Sp := fun vs H Q _ => ∃ (p : Addr) (B0 : Hp), vs = [.ref p] ∧ Bld p [] H B0 B0 H ∧ ∀ t (a b : Int) H' B, Bld p [] H B0 B H' → B t = some (.tup [.int a, .int b]) → 0 < a → 0 < b → a.natAbs < 2 ^ 70 → b.natAbs < 2 ^ 70 → Q (.ref t) H'
theorem ok_length (F : FunD K "_law_length" "_law_length" (defArgs s_length) (defBody s_length) (defScope s_length) [] [] f fd) (T : TB mg) {fdraw : Addr} {fddraw : FuncData} (Ddraw : Gd P w K mg base "_law_draw" 1 ["_law_pot_here", "_law_size"] (spDraw) fdraw fddraw) {fpick : Addr} {fdpick : FuncData} (Dpick : Gd P w K mg base "_law_pick" 2 ["_law_pot_here", "_law_some"] (spPick) fpick fdpick) : FnOk P w K mg base CX0 3 f fd ["_law_pot_here"] (spLength5) := by
  refine F.ok sc_length (fun vs H Q E h => ?_) (fun cdv A outer s H vs Q E hr h => ?_)
  · obtain ⟨p, B0, rfl, bs, k⟩ := h
    rfl
  · obtain ⟨p, B0, rfl, bs, k⟩ := h
    refine ⟨_, (PSs.nox (pss_cons (ps_set (i := 1) sc_length.nd rfl (.inl rfl) (pe_tup (pa_cons (pe_op op_add (pe_op op_pow pe_int pe_int) (pe_gd Ddraw hr (by decide) (by rfl) (pa_cons (pv 0) (pa_cons (pe_op op_pow pe_int pe_int) pa_nil)))) (pa_cons (pe_op op_add pe_int (pe_gd Ddraw hr (by decide) (by rfl) (pa_cons (pv 0) (pa_cons (pe_op op_pow pe_int pe_int) pa_nil)))) pa_nil))))
      (pss_one (ps_ret (pe_gd Dpick hr (by decide) (by rfl) (pa_cons (pv 0) (pa_cons (pe_lst (pa_cons (pe_tup (pa_cons pe_int (pa_cons pe_int pa_nil))) (pa_cons (pe_tup (pa_cons pe_int (pa_cons pe_int pa_nil))) (pa_cons (pe_tup (pa_cons pe_int (pa_cons pe_int pa_nil))) (pa_cons (pe_tup (pa_cons (pe_op op_add pe_int (pe_gd Ddraw hr (by decide) (by rfl) (pa_cons (pv 0) (pa_cons pe_int pa_nil)))) (pa_cons (pe_op op_add pe_int (pe_gd Ddraw hr (by decide) (by rfl) (pa_cons (pv 0) (pa_cons pe_int pa_nil)))) pa_nil))) (pa_cons (pv 1) pa_nil)))))) pa_nil))))))), ?_⟩
    have hp := bs.hp
    refine ⟨_, _, rfl, rfl, ⟨by decide, by decide, by decide⟩, _, rfl, _, _, rfl, rfl, ⟨by decide, by decide, by decide⟩, p, _, rfl, hp, by decide, log6, fun r H1 r0 r1 F1 hp1 => ⟨_, _, rfl, rfl, _, rfl, _, _, rfl, rfl, ⟨by decide, by decide, by decide⟩, p, _, rfl, hp1, by decide, log6, fun s H2 s0 s1 F2 hp2 => ⟨_, _, rfl, rfl, (by show 2 ≤ sizeLine; decide), fun tg htg => ?_⟩⟩⟩
    have b0 := (bs.draw F1 hp1).draw F2 hp2
    clear F1 F2 hp1 hp2
    obtain ⟨b1, e1⟩ := b0.new (o := .tup [.int (10 ^ (20 : Int).toNat + r), .int (1 + s)]) htg
    have c1 : (upd B0 tg (.tup [.int (10 ^ (20 : Int).toNat + r), .int (1 + s)])) tg = some (.tup [.int (10 ^ (20 : Int).toNat + r), .int (1 + s)]) := upd_same
    generalize upd B0 tg (.tup [.int (10 ^ (20 : Int).toNat + r), .int (1 + s)]) = B1 at b1 e1 c1
    generalize upd H2 tg (.tup [.int (10 ^ (20 : Int).toNat + r), .int (1 + s)]) = H1 at b1  ⊢
    clear e1 b0 htg
    refine ⟨_, rfl, (by show 2 ≤ sizeLine; decide), fun x2 hx2 => ?_⟩
    obtain ⟨b3, e3⟩ := b1.new (o := .tup [.int 1, .int 1]) hx2
    have c3 : (upd B1 x2 (.tup [.int 1, .int 1])) x2 = some (.tup [.int 1, .int 1]) := upd_same
    generalize upd B1 x2 (.tup [.int 1, .int 1]) = B3 at b3 e3 c3
    generalize upd H1 x2 (.tup [.int 1, .int 1]) = H3 at b3  ⊢
    replace c1 := e3 _ _ c1
    clear e3 b1 hx2
    clear B1 H1
    refine ⟨(by show 2 ≤ sizeLine; decide), fun x4 hx4 => ?_⟩
    obtain ⟨b5, e5⟩ := b3.new (o := .tup [.int 8, .int 1]) hx4
    have c5 : (upd B3 x4 (.tup [.int 8, .int 1])) x4 = some (.tup [.int 8, .int 1]) := upd_same
    generalize upd B3 x4 (.tup [.int 8, .int 1]) = B5 at b5 e5 c5
    generalize upd H3 x4 (.tup [.int 8, .int 1]) = H5 at b5  ⊢
    replace c1 := e5 _ _ c1
    replace c3 := e5 _ _ c3
    clear e5 b3 hx4
    clear B3 H3
    refine ⟨(by show 2 ≤ sizeLine; decide), fun x6 hx6 => ?_⟩
    obtain ⟨b7, e7⟩ := b5.new (o := .tup [.int 360, .int 1]) hx6
    have c7 : (upd B5 x6 (.tup [.int 360, .int 1])) x6 = some (.tup [.int 360, .int 1]) := upd_same
    generalize upd B5 x6 (.tup [.int 360, .int 1]) = B7 at b7 e7 c7
    generalize upd H5 x6 (.tup [.int 360, .int 1]) = H7 at b7  ⊢
    replace c1 := e7 _ _ c1
    replace c3 := e7 _ _ c3
    replace c5 := e7 _ _ c5
    clear e7 b5 hx6
    clear B5 H5
    refine ⟨_, rfl, p, 40, rfl, b7.hp, by decide, by decide, fun c Hc clo chi Fc hpc => ?_⟩
    have bc := b7.draw Fc hpc
    clear Fc hpc b7
    refine ⟨_, _, rfl, rfl, _, rfl, p, 9, rfl, bc.hp, by decide, by decide, fun d Hd dlo dhi Fd hpd => ?_⟩
    have bd := bc.draw Fd hpd
    clear Fd hpd bc
    refine ⟨_, _, rfl, rfl, (by show 2 ≤ sizeLine; decide), fun x8 hx8 => ?_⟩
    obtain ⟨b9, e9⟩ := bd.new (o := .tup [.int (1 + c), .int (1 + d)]) hx8
    have c9 : (upd B7 x8 (.tup [.int (1 + c), .int (1 + d)])) x8 = some (.tup [.int (1 + c), .int (1 + d)]) := upd_same
    generalize upd B7 x8 (.tup [.int (1 + c), .int (1 + d)]) = B9 at b9 e9 c9
    generalize upd Hd x8 (.tup [.int (1 + c), .int (1 + d)]) = H9 at b9  ⊢
    replace c1 := e9 _ _ c1
    replace c3 := e9 _ _ c3
    replace c5 := e9 _ _ c5
    replace c7 := e9 _ _ c7
    clear e9 bd hx8
    refine ⟨_, rfl, (by show 5 ≤ sizeLine; decide), fun x10 hx10 => ?_⟩
    obtain ⟨b11, e11⟩ := b9.new (o := .lst [.ref x2, .ref x4, .ref x6, .ref x8, .ref tg]) hx10
    have c11 : (upd B9 x10 (.lst [.ref x2, .ref x4, .ref x6, .ref x8, .ref tg])) x10 = some (.lst [.ref x2, .ref x4, .ref x6, .ref x8, .ref tg]) := upd_same
    generalize upd B9 x10 (.lst [.ref x2, .ref x4, .ref x6, .ref x8, .ref tg]) = B11 at b11 e11 c11
    generalize upd H9 x10 (.lst [.ref x2, .ref x4, .ref x6, .ref x8, .ref tg]) = H11 at b11  ⊢
    replace c1 := e11 _ _ c1
    replace c3 := e11 _ _ c3
    replace c5 := e11 _ _ c5
    replace c7 := e11 _ _ c7
    replace c9 := e11 _ _ c9
    clear e11 b9 hx10
    clear B9 H9
    refine ⟨p, x10, _, rfl, b11.hp, b11.E _ _ c11, (fun z => by have := b11.bp; rw [← z, c11] at this; cases this), (by show 0 < 5; decide), (by show 5 ≤ 1000; decide), fun i v Hz hv Fz hpz => ?_⟩
    have bz := b11.draw Fz hpz
    have e20 : (10 : Int) ^ (20 : Int).toNat = 100000000000000000000 := by decide
    have e6 : (10 : Int) ^ (6 : Int).toNat = 1000000 := by decide
    match i, hv with
    | 0, hv => cases hv; exact k _ _ _ Hz _ bz c3 (by omega) (by omega) (by omega) (by omega)
    | 1, hv => cases hv; exact k _ _ _ Hz _ bz c5 (by omega) (by omega) (by omega) (by omega)
    | 2, hv => cases hv; exact k _ _ _ Hz _ bz c7 (by omega) (by omega) (by omega) (by omega)
    | 3, hv => cases hv; exact k _ _ _ Hz _ bz c9 (by omega) (by omega) (by omega) (by omega)
    | 4, hv => cases hv; exact k _ _ _ Hz _ bz c1 (by omega) (by omega) (by omega) (by omega)
theorem sc_reach : FnScope ["_law_pot_here", "_law_bottom"] ["_law_pot_here"] (defScope s_reach) := ⟨rfl, rfl, rfl, by decide +kernel, rfl, by decide +kernel, by decide +kernel⟩
def spReach5 : Sp := fun vs H Q _ => ∃ (p : Addr) (B0 : Hp), vs = [.ref p] ∧ Bld p [] H B0 B0 H ∧ ∀ t (a b : Int) H' B, Bld p [] H B0 B H' → B t = some (.tup [.int a, .int b]) → 0 < a → a ≤ b → b ≤ 12 → Q (.ref t) H'
theorem ok_reach (F : FunD K "_law_reach" "_law_reach" (defArgs s_reach) (defBody s_reach) (defScope s_reach) [] [] f fd) (T : TB mg) {fdraw : Addr} {fddraw : FuncData} (Ddraw : Gd P w K mg base "_law_draw" 1 ["_law_pot_here", "_law_size"] (spDraw) fdraw fddraw) {fpick : Addr} {fdpick : FuncData} (Dpick : Gd P w K mg base "_law_pick" 2 ["_law_pot_here", "_law_some"] (spPick) fpick fdpick) : FnOk P w K mg base CX0 3 f fd ["_law_pot_here"] (spReach5) := by
  refine F.ok sc_reach (fun vs H Q E h => ?_) (fun cdv A outer s H vs Q E hr h => ?_)
  · obtain ⟨p, B0, rfl, bs, k⟩ := h
    rfl
  · obtain ⟨p, B0, rfl, bs, k⟩ := h
    refine ⟨_, (PSs.nox (pss_cons (ps_set (i := 1) sc_reach.nd rfl (.inl rfl) (pe_op op_add pe_int (pe_gd Ddraw hr (by decide) (by rfl) (pa_cons (pv 0) (pa_cons pe_int pa_nil)))))
      (pss_one (ps_ret (pe_gd Dpick hr (by decide) (by rfl) (pa_cons (pv 0) (pa_cons (pe_lst (pa_cons (pe_tup (pa_cons pe_int (pa_cons pe_int pa_nil))) (pa_cons (pe_tup (pa_cons pe_int (pa_cons pe_int pa_nil))) (pa_cons (pe_tup (pa_cons pe_int (pa_cons pe_int pa_nil))) (pa_cons (pe_tup (pa_cons pe_int (pa_cons pe_int pa_nil))) (pa_cons (pe_tup (pa_cons pe_int (pa_cons pe_int pa_nil))) (pa_cons (pe_tup (pa_cons (pe_op op_add pe_int (pe_gd Ddraw hr (by decide) (by rfl) (pa_cons (pv 0) (pa_cons (pv 1) pa_nil)))) (pa_cons (pv 1) pa_nil))) pa_nil))))))) pa_nil))))))), ?_⟩
    have hp := bs.hp
    refine ⟨_, rfl, p, 12, rfl, hp, by decide, by decide, fun r H1 r0 r1 F1 hp1 => ⟨_, _, rfl, rfl, ?_⟩⟩
    have b0 := bs.draw F1 hp1
    clear F1 hp1
    refine ⟨_, rfl, (by show 2 ≤ sizeLine; decide), fun x1 hx1 => ?_⟩
    obtain ⟨b2, e2⟩ := b0.new (o := .tup [.int 1, .int 1]) hx1
    have c2 : (upd B0 x1 (.tup [.int 1, .int 1])) x1 = some (.tup [.int 1, .int 1]) := upd_same
    generalize upd B0 x1 (.tup [.int 1, .int 1]) = B2 at b2 e2 c2
    generalize upd H1 x1 (.tup [.int 1, .int 1]) = H2 at b2  ⊢
    clear e2 b0 hx1
    refine ⟨(by show 2 ≤ sizeLine; decide), fun x3 hx3 => ?_⟩
    obtain ⟨b4, e4⟩ := b2.new (o := .tup [.int 1, .int 1]) hx3
    have c4 : (upd B2 x3 (.tup [.int 1, .int 1])) x3 = some (.tup [.int 1, .int 1]) := upd_same
    generalize upd B2 x3 (.tup [.int 1, .int 1]) = B4 at b4 e4 c4
    generalize upd H2 x3 (.tup [.int 1, .int 1]) = H4 at b4  ⊢
    replace c2 := e4 _ _ c2
    clear e4 b2 hx3
    clear B2 H2
    refine ⟨(by show 2 ≤ sizeLine; decide), fun x5 hx5 => ?_⟩
    obtain ⟨b6, e6⟩ := b4.new (o := .tup [.int 1, .int 2]) hx5
    have c6 : (upd B4 x5 (.tup [.int 1, .int 2])) x5 = some (.tup [.int 1, .int 2]) := upd_same
    generalize upd B4 x5 (.tup [.int 1, .int 2]) = B6 at b6 e6 c6
    generalize upd H4 x5 (.tup [.int 1, .int 2]) = H6 at b6  ⊢
    replace c2 := e6 _ _ c2
    replace c4 := e6 _ _ c4
    clear e6 b4 hx5
    clear B4 H4
    refine ⟨(by show 2 ≤ sizeLine; decide), fun x7 hx7 => ?_⟩
    obtain ⟨b8, e8⟩ := b6.new (o := .tup [.int 1, .int 3]) hx7
    have c8 : (upd B6 x7 (.tup [.int 1, .int 3])) x7 = some (.tup [.int 1, .int 3]) := upd_same
    generalize upd B6 x7 (.tup [.int 1, .int 3]) = B8 at b8 e8 c8
    generalize upd H6 x7 (.tup [.int 1, .int 3]) = H8 at b8  ⊢
    replace c2 := e8 _ _ c2
    replace c4 := e8 _ _ c4
    replace c6 := e8 _ _ c6
    clear e8 b6 hx7
    clear B6 H6
    refine ⟨(by show 2 ≤ sizeLine; decide), fun x9 hx9 => ?_⟩
    obtain ⟨b10, e10⟩ := b8.new (o := .tup [.int 2, .int 3]) hx9
    have c10 : (upd B8 x9 (.tup [.int 2, .int 3])) x9 = some (.tup [.int 2, .int 3]) := upd_same
    generalize upd B8 x9 (.tup [.int 2, .int 3]) = B10 at b10 e10 c10
    generalize upd H8 x9 (.tup [.int 2, .int 3]) = H10 at b10  ⊢
    replace c2 := e10 _ _ c2
    replace c4 := e10 _ _ c4
    replace c6 := e10 _ _ c6
    replace c8 := e10 _ _ c8
    clear e10 b8 hx9
    clear B8 H8
    refine ⟨_, rfl, _, rfl, p, 1 + r, rfl, b10.hp, by omega, by exact small_log (n := 10) (by omega) (by decide) (by decide), fun c Hc clo chi Fc hpc => ?_⟩
    have bc := b10.draw Fc hpc
    refine ⟨_, _, rfl, rfl, _, rfl, (by show 2 ≤ sizeLine; decide), fun x11 hx11 => ?_⟩
    obtain ⟨b12, e12⟩ := bc.new (o := .tup [.int (1 + c), .int (1 + r)]) hx11
    have c12 : (upd B10 x11 (.tup [.int (1 + c), .int (1 + r)])) x11 = some (.tup [.int (1 + c), .int (1 + r)]) := upd_same
    generalize upd B10 x11 (.tup [.int (1 + c), .int (1 + r)]) = B12 at b12 e12 c12
    generalize upd Hc x11 (.tup [.int (1 + c), .int (1 + r)]) = H12 at b12  ⊢
    replace c2 := e12 _ _ c2
    replace c4 := e12 _ _ c4
    replace c6 := e12 _ _ c6
    replace c8 := e12 _ _ c8
    replace c10 := e12 _ _ c10
    clear e12 bc hx11
    refine ⟨(by show 6 ≤ sizeLine; decide), fun x13 hx13 => ?_⟩
    obtain ⟨b14, e14⟩ := b12.new (o := .lst [.ref x1, .ref x3, .ref x5, .ref x7, .ref x9, .ref x11]) hx13
    have c14 : (upd B12 x13 (.lst [.ref x1, .ref x3, .ref x5, .ref x7, .ref x9, .ref x11])) x13 = some (.lst [.ref x1, .ref x3, .ref x5, .ref x7, .ref x9, .ref x11]) := upd_same
    generalize upd B12 x13 (.lst [.ref x1, .ref x3, .ref x5, .ref x7, .ref x9, .ref x11]) = B14 at b14 e14 c14
    generalize upd H12 x13 (.lst [.ref x1, .ref x3, .ref x5, .ref x7, .ref x9, .ref x11]) = H14 at b14  ⊢
    replace c2 := e14 _ _ c2
    replace c4 := e14 _ _ c4
    replace c6 := e14 _ _ c6
    replace c8 := e14 _ _ c8
    replace c10 := e14 _ _ c10
    replace c12 := e14 _ _ c12
    clear e14 b12 hx13
    clear B12 H12
    refine ⟨p, x13, _, rfl, b14.hp, b14.E _ _ c14, (fun z => by have := b14.bp; rw [← z, c14] at this; cases this), (by show 0 < 6; decide), (by show 6 ≤ 1000; decide), fun i v Hz hv Fz hpz => ?_⟩
    have bz := b14.draw Fz hpz
    match i, hv with
    | 0, hv => cases hv; exact k _ _ _ Hz _ bz c2 (by omega) (by omega) (by omega)
    | 1, hv => cases hv; exact k _ _ _ Hz _ bz c4 (by omega) (by omega) (by omega)
    | 2, hv => cases hv; exact k _ _ _ Hz _ bz c6 (by omega) (by omega) (by omega)
    | 3, hv => cases hv; exact k _ _ _ Hz _ bz c8 (by omega) (by omega) (by omega)
    | 4, hv => cases hv; exact k _ _ _ Hz _ bz c10 (by omega) (by omega) (by omega)
    | 5, hv => cases hv; exact k _ _ _ Hz _ bz c12 (by omega) (by omega) (by omega)
theorem sc_passed : FnScope ["_law_pot_here", "_law_pair"] ["_law_pot_here", "_law_pair"] (defScope s_passed) := ⟨rfl, rfl, rfl, by decide +kernel, rfl, by decide +kernel, by decide +kernel⟩
def spPassed5 (R0 : Addr) : Sp := fun vs H Q _ => ∃ (p t : Addr) (a b : Int), vs = [.ref p, .ref t] ∧ Pot H p ∧ H t = some (.tup [.int a, .int b]) ∧ 0 < a ∧ 0 < b ∧ b.natAbs < 2 ^ 8000 ∧ ∀ x H', Frm [p] H H' → Pot H' p → NumV R0 H' x a b → Q x H'
theorem ok_passed (F : FunD K "_law_passed" "_law_passed" (defArgs s_passed) (defBody s_passed) (defScope s_passed) [] [] f fd) (T : TB mg) (RQ : RatT K mg R0) {fdraw : Addr} {fddraw : FuncData} (Ddraw : Gd P w K mg base "_law_draw" 1 ["_law_pot_here", "_law_size"] (spDraw) fdraw fddraw) {fI : Addr} {fdI : FuncData} {dsI : List Value} (MI : Mk K R0 fI) (GI : FnOk P w K mg base CX0 2 fI fdI ["self", "top", "bottom"] (spInitR R0)) (bI2 : Binds K fdI ["self", "top", "bottom"] []) (hdI : Vals [.int 1] dsI) (bI1 : Binds K fdI ["self", "top", "bottom"] dsI) : FnOk P w K mg base CX0 4 f fd ["_law_pot_here", "_law_pair"] (spPassed5 R0) := by
  refine F.ok sc_passed (fun vs H Q E h => ?_) (fun cdv A outer s H vs Q E hr h => ?_)
  · obtain ⟨p, t, a, b, rfl, hp, ht, ha, hb, zb, k⟩ := h
    rfl
  · obtain ⟨p, t, a, b, rfl, hp, ht, ha, hb, zb, k⟩ := h
    refine ⟨_, (PSs.nox (pss_one (ps_ret (pe_ifExp (PW.pt (pw_and (pt_cmpR op_eq (pe_ix ix_seq (pv 1) pe_int (fun _ _ => rfl)) pe_int (nomark _)) (pw_and1 (pt_cmpR op_eq (pe_gd Ddraw hr (by decide) (by rfl) (pa_cons (pv 0) (pa_cons pe_int pa_nil))) pe_int (nomark _))))) (pe_ix ix_seq (pv 1) pe_int (fun _ _ => rfl)) (pe_make MI GI (hr.mono (by decide)) (by rfl) RQ.mgR bI2 .nil pass0 (pa_cons (pe_ix ix_seq (pv 1) pe_int (fun _ _ => rfl)) (pa_cons (pe_ix ix_seq (pv 1) pe_int (fun _ _ => rfl)) pa_nil))))))), ?_⟩
    have mk : ∀ H1, Frm [p] H H1 → Pot H1 p → ∀ (q dq : Addr), H1 q = none → H1 dq = none → ∀ H2, Frm [q] (upd (upd H1 dq (.own q)) q (.ins R0 dq [])) H2 → H2 q = some (.ins R0 dq (fl (redN a b) (redD a b))) → Q (.ref q) H2 := fun H1 F1 hp1 q dq hq hdq H2 F2 h2 => by
      have e2 := made_ext hq hdq F2
      exact k _ H2 (F1.trans (Frm.ext e2)) (hp1.frm (M := []) (Frm.ext e2) (fun z => nomatch z)) (.inl ⟨q, rfl, hb, dq, h2⟩)
    have ixs : ∀ (H1 : Hp), Frm [p] H H1 → H1 t = some (.tup [.int a, .int b]) := fun H1 F1 => F1.tup hp ht
    refine ⟨_, rfl, .inr (.inl ⟨t, _, 1, _, rfl, rfl, SqT.of ht, rfl, rfl, _, rfl, ite2 (fun h1 => ?_) (fun _ => ?_)⟩)⟩
    · have h1 : b = 1 := V.int.inj (of_decide_eq_true h1)
      refine ⟨_, rfl, p, 2, rfl, hp, by decide, by decide, fun r H1 r0 r1 F1 hp1 => ⟨rfl, _, rfl, ite2 (fun _ => ?_) (fun _ => ?_)⟩⟩
      · exact ⟨_, rfl, .inr (.inl ⟨t, _, 0, _, rfl, rfl, SqT.of (ixs H1 F1), rfl, k _ H1 F1 hp1 (.inr ⟨rfl, h1⟩)⟩)⟩
      · exact ⟨_, rfl, .inr (.inl ⟨t, _, 0, _, rfl, rfl, SqT.of (ixs H1 F1), rfl, _, rfl, .inr (.inl ⟨t, _, 1, _, rfl, rfl, SqT.of (ixs H1 F1), rfl, fun q dq hq hdq ne => ⟨q, dq, a, b, rfl, upd_same, by omega, zb, fun H2 F2 h2 => ⟨rfl, mk H1 F1 hp1 q dq hq hdq H2 F2 h2⟩⟩⟩)⟩)⟩
    · exact ⟨_, rfl, .inr (.inl ⟨t, _, 0, _, rfl, rfl, SqT.of ht, rfl, _, rfl, .inr (.inl ⟨t, _, 1, _, rfl, rfl, SqT.of ht, rfl, fun q dq hq hdq ne => ⟨q, dq, a, b, rfl, upd_same, by omega, zb, fun H2 F2 h2 => ⟨rfl, mk H (Frm.refl _ _) hp q dq hq hdq H2 F2 h2⟩⟩⟩)⟩)⟩
end
end Mc

set_option Elab.async false
set_option linter.all false
set_option maxRecDepth 100000
set_option maxHeartbeats 4000000
set_option exponentiation.threshold 20000
namespace Mc
open PySem PySem.Spec PyProof.Rows L2 ClX StX
open RZ
section
variable {P : Program} {w : World} {K : PySem.W.Frag} {mg : Str → Option Value} {base : Heap} {f U0 kX M0 R0 C0 aX : Addr} {mc : Value} {fd : FuncData}
abbrev kS (x : Str) : Key := Sum.inr x
def mdD (lr ll lq ls : Addr) (kd : Bool) : List (Key × V) := [(kS "rounds", .ref lr), (kS "lengths", .ref ll), (kS "reaches", .ref lq), (kS "shut", .ref ls), (kS "kind", .str (kdS kd))]
theorem putK_new {kvs : List (Key × V)} {k : Key} {v : V} (h : (kvs.any fun kv => decide (kv.1 = k)) = false) : putK kvs k v = kvs ++ [(k, v)] := by
  unfold putK
  rw [h]
  rfl
theorem md_2 (a b : V) : mergeK [] [(kS "rounds", a), (kS "lengths", b)] = [(kS "rounds", a), (kS "lengths", b)] := by
  unfold mergeK
  rw [List.foldl_cons, List.foldl_cons, List.foldl_nil, putK_new (kvs := []) rfl, List.nil_append, putK_new (by show (decide (kS "rounds" = kS "lengths") || false) = false; decide +kernel)]
  rfl
theorem md_3 (a b c : V) : putK [(kS "rounds", a), (kS "lengths", b)] (kS "reaches") c = [(kS "rounds", a), (kS "lengths", b), (kS "reaches", c)] := by
  rw [putK_new (by show (decide (kS "rounds" = kS "reaches") || (decide (kS "lengths" = kS "reaches") || false)) = false; decide +kernel)]
  rfl
theorem md_4 (a b c d : V) : putK [(kS "rounds", a), (kS "lengths", b), (kS "reaches", c)] (kS "shut") d = [(kS "rounds", a), (kS "lengths", b), (kS "reaches", c), (kS "shut", d)] := by
  rw [putK_new (by show (decide (kS "rounds" = kS "shut") || (decide (kS "lengths" = kS "shut") || (decide (kS "reaches" = kS "shut") || false))) = false; decide +kernel)]
  rfl
theorem md_5 (lr ll lq ls : Addr) (kd : Bool) : putK [(kS "rounds", .ref lr), (kS "lengths", .ref ll), (kS "reaches", .ref lq), (kS "shut", .ref ls)] (kS "kind") (.str (kdS kd)) = mdD lr ll lq ls kd := by
  rw [putK_new (by show (decide (kS "rounds" = kS "kind") || (decide (kS "lengths" = kS "kind") || (decide (kS "reaches" = kS "kind") || (decide (kS "shut" = kS "kind") || false)))) = false; decide +kernel)]
  rfl
theorem vk1 {k : Key} {v : V} {r : List (Key × V)} : valV ((k, v) :: r) k = some v := valV_pos rfl
theorem vk2 {k k2 : Key} {v v2 : V} {r : List (Key × V)} (h : ¬ k2 = k) : valV ((k2, v2) :: (k, v) :: r) k = some v := by rw [valV_neg h, valV_pos rfl]
theorem vk3 {k k2 k3 : Key} {v v2 v3 : V} {r : List (Key × V)} (h : ¬ k2 = k) (h3 : ¬ k3 = k) : valV ((k2, v2) :: (k3, v3) :: (k, v) :: r) k = some v := by rw [valV_neg h, valV_neg h3, valV_pos rfl]
theorem vk4 {k k2 k3 k4 : Key} {v v2 v3 v4 : V} {r : List (Key × V)} (h : ¬ k2 = k) (h3 : ¬ k3 = k) (h4 : ¬ k4 = k) : valV ((k2, v2) :: (k3, v3) :: (k4, v4) :: (k, v) :: r) k = some v := by rw [valV_neg h, valV_neg h3, valV_neg h4, valV_pos rfl]
theorem vk5 {k k2 k3 k4 k5 : Key} {v v2 v3 v4 v5 : V} {r : List (Key × V)} (h : ¬ k2 = k) (h3 : ¬ k3 = k) (h4 : ¬ k4 = k) (h5 : ¬ k5 = k) : valV ((k2, v2) :: (k3, v3) :: (k4, v4) :: (k5, v5) :: (k, v) :: r) k = some v := by rw [valV_neg h, valV_neg h3, valV_neg h4, valV_neg h5, valV_pos rfl]
theorem DGet.s {H : Hp} {a : Addr} {kvs : List (Key × V)} {k : Str} {v : V} (e : H a = some (.dK kvs)) (h : valV kvs (.inr k) = some v) : DGet H a (.str k) (some v) := by
  have := DGet.k (k := .inr k) e
  rw [h] at this
  exact this
/-- what the law's numbers keep to -/
structure GOk (g : GaugeM) : Prop where
  ok : OkR g.rs
  cl : okCl g.cl
  e0 : 0 < g.le.1
  e1 : 0 < g.le.2
  n0 : 0 < g.ln.1
  n1 : 0 < g.ln.2
  ze : g.le.1.natAbs < 2 ^ 70 ∧ g.le.2.natAbs < 2 ^ 70
  zn : g.ln.1.natAbs < 2 ^ 70 ∧ g.ln.2.natAbs < 2 ^ 70
  r0 : 0 < g.re.1 ∧ g.re.1 ≤ g.re.2 ∧ g.re.2 ≤ 24
  r1 : 0 < g.rn.1 ∧ g.rn.1 ≤ g.rn.2 ∧ g.rn.2 ≤ 24
structure MdlIn (B : Hp) (lr ll lq ls l1 l2 q1 q2 : Addr) (g : GaugeM) : Prop where
  r : RowsL B lr g.rs
  l : B ll = some (.lst [.ref l1, .ref l2])
  l1 : B l1 = some (.tup [.int g.le.1, .int g.le.2])
  l2 : B l2 = some (.tup [.int g.ln.1, .int g.ln.2])
  q : B lq = some (.lst [.ref q1, .ref q2])
  q1 : B q1 = some (.tup [.int g.re.1, .int g.re.2])
  q2 : B q2 = some (.tup [.int g.rn.1, .int g.rn.2])
  s : B ls = some (.lst (g.cl.map axV))
def MdlAt (B : Hp) (d : Addr) (g : GaugeM) : Prop := ∃ lr ll lq ls l1 l2 q1 q2, B d = some (.dK (mdD lr ll lq ls g.kd)) ∧ MdlIn B lr ll lq ls l1 l2 q1 q2 g
theorem MdlIn.ext {B B' : Hp} {lr ll lq ls l1 l2 q1 q2 : Addr} {g : GaugeM} (h : MdlIn B lr ll lq ls l1 l2 q1 q2 g) (e : Ext B B') : MdlIn B' lr ll lq ls l1 l2 q1 q2 g := ⟨h.r.ext e, e _ _ h.l, e _ _ h.l1, e _ _ h.l2, e _ _ h.q, e _ _ h.q1, e _ _ h.q2, e _ _ h.s⟩
theorem MdlAt.ext {B B' : Hp} {d : Addr} {g : GaugeM} (h : MdlAt B d g) (e : Ext B B') : MdlAt B' d g := by
  obtain ⟨lr, ll, lq, ls, l1, l2, q1, q2, a, b⟩ := h
  exact ⟨lr, ll, lq, ls, l1, l2, q1, q2, e _ _ a, b.ext e⟩
theorem sc_model : FnScope ["_law_pot_here", "_law_found"] ["_law_pot_here"] (defScope s_model) := ⟨rfl, rfl, rfl, by decide +kernel, rfl, by decide +kernel, by decide +kernel⟩
def spModel5 : Sp := fun vs H Q _ => ∃ (p : Addr) (B0 : Hp), vs = [.ref p] ∧ Bld p [] H B0 B0 H ∧ ∀ d H' B g, Bld p [] H B0 B H' → MdlAt B d g → GOk g → g.re.2 ≤ 12 → Q (.ref d) H'
theorem ok_model (F : FunD K "_law_model" "_law_model" (defArgs s_model) (defBody s_model) (defScope s_model) [] [] f fd) (T : TB mg) {fdraw : Addr} {fddraw : FuncData} (Ddraw : Gd P w K mg base "_law_draw" 1 ["_law_pot_here", "_law_size"] (spDraw) fdraw fddraw) {fpick : Addr} {fdpick : FuncData} (Dpick : Gd P w K mg base "_law_pick" 2 ["_law_pot_here", "_law_some"] (spPick) fpick fdpick) {frounds : Addr} {fdrounds : FuncData} (Drounds : Gd P w K mg base "_law_rounds" 3 ["_law_pot_here"] (spRounds5) frounds fdrounds) {flength : Addr} {fdlength : FuncData} (Dlength : Gd P w K mg base "_law_length" 3 ["_law_pot_here"] (spLength5) flength fdlength) {freach : Addr} {fdreach : FuncData} (Dreach : Gd P w K mg base "_law_reach" 3 ["_law_pot_here"] (spReach5) freach fdreach) : FnOk P w K mg base CX0 4 f fd ["_law_pot_here"] (spModel5) := by
  refine F.ok sc_model (fun vs H Q E h => ?_) (fun cdv A outer s H vs Q E hr h => ?_)
  · obtain ⟨p, B0, rfl, bs, k⟩ := h
    rfl
  · obtain ⟨p, B0, rfl, bs, k⟩ := h
    refine ⟨_, (PSs.nox (pss_cons (ps_set (i := 1) sc_model.nd rfl (.inl rfl) (pe_disp (pps_cons pe_str (pe_gd Drounds hr (by decide) (by rfl) (pa_cons (pv 0) pa_nil)) (pps_cons pe_str (pe_lst (pa_cons (pe_gd Dlength hr (by decide) (by rfl) (pa_cons (pv 0) pa_nil)) (pa_cons (pe_gd Dlength hr (by decide) (by rfl) (pa_cons (pv 0) pa_nil)) pa_nil))) pps_nil)) (by rfl) (by rfl) (fun z => by cases z) (by decide)))
      (pss_cons (ps_if (pt_cmpR op_eq (pe_gd Ddraw hr (by decide) (by rfl) (pa_cons (pv 0) (pa_cons pe_int pa_nil))) pe_int (nomark _)) (pss_one (ps_asg (pe_ix ix_seq (pe_dget (hu_of hr) (pv 1) pe_str (fun _ _ => rfl)) pe_int (fun _ _ => rfl)) (pg_sub (pe_dget (hu_of hr) (pv 1) pe_str (fun _ _ => rfl)) pe_int set_list))) pss_nil)
      (pss_cons (ps_dput (hu_of hr) (pv 1) pe_str (pe_lst (pa_cons (pe_gd Dreach hr (by decide) (by rfl) (pa_cons (pv 0) pa_nil)) (pa_cons (pe_gd Dreach hr (by decide) (by rfl) (pa_cons (pv 0) pa_nil)) pa_nil))) rfl)
      (pss_cons (ps_dput (hu_of hr) (pv 1) pe_str (pe_gd Dpick hr (by decide) (by rfl) (pa_cons (pv 0) (pa_cons (pe_lst (pa_cons (pe_lst pa_nil) (pa_cons (pe_lst (pa_cons pe_str pa_nil)) (pa_cons (pe_lst (pa_cons pe_str pa_nil)) (pa_cons (pe_lst (pa_cons pe_str (pa_cons pe_str pa_nil))) pa_nil))))) pa_nil))) rfl)
      (pss_cons (ps_dput (hu_of hr) (pv 1) pe_str (pe_gd Dpick hr (by decide) (by rfl) (pa_cons (pv 0) (pa_cons (pe_lst (pa_cons pe_str (pa_cons pe_str pa_nil))) pa_nil))) rfl)
      (pss_one (ps_ret (pv 1))))))))), ?_⟩
    have hp := bs.hp
    refine fun d hd => ?_
    have b1 := bs.own (o := .dK []) hd
    have d1 : (upd H d (.dK [])) d = some (.dK []) := upd_same
    generalize upd H d (.dK []) = H1 at b1 d1 ⊢
    refine ⟨_, rfl, p, B0, rfl, b1.here, fun lr H2 B2 rs c2 hr ok => ?_⟩
    have b2 := b1.then c2
    have d2 := b1.kept List.mem_cons_self d1 c2.F
    clear b1 d1 c2
    refine ⟨_, rfl, p, B2, rfl, b2.here, fun t1 a1 a2 H3 B3 c3 ht1 p1 p2 z1 z2 => ?_⟩
    have b3 := b2.then c3
    have d3 := b2.kept List.mem_cons_self d2 c3.F
    replace hr := hr.ext c3.X
    clear b2 d2 c3
    refine ⟨_, rfl, p, B3, rfl, b3.here, fun t2 a3 a4 H4 B4 c4 ht2 p3 p4 z3 z4 => ?_⟩
    have b4 := b3.then c4
    have d4 := b3.kept List.mem_cons_self d3 c4.F
    replace hr := hr.ext c4.X
    replace ht1 := c4.X _ _ ht1
    clear b3 d3 c4
    refine ⟨(by show 2 ≤ sizeLine; decide), fun ll hll => ?_⟩
    have b5 := b4.own (o := .lst [.ref t1, .ref t2]) hll
    have d5 : (upd H4 ll (.lst [.ref t1, .ref t2])) d = some (.dK []) := by rw [upd_ne (ne_of_none d4 hll)]; exact d4
    have l5 : (upd H4 ll (.lst [.ref t1, .ref t2])) ll = some (.lst [.ref t1, .ref t2]) := upd_same
    have nld : ll ≠ d := fun z => by rw [z, d4] at hll; cases hll
    generalize upd H4 ll (.lst [.ref t1, .ref t2]) = H5 at b5 d5 l5 ⊢
    clear b4 d4 hll
    refine ⟨d5, [(kS "rounds", .ref lr), (kS "lengths", .ref ll)], rfl, (by show 2 ≤ 15; decide), ?_⟩
    rw [md_2]
    have b6 := b5.put (x := d) (o := .dK [(kS "rounds", .ref lr), (kS "lengths", .ref ll)]) (by simp)
    have d6 : (upd H5 d (.dK [(kS "rounds", .ref lr), (kS "lengths", .ref ll)])) d = some (.dK [(kS "rounds", .ref lr), (kS "lengths", .ref ll)]) := upd_same
    have l6 : (upd H5 d (.dK [(kS "rounds", .ref lr), (kS "lengths", .ref ll)])) ll = some (.lst [.ref t1, .ref t2]) := by rw [upd_ne nld]; exact l5
    generalize upd H5 d (.dK [(kS "rounds", .ref lr), (kS "lengths", .ref ll)]) = H6 at b6 d6 l6 ⊢
    clear b5 d5 l5
    refine ⟨_, rfl, p, 2, rfl, b6.hp, by decide, by decide, fun r H7 r0 r1 F7 hp7 => ⟨rfl, _, rfl, ?_⟩⟩
    have b7 := b6.draw F7 hp7
    have d7 := b6.kept (n := d) (by simp) d6 F7
    have l7 := b6.kept (n := ll) (by simp) l6 F7
    clear b6 d6 l6 F7 hp7
    refine ite2 (fun _ => ?_) (fun _ => ?_)
    · refine ⟨_, rfl, d, _, rfl, DGet.s d7 (vk2 (by decide +kernel)), .inl ⟨ll, _, 0, _, rfl, rfl, SqL.of l7, rfl, _, rfl, d, _, rfl, DGet.s d7 (vk2 (by decide +kernel)), ll, _, 1, 1, rfl, rfl, l7, rfl, ?_⟩⟩
      replace b7 := b7.put (x := ll) (o := .lst ([V.ref t1, V.ref t2].set 1 (V.ref t1))) (by simp)
      replace d7 : (upd H7 ll (.lst ([V.ref t1, V.ref t2].set 1 (V.ref t1)))) d = some (.dK [(kS "rounds", .ref lr), (kS "lengths", .ref ll)]) := by rw [upd_ne (Ne.symm nld)]; exact d7
      replace l7 : (upd H7 ll (.lst ([V.ref t1, V.ref t2].set 1 (V.ref t1)))) ll = some (.lst ([V.ref t1, V.ref t2].set 1 (V.ref t1))) := upd_same
      generalize upd H7 ll (.lst ([V.ref t1, V.ref t2].set 1 (V.ref t1))) = H7 at b7 d7 l7 ⊢
      replace l7 : H7 ll = some (.lst [.ref t1, .ref t1]) := l7
      refine ⟨_, rfl, p, _, rfl, b7.here, fun q1 u1 u2 H8 B8 c hq1 w1 w2 w3 => ?_⟩
      have b8 := b7.then c
      have d8 := b7.kept (n := d) (by simp) d7 c.F
      have l8 := b7.kept (n := ll) (by simp) l7 c.F
      have fr := hr.ext c.X
      replace ht1 := c.X _ _ ht1
      clear b7 d7 l7 c hr
      refine ⟨_, rfl, p, _, rfl, b8.here, fun q2 u3 u4 H9 B9 c hq2 w4 w5 w6 => ?_⟩
      have b9 := b8.then c
      have d9 := b8.kept (n := d) (by simp) d8 c.F
      have l9 := b8.kept (n := ll) (by simp) l8 c.F
      replace fr := fr.ext c.X
      replace hq1 := c.X _ _ hq1
      replace ht1 := c.X _ _ ht1
      clear b8 d8 l8 c
      refine ⟨(by show 2 ≤ sizeLine; decide), fun lq hlq => ⟨_, rfl, d, _, rfl, DPut.k (k := kS "reaches") (by rw [upd_ne (ne_of_none d9 hlq)]; exact d9) (by show 2 < sizeLine; decide), ?_⟩⟩
      rw [md_3]
      obtain ⟨b, e⟩ := b9.new (o := .lst [.ref q1, .ref q2]) hlq
      have hlq2 : (upd B9 lq (.lst [.ref q1, .ref q2])) lq = some (.lst [.ref q1, .ref q2]) := upd_same
      have l10 : (upd H9 lq (.lst [.ref q1, .ref q2])) ll = some (.lst [.ref t1, .ref t1]) := by rw [upd_ne (ne_of_none l9 hlq)]; exact l9
      generalize upd B9 lq (.lst [.ref q1, .ref q2]) = B10 at b e hlq2
      generalize upd H9 lq (.lst [.ref q1, .ref q2]) = H9 at b l10 ⊢
      replace fr := fr.ext e
      replace hq1 := e _ _ hq1
      replace hq2 := e _ _ hq2
      replace ht1 := e _ _ ht1
      clear e b9 d9 l9 hlq
      have b10 := b.put (x := d) (o := .dK [(kS "rounds", .ref lr), (kS "lengths", .ref ll), (kS "reaches", .ref lq)]) (by simp)
      have d10 : (upd H9 d (.dK [(kS "rounds", .ref lr), (kS "lengths", .ref ll), (kS "reaches", .ref lq)])) d = some (.dK [(kS "rounds", .ref lr), (kS "lengths", .ref ll), (kS "reaches", .ref lq)]) := upd_same
      replace l10 : (upd H9 d (.dK [(kS "rounds", .ref lr), (kS "lengths", .ref ll), (kS "reaches", .ref lq)])) ll = some (.lst [.ref t1, .ref t1]) := by rw [upd_ne nld]; exact l10
      generalize upd H9 d (.dK [(kS "rounds", .ref lr), (kS "lengths", .ref ll), (kS "reaches", .ref lq)]) = H9 at b10 d10 l10 ⊢
      clear b
      refine ⟨_, rfl, (by show 0 ≤ sizeLine; decide), fun xz1 hxz1 => ?_⟩
      replace d10 : (upd H9 xz1 (.lst [])) d = some (.dK [(kS "rounds", .ref lr), (kS "lengths", .ref ll), (kS "reaches", .ref lq)]) := by rw [upd_ne (ne_of_none d10 hxz1)]; exact d10
      replace l10 : (upd H9 xz1 (.lst [])) ll = some (.lst [.ref t1, .ref t1]) := by rw [upd_ne (ne_of_none l10 hxz1)]; exact l10
      obtain ⟨bz2, ez2⟩ := b10.new (o := .lst []) hxz1
      have cz2 : (upd B10 xz1 (.lst [])) xz1 = some (.lst []) := upd_same
      generalize upd B10 xz1 (.lst []) = Bz2 at bz2 ez2 cz2
      generalize upd H9 xz1 (.lst []) = Hz2 at bz2 d10 l10 ⊢
      replace fr := fr.ext ez2
      replace ht1 := ez2 _ _ ht1
      replace hq1 := ez2 _ _ hq1
      replace hq2 := ez2 _ _ hq2
      replace hlq2 := ez2 _ _ hlq2
      clear ez2 b10 hxz1
      refine ⟨(by show 1 ≤ sizeLine; decide), fun xz3 hxz3 => ?_⟩
      replace d10 : (upd Hz2 xz3 (.lst [.str "east"])) d = some (.dK [(kS "rounds", .ref lr), (kS "lengths", .ref ll), (kS "reaches", .ref lq)]) := by rw [upd_ne (ne_of_none d10 hxz3)]; exact d10
      replace l10 : (upd Hz2 xz3 (.lst [.str "east"])) ll = some (.lst [.ref t1, .ref t1]) := by rw [upd_ne (ne_of_none l10 hxz3)]; exact l10
      obtain ⟨bz4, ez4⟩ := bz2.new (o := .lst [.str "east"]) hxz3
      have cz4 : (upd Bz2 xz3 (.lst [.str "east"])) xz3 = some (.lst [.str "east"]) := upd_same
      generalize upd Bz2 xz3 (.lst [.str "east"]) = Bz4 at bz4 ez4 cz4
      generalize upd Hz2 xz3 (.lst [.str "east"]) = Hz4 at bz4 d10 l10 ⊢
      replace fr := fr.ext ez4
      replace ht1 := ez4 _ _ ht1
      replace hq1 := ez4 _ _ hq1
      replace hq2 := ez4 _ _ hq2
      replace hlq2 := ez4 _ _ hlq2
      replace cz2 := ez4 _ _ cz2
      clear ez4 bz2 hxz3
      clear Bz2 Hz2
      refine ⟨(by show 1 ≤ sizeLine; decide), fun xz5 hxz5 => ?_⟩
      replace d10 : (upd Hz4 xz5 (.lst [.str "north"])) d = some (.dK [(kS "rounds", .ref lr), (kS "lengths", .ref ll), (kS "reaches", .ref lq)]) := by rw [upd_ne (ne_of_none d10 hxz5)]; exact d10
      replace l10 : (upd Hz4 xz5 (.lst [.str "north"])) ll = some (.lst [.ref t1, .ref t1]) := by rw [upd_ne (ne_of_none l10 hxz5)]; exact l10
      obtain ⟨bz6, ez6⟩ := bz4.new (o := .lst [.str "north"]) hxz5
      have cz6 : (upd Bz4 xz5 (.lst [.str "north"])) xz5 = some (.lst [.str "north"]) := upd_same
      generalize upd Bz4 xz5 (.lst [.str "north"]) = Bz6 at bz6 ez6 cz6
      generalize upd Hz4 xz5 (.lst [.str "north"]) = Hz6 at bz6 d10 l10 ⊢
      replace fr := fr.ext ez6
      replace ht1 := ez6 _ _ ht1
      replace hq1 := ez6 _ _ hq1
      replace hq2 := ez6 _ _ hq2
      replace hlq2 := ez6 _ _ hlq2
      replace cz2 := ez6 _ _ cz2
      replace cz4 := ez6 _ _ cz4
      clear ez6 bz4 hxz5
      clear Bz4 Hz4
      refine ⟨(by show 2 ≤ sizeLine; decide), fun xz7 hxz7 => ?_⟩
      replace d10 : (upd Hz6 xz7 (.lst [.str "north", .str "east"])) d = some (.dK [(kS "rounds", .ref lr), (kS "lengths", .ref ll), (kS "reaches", .ref lq)]) := by rw [upd_ne (ne_of_none d10 hxz7)]; exact d10
      replace l10 : (upd Hz6 xz7 (.lst [.str "north", .str "east"])) ll = some (.lst [.ref t1, .ref t1]) := by rw [upd_ne (ne_of_none l10 hxz7)]; exact l10
      obtain ⟨bz8, ez8⟩ := bz6.new (o := .lst [.str "north", .str "east"]) hxz7
      have cz8 : (upd Bz6 xz7 (.lst [.str "north", .str "east"])) xz7 = some (.lst [.str "north", .str "east"]) := upd_same
      generalize upd Bz6 xz7 (.lst [.str "north", .str "east"]) = Bz8 at bz8 ez8 cz8
      generalize upd Hz6 xz7 (.lst [.str "north", .str "east"]) = Hz8 at bz8 d10 l10 ⊢
      replace fr := fr.ext ez8
      replace ht1 := ez8 _ _ ht1
      replace hq1 := ez8 _ _ hq1
      replace hq2 := ez8 _ _ hq2
      replace hlq2 := ez8 _ _ hlq2
      replace cz2 := ez8 _ _ cz2
      replace cz4 := ez8 _ _ cz4
      replace cz6 := ez8 _ _ cz6
      clear ez8 bz6 hxz7
      clear Bz6 Hz6
      refine ⟨(by show 4 ≤ sizeLine; decide), fun xz9 hxz9 => ?_⟩
      replace d10 : (upd Hz8 xz9 (.lst [.ref xz1, .ref xz3, .ref xz5, .ref xz7])) d = some (.dK [(kS "rounds", .ref lr), (kS "lengths", .ref ll), (kS "reaches", .ref lq)]) := by rw [upd_ne (ne_of_none d10 hxz9)]; exact d10
      replace l10 : (upd Hz8 xz9 (.lst [.ref xz1, .ref xz3, .ref xz5, .ref xz7])) ll = some (.lst [.ref t1, .ref t1]) := by rw [upd_ne (ne_of_none l10 hxz9)]; exact l10
      obtain ⟨bz10, ez10⟩ := bz8.new (o := .lst [.ref xz1, .ref xz3, .ref xz5, .ref xz7]) hxz9
      have cz10 : (upd Bz8 xz9 (.lst [.ref xz1, .ref xz3, .ref xz5, .ref xz7])) xz9 = some (.lst [.ref xz1, .ref xz3, .ref xz5, .ref xz7]) := upd_same
      generalize upd Bz8 xz9 (.lst [.ref xz1, .ref xz3, .ref xz5, .ref xz7]) = Bz10 at bz10 ez10 cz10
      generalize upd Hz8 xz9 (.lst [.ref xz1, .ref xz3, .ref xz5, .ref xz7]) = Hz10 at bz10 d10 l10 ⊢
      replace fr := fr.ext ez10
      replace ht1 := ez10 _ _ ht1
      replace hq1 := ez10 _ _ hq1
      replace hq2 := ez10 _ _ hq2
      replace hlq2 := ez10 _ _ hlq2
      replace cz2 := ez10 _ _ cz2
      replace cz4 := ez10 _ _ cz4
      replace cz6 := ez10 _ _ cz6
      replace cz8 := ez10 _ _ cz8
      clear ez10 bz8 hxz9
      clear Bz8 Hz8
      refine ⟨p, xz9, _, rfl, bz10.hp, bz10.E _ _ cz10, (fun z => by have := bz10.bp; rw [← z, cz10] at this; cases this), (by show 0 < 4; decide), (by show 4 ≤ 1000; decide), fun i v Hx hv Fx hpx => ?_⟩
      obtain ⟨ls, cl, rfl, hls, ocl⟩ : ∃ ls cl, v = .ref ls ∧ Bz10 ls = some (.lst (cl.map axV)) ∧ okCl cl := by
        match i, hv with
        | 0, hv => cases hv; exact ⟨_, [], rfl, cz2, .inl rfl⟩
        | 1, hv => cases hv; exact ⟨_, [true], rfl, cz4, .inr (.inl rfl)⟩
        | 2, hv => cases hv; exact ⟨_, [false], rfl, cz6, .inr (.inr (.inl rfl))⟩
        | 3, hv => cases hv; exact ⟨_, [false, true], rfl, cz8, .inr (.inr (.inr (.inr rfl)))⟩
      replace d10 := bz10.kept (n := d) (by simp) d10 Fx
      replace l10 := bz10.kept (n := ll) (by simp) l10 Fx
      have bx := bz10.draw Fx hpx
      clear Fx hpx hv bz10 cz2 cz4 cz6 cz8 cz10
      refine ⟨_, rfl, d, _, rfl, DPut.k (k := kS "shut") d10 (by show 3 < sizeLine; decide), ?_⟩
      rw [md_4]
      have by_ := bx.put (x := d) (o := .dK [(kS "rounds", .ref lr), (kS "lengths", .ref ll), (kS "reaches", .ref lq), (kS "shut", .ref ls)]) (by simp)
      have d11 : (upd Hx d (.dK [(kS "rounds", .ref lr), (kS "lengths", .ref ll), (kS "reaches", .ref lq), (kS "shut", .ref ls)])) d = some (.dK [(kS "rounds", .ref lr), (kS "lengths", .ref ll), (kS "reaches", .ref lq), (kS "shut", .ref ls)]) := upd_same
      replace l10 : (upd Hx d (.dK [(kS "rounds", .ref lr), (kS "lengths", .ref ll), (kS "reaches", .ref lq), (kS "shut", .ref ls)])) ll = some (.lst [.ref t1, .ref t1]) := by rw [upd_ne nld]; exact l10
      generalize upd Hx d (.dK [(kS "rounds", .ref lr), (kS "lengths", .ref ll), (kS "reaches", .ref lq), (kS "shut", .ref ls)]) = Hy at by_ d11 l10 ⊢
      clear bx d10
      refine ⟨_, rfl, (by show 2 ≤ sizeLine; decide), fun xz11 hxz11 => ?_⟩
      replace d11 : (upd Hy xz11 (.lst [.str "box", .str "sum"])) d = some (.dK [(kS "rounds", .ref lr), (kS "lengths", .ref ll), (kS "reaches", .ref lq), (kS "shut", .ref ls)]) := by rw [upd_ne (ne_of_none d11 hxz11)]; exact d11
      replace l10 : (upd Hy xz11 (.lst [.str "box", .str "sum"])) ll = some (.lst [.ref t1, .ref t1]) := by rw [upd_ne (ne_of_none l10 hxz11)]; exact l10
      obtain ⟨bz12, ez12⟩ := by_.new (o := .lst [.str "box", .str "sum"]) hxz11
      have cz12 : (upd Bz10 xz11 (.lst [.str "box", .str "sum"])) xz11 = some (.lst [.str "box", .str "sum"]) := upd_same
      generalize upd Bz10 xz11 (.lst [.str "box", .str "sum"]) = Bz12 at bz12 ez12 cz12
      generalize upd Hy xz11 (.lst [.str "box", .str "sum"]) = Hz12 at bz12 d11 l10 ⊢
      replace fr := fr.ext ez12
      replace ht1 := ez12 _ _ ht1
      replace hq1 := ez12 _ _ hq1
      replace hq2 := ez12 _ _ hq2
      replace hlq2 := ez12 _ _ hlq2
      replace hls := ez12 _ _ hls
      clear ez12 by_ hxz11
      refine ⟨p, xz11, _, rfl, bz12.hp, bz12.E _ _ cz12, (fun z => by have := bz12.bp; rw [← z, cz12] at this; cases this), (by show 0 < 2; decide), (by show 2 ≤ 1000; decide), fun i v Hw hv Fw hpw => ?_⟩
      obtain ⟨kb, rfl⟩ : ∃ kb, v = .str (kdS kb) := by
        match i, hv with
        | 0, hv => cases hv; exact ⟨true, rfl⟩
        | 1, hv => cases hv; exact ⟨false, rfl⟩
      replace d11 := bz12.kept (n := d) (by simp) d11 Fw
      replace l10 := bz12.kept (n := ll) (by simp) l10 Fw
      have bw := bz12.draw Fw hpw
      clear Fw hpw hv bz12
      refine ⟨_, rfl, d, _, rfl, DPut.k (k := kS "kind") d11 (by show 4 < sizeLine; decide), ?_⟩
      rw [md_5]
      have bv := bw.put (x := d) (o := .dK (mdD lr ll lq ls kb)) (by simp)
      have d12 : (upd Hw d (.dK (mdD lr ll lq ls kb))) d = some (.dK (mdD lr ll lq ls kb)) := upd_same
      replace l10 : (upd Hw d (.dK (mdD lr ll lq ls kb))) ll = some (.lst [.ref t1, .ref t1]) := by rw [upd_ne nld]; exact l10
      generalize upd Hw d (.dK (mdD lr ll lq ls kb)) = Hv at bv d12 l10 ⊢
      obtain ⟨ba, ea⟩ := bv.stand l10 (by simpa using nld)
      obtain ⟨bb, eb⟩ := ba.stand d12 (by simp)
      have e := ea.trans eb
      exact ⟨_, rfl, k d Hv _ ⟨rs, (a1, a2), (a1, a2), cl, (u1, u2), (u3, u4), kb⟩ bb ⟨lr, ll, lq, ls, t1, t1, q1, q2, upd_same, ⟨fr.ext e, eb _ _ upd_same, e _ _ ht1, e _ _ ht1, e _ _ hlq2, e _ _ hq1, e _ _ hq2, e _ _ hls⟩⟩ ⟨ok, ocl, p1, p2, p1, p2, ⟨z1, z2⟩, ⟨z1, z2⟩, ⟨w1, w2, Int.le_trans w3 (by decide)⟩, ⟨w4, w5, Int.le_trans w6 (by decide)⟩⟩ w3⟩
    · refine ⟨_, rfl, p, _, rfl, b7.here, fun q1 u1 u2 H8 B8 c hq1 w1 w2 w3 => ?_⟩
      have b8 := b7.then c
      have d8 := b7.kept (n := d) (by simp) d7 c.F
      have l8 := b7.kept (n := ll) (by simp) l7 c.F
      have fr := hr.ext c.X
      replace ht1 := c.X _ _ ht1
      replace ht2 := c.X _ _ ht2
      clear b7 d7 l7 c hr
      refine ⟨_, rfl, p, _, rfl, b8.here, fun q2 u3 u4 H9 B9 c hq2 w4 w5 w6 => ?_⟩
      have b9 := b8.then c
      have d9 := b8.kept (n := d) (by simp) d8 c.F
      have l9 := b8.kept (n := ll) (by simp) l8 c.F
      replace fr := fr.ext c.X
      replace hq1 := c.X _ _ hq1
      replace ht1 := c.X _ _ ht1
      replace ht2 := c.X _ _ ht2
      clear b8 d8 l8 c
      refine ⟨(by show 2 ≤ sizeLine; decide), fun lq hlq => ⟨_, rfl, d, _, rfl, DPut.k (k := kS "reaches") (by rw [upd_ne (ne_of_none d9 hlq)]; exact d9) (by show 2 < sizeLine; decide), ?_⟩⟩
      rw [md_3]
      obtain ⟨b, e⟩ := b9.new (o := .lst [.ref q1, .ref q2]) hlq
      have hlq2 : (upd B9 lq (.lst [.ref q1, .ref q2])) lq = some (.lst [.ref q1, .ref q2]) := upd_same
      have l10 : (upd H9 lq (.lst [.ref q1, .ref q2])) ll = some (.lst [.ref t1, .ref t2]) := by rw [upd_ne (ne_of_none l9 hlq)]; exact l9
      generalize upd B9 lq (.lst [.ref q1, .ref q2]) = B10 at b e hlq2
      generalize upd H9 lq (.lst [.ref q1, .ref q2]) = H9 at b l10 ⊢
      replace fr := fr.ext e
      replace hq1 := e _ _ hq1
      replace hq2 := e _ _ hq2
      replace ht1 := e _ _ ht1
      replace ht2 := e _ _ ht2
      clear e b9 d9 l9 hlq
      have b10 := b.put (x := d) (o := .dK [(kS "rounds", .ref lr), (kS "lengths", .ref ll), (kS "reaches", .ref lq)]) (by simp)
      have d10 : (upd H9 d (.dK [(kS "rounds", .ref lr), (kS "lengths", .ref ll), (kS "reaches", .ref lq)])) d = some (.dK [(kS "rounds", .ref lr), (kS "lengths", .ref ll), (kS "reaches", .ref lq)]) := upd_same
      replace l10 : (upd H9 d (.dK [(kS "rounds", .ref lr), (kS "lengths", .ref ll), (kS "reaches", .ref lq)])) ll = some (.lst [.ref t1, .ref t2]) := by rw [upd_ne nld]; exact l10
      generalize upd H9 d (.dK [(kS "rounds", .ref lr), (kS "lengths", .ref ll), (kS "reaches", .ref lq)]) = H9 at b10 d10 l10 ⊢
      clear b
      refine ⟨_, rfl, (by show 0 ≤ sizeLine; decide), fun xz1 hxz1 => ?_⟩
      replace d10 : (upd H9 xz1 (.lst [])) d = some (.dK [(kS "rounds", .ref lr), (kS "lengths", .ref ll), (kS "reaches", .ref lq)]) := by rw [upd_ne (ne_of_none d10 hxz1)]; exact d10
      replace l10 : (upd H9 xz1 (.lst [])) ll = some (.lst [.ref t1, .ref t2]) := by rw [upd_ne (ne_of_none l10 hxz1)]; exact l10
      obtain ⟨bz2, ez2⟩ := b10.new (o := .lst []) hxz1
      have cz2 : (upd B10 xz1 (.lst [])) xz1 = some (.lst []) := upd_same
      generalize upd B10 xz1 (.lst []) = Bz2 at bz2 ez2 cz2
      generalize upd H9 xz1 (.lst []) = Hz2 at bz2 d10 l10 ⊢
      replace fr := fr.ext ez2
      replace ht1 := ez2 _ _ ht1
      replace hq1 := ez2 _ _ hq1
      replace hq2 := ez2 _ _ hq2
      replace hlq2 := ez2 _ _ hlq2
      replace ht2 := ez2 _ _ ht2
      clear ez2 b10 hxz1
      refine ⟨(by show 1 ≤ sizeLine; decide), fun xz3 hxz3 => ?_⟩
      replace d10 : (upd Hz2 xz3 (.lst [.str "east"])) d = some (.dK [(kS "rounds", .ref lr), (kS "lengths", .ref ll), (kS "reaches", .ref lq)]) := by rw [upd_ne (ne_of_none d10 hxz3)]; exact d10
      replace l10 : (upd Hz2 xz3 (.lst [.str "east"])) ll = some (.lst [.ref t1, .ref t2]) := by rw [upd_ne (ne_of_none l10 hxz3)]; exact l10
      obtain ⟨bz4, ez4⟩ := bz2.new (o := .lst [.str "east"]) hxz3
      have cz4 : (upd Bz2 xz3 (.lst [.str "east"])) xz3 = some (.lst [.str "east"]) := upd_same
      generalize upd Bz2 xz3 (.lst [.str "east"]) = Bz4 at bz4 ez4 cz4
      generalize upd Hz2 xz3 (.lst [.str "east"]) = Hz4 at bz4 d10 l10 ⊢
      replace fr := fr.ext ez4
      replace ht1 := ez4 _ _ ht1
      replace hq1 := ez4 _ _ hq1
      replace hq2 := ez4 _ _ hq2
      replace hlq2 := ez4 _ _ hlq2
      replace ht2 := ez4 _ _ ht2
      replace cz2 := ez4 _ _ cz2
      clear ez4 bz2 hxz3
      clear Bz2 Hz2
      refine ⟨(by show 1 ≤ sizeLine; decide), fun xz5 hxz5 => ?_⟩
      replace d10 : (upd Hz4 xz5 (.lst [.str "north"])) d = some (.dK [(kS "rounds", .ref lr), (kS "lengths", .ref ll), (kS "reaches", .ref lq)]) := by rw [upd_ne (ne_of_none d10 hxz5)]; exact d10
      replace l10 : (upd Hz4 xz5 (.lst [.str "north"])) ll = some (.lst [.ref t1, .ref t2]) := by rw [upd_ne (ne_of_none l10 hxz5)]; exact l10
      obtain ⟨bz6, ez6⟩ := bz4.new (o := .lst [.str "north"]) hxz5
      have cz6 : (upd Bz4 xz5 (.lst [.str "north"])) xz5 = some (.lst [.str "north"]) := upd_same
      generalize upd Bz4 xz5 (.lst [.str "north"]) = Bz6 at bz6 ez6 cz6
      generalize upd Hz4 xz5 (.lst [.str "north"]) = Hz6 at bz6 d10 l10 ⊢
      replace fr := fr.ext ez6
      replace ht1 := ez6 _ _ ht1
      replace hq1 := ez6 _ _ hq1
      replace hq2 := ez6 _ _ hq2
      replace hlq2 := ez6 _ _ hlq2
      replace ht2 := ez6 _ _ ht2
      replace cz2 := ez6 _ _ cz2
      replace cz4 := ez6 _ _ cz4
      clear ez6 bz4 hxz5
      clear Bz4 Hz4
      refine ⟨(by show 2 ≤ sizeLine; decide), fun xz7 hxz7 => ?_⟩
      replace d10 : (upd Hz6 xz7 (.lst [.str "north", .str "east"])) d = some (.dK [(kS "rounds", .ref lr), (kS "lengths", .ref ll), (kS "reaches", .ref lq)]) := by rw [upd_ne (ne_of_none d10 hxz7)]; exact d10
      replace l10 : (upd Hz6 xz7 (.lst [.str "north", .str "east"])) ll = some (.lst [.ref t1, .ref t2]) := by rw [upd_ne (ne_of_none l10 hxz7)]; exact l10
      obtain ⟨bz8, ez8⟩ := bz6.new (o := .lst [.str "north", .str "east"]) hxz7
      have cz8 : (upd Bz6 xz7 (.lst [.str "north", .str "east"])) xz7 = some (.lst [.str "north", .str "east"]) := upd_same
      generalize upd Bz6 xz7 (.lst [.str "north", .str "east"]) = Bz8 at bz8 ez8 cz8
      generalize upd Hz6 xz7 (.lst [.str "north", .str "east"]) = Hz8 at bz8 d10 l10 ⊢
      replace fr := fr.ext ez8
      replace ht1 := ez8 _ _ ht1
      replace hq1 := ez8 _ _ hq1
      replace hq2 := ez8 _ _ hq2
      replace hlq2 := ez8 _ _ hlq2
      replace ht2 := ez8 _ _ ht2
      replace cz2 := ez8 _ _ cz2
      replace cz4 := ez8 _ _ cz4
      replace cz6 := ez8 _ _ cz6
      clear ez8 bz6 hxz7
      clear Bz6 Hz6
      refine ⟨(by show 4 ≤ sizeLine; decide), fun xz9 hxz9 => ?_⟩
      replace d10 : (upd Hz8 xz9 (.lst [.ref xz1, .ref xz3, .ref xz5, .ref xz7])) d = some (.dK [(kS "rounds", .ref lr), (kS "lengths", .ref ll), (kS "reaches", .ref lq)]) := by rw [upd_ne (ne_of_none d10 hxz9)]; exact d10
      replace l10 : (upd Hz8 xz9 (.lst [.ref xz1, .ref xz3, .ref xz5, .ref xz7])) ll = some (.lst [.ref t1, .ref t2]) := by rw [upd_ne (ne_of_none l10 hxz9)]; exact l10
      obtain ⟨bz10, ez10⟩ := bz8.new (o := .lst [.ref xz1, .ref xz3, .ref xz5, .ref xz7]) hxz9
      have cz10 : (upd Bz8 xz9 (.lst [.ref xz1, .ref xz3, .ref xz5, .ref xz7])) xz9 = some (.lst [.ref xz1, .ref xz3, .ref xz5, .ref xz7]) := upd_same
      generalize upd Bz8 xz9 (.lst [.ref xz1, .ref xz3, .ref xz5, .ref xz7]) = Bz10 at bz10 ez10 cz10
      generalize upd Hz8 xz9 (.lst [.ref xz1, .ref xz3, .ref xz5, .ref xz7]) = Hz10 at bz10 d10 l10 ⊢
      replace fr := fr.ext ez10
      replace ht1 := ez10 _ _ ht1
      replace hq1 := ez10 _ _ hq1
      replace hq2 := ez10 _ _ hq2
      replace hlq2 := ez10 _ _ hlq2
      replace ht2 := ez10 _ _ ht2
      replace cz2 := ez10 _ _ cz2
      replace cz4 := ez10 _ _ cz4
      replace cz6 := ez10 _ _ cz6
      replace cz8 := ez10 _ _ cz8
      clear ez10 bz8 hxz9
      clear Bz8 Hz8
      refine ⟨p, xz9, _, rfl, bz10.hp, bz10.E _ _ cz10, (fun z => by have := bz10.bp; rw [← z, cz10] at this; cases this), (by show 0 < 4; decide), (by show 4 ≤ 1000; decide), fun i v Hx hv Fx hpx => ?_⟩
      obtain ⟨ls, cl, rfl, hls, ocl⟩ : ∃ ls cl, v = .ref ls ∧ Bz10 ls = some (.lst (cl.map axV)) ∧ okCl cl := by
        match i, hv with
        | 0, hv => cases hv; exact ⟨_, [], rfl, cz2, .inl rfl⟩
        | 1, hv => cases hv; exact ⟨_, [true], rfl, cz4, .inr (.inl rfl)⟩
        | 2, hv => cases hv; exact ⟨_, [false], rfl, cz6, .inr (.inr (.inl rfl))⟩
        | 3, hv => cases hv; exact ⟨_, [false, true], rfl, cz8, .inr (.inr (.inr (.inr rfl)))⟩
      replace d10 := bz10.kept (n := d) (by simp) d10 Fx
      replace l10 := bz10.kept (n := ll) (by simp) l10 Fx
      have bx := bz10.draw Fx hpx
      clear Fx hpx hv bz10 cz2 cz4 cz6 cz8 cz10
      refine ⟨_, rfl, d, _, rfl, DPut.k (k := kS "shut") d10 (by show 3 < sizeLine; decide), ?_⟩
      rw [md_4]
      have by_ := bx.put (x := d) (o := .dK [(kS "rounds", .ref lr), (kS "lengths", .ref ll), (kS "reaches", .ref lq), (kS "shut", .ref ls)]) (by simp)
      have d11 : (upd Hx d (.dK [(kS "rounds", .ref lr), (kS "lengths", .ref ll), (kS "reaches", .ref lq), (kS "shut", .ref ls)])) d = some (.dK [(kS "rounds", .ref lr), (kS "lengths", .ref ll), (kS "reaches", .ref lq), (kS "shut", .ref ls)]) := upd_same
      replace l10 : (upd Hx d (.dK [(kS "rounds", .ref lr), (kS "lengths", .ref ll), (kS "reaches", .ref lq), (kS "shut", .ref ls)])) ll = some (.lst [.ref t1, .ref t2]) := by rw [upd_ne nld]; exact l10
      generalize upd Hx d (.dK [(kS "rounds", .ref lr), (kS "lengths", .ref ll), (kS "reaches", .ref lq), (kS "shut", .ref ls)]) = Hy at by_ d11 l10 ⊢
      clear bx d10
      refine ⟨_, rfl, (by show 2 ≤ sizeLine; decide), fun xz11 hxz11 => ?_⟩
      replace d11 : (upd Hy xz11 (.lst [.str "box", .str "sum"])) d = some (.dK [(kS "rounds", .ref lr), (kS "lengths", .ref ll), (kS "reaches", .ref lq), (kS "shut", .ref ls)]) := by rw [upd_ne (ne_of_none d11 hxz11)]; exact d11
      replace l10 : (upd Hy xz11 (.lst [.str "box", .str "sum"])) ll = some (.lst [.ref t1, .ref t2]) := by rw [upd_ne (ne_of_none l10 hxz11)]; exact l10
      obtain ⟨bz12, ez12⟩ := by_.new (o := .lst [.str "box", .str "sum"]) hxz11
      have cz12 : (upd Bz10 xz11 (.lst [.str "box", .str "sum"])) xz11 = some (.lst [.str "box", .str "sum"]) := upd_same
      generalize upd Bz10 xz11 (.lst [.str "box", .str "sum"]) = Bz12 at bz12 ez12 cz12
      generalize upd Hy xz11 (.lst [.str "box", .str "sum"]) = Hz12 at bz12 d11 l10 ⊢
      replace fr := fr.ext ez12
      replace ht1 := ez12 _ _ ht1
      replace hq1 := ez12 _ _ hq1
      replace hq2 := ez12 _ _ hq2
      replace hlq2 := ez12 _ _ hlq2
      replace ht2 := ez12 _ _ ht2
      replace hls := ez12 _ _ hls
      clear ez12 by_ hxz11
      refine ⟨p, xz11, _, rfl, bz12.hp, bz12.E _ _ cz12, (fun z => by have := bz12.bp; rw [← z, cz12] at this; cases this), (by show 0 < 2; decide), (by show 2 ≤ 1000; decide), fun i v Hw hv Fw hpw => ?_⟩
      obtain ⟨kb, rfl⟩ : ∃ kb, v = .str (kdS kb) := by
        match i, hv with
        | 0, hv => cases hv; exact ⟨true, rfl⟩
        | 1, hv => cases hv; exact ⟨false, rfl⟩
      replace d11 := bz12.kept (n := d) (by simp) d11 Fw
      replace l10 := bz12.kept (n := ll) (by simp) l10 Fw
      have bw := bz12.draw Fw hpw
      clear Fw hpw hv bz12
      refine ⟨_, rfl, d, _, rfl, DPut.k (k := kS "kind") d11 (by show 4 < sizeLine; decide), ?_⟩
      rw [md_5]
      have bv := bw.put (x := d) (o := .dK (mdD lr ll lq ls kb)) (by simp)
      have d12 : (upd Hw d (.dK (mdD lr ll lq ls kb))) d = some (.dK (mdD lr ll lq ls kb)) := upd_same
      replace l10 : (upd Hw d (.dK (mdD lr ll lq ls kb))) ll = some (.lst [.ref t1, .ref t2]) := by rw [upd_ne nld]; exact l10
      generalize upd Hw d (.dK (mdD lr ll lq ls kb)) = Hv at bv d12 l10 ⊢
      obtain ⟨ba, ea⟩ := bv.stand l10 (by simpa using nld)
      obtain ⟨bb, eb⟩ := ba.stand d12 (by simp)
      have e := ea.trans eb
      exact ⟨_, rfl, k d Hv _ ⟨rs, (a1, a2), (a3, a4), cl, (u1, u2), (u3, u4), kb⟩ bb ⟨lr, ll, lq, ls, t1, t2, q1, q2, upd_same, ⟨fr.ext e, eb _ _ upd_same, e _ _ ht1, e _ _ ht2, e _ _ hlq2, e _ _ hq1, e _ _ hq2, e _ _ hls⟩⟩ ⟨ok, ocl, p1, p2, p3, p4, ⟨z1, z2⟩, ⟨z3, z4⟩, ⟨w1, w2, Int.le_trans w3 (by decide)⟩, ⟨w4, w5, Int.le_trans w6 (by decide)⟩⟩ w3⟩
end
end Mc

set_option Elab.async false
set_option linter.all false
set_option maxRecDepth 100000
set_option maxHeartbeats 4000000
set_option exponentiation.threshold 20000
namespace Mc
open PySem PySem.Spec PyProof.Rows L2 ClX StX
open RZ
section
variable {P : Program} {w : World} {K : PySem.W.Frag} {mg : Str → Option Value} {base : Heap} {f U0 kX M0 R0 C0 aX : Addr} {mc : Value} {fd : FuncData}
section
variable {H : Hp} {p : Addr}
theorem cl_bare {l : Addr} {cs : List Cut} (h : CutsL H l cs) (hp : Pot H p) : CutsL (bare p H) l cs := by
  obtain ⟨as, h1, h2⟩ := h
  exact ⟨as, bare_pk hp h1 (noPot_refs as), pd_imp (fun _ _ q => bare_pk hp q) h2⟩
theorem RowsL.bare {l : Addr} {rs : List (List Cut)} (h : RowsL H l rs) (hp : Pot H p) : RowsL (bare p H) l rs := by
  obtain ⟨as, h1, h2⟩ := h
  exact ⟨as, bare_pk hp h1 (noPot_refs as), pd_imp (fun _ _ q => cl_bare q hp) h2⟩
theorem prs_bare {l : Addr} {qs : List Pr} (h : PairsAt H l qs) (hp : Pot H p) : PairsAt (Mc.bare p H) l qs := by
  obtain ⟨as, h1, h2⟩ := h
  exact ⟨as, bare_pk hp h1 (noPot_refs as), pd_imp (fun _ _ q => bare_pk hp q) h2⟩
theorem PlanAt.bare {C0 t : Addr} {rs : List (List Cut)} (h : PlanAt C0 H t rs) (hp : Pot H p) : PlanAt C0 (bare p H) t rs := by
  obtain ⟨dx, lr, lp, ll, g, h1, ⟨a1, r1, r2⟩, ⟨a2, q1, q2⟩, ⟨a3, s1, s2⟩, e⟩ := h
  exact ⟨dx, lr, lp, ll, g, bare_pk hp h1, ⟨a1, bare_pk hp r1 (noPot_refs a1), pd_imp (fun _ _ q => cl_bare q hp) r2⟩, ⟨a2, bare_pk hp q1 (noPot_refs a2), pd_imp (fun _ _ q => bare_pk hp q) q2⟩, ⟨a3, bare_pk hp s1 (noPot_refs a3), pd_imp (fun _ _ q => prs_bare q hp) s2⟩, e⟩
theorem RatV.bare {R0 q : Addr} {a b : Int} (h : RatV R0 H q a b) (hp : Pot H p) : RatV R0 (bare p H) q a b := by
  obtain ⟨h1, dx, h2⟩ := h
  exact ⟨h1, dx, bare_pk hp h2⟩
theorem NumV.bare {R0 : Addr} {x : V} {a b : Int} (h : NumV R0 H x a b) (hp : Pot H p) : NumV R0 (Mc.bare p H) x a b := h.imp (fun ⟨q, e, r⟩ => ⟨q, e, r.bare hp⟩) id
theorem MapAt.bare {C0 R0 M0 m : Addr} {rs : List (List Cut)} {le ln : Int × Int} {cl : List Bool} (h : MapAt C0 R0 M0 H m rs le ln cl) (hp : Pot H p) : MapAt C0 R0 M0 (bare p H) m rs le ln cl := by
  obtain ⟨dx, pp, re, rn, tc, h1, i⟩ := h
  exact ⟨dx, pp, re, rn, tc, bare_pk hp h1, i.p.bare hp, i.ok, i.e.bare hp, i.n.bare hp, bare_pk hp i.c, i.cl, i.e0, i.n0⟩
theorem GaugeAt.bare {C0 R0 M0 U0 a : Addr} {g : GaugeM} (h : GaugeAt C0 R0 M0 U0 H a g) (hp : Pot H p) : GaugeAt C0 R0 M0 U0 (bare p H) a g := by
  obtain ⟨dx, m, tr, r1, r2, u, v, h1, i⟩ := h
  exact ⟨dx, m, tr, r1, r2, u, v, bare_pk hp h1, i.m.bare hp, bare_pk hp i.t, i.e.bare hp, i.n.bare hp, i.e0, i.n0⟩
theorem noPot_ax (cl : List Bool) : noPot (.lst (cl.map axV)) = true := by
  match cl with
  | [] => rfl
  | [_] => rfl
  | [_, _] => rfl
  | _ :: _ :: _ :: _ => rfl
theorem MdlAt.bare {d : Addr} {g : GaugeM} (h : MdlAt H d g) (hp : Pot H p) : MdlAt (bare p H) d g := by
  obtain ⟨lr, ll, lq, ls, l1, l2, q1, q2, h1, i⟩ := h
  exact ⟨lr, ll, lq, ls, l1, l2, q1, q2, bare_pk hp h1, i.r.bare hp, bare_pk hp i.l, bare_pk hp i.l1, bare_pk hp i.l2, bare_pk hp i.q, bare_pk hp i.q1, bare_pk hp i.q2, bare_pk hp i.s (noPot_ax _)⟩
end
theorem none_frm {H H' : Hp} {p u : Addr} (f : Frm [p] H H') (hp : Pot H' p) (h : H' u = none) : H u = none := by
  cases z : H u with
  | none => rfl
  | some o =>
    have := f _ _ z (fun w => hp.ne h (List.mem_singleton.mp w))
    rw [h] at this
    cases this
theorem num_put {R0 D : Addr} {H : Hp} {x : V} {a b : Int} {o : HO} {xs : List V} (h : NumV R0 H x a b) (hD : H D = some (.lst xs)) : NumV R0 (upd H D o) x a b := h.imp (fun ⟨q, e, r⟩ => ⟨q, e, r.frm (M := [D]) (Frm.put (List.mem_singleton.mpr rfl)) (fun z => by
  obtain ⟨_, dx, w⟩ := r
  rw [List.mem_singleton.mp z, hD] at w
  cases w)⟩) id
theorem sc_area : FnScope ["_law_pot_here", "_law_model_here", "_law_wide", "_law_high", "_law_pair"] ["_law_pot_here", "_law_model_here"] (defScope s_area) := ⟨rfl, rfl, rfl, by decide +kernel, rfl, by decide +kernel, by decide +kernel⟩
def spArea5 (C0 R0 M0 : Addr) : Sp := fun vs H Q _ => ∃ (p d : Addr) (g : GaugeM), vs = [.ref p, .ref d] ∧ Pot H p ∧ MdlAt H d g ∧ GOk g ∧ ∀ m H', Frm [p] H H' → Pot H' p → MapAt C0 R0 M0 H' m g.rs g.le g.ln g.cl → Q (.ref m) H'
theorem ok_area (F : FunD K "_law_area" "_law_area" (defArgs s_area) (defBody s_area) (defScope s_area) [] [] f fd) (T : TB mg) (RM : MapT K mg M0) {fpassed : Addr} {fdpassed : FuncData} (Dpassed : Gd P w K mg base "_law_passed" 4 ["_law_pot_here", "_law_pair"] (spPassed5 R0) fpassed fdpassed) {fplan : Addr} {fdplan : FuncData} (Dplan : Gd P w K mg base "_law_plan" 8 ["_law_rounds_here"] (spPlan5 C0) fplan fdplan) {fIM : Addr} {fdIM : FuncData} (MIM : Mk K M0 fIM) (GIM : FnOk P w K mg base CX0 7 fIM fdIM ["self", "plan", "east", "north", "closed"] (spMapI K C0 R0 M0)) (kbM : KBn K fdIM ["self", "plan", "east", "north", "closed"] 4 ["closed"] (fun us ws => us ++ ws) (fun vs zs => vs ++ zs)) : FnOk P w K mg base CX0 9 f fd ["_law_pot_here", "_law_model_here"] (spArea5 C0 R0 M0) := by
  refine F.ok sc_area (fun vs H Q E h => ?_) (fun cdv A outer s H vs Q E hr h => ?_)
  · obtain ⟨p, d, g, rfl, hp, hd, ok, k⟩ := h
    rfl
  · obtain ⟨p, d, g, rfl, hp, hd, ok, k⟩ := h
    refine ⟨_, (PSs.nox (pss_cons (ps_asg (pe_lc (own := [("_law_pair", 4)]) (g := gName 4) (tt := tYes) rfl sc_area.nd (pi_list (pe_dget (hu_of hr) (pv 1) pe_str (fun _ _ => rfl))) (blkOk_by (own := [("_law_pair", 4)]) (N := ["_law_pot_here", "_law_model_here", "_law_wide", "_law_high", "_law_pair"]) (sc := defScope s_area) (by decide +kernel)) (fun _ _ _ _ _ => (pg_name (i := 4) sc_area.nd rfl (.inl rfl))) (fun _ _ _ _ _ => pts_nil) (fun _ _ _ _ _ => (pe_gd Dpassed hr (by decide) (by rfl) (pa_cons (pv 0) (pa_cons (pv 4) pa_nil))))) (pg_unl rfl (pgs_cons (pg_name (i := 2) sc_area.nd rfl (.inl rfl)) (pgs_cons (pg_name (i := 3) sc_area.nd rfl (.inl rfl)) pgs_nil))))
      (pss_one (ps_ret (pe_makeN MIM GIM (hr.mono (by decide)) (by rfl) RM.mgM kbM pass0 (pa_cons (pe_gd Dplan hr (by decide) (by rfl) (pa_cons (pe_dget (hu_of hr) (pv 1) pe_str (fun _ _ => rfl)) pa_nil)) (pa_cons (pv 2) (pa_cons (pv 3) pa_nil))) (pk_cons (pe_dget (hu_of hr) (pv 1) pe_str (fun _ _ => rfl)) pk_nil)))))), ?_⟩
    obtain ⟨lr, ll, lq, ls, l1, l2, q1, q2, hdd, hm⟩ := id hd
    have hll := hm.l
    have up : ∀ {x : Int}, x.natAbs < 2 ^ 70 → x.natAbs < 2 ^ 8000 := fun h => Nat.lt_of_lt_of_le h (Nat.pow_le_pow_right (by decide) (by decide))
    refine ⟨_, rfl, d, _, rfl, DGet.s hdd (vk2 (by decide +kernel)), ll, rfl, ⟨_, SqL.of hll⟩, fun D hD => lc_walk walk_l (fun i H' => ∃ xs : List V, H' D = some (.lst xs) ∧ xs.length = i ∧ (∀ x, xs[0]? = some x → NumV R0 H' x g.le.1 g.le.2) ∧ (∀ x, xs[1]? = some x → NumV R0 H' x g.ln.1 g.ln.2) ∧ Frm [p] H H' ∧ Pot H' p) ⟨[], upd_same, rfl, fun _ z => (nomatch z), fun _ z => (nomatch z), Frm.new hD, hp.new hD⟩ (fun _ _ ⟨_, _, _, _, _, f, _⟩ => SqL.of (pk f hp hll)) ?_ ?_⟩
    · rintro i x H1 hx ⟨xs, d1, d2, d3, d4, f1, hp1⟩
      have pD : D ≠ p := hp.ne hD
      have key : ∃ (t : Addr) (a b : Int), x = .ref t ∧ H1 t = some (.tup [.int a, .int b]) ∧ 0 < a ∧ 0 < b ∧ b.natAbs < 2 ^ 8000 ∧ ((i = 0 ∧ (a, b) = g.le) ∨ (i = 1 ∧ (a, b) = g.ln)) := by
        match i, hx with
        | 0, hx => cases hx; exact ⟨_, _, _, rfl, pk f1 hp hm.l1, ok.e0, ok.e1, up ok.ze.2, .inl ⟨rfl, rfl⟩⟩
        | 1, hx => cases hx; exact ⟨_, _, _, rfl, pk f1 hp hm.l2, ok.n0, ok.n1, up ok.zn.2, .inr ⟨rfl, rfl⟩⟩
      obtain ⟨t, a, b, rfl, ht, a0, b0, zb, hi⟩ := key
      refine ⟨rfl, lc_yes ⟨_, rfl, _, rfl, p, t, a, b, rfl, hp1, ht, a0, b0, zb, fun y H2 f2 hp2 hy => ?_⟩⟩
      have dD : H2 D = some (.lst xs) := f2 _ _ d1 (fun z => pD (List.mem_singleton.mp z))
      have i2 : i < 2 := (List.getElem?_eq_some_iff.mp hx).1
      refine ⟨_, dD, by rw [d2, sizeLine_eq]; omega, xs ++ [y], upd_same, by rw [List.length_append, d2]; rfl, ?_, ?_, fun a' o' e' n' => ?_, ?_⟩
      · intro x' hx'
        rcases hi with ⟨rfl, hi⟩ | ⟨rfl, hi⟩
        · have : xs = [] := List.length_eq_zero_iff.mp d2
          subst this
          cases hx'
          rw [← hi]
          exact num_put hy dD
        · have h := d3 x' (by rwa [List.getElem?_append_left (by omega)] at hx')
          exact num_put ((h.bare hp1).ext (bare_frm f2)) dD
      · intro x' hx'
        rcases hi with ⟨rfl, hi⟩ | ⟨rfl, hi⟩
        · have := (List.getElem?_eq_some_iff.mp hx').1
          rw [List.length_append, d2] at this
          simp at this
        · have e4 : (xs ++ [y])[1]? = some y := by rw [List.getElem?_append_right (by omega), d2] <;> rfl
          rw [e4] at hx'
          cases hx'
          rw [← hi]
          exact num_put hy dD
      · have : a' ≠ D := fun z => by rw [z, hD] at e'; cases e'
        rw [upd_ne this]
        exact (f1.trans f2) _ _ e' n'
      · obtain ⟨w1, w2, w3, w4⟩ := hp2
        exact ⟨w1, w2, by rw [upd_ne (Ne.symm pD)]; exact w3, w4⟩
    rintro H1 ⟨xs, d1, d2, d3, d4, f1, hp1⟩
    match xs, d2 with
    | [x, y], _ =>
      have nx := d3 x rfl
      have ny := d4 y rfl

      have hd1 := (hd.bare hp).ext (bare_frm f1)
      obtain ⟨lr, ll, lq, ls, l1, l2, q1, q2, hdd1, hm1⟩ := id hd1
      refine ⟨D, _, rfl, SqL.of d1, rfl, _, _, rfl, _, _, rfl, rfl, _, rfl, d, _, rfl, DGet.s hdd1 vk1, lr, g.rs, rfl, hm1.r, ok.ok, fun pp H2 e2 _ hpp => ⟨_, rfl, _, rfl, _, rfl, d, _, rfl, DGet.s (e2 _ _ hdd1) (vk4 (by decide +kernel) (by decide +kernel) (by decide +kernel)), rfl, rfl, fun m dxm hxm hdm ne => ?_⟩⟩
      have e3 := mk_ext (o := .own m) (o' := .ins M0 dxm []) hxm hdm
      refine ⟨m, dxm, pp, x, y, .ref ls, H2, g.rs, g.le, g.ln, g.cl, rfl, upd_same, e3, hxm, hpp, ok.ok, nx.ext e2, ny.ext e2, ⟨ls, rfl, .inl (SqL.of (e2 _ _ hm1.s))⟩, ok.cl, ok.e0, ok.n0, fun H4 f4 e4 hmap => ⟨rfl, ?_⟩⟩
      exact k m H4 (f1.trans (Frm.ext (e2.trans e4))) (hp1.frm (M := []) (Frm.ext (e2.trans e4)) (fun z => nomatch z)) hmap
theorem sc_gauge : FnScope ["_law_pot_here", "_law_model_here", "_law_wide", "_law_high", "_law_pair"] ["_law_pot_here", "_law_model_here"] (defScope s_gauge) := ⟨rfl, rfl, rfl, by decide +kernel, rfl, by decide +kernel, by decide +kernel⟩
def spGauge5 (C0 R0 M0 U0 : Addr) : Sp := fun vs H Q _ => ∃ (p d : Addr) (g : GaugeM), vs = [.ref p, .ref d] ∧ Pot H p ∧ MdlAt H d g ∧ GOk g ∧ ∀ a dd H', Frm [p] H H' → Pot H' p → H a = none → H dd = none → GaugeNew C0 R0 M0 U0 H' a dd g → Q (.ref a) H'
theorem ok_gauge (F : FunD K "_law_gauge" "_law_gauge" (defArgs s_gauge) (defBody s_gauge) (defScope s_gauge) [] [] f fd) (T : TB mg) (RU : GaugeT K mg U0 kX) {fpassed : Addr} {fdpassed : FuncData} (Dpassed : Gd P w K mg base "_law_passed" 4 ["_law_pot_here", "_law_pair"] (spPassed5 R0) fpassed fdpassed) {farea : Addr} {fdarea : FuncData} (Darea : Gd P w K mg base "_law_area" 9 ["_law_pot_here", "_law_model_here"] (spArea5 C0 R0 M0) farea fdarea) {fIU : Addr} {fdIU : FuncData} (MIU : Mk K U0 fIU) (GIU : FnOk P w K mg base CX0 8 fIU fdIU ["self", "area", "east", "north", "kind"] (spGaugeI C0 R0 M0 U0)) (bIU : Binds K fdIU ["self", "area", "east", "north", "kind"] []) : FnOk P w K mg base CX0 10 f fd ["_law_pot_here", "_law_model_here"] (spGauge5 C0 R0 M0 U0) := by
  refine F.ok sc_gauge (fun vs H Q E h => ?_) (fun cdv A outer s H vs Q E hr h => ?_)
  · obtain ⟨p, d, g, rfl, hp, hd, ok, k⟩ := h
    rfl
  · obtain ⟨p, d, g, rfl, hp, hd, ok, k⟩ := h
    refine ⟨_, (PSs.nox (pss_cons (ps_asg (pe_lc (own := [("_law_pair", 4)]) (g := gName 4) (tt := tYes) rfl sc_gauge.nd (pi_list (pe_dget (hu_of hr) (pv 1) pe_str (fun _ _ => rfl))) (blkOk_by (own := [("_law_pair", 4)]) (N := ["_law_pot_here", "_law_model_here", "_law_wide", "_law_high", "_law_pair"]) (sc := defScope s_gauge) (by decide +kernel)) (fun _ _ _ _ _ => (pg_name (i := 4) sc_gauge.nd rfl (.inl rfl))) (fun _ _ _ _ _ => pts_nil) (fun _ _ _ _ _ => (pe_gd Dpassed hr (by decide) (by rfl) (pa_cons (pv 0) (pa_cons (pv 4) pa_nil))))) (pg_unl rfl (pgs_cons (pg_name (i := 2) sc_gauge.nd rfl (.inl rfl)) (pgs_cons (pg_name (i := 3) sc_gauge.nd rfl (.inl rfl)) pgs_nil))))
      (pss_one (ps_ret (pe_make MIU GIU (hr.mono (by decide)) (by rfl) RU.mgU bIU .nil pass0 (pa_cons (pe_gd Darea hr (by decide) (by rfl) (pa_cons (pv 0) (pa_cons (pv 1) pa_nil))) (pa_cons (pv 2) (pa_cons (pv 3) (pa_cons (pe_dget (hu_of hr) (pv 1) pe_str (fun _ _ => rfl)) pa_nil))))))))), ?_⟩
    obtain ⟨lr, ll, lq, ls, l1, l2, q1, q2, hdd, hm⟩ := id hd
    have hll := hm.q
    have r0 := ok.r0
    have r1 := ok.r1
    have up : ∀ {x : Int}, 0 < x → x ≤ 24 → x.natAbs < 2 ^ 8000 := fun h0 h => Nat.lt_of_lt_of_le (show _ < 2 ^ 5 by omega) (Nat.pow_le_pow_right (by decide) (by decide))
    refine ⟨_, rfl, d, _, rfl, DGet.s hdd (vk3 (by decide +kernel) (by decide +kernel)), lq, rfl, ⟨_, SqL.of hll⟩, fun D hD => lc_walk walk_l (fun i H' => ∃ xs : List V, H' D = some (.lst xs) ∧ xs.length = i ∧ (∀ x, xs[0]? = some x → NumV R0 H' x g.re.1 g.re.2) ∧ (∀ x, xs[1]? = some x → NumV R0 H' x g.rn.1 g.rn.2) ∧ Frm [p] H H' ∧ Pot H' p) ⟨[], upd_same, rfl, fun _ z => (nomatch z), fun _ z => (nomatch z), Frm.new hD, hp.new hD⟩ (fun _ _ ⟨_, _, _, _, _, f, _⟩ => SqL.of (pk f hp hll)) ?_ ?_⟩
    · rintro i x H1 hx ⟨xs, d1, d2, d3, d4, f1, hp1⟩
      have pD : D ≠ p := hp.ne hD
      have key : ∃ (t : Addr) (a b : Int), x = .ref t ∧ H1 t = some (.tup [.int a, .int b]) ∧ 0 < a ∧ 0 < b ∧ b.natAbs < 2 ^ 8000 ∧ ((i = 0 ∧ (a, b) = g.re) ∨ (i = 1 ∧ (a, b) = g.rn)) := by
        match i, hx with
        | 0, hx => cases hx; exact ⟨_, _, _, rfl, pk f1 hp hm.q1, r0.1, by omega, up (by omega) r0.2.2, .inl ⟨rfl, rfl⟩⟩
        | 1, hx => cases hx; exact ⟨_, _, _, rfl, pk f1 hp hm.q2, r1.1, by omega, up (by omega) r1.2.2, .inr ⟨rfl, rfl⟩⟩
      obtain ⟨t, a, b, rfl, ht, a0, b0, zb, hi⟩ := key
      refine ⟨rfl, lc_yes ⟨_, rfl, _, rfl, p, t, a, b, rfl, hp1, ht, a0, b0, zb, fun y H2 f2 hp2 hy => ?_⟩⟩
      have dD : H2 D = some (.lst xs) := f2 _ _ d1 (fun z => pD (List.mem_singleton.mp z))
      have i2 : i < 2 := (List.getElem?_eq_some_iff.mp hx).1
      refine ⟨_, dD, by rw [d2, sizeLine_eq]; omega, xs ++ [y], upd_same, by rw [List.length_append, d2]; rfl, ?_, ?_, fun a' o' e' n' => ?_, ?_⟩
      · intro x' hx'
        rcases hi with ⟨rfl, hi⟩ | ⟨rfl, hi⟩
        · have : xs = [] := List.length_eq_zero_iff.mp d2
          subst this
          cases hx'
          rw [← hi]
          exact num_put hy dD
        · have h := d3 x' (by rwa [List.getElem?_append_left (by omega)] at hx')
          exact num_put ((h.bare hp1).ext (bare_frm f2)) dD
      · intro x' hx'
        rcases hi with ⟨rfl, hi⟩ | ⟨rfl, hi⟩
        · have := (List.getElem?_eq_some_iff.mp hx').1
          rw [List.length_append, d2] at this
          simp at this
        · have e4 : (xs ++ [y])[1]? = some y := by rw [List.getElem?_append_right (by omega), d2] <;> rfl
          rw [e4] at hx'
          cases hx'
          rw [← hi]
          exact num_put hy dD
      · have : a' ≠ D := fun z => by rw [z, hD] at e'; cases e'
        rw [upd_ne this]
        exact (f1.trans f2) _ _ e' n'
      · obtain ⟨w1, w2, w3, w4⟩ := hp2
        exact ⟨w1, w2, by rw [upd_ne (Ne.symm pD)]; exact w3, w4⟩
    rintro H1 ⟨xs, d1, d2, d3, d4, f1, hp1⟩
    match xs, d2 with
    | [x, y], _ =>
      have nx := d3 x rfl
      have ny := d4 y rfl

      have hd1 := (hd.bare hp).ext (bare_frm f1)
      refine ⟨D, _, rfl, SqL.of d1, rfl, _, _, rfl, _, _, rfl, rfl, _, rfl, _, rfl, p, d, g, rfl, hp1, hd1, ok, fun m H2 f2 hp2 hmap => ?_⟩
      have nx2 := (nx.bare hp1).ext (bare_frm f2)
      have ny2 := (ny.bare hp1).ext (bare_frm f2)
      have hd2 := (hd1.bare hp1).ext (bare_frm f2)
      obtain ⟨lr, ll, lq, ls, l1, l2, q1, q2, hdd2, hm2⟩ := id hd2
      refine ⟨_, rfl, _, rfl, _, rfl, d, _, rfl, DGet.s hdd2 (vk5 (by decide +kernel) (by decide +kernel) (by decide +kernel) (by decide +kernel)), fun u dxu hxu hdu ne => ?_⟩
      have e3 := mk_ext (o := .own u) (o' := .ins U0 dxu []) hxu hdu
      refine ⟨u, dxu, m, x, y, H2, g, 5, rfl, upd_same, e3, hxu, hmap, nx2, ny2, r0.1, r0.2.1, r1.1, r1.2.1, by omega, by omega, by omega, by omega, by decide, by decide, fun dd H4 f4 e4 hdd hg => ⟨rfl, ?_⟩⟩
      exact k u dd H4 ((f1.trans f2).trans (Frm.ext e4)) (hp2.frm (M := []) (Frm.ext e4) (fun z => nomatch z)) (none_frm (f1.trans f2) hp2 hxu) (none_frm (f1.trans f2) hp2 hdd) hg
end
end Mc

set_option Elab.async false
set_option linter.all false
set_option maxRecDepth 100000
set_option maxHeartbeats 4000000
namespace Mc
open PySem PySem.Spec PyProof.Rows L2 HT
/-! ### t[::-1] of a tuple -/
section
variable {prog : Program} {w : World} {A : Around} {E : Value → Shared → Prop} {s : Shared}
theorem adjust_rev (n : Nat) : Builtin.Slice.sliceAdjust none none (-1) (n : Int) = ((n : Int) - 1, -1) := by
  unfold Builtin.Slice.sliceAdjust
  simp
theorem places_rev (n : Nat) : Builtin.Slice.slicePlaces ((n : Int) - 1) (-1) (-1) = n := by
  unfold Builtin.Slice.slicePlaces
  simp only [show ¬ ((-1 : Int) > 0) by decide, if_false]
  split
  · simp
  · omega
theorem sliceApplied_rev {sl : Addr} {vl vu vs : Value} {n : Nat} {Q : Int × Int × Nat → Shared → Prop} (hs : s.heap.IsSliceOf sl vl vu vs) (pl : IsPart vl none) (pu : IsPart vu none) (ps : IsPart vs (some (-1)))
    (h : Q ((n : Int) - 1, -1, n) s) : wpAny (model prog w) A (Builtin.Slice.sliceApplied (.ref sl) (pure (n : Int))) Q E s := by
  obtain ⟨os, hos, hcs, hds⟩ := id hs
  unfold Builtin.Slice.sliceApplied Builtin.Slice.sliceFields
  refine wpAny_bind (wpAny_bind (wpAny_field hos hds (x := vl) rfl (wpAny_bind (wpAny_field hos hds (x := vu) rfl (wpAny_bind (wpAny_field hos hds (x := vs) rfl (wpAny_pure ?_)))))))
  refine wpAny_bind (slicePart_ ps ?_)
  show wpAny _ _ (if ((-1 : Int) == 0) = true then _ else _) _ _ s
  rw [if_neg (by decide)]
  refine wpAny_bind (slicePart_ pl (wpAny_bind (slicePart_ pu (wpAny_bind (wpAny_pure ?_)))))
  show wpAny _ _ (match Builtin.Slice.sliceAdjust none none (-1) (n : Int) with | (lo, hi) => pure (lo, (-1 : Int), Builtin.Slice.slicePlaces lo hi (-1))) _ _ s
  rw [adjust_rev n]
  show wpAny _ _ (pure ((n : Int) - 1, (-1 : Int), Builtin.Slice.slicePlaces ((n : Int) - 1) (-1) (-1))) _ _ s
  rw [places_rev]
  exact wpAny_pure h
theorem fm_congr {α β : Type} {f g : α → Option β} : ∀ {l : List α}, (∀ a, a ∈ l → f a = g a) → l.filterMap f = l.filterMap g
  | [], _ => rfl
  | a :: l, h => by rw [List.filterMap_cons, List.filterMap_cons, h a List.mem_cons_self, fm_congr fun b hb => h b (List.mem_cons_of_mem _ hb)]
theorem pick_rev (xs : Array Value) : ((List.range xs.size).filterMap fun (m : Nat) => xs[((xs.size : Int) - 1 + (m : Int) * (-1)).toNat]?).toArray = xs.toList.reverse.toArray := by
  congr 1
  have e : ∀ m, m ∈ List.range xs.size → xs[((xs.size : Int) - 1 + (m : Int) * (-1)).toNat]? = some (xs.toList.reverse.getD m .none) := fun m hm => by
    have hm := List.mem_range.mp hm
    have e1 : ((xs.size : Int) - 1 + (m : Int) * (-1)).toNat = xs.size - 1 - m := by omega
    have hl : m < xs.toList.reverse.length := by simp; omega
    rw [e1, List.getD_eq_getElem?_getD, List.getElem?_eq_getElem hl, List.getElem_reverse, Array.getElem?_eq_getElem (by omega)]
    simp
  rw [fm_congr (g := fun m => some (xs.toList.reverse.getD m .none)) e]
  rw [List.filterMap_eq_map']
  refine List.ext_getElem? fun i => ?_
  rw [List.getElem?_map]
  by_cases hi : i < xs.size
  · rw [List.getElem?_range hi, List.getElem?_eq_getElem (by simp; omega)]
    show some (xs.toList.reverse.getD i Value.none) = _
    rw [List.getD_eq_getElem?_getD, List.getElem?_eq_getElem (by simp; omega)]
    rfl
  · rw [List.getElem?_eq_none (by simp; omega), List.getElem?_eq_none (by simp; omega)]
    rfl
theorem getItem_tuple_rev {t sl : Addr} {items : Array Value} {vl vu vs : Value} {Q : Value → Shared → Prop} (ht : IsTup s.heap t items) (hs : s.heap.IsSliceOf sl vl vu vs) (pl : IsPart vl none) (pu : IsPart vu none) (ps : IsPart vs (some (-1)))
    (h : Q (.ref s.heap.objs.size) { s with heap := s.heap.push { cls := .type "tuple", data := .seq items.toList.reverse.toArray } })
    (hsz : items.size ≤ sizeLine) : wpAny (model prog w) A (getItem (.ref t) (.ref sl)) Q E s := by
  have htake : sizeOk (.seq items.toList.reverse.toArray) := by
    show items.toList.reverse.toArray.size ≤ sizeLine
    rw [List.size_toArray, List.length_reverse, Array.length_toList]
    exact hsz
  obtain ⟨os, hos, hcs, hds⟩ := id hs
  have hTs : s.TypeIs (.ref sl) "slice" := ⟨os, hos, hcs⟩
  unfold getItem
  try with_reducible refine wpAny_holding ?_
  first | refine wpAny_bind (wpAny_pure ?_) | skip
  refine wpAny_bind (wpAny_sequenceKey ht.typeIs (by decide) ?_)
  refine wpAny_bind (wpAny_callSpecial?_slot (name := Str.ofString "__getitem__") ht.typeIs PyProof.Rows.slot_tuple_getitem
    (wpAny_call_entry PyProof.Rows.slot_tuple_getitem ht.typeIs entry_tuple_getitem ?_ (args_tuple_getitem _ _)))
  show wpAny _ _ (Builtin.Tuple.tupleItemsOf (.ref t) >>= _) _ _ s
  refine wpAny_bind (tupleItemsOf_ ht ?_)
  refine wpAny_bind (wpAny_typeOf hTs ?_)
  rw [if_pos (by decide)]
  refine wpAny_bind (sliceApplied_rev hs pl pu ps ?_)
  have hno : ¬ (((items.size : Int) - 1 == 0 && (-1 : Int) == 1 && items.size == items.size) = true) := by
    intro q
    rw [Bool.and_eq_true, Bool.and_eq_true] at q
    exact absurd q.1.2 (by decide)
  show wpAny _ _ (if ((items.size : Int) - 1 == 0 && (-1 : Int) == 1 && items.size == items.size) = true then _ else _) _ _ s
  rw [if_neg hno, pick_rev]
  first
    | exact wpAny_bind (m := Builtin.Tuple.tupleExact _) (wpAny_newObj_type (wpAny_pure ⟨_, rfl, wpAny_pure h⟩) htake)
    | exact wpAny_bind (m := Builtin.Tuple.tupleExact _) (wpAny_newObj_type (wpAny_bind (wpAny_pure (wpAny_pure ⟨_, rfl, wpAny_pure h⟩))) htake)
    | exact wpAny_bind (wpAny_bind (m := Builtin.Tuple.tupleExact _) (wpAny_newObj_type (wpAny_pure (wpAny_pure ⟨_, rfl, wpAny_pure h⟩)) htake))
    | exact wpAny_bind (wpAny_bind (m := Builtin.Tuple.tupleExact _) (wpAny_newObj_type (wpAny_pure ⟨_, rfl, wpAny_pure h⟩) htake))
end
def tRevT (K : PySem.W.Frag) (te : TE) : TE := fun σ H Q => te σ H fun x H1 => ∃ a xs, x = .ref a ∧ SqT K H1 a xs ∧ ∀ p, H1 p = none → Q (.ref p) (upd H1 p (.tup xs.reverse))
theorem pe_revT {X : Cx} {K : PySem.W.Frag} {e : Expr} {te : TE} {k : Nat} {p1 p2 p3 pos : Pos} (hK : X.K = K) (he : PE X e te) : PE X (.Subscript e (.Slice none none (some (.UnaryOp .USub (.Constant (.int 1) k p1) p2)) p3) pos) (tRevT K te) := by
  subst hK
  refine ⟨fun pins s σ H Q I h => ?_⟩
  refine Subscript_ (thn (he.run pins s σ H _ I h) fun v s1 ⟨x, H1, I1, r1, q1⟩ => ?_)
  obtain ⟨a, xs, ex, hx, q⟩ := q1
  subst ex
  cases r1
  have hst : PO X (some (.UnaryOp .USub (.Constant (.int 1) k p1) p2)) (tPart (tUn (rU fun i => .int (-i)) (tC (.int 1)))) := po_some (pe_un un_neg pe_int)
  refine wpAny_Slice (thn (po_none.run pins s1 σ H1 (fun o H2 => o = none ∧ H2 = H1) I1 ⟨rfl, rfl⟩) fun vl s2 ⟨l, H2, I2, pl, el, e2⟩ => ?_)
  subst el e2
  refine thn (po_none.run pins s2 σ H2 (fun o H3 => o = none ∧ H3 = H2) I2 ⟨rfl, rfl⟩) fun vu s3 ⟨u, H3, I3, pu, eu, e3⟩ => ?_
  subst eu e3
  refine thn (hst.run pins s3 σ H3 (fun o H4 => o = some (-1) ∧ H4 = H3) I3 ⟨1, rfl, -1, rfl, rfl, rfl⟩) fun vs s4 ⟨o, H4, I4, ps, eo, e4⟩ => ?_
  subst eo e4
  have I5 : Inv X pins σ H4 { s4 with heap := s4.heap.push { cls := .type "slice", data := .fields #[vl, vu, vs] } } := I4.kept (t' := s4.toks) fun b ob q => Heap.get?_push_of_some _ q
  obtain ⟨its, r, ht, hz⟩ := I5.tuple hx
  have hlen := r.length
  show wpAny (model X.prog X.w) X.A (subscriptTail e (.Slice none none (some (.UnaryOp .USub (.Constant (.int 1) k p1) p2)) p3) (.ref a) (.ref s4.heap.objs.size)) (EP X pins σ Q) X.xe { s4 with heap := s4.heap.push { cls := .type "slice", data := .fields #[vl, vu, vs] } }
  refine tail_any (ops := [.ref a, .ref s4.heap.objs.size]) ht.typeIs PyProof.Rows.slot_tuple_getitem.lookup ?_ (by with_unfolding_all rfl)
  refine getItem_tuple_rev ht (Heap.IsSliceOf.new _ vl vu vs) pl pu ps ?_ (by rw [List.size_toArray]; omega)
  refine ⟨.ref _, _, I5.laid (t' := s4.toks) (o := .tup xs.reverse) (fun b ob q => Heap.get?_push_of_some _ q) (Nat.le_refl _) ?_, rfl, q _ (I5.hok.fresh (Nat.le_refl _))⟩
  exact ⟨by rw [List.length_reverse]; exact hz, _, r.reverse, IsTup.new _ _⟩
/-! ### for i, x in enumerate of a list -/
theorem for_enumL {K : PySem.W.Frag} {a : Addr} {xs : List V} {g : TG} {tb : TS} {E : Ends} {σ : L2.St} {H : Hp} (Pv : Nat → L2.St → Hp → Prop) (h0 : Pv 0 σ H) (hS : ∀ i σ H, Pv i σ H → SqL K H a xs)
    (hs : ∀ i x T σ H, xs[i]? = some x → H T = none → Pv i σ H → g (.ref T) σ (upd H T (.tup [.int (i : Nat), x])) fun σ2 H2 => tb { E with nx := Pv (i + 1), ct := Pv (i + 1), bk := E.nx } σ2 H2) (hd : ∀ σ H, Pv xs.length σ H → E.nx σ H) : ∃ W : Nat → Nat → L2.St → Hp → Prop, (∃ m, W 0 m σ H) ∧ ∀ i m σ H, W i m σ H →
      ((Ite K a).stop i H ∧ E.nx σ H) ∨ ((Ite K a).go i H ∧ ∃ N : L2.St → Hp → Prop, (∀ σ' H', N σ' H' → ∃ m', m' < m ∧ W (i + 1) m' σ' H') ∧ ∀ x H', (Ite K a).yld i H x H' → g x σ H' fun σ2 H2 => tb { E with nx := N, ct := N, bk := E.nx } σ2 H2) := by
  refine ⟨fun i m σ H => i + m = xs.length ∧ Pv i σ H, ⟨xs.length, Nat.zero_add _, h0⟩, fun i m σ H ⟨hm, p⟩ => ?_⟩
  have s1 := hS i σ H p
  rcases Nat.eq_zero_or_pos m with z | z
  · have e : i = xs.length := by omega
    exact .inl ⟨⟨xs, s1, Nat.le_of_eq e.symm⟩, hd σ H (e ▸ p)⟩
  · have lt : i < xs.length := by omega
    refine .inr ⟨⟨xs, xs[i], s1, List.getElem?_eq_getElem lt⟩, Pv (i + 1), fun _ _ q => ⟨m - 1, by omega, by omega, q⟩, ?_⟩
    rintro v H' ⟨T, x, rfl, hT, rfl, hx⟩
    exact hs i x T σ H (hx xs s1) hT p
end Mc

set_option Elab.async false
set_option linter.all false
set_option maxRecDepth 100000
set_option maxHeartbeats 4000000
set_option exponentiation.threshold 20000
namespace Mc
open PySem PySem.Spec PyProof.Rows L2 ClX StX
open RZ
section
variable {P : Program} {w : World} {K : PySem.W.Frag} {mg : Str → Option Value} {base : Heap} {f U0 kX M0 R0 C0 aX : Addr} {mc : Value} {fd : FuncData}
theorem range_get {n i : Nat} {x : V} (h : ((List.range n).map fun k : Nat => V.int (0 + (k : Int)))[i]? = some x) : i < n ∧ x = .int (i : Nat) := by
  have hi := (List.getElem?_eq_some_iff.mp h).1
  rw [List.length_map, List.length_range] at hi
  refine ⟨hi, ?_⟩
  rw [List.getElem?_map, List.getElem?_range hi] at h
  rw [← Option.some.inj h]
  show V.int (0 + (i : Int)) = V.int (i : Int)
  rw [Int.zero_add]
theorem dcf_small {rs : List (List Cut)} (ok : OkR rs) {n : Nat} (h : n ≤ 150) : dcF rs 0 n < 2 ^ 760 ∧ drF rs 0 n < 2 ^ 760 := by
  have := dc_bits ok.n 0 n
  have e : 2 ^ (5 * n) < 2 ^ 760 := Nat.pow_lt_pow_right (by decide) (by omega)
  omega
theorem sc_counts : FnScope ["_law_rounds_here", "_law_many", "_law_found", "_law_at", "_law_line", "_law_parts"] ["_law_rounds_here", "_law_many"] (defScope s_counts) := ⟨rfl, rfl, rfl, by decide +kernel, rfl, by decide +kernel, by decide +kernel⟩
/-- rounds that need not be balanced -/
structure OkC (rs : List (List Cut)) : Prop where
  l1 : 0 < rs.length
  hc : ∀ cs ∈ rs, ∀ c ∈ cs, okC c
  h5 : ∀ cs ∈ rs, cs.length ≤ 5
  n : OkN rs
theorem OkR.c {rs : List (List Cut)} (ok : OkR rs) : OkC rs := ⟨ok.l1, ok.hc, ok.h5, ok.n⟩
theorem OkR.one {rs : List (List Cut)} (ok : OkR rs) {cs : List Cut} (m : cs ∈ rs) : OkC [cs] := ⟨Nat.zero_lt_one, fun c h => by rw [List.mem_singleton.mp h]; exact ok.hc _ m, fun c h => by rw [List.mem_singleton.mp h]; exact ok.h5 _ m, ⟨Nat.zero_lt_one, fun c h => by rw [List.mem_singleton.mp h]; exact ok.hc _ m, fun c h => by rw [List.mem_singleton.mp h]; exact ok.h32 _ m⟩⟩
theorem dcf_smallC {rs : List (List Cut)} (ok : OkC rs) {n : Nat} (h : n ≤ 150) : dcF rs 0 n < 2 ^ 760 ∧ drF rs 0 n < 2 ^ 760 := by
  have := dc_bits ok.n 0 n
  have e : 2 ^ (5 * n) < 2 ^ 760 := Nat.pow_lt_pow_right (by decide) (by omega)
  omega
def spCounts5 : Sp := fun vs H Q _ => ∃ (l : Addr) (rs : List (List Cut)) (n : Nat), vs = [.ref l, .int n] ∧ RowsL H l rs ∧ OkC rs ∧ n ≤ 150 ∧ ∀ q H', Ext H H' → H' q = some (.lst [.int (dcF rs 0 n : Nat), .int (drF rs 0 n : Nat)]) → Q (.ref q) H'
theorem ok_counts (F : FunD K "_law_counts" "_law_counts" (defArgs s_counts) (defBody s_counts) (defScope s_counts) [] [] f fd) (T : TB mg) : FnOk P w K mg base CX0 1 f fd ["_law_rounds_here", "_law_many"] (spCounts5) := by
  refine F.ok sc_counts (fun vs H Q E h => ?_) (fun cdv A outer s H vs Q E hr h => ?_)
  · obtain ⟨l, rs, n, rfl, hl, ok, hn, k⟩ := h
    rfl
  · obtain ⟨l, rs, n, rfl, hl, ok, hn, k⟩ := h
    refine ⟨_, (PSs.nox (pss_cons (ps_set (i := 2) sc_counts.nd rfl (.inl rfl) (pe_lst (pa_cons pe_int (pa_cons pe_int pa_nil))))
      (pss_cons (ps_for PassesOwn.never rfl (pi_range1 (by rfl) T.range (pa_cons (pv 1) pa_nil)) (pg_name (i := 3) sc_counts.nd rfl (.inl rfl)) (pss_one (ps_for PassesOwn.never rfl (pi_list (pe_ix ix_seq (pv 0) (pe_op op_mod (pv 3) (pe_callB call_len_seq (by rfl) T.len PySem.boot_len (pa_cons (pv 0) pa_nil))) (fun _ _ => rfl))) (pg_tup rfl (pgs_cons (pg_name (i := 4) sc_counts.nd rfl (.inl rfl)) (pgs_cons (pg_name (i := 5) sc_counts.nd rfl (.inl rfl)) pgs_nil))) (pss_one (ps_asg (pe_op op_mulW (pe_ix ix_seq (pv 2) (pe_callTy call_int1 (by rfl) T.int (by decide +kernel) (pa_cons (pe_cmpR op_eq (pv 4) pe_str (nomark _)) pa_nil)) (fun _ _ => rfl)) (pv 5)) (pg_sub (pv 2) (pe_callTy call_int1 (by rfl) T.int (by decide +kernel) (pa_cons (pe_cmpR op_eq (pv 4) pe_str (nomark _)) pa_nil)) set_list))))))
      (pss_one (ps_ret (pv 2)))))), ?_⟩
    obtain ⟨as, hl1, hpd⟩ := id hl
    have l1 := ok.l1
    have lr := pd_len hpd
    refine ⟨(by show 2 ≤ sizeLine; decide), fun q hq => ?_⟩
    have e0 := Ext.upd (H := H) (o := .lst [.int 1, .int 1]) hq
    refine ⟨_, rfl, n, rfl, by omega, by omega, for_walk walk_r (fun i σ H' => ∃ u1 u2 u3, σ = [some (.ref l), some (.int (n : Nat)), some (.ref q), u1, u2, u3] ∧ H' q = some (.lst [.int (dcF rs 0 i : Nat), .int (drF rs 0 i : Nat)]) ∧ Ext H H') ⟨none, none, none, rfl, upd_same, e0⟩ (fun _ _ _ _ => trivial) ?_ ?_⟩
    · rintro i x σ H' hx ⟨u1, u2, u3, rfl, hq', e⟩
      obtain ⟨hi, rfl⟩ := range_get hx
      have hi : i < n := by simpa using hi
      obtain ⟨a, ha, hca⟩ := pd_get2 hpd (i % rs.length) (csA rs i) (csA_get l1 i)
      obtain ⟨ts, hts, hpt⟩ := cl_ext hca e
      have hcs := ok.hc _ (csA_mem l1 i)
      have ds := dcf_smallC ok (show i ≤ 150 by omega)
      refine ⟨_, rfl, _, rfl, _, rfl, l, _, rfl, .inl (SqL.of (e _ _ hl1)), (i : Int), ((as.map V.ref).length : Int), rfl, rfl, ?_, .inl ⟨l, _, _, _, rfl, rfl, SqL.of (e _ _ hl1), ?_, a, rfl, ⟨_, SqL.of hts⟩, for_walk walk_l (fun j σ H2 => ∃ u2 u3, σ = [some (.ref l), some (.int (n : Nat)), some (.ref q), some (.int (i : Nat)), u2, u3] ∧ H2 q = some (.lst [.int (dcF rs 0 i * colsF ((csA rs i).take j) : Nat), .int (drF rs 0 i * rowsF ((csA rs i).take j) : Nat)]) ∧ Ext H H2 ∧ H2 a = some (.lst (ts.map V.ref)) ∧ Paired (fun t c => H2 t = some (.tup (cutV c))) ts (csA rs i)) ⟨u2, u3, rfl, by rw [hq']; simp [colsF, rowsF], e, hts, hpt⟩ (fun _ _ _ ⟨_, _, _, _, _, h, _⟩ => SqL.of h) ?_ ?_⟩⟩
      · rw [List.length_map, lr]
        show (0 : Int) < (rs.length : Int)
        omega
      · rw [List.length_map, lr]
        show atI (as.map V.ref) ((i % rs.length : Nat) : Int) = some (V.ref a)
        exact atI_nat (by rw [List.getElem?_map, ha]; rfl)
      · rintro j x σ H2 hx ⟨u2, u3, rfl, hq2, e2, ha2, hp2⟩
        obtain ⟨t, rfl, ⟨b, m⟩, hc, htc⟩ := refs_get hp2 hx
        have okc := hcs _ (List.mem_of_getElem? hc)
        have m4 : m ≤ 4 := okc.2
        have nqa : a ≠ q := fun z => by rw [z, hq2] at ha2; exact absurd ha2 (by intro w; have := congrArg noPot (Option.some.inj w); rw [noPot_refs] at this; cases this)
        have tl : (csA rs i).take j = (csA rs i).take j := rfl
        have le32 := ok.n.le i
        have hcol : colsF ((csA rs i).take j) ≤ 1024 ∧ rowsF ((csA rs i).take j) ≤ 1024 := cols_le (fun d hd => hcs d (List.mem_of_mem_take hd)) (by have := ok.h5 _ (csA_mem l1 i); rw [List.length_take]; omega)
        have zA : ((dcF rs 0 i * colsF ((csA rs i).take j) : Nat) : Int).natAbs < 2 ^ 800 := by
          have : dcF rs 0 i * colsF ((csA rs i).take j) ≤ 2 ^ 760 * 1024 := Nat.mul_le_mul (Nat.le_of_lt ds.1) hcol.1
          omega
        have zB : ((drF rs 0 i * rowsF ((csA rs i).take j) : Nat) : Int).natAbs < 2 ^ 800 := by
          have : drF rs 0 i * rowsF ((csA rs i).take j) ≤ 2 ^ 760 * 1024 := Nat.mul_le_mul (Nat.le_of_lt ds.2) hcol.2
          omega
        refine ⟨t, _, rfl, SqT.of htc, rfl, _, _, rfl, _, _, rfl, rfl, ?_⟩
        cases b
        · have hk : decide (V.str (axS false) = V.str "north") = true := by decide +kernel
          refine ⟨_, rfl, _, rfl, rfl, .inr ⟨_, rfl, ?_⟩⟩
          rw [hk]
          rw [if_pos rfl]
          refine .inl ⟨q, _, 1, _, rfl, rfl, SqL.of hq2, rfl, _, rfl, _, _, rfl, rfl, mulW zB (show ((m : Nat) : Int).natAbs < 2 ^ 3 by omega), _, rfl, _, rfl, rfl, .inr ⟨_, rfl, ?_⟩⟩
          rw [hk]
          rw [if_pos rfl]
          refine ⟨q, _, 1, 1, rfl, rfl, hq2, rfl, _, _, rfl, ?_, ext_put e2 hq, by rw [upd_ne nqa]; exact ha2, pd_imp (fun t' c' h => by rw [upd_ne (fun z => by rw [z, hq2] at h; cases h)]; exact h) hp2⟩
          rw [upd_same, take_snoc hc, colsF_snoc, rowsF_snoc]
          simp [Nat.mul_assoc, Int.mul_assoc]
        · have hk : decide (V.str (axS true) = V.str "north") = false := by decide +kernel
          refine ⟨_, rfl, _, rfl, rfl, .inr ⟨_, rfl, ?_⟩⟩
          rw [hk]
          rw [if_neg Bool.false_ne_true]
          refine .inl ⟨q, _, 0, _, rfl, rfl, SqL.of hq2, rfl, _, rfl, _, _, rfl, rfl, mulW zA (show ((m : Nat) : Int).natAbs < 2 ^ 3 by omega), _, rfl, _, rfl, rfl, .inr ⟨_, rfl, ?_⟩⟩
          rw [hk]
          rw [if_neg Bool.false_ne_true]
          refine ⟨q, _, 0, 0, rfl, rfl, hq2, rfl, _, _, rfl, ?_, ext_put e2 hq, by rw [upd_ne nqa]; exact ha2, pd_imp (fun t' c' h => by rw [upd_ne (fun z => by rw [z, hq2] at h; cases h)]; exact h) hp2⟩
          rw [upd_same, take_snoc hc, colsF_snoc, rowsF_snoc]
          simp [Nat.mul_assoc, Int.mul_assoc]
      · rintro σ H2 ⟨u2, u3, rfl, hq2, e2, ha2, hp2⟩
        rw [List.length_map, pd_len hp2, List.take_length] at hq2
        exact ⟨_, _, _, rfl, by rw [hq2]; show _ = some (HO.lst [V.int ((dcF rs 0 i * colsF (csA rs (0 + i)) : Nat) : Int), V.int ((drF rs 0 i * rowsF (csA rs (0 + i)) : Nat) : Int)]); rw [Nat.zero_add], e2⟩
    rintro σ H' ⟨u1, u2, u3, rfl, hq', e⟩
    rw [List.length_map, List.length_range] at hq'
    exact ⟨_, rfl, k q H' e hq'⟩
theorem sc_is_less : FnScope ["_law_one", "_law_other"] ["_law_one", "_law_other"] (defScope s_is_less) := ⟨rfl, rfl, rfl, by decide +kernel, rfl, by decide +kernel, by decide +kernel⟩
def spLess5 : Sp := fun vs H Q _ => ∃ (t u : Addr) (a b c d : Int) (m : Nat), vs = [.ref t, .ref u] ∧ H t = some (.tup [.int a, .int b]) ∧ H u = some (.tup [.int c, .int d]) ∧ a.natAbs < 2 ^ m ∧ b.natAbs < 2 ^ m ∧ c.natAbs < 2 ^ m ∧ d.natAbs < 2 ^ m ∧ 0 < m ∧ m ≤ 4000 ∧ Q (.bl (decide (a * d < c * b))) H
theorem ok_is_less (F : FunD K "_law_is_less" "_law_is_less" (defArgs s_is_less) (defBody s_is_less) (defScope s_is_less) [] [] f fd) (T : TB mg) : FnOk P w K mg base CX0 1 f fd ["_law_one", "_law_other"] (spLess5) := by
  refine F.ok sc_is_less (fun vs H Q E h => ?_) (fun cdv A outer s H vs Q E hr h => ?_)
  · obtain ⟨t, u, a, b, c, d, m, rfl, ht, hu, za, zb, zc, zd, hm, hmm, k⟩ := h
    rfl
  · obtain ⟨t, u, a, b, c, d, m, rfl, ht, hu, za, zb, zc, zd, hm, hmm, k⟩ := h
    refine ⟨_, (PSs.nox (pss_one (ps_ret (pe_cmpR op_lt (pe_op op_mulW (pe_ix ix_seq (pv 0) pe_int (fun _ _ => rfl)) (pe_ix ix_seq (pv 1) pe_int (fun _ _ => rfl))) (pe_op op_mulW (pe_ix ix_seq (pv 1) pe_int (fun _ _ => rfl)) (pe_ix ix_seq (pv 0) pe_int (fun _ _ => rfl))) (nomark _))))), ?_⟩
    refine ⟨_, rfl, .inr (.inl ⟨t, _, 0, _, rfl, rfl, SqT.of ht, rfl, _, rfl, .inr (.inl ⟨u, _, 1, _, rfl, rfl, SqT.of hu, rfl, _, _, rfl, rfl, mulW za zd hm hm (by omega), ?_⟩)⟩)⟩
    exact ⟨_, rfl, .inr (.inl ⟨u, _, 0, _, rfl, rfl, SqT.of hu, rfl, _, rfl, .inr (.inl ⟨t, _, 1, _, rfl, rfl, SqT.of ht, rfl, _, _, rfl, rfl, mulW zc zb hm hm (by omega), _, _, rfl, rfl, k⟩)⟩)⟩
def spTold5 (R0 : Addr) : Sp := fun vs H Q _ => ∃ (q t : Addr) (a b c d : Int), vs = [.ref q, .ref t] ∧ RatV R0 H q a b ∧ H t = some (.tup [.int c, .int d]) ∧ 0 < d ∧ d.natAbs < 2 ^ 8000 ∧ ∀ H', Ext H H' → Q (.bl (decide (a * d = c * b))) H'

theorem sc_top_at : FnScope ["_law_model_here", "_law_counts_here", "_law_found", "_law_k", "_law_pair"] ["_law_model_here", "_law_counts_here"] (defScope s_top_at) := ⟨rfl, rfl, rfl, by decide +kernel, rfl, by decide +kernel, by decide +kernel⟩
def tpE (g : GaugeM) (C : Int) : Int × Int := (g.le.1 * g.re.1, g.le.2 * g.re.2 * C)
def tpN (g : GaugeM) (R : Int) : Int × Int := (g.ln.1 * g.rn.1, g.ln.2 * g.rn.2 * R)
def tpF (g : GaugeM) (C R : Int) : Int × Int := if (tpN g R).1 * (tpE g C).2 < (tpE g C).1 * (tpN g R).2 then tpN g R else tpE g C
def spTopAt5 : Sp := fun vs H Q _ => ∃ (d : Addr) (g : GaugeM) (c : Addr) (C R : Int), vs = [.ref d, .ref c] ∧ MdlAt H d g ∧ GOk g ∧ H c = some (.lst [.int C, .int R]) ∧ C.natAbs < 2 ^ 800 ∧ R.natAbs < 2 ^ 800 ∧ ∀ t H', Ext H H' → H' t = some (.tup [.int (tpF g C R).1, .int (tpF g C R).2]) → Q (.ref t) H'
theorem ok_top_at (F : FunD K "_law_top_at" "_law_top_at" (defArgs s_top_at) (defBody s_top_at) (defScope s_top_at) [] [] f fd) (T : TB mg) {fis_less : Addr} {fdis_less : FuncData} (Dis_less : Gd P w K mg base "_law_is_less" 1 ["_law_one", "_law_other"] (spLess5) fis_less fdis_less) : FnOk P w K mg base CX0 2 f fd ["_law_model_here", "_law_counts_here"] (spTopAt5) := by
  refine F.ok sc_top_at (fun vs H Q E h => ?_) (fun cdv A outer s H vs Q E hr h => ?_)
  · obtain ⟨d, g, c, C, R, rfl, hd, ok, hc, zC, zR, k⟩ := h
    rfl
  · obtain ⟨d, g, c, C, R, rfl, hd, ok, hc, zC, zR, k⟩ := h
    refine ⟨_, (PSs.nox (pss_cons (ps_set (i := 2) sc_top_at.nd rfl (.inl rfl) (pe_lst pa_nil))
      (pss_cons (ps_for PassesOwn.never rfl (pi_enum (by rfl) T.enumerate (pa_cons (pe_dget (hu_of hr) (pv 0) pe_str (fun _ _ => rfl)) pa_nil)) (pg_tup rfl (pgs_cons (pg_name (i := 3) sc_top_at.nd rfl (.inl rfl)) (pgs_cons (pg_name (i := 4) sc_top_at.nd rfl (.inl rfl)) pgs_nil))) (pss_one (ps_expr (pe_bm PySem.F.plainAttrs_list PySem.F.slot_list_append PySem.F.type_list_append mt_append (pv 2) (pa_cons (pe_tup (pa_cons (pe_op op_mulW (pe_ix ix_seq (pv 4) pe_int (fun _ _ => rfl)) (pe_ix ix_seq (pe_ix ix_seq (pe_dget (hu_of hr) (pv 0) pe_str (fun _ _ => rfl)) (pv 3) (fun _ _ => rfl)) pe_int (fun _ _ => rfl))) (pa_cons (pe_op op_mulW (pe_op op_mulW (pe_ix ix_seq (pv 4) pe_int (fun _ _ => rfl)) (pe_ix ix_seq (pe_ix ix_seq (pe_dget (hu_of hr) (pv 0) pe_str (fun _ _ => rfl)) (pv 3) (fun _ _ => rfl)) pe_int (fun _ _ => rfl))) (pe_ix ix_seq (pv 1) (pv 3) (fun _ _ => rfl))) pa_nil))) pa_nil)))))
      (pss_one (ps_ret (pe_ifExp (pt_val (pe_gd Dis_less hr (by decide) (by rfl) (pa_cons (pe_ix ix_seq (pv 2) pe_int (fun _ _ => rfl)) (pa_cons (pe_ix ix_seq (pv 2) pe_int (fun _ _ => rfl)) pa_nil)))) (pe_ix ix_seq (pv 2) pe_int (fun _ _ => rfl)) (pe_ix ix_seq (pv 2) pe_int (fun _ _ => rfl)))))))), ?_⟩
    obtain ⟨lr, ll, lq, ls, l1, l2, q1, q2, hdd, hm⟩ := id hd
    have hll := hm.l
    have r0 := ok.r0
    have r1 := ok.r1
    have ze := ok.ze
    have zn := ok.zn
    refine ⟨(by show 0 ≤ sizeLine; decide), fun q hq => ?_⟩
    have e0 := Ext.upd (H := H) (o := .lst []) hq
    refine ⟨_, rfl, d, _, rfl, DGet.s (e0 _ _ hdd) (vk2 (by decide +kernel)), ll, _, rfl, SqL.of (e0 _ _ hll), for_enumL (fun i σ H' => ∃ (ts : List Addr) (u3 u4 : Option V), σ = [some (.ref d), some (.ref c), some (.ref q), u3, u4] ∧ H' q = some (.lst (ts.map V.ref)) ∧ ts.length = i ∧ (∀ t, ts[0]? = some t → H' t = some (.tup [.int (tpE g C).1, .int (tpE g C).2])) ∧ (∀ t, ts[1]? = some t → H' t = some (.tup [.int (tpN g R).1, .int (tpN g R).2])) ∧ Ext H H') ⟨[], none, none, rfl, upd_same, rfl, fun _ z => (nomatch z), fun _ z => (nomatch z), e0⟩ (fun _ _ _ ⟨_, _, _, _, _, _, _, _, e⟩ => SqL.of (e _ _ hll)) ?_ ?_⟩
    · rintro i x T2 σ H1 hx hT ⟨ts, u3, u4, rfl, h1, h2, h3, h4, e⟩
      have key : ∃ (t : Addr) (a b u v C' : Int), x = .ref t ∧ H1 t = some (.tup [.int a, .int b]) ∧ (∃ tq, [V.ref q1, V.ref q2][i]? = some (.ref tq) ∧ H1 tq = some (.tup [.int u, .int v])) ∧ [V.int C, V.int R][i]? = some (.int C') ∧ C'.natAbs < 2 ^ 800 ∧ a.natAbs < 2 ^ 70 ∧ b.natAbs < 2 ^ 70 ∧ u.natAbs < 2 ^ 5 ∧ v.natAbs < 2 ^ 5 ∧ ((i = 0 ∧ (a * u, b * v * C') = tpE g C) ∨ (i = 1 ∧ (a * u, b * v * C') = tpN g R)) := by
        match i, hx with
        | 0, hx => cases hx; exact ⟨_, _, _, _, _, _, rfl, e _ _ hm.l1, ⟨_, rfl, e _ _ hm.q1⟩, rfl, zC, ze.1, ze.2, by omega, by omega, .inl ⟨rfl, rfl⟩⟩
        | 1, hx => cases hx; exact ⟨_, _, _, _, _, _, rfl, e _ _ hm.l2, ⟨_, rfl, e _ _ hm.q2⟩, rfl, zR, zn.1, zn.2, by omega, by omega, .inr ⟨rfl, rfl⟩⟩
      obtain ⟨t, a, b, u, v, C', rfl, ht, ⟨tq, htq, hu⟩, hC', zc, za, zb, zu, zv, hi⟩ := key
      have eT : Ext H1 (upd H1 T2 (.tup [.int (i : Nat), .ref t])) := Ext.upd hT
      have hT2 : (upd H1 T2 (.tup [.int (i : Nat), .ref t])) T2 = some (.tup [.int (i : Nat), .ref t]) := upd_same
      generalize upd H1 T2 (.tup [.int (i : Nat), .ref t]) = H2 at *
      have eH := e.trans eT
      refine ⟨T2, _, rfl, SqT.of hT2, rfl, _, _, rfl, _, _, rfl, rfl, ?_⟩
      refine ⟨_, rfl, .inl ⟨rfl, _, SqL.of (eT _ _ h1)⟩, _, rfl, .inr (.inl ⟨t, _, 0, _, rfl, rfl, SqT.of (eT _ _ ht), rfl, _, rfl, d, _, rfl, DGet.s (eH _ _ hdd) (vk3 (by decide +kernel) (by decide +kernel)), _, rfl, .inl ⟨lq, _, _, _, rfl, rfl, SqL.of (eH _ _ hm.q), atI_nat htq, .inr (.inl ⟨tq, _, 0, _, rfl, rfl, SqT.of (eT _ _ hu), rfl, _, _, rfl, rfl, mulW za zu, ?_⟩)⟩⟩)⟩
      refine ⟨_, rfl, .inr (.inl ⟨t, _, 1, _, rfl, rfl, SqT.of (eT _ _ ht), rfl, _, rfl, d, _, rfl, DGet.s (eH _ _ hdd) (vk3 (by decide +kernel) (by decide +kernel)), _, rfl, .inl ⟨lq, _, _, _, rfl, rfl, SqL.of (eH _ _ hm.q), atI_nat htq, .inr (.inl ⟨tq, _, 1, _, rfl, rfl, SqT.of (eT _ _ hu), rfl, _, _, rfl, rfl, mulW zb zv, _, rfl, _, rfl, .inl ⟨c, _, _, _, rfl, rfl, SqL.of (eH _ _ hc), atI_nat hC', _, _, rfl, rfl, mulW (wide_lt zb zv) zc, (by show 2 ≤ sizeLine; decide), fun tt htt => ?_⟩⟩)⟩⟩)⟩
      have e3 : Ext H2 (upd H2 tt (.tup [.int (a * u), .int (b * v * C')])) := Ext.upd htt
      have htt2 : (upd H2 tt (.tup [.int (a * u), .int (b * v * C')])) tt = some (.tup [.int (a * u), .int (b * v * C')]) := upd_same
      generalize upd H2 tt (.tup [.int (a * u), .int (b * v * C')]) = H3 at *
      have hq3 := e3 _ _ (eT _ _ h1)
      have i2 : i < 2 := (List.getElem?_eq_some_iff.mp hx).1
      refine ⟨q, _, _, rfl, rfl, hq3, by rw [List.length_map, h2, sizeLine_eq]; omega, ?_⟩
      have ne : ∀ {t' : Addr} {o : List V}, H3 t' = some (.tup o) → t' ≠ q := fun h z => by rw [z, hq3] at h; cases h
      refine ⟨ts ++ [tt], _, _, rfl, by rw [upd_same, List.map_append]; rfl, by rw [List.length_append, h2]; rfl, fun t' ht' => ?_, fun t' ht' => ?_, ext_put (eH.trans e3) hq⟩
      · rcases hi with ⟨rfl, hi⟩ | ⟨rfl, hi⟩
        · have : ts = [] := List.length_eq_zero_iff.mp h2
          subst this
          cases ht'
          rw [upd_ne (ne htt2), ← hi]
          exact htt2
        · have h := e3 _ _ (eT _ _ (h3 t' (by rwa [List.getElem?_append_left (by omega)] at ht')))
          rw [upd_ne (ne h)]
          exact h
      · rcases hi with ⟨rfl, hi⟩ | ⟨rfl, hi⟩
        · have := (List.getElem?_eq_some_iff.mp ht').1
          rw [List.length_append, h2] at this
          simp at this
        · have e4 : (ts ++ [tt])[1]? = some tt := by rw [List.getElem?_append_right (by omega), h2] <;> rfl
          rw [e4] at ht'
          cases ht'
          rw [upd_ne (ne htt2), ← hi]
          exact htt2
    rintro σ H1 ⟨ts, u3, u4, rfl, h1, h2, h3, h4, e⟩
    match ts, h2 with
    | [t1, t2], _ =>
      have g1 := h3 t1 rfl
      have g2 := h4 t2 rfl
      have up : ∀ {x : Int} {n : Nat}, x.natAbs < 2 ^ n → n ≤ 1000 → x.natAbs < 2 ^ 1000 := fun h hn => Nat.lt_of_lt_of_le h (Nat.pow_le_pow_right (by decide) hn)
      have y1 : (tpE g C).1.natAbs < 2 ^ 1000 := up (wide_lt ze.1 (show g.re.1.natAbs < 2 ^ 5 by omega)) (by decide)
      have y2 : (tpE g C).2.natAbs < 2 ^ 1000 := up (wide_lt (wide_lt ze.2 (show g.re.2.natAbs < 2 ^ 5 by omega)) zC) (by decide)
      have y3 : (tpN g R).1.natAbs < 2 ^ 1000 := up (wide_lt zn.1 (show g.rn.1.natAbs < 2 ^ 5 by omega)) (by decide)
      have y4 : (tpN g R).2.natAbs < 2 ^ 1000 := up (wide_lt (wide_lt zn.2 (show g.rn.2.natAbs < 2 ^ 5 by omega)) zR) (by decide)
      have kk := fun t' => k t' H1 e
      unfold tpF at kk
      refine ⟨_, rfl, .inl ⟨q, _, 1, _, rfl, rfl, SqL.of h1, rfl, _, rfl, .inl ⟨q, _, 0, _, rfl, rfl, SqL.of h1, rfl, t2, t1, _, _, _, _, 1000, rfl, g2, g1, y3, y4, y1, y2, by decide, by decide, _, rfl, ite2 (fun hz => ?_) (fun hz => ?_)⟩⟩⟩
      · rw [if_pos (of_decide_eq_true hz)] at kk
        exact ⟨_, rfl, .inl ⟨q, _, 1, _, rfl, rfl, SqL.of h1, rfl, kk t2 g2⟩⟩
      · rw [if_neg (fun z => hz (decide_eq_true z))] at kk
        exact ⟨_, rfl, .inl ⟨q, _, 0, _, rfl, rfl, SqL.of h1, rfl, kk t1 g1⟩⟩
theorem sc_top : FnScope ["_law_model_here", "_law_deep"] ["_law_model_here", "_law_deep"] (defScope s_top) := ⟨rfl, rfl, rfl, by decide +kernel, rfl, by decide +kernel, by decide +kernel⟩
def spTop5 : Sp := fun vs H Q _ => ∃ (d : Addr) (g : GaugeM) (n : Nat), vs = [.ref d, .int n] ∧ MdlAt H d g ∧ GOk g ∧ n ≤ 150 ∧ ∀ t H', Ext H H' → H' t = some (.tup [.int (tpF g (dcF g.rs 0 n : Nat) (drF g.rs 0 n : Nat)).1, .int (tpF g (dcF g.rs 0 n : Nat) (drF g.rs 0 n : Nat)).2]) → Q (.ref t) H'
theorem ok_top (F : FunD K "_law_top" "_law_top" (defArgs s_top) (defBody s_top) (defScope s_top) [] [] f fd) (T : TB mg) {fcounts : Addr} {fdcounts : FuncData} (Dcounts : Gd P w K mg base "_law_counts" 1 ["_law_rounds_here", "_law_many"] (spCounts5) fcounts fdcounts) {ftop_at : Addr} {fdtop_at : FuncData} (Dtop_at : Gd P w K mg base "_law_top_at" 2 ["_law_model_here", "_law_counts_here"] (spTopAt5) ftop_at fdtop_at) : FnOk P w K mg base CX0 3 f fd ["_law_model_here", "_law_deep"] (spTop5) := by
  refine F.ok sc_top (fun vs H Q E h => ?_) (fun cdv A outer s H vs Q E hr h => ?_)
  · obtain ⟨d, g, n, rfl, hd, ok, hn, k⟩ := h
    rfl
  · obtain ⟨d, g, n, rfl, hd, ok, hn, k⟩ := h
    refine ⟨_, (PSs.nox (pss_one (ps_ret (pe_gd Dtop_at hr (by decide) (by rfl) (pa_cons (pv 0) (pa_cons (pe_gd Dcounts hr (by decide) (by rfl) (pa_cons (pe_dget (hu_of hr) (pv 0) pe_str (fun _ _ => rfl)) (pa_cons (pv 1) pa_nil))) pa_nil)))))), ?_⟩
    obtain ⟨lr, ll, lq, ls, l1, l2, q1, q2, hdd, hm⟩ := id hd
    have ds := dcf_small ok.ok hn
    have up : ∀ {x : Nat}, x < 2 ^ 760 → ((x : Nat) : Int).natAbs < 2 ^ 800 := fun h => Nat.lt_of_lt_of_le (show _ < 2 ^ 760 by simpa using h) (Nat.pow_le_pow_right (by decide) (by decide))
    exact ⟨_, rfl, _, rfl, d, _, rfl, DGet.s hdd vk1, _, rfl, lr, g.rs, n, rfl, hm.r, ok.ok.c, hn, fun q H1 e1 hq => ⟨d, g, q, _, _, rfl, hd.ext e1, ok, hq, up ds.1, up ds.2, fun t H2 e2 ht => k t H2 (e1.trans e2) ht⟩⟩
end
end Mc

set_option Elab.async false
set_option linter.all false
set_option maxRecDepth 100000
set_option maxHeartbeats 4000000
set_option exponentiation.threshold 20000
namespace Mc
open PySem PySem.Spec PyProof.Rows L2 ClX StX
open RZ
section
variable {P : Program} {w : World} {K : PySem.W.Frag} {mg : Str → Option Value} {base : Heap} {f U0 kX M0 R0 C0 aX mX : Addr} {mas : List Addr} {mc : Value} {fd : FuncData}
theorem sc_spot : FnScope ["_law_cuts", "_law_sign_now", "_law_found", "_law_left", "_law_counts_here", "_law_line", "_law_parts", "_law_at"] ["_law_cuts", "_law_sign_now"] (defScope s_spot) := ⟨rfl, rfl, rfl, by decide +kernel, rfl, by decide +kernel, by decide +kernel⟩
def glyF : List Cut → Nat → Nat
  | [], g => g
  | c :: r, g => glyF r (g / c.2)
structure SpS where
  f1 : Int
  f2 : Int
  left : Nat
  c1 : Nat
  c2 : Nat
def spS (s : SpS) (c : Cut) : SpS := if c.1 then ⟨s.f1 + ((s.left % c.2 * s.c1 : Nat) : Int), s.f2, s.left / c.2, s.c1 * c.2, s.c2⟩ else ⟨s.f1, s.f2 + ((s.left % c.2 * s.c2 : Nat) : Int), s.left / c.2, s.c1, s.c2 * c.2⟩
theorem spot_all : ∀ (cs : List Cut), (∀ c ∈ cs, okC c) → ∀ (st : SpS) (q : Pr), (placesF cs)[st.left]? = some q → (cs.reverse.foldl spS st).f1 = st.f1 + q.1 * st.c1 ∧ (cs.reverse.foldl spS st).f2 = st.f2 + q.2 * st.c2 := by
  refine snoc_ind ?_ ?_
  · intro _ st q h
    cases hl : st.left with
    | zero =>
      rw [hl] at h
      have e : ((0, 0) : Pr) = q := Option.some.inj h
      rw [← e]
      constructor
      · show st.f1 = st.f1 + 0 * _
        rw [Int.zero_mul, Int.add_zero]
      · show st.f2 = st.f2 + 0 * _
        rw [Int.zero_mul, Int.add_zero]
    | succ n => rw [hl] at h; cases h
  · intro cs c ih ok st q h
    have hc := ok c (List.mem_append.mpr (.inr (.head _)))
    rw [placesF_get cs (by have := hc.1; omega) st.left] at h
    obtain ⟨p, h1, h2⟩ := Option.map_eq_some_iff.mp h
    rw [List.reverse_append]
    show (cs.reverse.foldl spS (spS st c)).f1 = _ ∧ (cs.reverse.foldl spS (spS st c)).f2 = _
    obtain ⟨b, m⟩ := c
    have i := ih (fun d m => ok d (List.mem_append.mpr (.inl m))) (spS st (b, m)) p (by cases b <;> exact h1)
    rw [i.1, i.2, ← h2]
    cases b
    · constructor
      · rfl
      · show st.f2 + ((st.left % m * st.c2 : Nat) : Int) + p.2 * ((st.c2 * m : Nat) : Int) = st.f2 + (p.2 * (m : Int) + ((st.left % m : Nat) : Int)) * (st.c2 : Int)
        push_cast
        grind
    · constructor
      · show st.f1 + ((st.left % m * st.c1 : Nat) : Int) + p.1 * ((st.c1 * m : Nat) : Int) = st.f1 + (p.1 * (m : Int) + ((st.left % m : Nat) : Int)) * (st.c1 : Int)
        push_cast
        grind
      · rfl
theorem pd_rev {α β : Type} {F : α → β → Prop} : ∀ {l : List α} {m : List β}, Paired F l m → Paired F l.reverse m.reverse
  | _, _, .nil => .nil
  | _, _, .cons r t => by
    rw [List.reverse_cons, List.reverse_cons]
    exact pd_snoc (pd_rev t) r
def spSpot : Sp := fun vs H Q _ => ∃ (a : Addr) (cs : List Cut) (s : Nat) (q : Pr), vs = [.ref a, .int s] ∧ CutsL H a cs ∧ (∀ c ∈ cs, okC c) ∧ cs.length ≤ 5 ∧ (placesF cs)[s]? = some q ∧ ∀ t H', Ext H H' → H' t = some (.lst [.int q.1, .int q.2]) → Q (.ref t) H'
theorem ok_spot (F : FunD K "_law_spot" "_law_spot" (defArgs s_spot) (defBody s_spot) (defScope s_spot) [] [] f fd) (T : TB mg) : FnOk P w K mg base CX0 1 f fd ["_law_cuts", "_law_sign_now"] (spSpot) := by
  refine F.ok sc_spot (fun vs H Q E h => ?_) (fun cdv A outer s H vs Q E hr h => ?_)
  · obtain ⟨a, cs, s, q, rfl, hl, ok, l5, hq, k⟩ := h
    rfl
  · obtain ⟨a, cs, s, q, rfl, hl, ok, l5, hq, k⟩ := h
    refine ⟨_, (PSs.nox (pss_cons (ps_par3 (i := 2) (j := 3) (l := 4) (by rfl) sc_spot.nd rfl rfl rfl (by decide) (by decide) (by decide) rfl rfl rfl (pa_cons (pe_lst (pa_cons pe_int (pa_cons pe_int pa_nil))) (pa_cons (pv 1) (pa_cons (pe_lst (pa_cons pe_int (pa_cons pe_int pa_nil))) pa_nil))) (by rfl))
      (pss_cons (ps_for PassesOwn.never rfl (pi_list (pe_revL (pv 0))) (pg_tup rfl (pgs_cons (pg_name (i := 5) sc_spot.nd rfl (.inl rfl)) (pgs_cons (pg_name (i := 6) sc_spot.nd rfl (.inl rfl)) pgs_nil))) (pss_cons (ps_set (i := 7) sc_spot.nd rfl (.inl rfl) (pe_callTy call_int1 (by rfl) T.int (by decide +kernel) (pa_cons (pe_cmpR op_eq (pv 5) pe_str (nomark _)) pa_nil)))
      (pss_cons (ps_asg (pe_op op_add (pe_ix ix_seq (pv 2) (pv 7) (fun _ _ => rfl)) (pe_op op_mulW (pe_op op_mod (pv 3) (pv 6)) (pe_ix ix_seq (pv 4) (pv 7) (fun _ _ => rfl)))) (pg_sub (pv 2) (pv 7) set_list))
      (pss_one (ps_asg (pe_tup (pa_cons (pe_op op_fdiv (pv 3) (pv 6)) (pa_cons (pe_op op_mulW (pe_ix ix_seq (pv 4) (pv 7) (fun _ _ => rfl)) (pv 6)) pa_nil))) (pg_tup rfl (pgs_cons (pg_name (i := 3) sc_spot.nd rfl (.inl rfl)) (pgs_cons (pg_sub (pv 4) (pv 7) set_list) pgs_nil))))))))
      (pss_one (ps_ret (pv 2)))))), ?_⟩
    obtain ⟨as, l1, l2⟩ := id hl
    have las := pd_len l2
    refine ⟨(by show 2 ≤ sizeLine; decide), fun fl hfl => ⟨_, rfl, (by show 2 ≤ sizeLine; decide), fun cl hcl => ⟨_, _, _, rfl, ?_⟩⟩⟩
    have e1 := (Ext.upd (H := H) (o := .lst [.int 0, .int 0]) hfl).trans (Ext.upd (o := .lst [.int 1, .int 1]) hcl)
    have nfc : fl ≠ cl := ne_of_none upd_same hcl
    have hf1 : (upd (upd H fl (.lst [.int 0, .int 0])) cl (.lst [.int 1, .int 1])) fl = some (.lst [.int 0, .int 0]) := by rw [upd_ne nfc, upd_same]
    have hc1 : (upd (upd H fl (.lst [.int 0, .int 0])) cl (.lst [.int 1, .int 1])) cl = some (.lst [.int 1, .int 1]) := upd_same
    have hcl0 : H cl = none := none_ext (Ext.upd hfl) hcl
    generalize upd (upd H fl (.lst [.int 0, .int 0])) cl (.lst [.int 1, .int 1]) = H1 at e1 hf1 hc1 ⊢
    refine ⟨_, rfl, a, _, rfl, SqL.of (e1 _ _ l1), fun rl hrl => ⟨rl, rfl, ⟨_, SqL.of upd_same⟩, ?_⟩⟩
    have e2 := Ext.upd (o := .lst (as.map V.ref).reverse) hrl
    have hr1 : (upd H1 rl (.lst (as.map V.ref).reverse)) rl = some (.lst (as.reverse.map V.ref)) := by rw [upd_same, List.map_reverse]
    have hf2 := e2 _ _ hf1
    have hc2 := e2 _ _ hc1
    have nrf : rl ≠ fl := (ne_of_none hf1 hrl).symm
    have nrc : rl ≠ cl := (ne_of_none hc1 hrl).symm
    have l2r := pd_rev (pd_imp (fun _ _ z => e2 _ _ (e1 _ _ z)) l2)
    have E2 := e1.trans e2
    rw [← List.map_reverse] at *
    generalize upd H1 rl (.lst (as.reverse.map V.ref)) = H2 at *
    have okr : ∀ c ∈ cs.reverse, okC c := fun c m => ok c (List.mem_reverse.mp m)
    have lr5 : cs.reverse.length ≤ 5 := by rw [List.length_reverse]; exact l5
    obtain ⟨st0, hst0⟩ : ∃ st0 : SpS, st0 = ⟨0, 0, s, 1, 1⟩ := ⟨_, rfl⟩
    refine for_walk (xs := as.reverse.map V.ref) walk_l (fun i σ H' => ∃ u5 u6 u7, σ = [some (.ref a), some (.int (s : Nat)), some (.ref fl), some (.int (((cs.reverse.take i).foldl spS st0).left : Nat)), some (.ref cl), u5, u6, u7] ∧ H' fl = some (.lst [.int ((cs.reverse.take i).foldl spS st0).f1, .int ((cs.reverse.take i).foldl spS st0).f2]) ∧ H' cl = some (.lst [.int (((cs.reverse.take i).foldl spS st0).c1 : Nat), .int (((cs.reverse.take i).foldl spS st0).c2 : Nat)]) ∧ H' rl = some (.lst (as.reverse.map V.ref)) ∧ Paired (fun a c => H' a = some (.tup (cutV c))) as.reverse cs.reverse ∧ Ext H H' ∧ ((cs.reverse.take i).foldl spS st0).c1 ≤ 4 ^ i ∧ ((cs.reverse.take i).foldl spS st0).c2 ≤ 4 ^ i) ⟨none, none, none, by rw [hst0]; rfl, by rw [hst0]; exact hf2, by rw [hst0]; exact hc2, hr1, l2r, E2, by rw [hst0]; exact Nat.le_refl 1, by rw [hst0]; exact Nat.le_refl 1⟩ (fun _ _ _ ⟨_, _, _, _, _, _, h, _⟩ => SqL.of h) ?_ ?_
    · rintro i x σ H3 hx ⟨u5, u6, u7, rfl, hf3, hc3, q3, l3, E3, b1, b2⟩
      obtain ⟨b, rfl, c, hci, hb⟩ := refs_get l3 hx
      have hi := (List.getElem?_eq_some_iff.mp hci).1
      have hc := okr c (List.mem_of_getElem? hci)
      have es : (cs.reverse.take (i + 1)).foldl spS st0 = spS ((cs.reverse.take i).foldl spS st0) c := by
        rw [take_snoc hci, List.foldl_append]
        rfl
      rw [es]
      generalize (cs.reverse.take i).foldl spS st0 = st at *
      have p4 : 4 ^ i ≤ 4 ^ 5 := Nat.pow_le_pow_right (by decide) (by omega)
      have p4' : 4 ^ (i + 1) = 4 * 4 ^ i := by rw [Nat.pow_succ, Nat.mul_comm]
      refine ⟨b, _, rfl, SqT.of hb, rfl, _, _, rfl, _, _, rfl, rfl, ?_⟩
      refine ⟨_, rfl, rfl, .inr ⟨_, rfl, ?_⟩⟩
      obtain ⟨bx, m⟩ := c
      have hm2 : 2 ≤ m := hc.1
      have hm4 : m ≤ 4 := hc.2
      cases bx
      · have hk : decide (V.str (axS false) = V.str "north") = true := by decide +kernel
        rw [hk, if_pos rfl]
        have wm : (((st.left : Int) % (m : Int))).natAbs < 2 ^ 3 := by
          have : (st.left : Int) % (m : Int) = ((st.left % m : Nat) : Int) := rfl
          rw [this]
          have := Nat.mod_lt st.left (show 0 < m by omega)
          omega
        refine ⟨_, rfl, _, rfl, .inl ⟨fl, _, 1, _, rfl, rfl, SqL.of hf3, rfl, _, rfl, _, rfl, (st.left : Int), (m : Int), rfl, rfl, by omega, _, rfl, _, rfl, .inl ⟨cl, _, 1, _, rfl, rfl, SqL.of hc3, rfl, _, _, rfl, rfl, mulW wm (show ((st.c2 : Nat) : Int).natAbs < 2 ^ 11 by omega) (by decide) (by decide) (by decide), _, _, rfl, rfl, _, rfl, _, rfl, fl, _, 1, 1, rfl, rfl, hf3, rfl, ?_⟩⟩⟩
        have hf4 : (upd H3 fl (.lst ([V.int st.f1, .int st.f2].set 1 (.int (st.f2 + ((st.left : Int) % (m : Int) * (st.c2 : Nat))))))) fl = some (.lst ([V.int st.f1, .int st.f2].set 1 (.int (st.f2 + ((st.left : Int) % (m : Int) * (st.c2 : Nat)))))) := upd_same
        have hc4 : (upd H3 fl (.lst ([V.int st.f1, .int st.f2].set 1 (.int (st.f2 + ((st.left : Int) % (m : Int) * (st.c2 : Nat))))))) cl = some (.lst [.int (st.c1 : Nat), .int (st.c2 : Nat)]) := by rw [upd_ne nfc.symm]; exact hc3
        refine ⟨_, rfl, _, rfl, _, _, rfl, rfl, ⟨by omega, by omega⟩, _, rfl, _, rfl, .inl ⟨cl, _, 1, _, rfl, rfl, SqL.of hc4, rfl, _, rfl, _, _, rfl, rfl, mulW (show ((st.c2 : Nat) : Int).natAbs < 2 ^ 11 by omega) (show ((m : Nat) : Int).natAbs < 2 ^ 3 by omega) (by decide) (by decide) (by decide), (by show 2 ≤ sizeLine; decide), fun t ht => ⟨t, _, rfl, SqT.of upd_same, rfl, _, _, rfl, _, _, rfl, _, rfl, _, rfl, cl, _, 1, 1, rfl, rfl, (Ext.upd ht) _ _ hc4, rfl, rfl, ?_⟩⟩⟩
        have eT := Ext.upd (o := .tup [.int ((st.left : Int) / (m : Int)), .int ((st.c2 : Int) * (m : Int))]) ht
        have ntf : t ≠ fl := (ne_of_none hf4 ht).symm
        refine ⟨_, _, _, rfl, ?_, ?_, ?_, ?_, ?_, ?_, ?_⟩
        · rw [upd_ne nfc]
          exact eT _ _ hf4
        · rw [upd_same]
          rfl
        · rw [upd_ne nrc]
          refine eT _ _ ?_
          rw [upd_ne nrf]
          exact q3
        · refine pd_imp (fun z x w => ?_) l3
          have n1 : z ≠ fl := fun y => by rw [y, hf3] at w; cases w
          have n2 : z ≠ cl := fun y => by rw [y, hc3] at w; cases w
          rw [upd_ne n2]
          refine eT _ _ ?_
          rw [upd_ne n1]
          exact w
        · exact ext_put ((ext_put E3 hfl).trans eT) hcl0
        · show st.c1 ≤ 4 ^ (i + 1)
          rw [p4']
          omega
        · show st.c2 * m ≤ 4 ^ (i + 1)
          rw [p4']
          exact Nat.le_trans (Nat.mul_le_mul b2 hm4) (by rw [Nat.mul_comm]; exact Nat.le_refl _)
      · have hk : decide (V.str (axS true) = V.str "north") = false := by decide +kernel
        rw [hk, if_neg Bool.false_ne_true]
        have wm : (((st.left : Int) % (m : Int))).natAbs < 2 ^ 3 := by
          have : (st.left : Int) % (m : Int) = ((st.left % m : Nat) : Int) := rfl
          rw [this]
          have := Nat.mod_lt st.left (show 0 < m by omega)
          omega
        refine ⟨_, rfl, _, rfl, .inl ⟨fl, _, 0, _, rfl, rfl, SqL.of hf3, rfl, _, rfl, _, rfl, (st.left : Int), (m : Int), rfl, rfl, by omega, _, rfl, _, rfl, .inl ⟨cl, _, 0, _, rfl, rfl, SqL.of hc3, rfl, _, _, rfl, rfl, mulW wm (show ((st.c1 : Nat) : Int).natAbs < 2 ^ 11 by omega) (by decide) (by decide) (by decide), _, _, rfl, rfl, _, rfl, _, rfl, fl, _, 0, 0, rfl, rfl, hf3, rfl, ?_⟩⟩⟩
        have hf4 : (upd H3 fl (.lst ([V.int st.f1, .int st.f2].set 0 (.int (st.f1 + ((st.left : Int) % (m : Int) * (st.c1 : Nat))))))) fl = some (.lst ([V.int st.f1, .int st.f2].set 0 (.int (st.f1 + ((st.left : Int) % (m : Int) * (st.c1 : Nat)))))) := upd_same
        have hc4 : (upd H3 fl (.lst ([V.int st.f1, .int st.f2].set 0 (.int (st.f1 + ((st.left : Int) % (m : Int) * (st.c1 : Nat))))))) cl = some (.lst [.int (st.c1 : Nat), .int (st.c2 : Nat)]) := by rw [upd_ne nfc.symm]; exact hc3
        refine ⟨_, rfl, _, rfl, _, _, rfl, rfl, ⟨by omega, by omega⟩, _, rfl, _, rfl, .inl ⟨cl, _, 0, _, rfl, rfl, SqL.of hc4, rfl, _, rfl, _, _, rfl, rfl, mulW (show ((st.c1 : Nat) : Int).natAbs < 2 ^ 11 by omega) (show ((m : Nat) : Int).natAbs < 2 ^ 3 by omega) (by decide) (by decide) (by decide), (by show 2 ≤ sizeLine; decide), fun t ht => ⟨t, _, rfl, SqT.of upd_same, rfl, _, _, rfl, _, _, rfl, _, rfl, _, rfl, cl, _, 0, 0, rfl, rfl, (Ext.upd ht) _ _ hc4, rfl, rfl, ?_⟩⟩⟩
        have eT := Ext.upd (o := .tup [.int ((st.left : Int) / (m : Int)), .int ((st.c1 : Int) * (m : Int))]) ht
        have ntf : t ≠ fl := (ne_of_none hf4 ht).symm
        refine ⟨_, _, _, rfl, ?_, ?_, ?_, ?_, ?_, ?_, ?_⟩
        · rw [upd_ne nfc]
          exact eT _ _ hf4
        · rw [upd_same]
          rfl
        · rw [upd_ne nrc]
          refine eT _ _ ?_
          rw [upd_ne nrf]
          exact q3
        · refine pd_imp (fun z x w => ?_) l3
          have n1 : z ≠ fl := fun y => by rw [y, hf3] at w; cases w
          have n2 : z ≠ cl := fun y => by rw [y, hc3] at w; cases w
          rw [upd_ne n2]
          refine eT _ _ ?_
          rw [upd_ne n1]
          exact w
        · exact ext_put ((ext_put E3 hfl).trans eT) hcl0
        · show st.c1 * m ≤ 4 ^ (i + 1)
          rw [p4']
          exact Nat.le_trans (Nat.mul_le_mul b1 hm4) (by rw [Nat.mul_comm]; exact Nat.le_refl _)
        · show st.c2 ≤ 4 ^ (i + 1)
          rw [p4']
          omega
    · rintro σ H3 ⟨u5, u6, u7, rfl, hf3, hc3, q3, l3, E3, b1, b2⟩
      have e1 : (as.reverse.map V.ref).length = cs.reverse.length := by rw [List.length_map, List.length_reverse, List.length_reverse, las]
      rw [e1, List.take_length] at hf3
      obtain ⟨w1, w2⟩ := spot_all cs ok st0 q (by rw [hst0]; exact hq)
      rw [w1, w2, hst0] at hf3
      refine ⟨_, rfl, k fl H3 E3 ?_⟩
      rw [hf3]
      simp
end
end Mc

set_option Elab.async false
set_option linter.all false
set_option maxRecDepth 100000
set_option maxHeartbeats 4000000
set_option exponentiation.threshold 20000
namespace Mc
open PySem PySem.Spec PyProof.Rows L2 ClX StX
open RZ
/-! ### greatest distances: the law's are the program's; they never grow; a row later they are divided by the growth -/
theorem fr_trans {a b c d e f : Int} (hb : 0 < b) (hd : 0 < d) (hf : 0 < f) (h1 : a * d ≤ c * b) (h2 : c * f ≤ e * d) : a * f ≤ e * b := by
  have s1 := Int.mul_le_mul_of_nonneg_right h1 (Int.le_of_lt hf)
  have s2 := Int.mul_le_mul_of_nonneg_right h2 (Int.le_of_lt hb)
  have e1 : a * d * f = a * f * d := by simp only [Int.mul_comm, Int.mul_left_comm, Int.mul_assoc]
  have e2 : c * b * f = c * f * b := by simp only [Int.mul_comm, Int.mul_left_comm, Int.mul_assoc]
  have e3 : e * d * b = e * b * d := by simp only [Int.mul_comm, Int.mul_left_comm, Int.mul_assoc]
  exact Int.le_of_mul_le_mul_right (by omega) hd
/-- the lesser of two fractions, of equal ones the first -/
def mnF (e n : Int × Int) : Int × Int := if n.1 * e.2 < e.1 * n.2 then n else e
theorem mn_le (e n : Int × Int) : (mnF e n).1 * e.2 ≤ e.1 * (mnF e n).2 ∧ (mnF e n).1 * n.2 ≤ n.1 * (mnF e n).2 := by
  unfold mnF
  split
  · exact ⟨by omega, Int.le_refl _⟩
  · exact ⟨Int.le_refl _, by omega⟩
theorem mn_pos {e n : Int × Int} (he : 0 < e.2) (hn : 0 < n.2) : 0 < (mnF e n).2 := by
  unfold mnF
  split
  · exact hn
  · exact he
theorem mn_mono {e n e' n' : Int × Int} (pe : 0 < e.2) (pn : 0 < n.2) (pe' : 0 < e'.2) (pn' : 0 < n'.2) (he : e'.1 * e.2 ≤ e.1 * e'.2) (hn : n'.1 * n.2 ≤ n.1 * n'.2) : (mnF e' n').1 * (mnF e n).2 ≤ (mnF e n).1 * (mnF e' n').2 := by
  obtain ⟨h1, h2⟩ := mn_le e' n'
  have p := mn_pos pe' pn'
  generalize mnF e' n' = x at *
  unfold mnF
  split
  · exact fr_trans p pn' pn h2 hn
  · exact fr_trans p pe' pe h1 he
theorem mn_row {e n : Int × Int} {G : Int} (hG : 0 < G) : mnF (e.1, e.2 * G) (n.1, n.2 * G) = ((mnF e n).1, (mnF e n).2 * G) := by
  have k : (n.1 * (e.2 * G) < e.1 * (n.2 * G)) ↔ n.1 * e.2 < e.1 * n.2 := by
    rw [← Int.mul_assoc, ← Int.mul_assoc]
    exact lt_mulp hG
  unfold mnF
  by_cases h : n.1 * e.2 < e.1 * n.2
  · rw [if_pos h, if_pos (k.mpr h)]
  · rw [if_neg h, if_neg (fun z => h (k.mp z))]
theorem gt_mn (g : GaugeM) (i : Nat) : gtF g i = mnF (gtE g i) (gtN g i) := rfl
theorem tp_gt {g : GaugeM} (ok : OkR g.rs) (n : Nat) : tpF g (dcF g.rs 0 n : Nat) (drF g.rs 0 n : Nat) = gtF g n := by
  have c := counts_ok ok n
  have e1 : tpE g (dcF g.rs 0 n : Nat) = gtE g n := by
    unfold tpE gtE
    rw [c, Int.mul_right_comm]
  have e2 : tpN g (drF g.rs 0 n : Nat) = gtN g n := by
    unfold tpN gtN
    rw [c, Int.mul_right_comm]
  unfold tpF gtF
  rw [e1, e2]
structure GPos (g : GaugeM) : Prop where
  ok : OkR g.rs
  e0 : 0 < g.le.1
  e1 : 0 < g.le.2
  n0 : 0 < g.ln.1
  n1 : 0 < g.ln.2
  r0 : 0 < g.re.1
  r1 : 0 < g.re.2
  s0 : 0 < g.rn.1
  s1 : 0 < g.rn.2
theorem gt_pos {g : GaugeM} (p : GPos g) (i : Nat) : 0 < (gtE g i).2 ∧ 0 < (gtN g i).2 ∧ 0 < (gtF g i).2 := by
  have c := counts_pos p.ok i
  have h1 : 0 < (gtE g i).2 := Int.mul_pos (Int.mul_pos p.e1 c.1) p.r1
  have h2 : 0 < (gtN g i).2 := Int.mul_pos (Int.mul_pos p.n1 c.2) p.s1
  exact ⟨h1, h2, mn_pos h1 h2⟩
theorem dc_grow {rs : List (List Cut)} (ok : OkR rs) (i : Nat) : dcF rs 0 i ≤ dcF rs 0 (i + 1) ∧ drF rs 0 i ≤ drF rs 0 (i + 1) := by
  have p := ok.n.pos (0 + i)
  exact ⟨Nat.le_mul_of_pos_right _ p.1, Nat.le_mul_of_pos_right _ p.2⟩
theorem gt_less {g : GaugeM} (p : GPos g) (i : Nat) : (gtE g (i + 1)).1 * (gtE g i).2 ≤ (gtE g i).1 * (gtE g (i + 1)).2 ∧ (gtN g (i + 1)).1 * (gtN g i).2 ≤ (gtN g i).1 * (gtN g (i + 1)).2 := by
  have c := counts_ok p.ok i
  have c' := counts_ok p.ok (i + 1)
  have d := dc_grow p.ok i
  have d1 : ((dcF g.rs 0 i : Nat) : Int) ≤ ((dcF g.rs 0 (i + 1) : Nat) : Int) := by omega
  have d2 : ((drF g.rs 0 i : Nat) : Int) ≤ ((drF g.rs 0 (i + 1) : Nat) : Int) := by omega
  constructor
  · refine Int.mul_le_mul_of_nonneg_left ?_ (Int.le_of_lt (Int.mul_pos p.e0 p.r0))
    show g.le.2 * (countsF g.rs i).1 * g.re.2 ≤ g.le.2 * (countsF g.rs (i + 1)).1 * g.re.2
    rw [c, c']
    exact Int.mul_le_mul_of_nonneg_right (Int.mul_le_mul_of_nonneg_left d1 (Int.le_of_lt p.e1)) (Int.le_of_lt p.r1)
  · refine Int.mul_le_mul_of_nonneg_left ?_ (Int.le_of_lt (Int.mul_pos p.n0 p.s0))
    show g.ln.2 * (countsF g.rs i).2 * g.rn.2 ≤ g.ln.2 * (countsF g.rs (i + 1)).2 * g.rn.2
    rw [c, c']
    exact Int.mul_le_mul_of_nonneg_right (Int.mul_le_mul_of_nonneg_left d2 (Int.le_of_lt p.n1)) (Int.le_of_lt p.s1)
/-- it never grows -/
theorem gt_mono {g : GaugeM} (p : GPos g) (i : Nat) : ¬ ((gtF g i).1 * (gtF g (i + 1)).2 < (gtF g (i + 1)).1 * (gtF g i).2) := by
  have a := gt_pos p i
  have b := gt_pos p (i + 1)
  have l := gt_less p i
  have := mn_mono a.1 a.2.1 b.1 b.2.1 l.1 l.2
  rw [← gt_mn, ← gt_mn] at this
  omega
theorem counts_row {rs : List (List Cut)} (ok : OkR rs) (i : Nat) : countsF rs (i + rs.length) = ((countsF rs i).1 * (dcF rs 0 rs.length : Nat), (countsF rs i).2 * (dcF rs 0 rs.length : Nat)) := by
  have g := growth_eq rs
  have g1 : (mulF (partsF rs)).1 = ((dcF rs 0 rs.length : Nat) : Int) := by rw [g]
  have l1 := ok.l1
  unfold countsF
  rw [Nat.add_mod_right, Nat.add_div_right i (show 0 < rs.length by omega), Int.pow_succ, g1, Int.mul_assoc, Int.mul_assoc]
/-- a row later it is divided by the growth -/
theorem gt_row {g : GaugeM} (p : GPos g) (i : Nat) : gtF g (i + g.rs.length) = ((gtF g i).1, (gtF g i).2 * (dcF g.rs 0 g.rs.length : Nat)) := by
  have c := counts_row p.ok i
  have e1 : gtE g (i + g.rs.length) = ((gtE g i).1, (gtE g i).2 * (dcF g.rs 0 g.rs.length : Nat)) := by
    unfold gtE
    rw [c]
    simp only [Int.mul_comm, Int.mul_left_comm, Int.mul_assoc]
  have e2 : gtN g (i + g.rs.length) = ((gtN g i).1, (gtN g i).2 * (dcF g.rs 0 g.rs.length : Nat)) := by
    unfold gtN
    rw [c]
    simp only [Int.mul_comm, Int.mul_left_comm, Int.mul_assoc]
  rw [gt_mn, e1, e2]
  exact mn_row (by have := (dc_pos p.ok.n 0 g.rs.length).1; omega)
theorem gt_small {g : GaugeM} (ok : GOk g) (n : Nat) (hn : n ≤ 150) : (gtF g n).1.natAbs < 2 ^ 900 ∧ (gtF g n).2.natAbs < 2 ^ 900 := by
  have r0 := ok.r0
  have r1 := ok.r1
  have d := dcf_small ok.ok hn
  have c := counts_ok ok.ok n
  have c1 : (countsF g.rs n).1.natAbs < 2 ^ 800 := by rw [c]; show ((dcF g.rs 0 n : Nat) : Int).natAbs < _; omega
  have c2 : (countsF g.rs n).2.natAbs < 2 ^ 800 := by rw [c]; show ((drF g.rs 0 n : Nat) : Int).natAbs < _; omega
  have up : ∀ {x : Int} {m : Nat}, x.natAbs < 2 ^ m → m ≤ 900 → x.natAbs < 2 ^ 900 := fun h hm => Nat.lt_of_lt_of_le h (Nat.pow_le_pow_right (by decide) hm)
  have y1 : (gtE g n).1.natAbs < 2 ^ 900 := up (wide_lt ok.ze.1 (show g.re.1.natAbs < 2 ^ 5 by omega)) (by decide)
  have y2 : (gtE g n).2.natAbs < 2 ^ 900 := up (wide_lt (wide_lt ok.ze.2 c1) (show g.re.2.natAbs < 2 ^ 5 by omega)) (by decide)
  have y3 : (gtN g n).1.natAbs < 2 ^ 900 := up (wide_lt ok.zn.1 (show g.rn.1.natAbs < 2 ^ 5 by omega)) (by decide)
  have y4 : (gtN g n).2.natAbs < 2 ^ 900 := up (wide_lt (wide_lt ok.zn.2 c2) (show g.rn.2.natAbs < 2 ^ 5 by omega)) (by decide)
  unfold gtF
  split
  · exact ⟨y3, y4⟩
  · exact ⟨y1, y2⟩
end Mc

set_option Elab.async false
set_option linter.all false
set_option maxRecDepth 100000
set_option maxHeartbeats 4000000
set_option exponentiation.threshold 20000
namespace Mc
open PySem PySem.Spec PyProof.Rows L2 ClX StX
open RZ
section
variable {P : Program} {w : World} {K : PySem.W.Frag} {mg : Str → Option Value} {base : Heap} {f U0 kX M0 R0 C0 aX : Addr} {mc : Value} {fd : FuncData}
/-- the greatest distance behind a fineness is less -/
def lsF (g : GaugeM) (n : Nat) : Bool := decide ((gtF g (n + 1)).1 * (gtF g n).2 < (gtF g n).1 * (gtF g (n + 1)).2)
/-- a distance c / e is above a fineness' greatest one -/
def abF (g : GaugeM) (c e : Int) (n : Nat) : Bool := decide ((gtF g n).1 * e < c * (gtF g n).2)
theorem gpos {g : GaugeM} (ok : GOk g) : GPos g := ⟨ok.ok, ok.e0, ok.e1, ok.n0, ok.n1, ok.r0.1, by have := ok.r0; omega, ok.r1.1, by have := ok.r1; omega⟩
theorem re_small {g : GaugeM} (ok : GOk g) : g.re.1.natAbs < 2 ^ 70 ∧ g.re.2.natAbs < 2 ^ 70 ∧ g.rn.1.natAbs < 2 ^ 70 ∧ g.rn.2.natAbs < 2 ^ 70 := by
  have r0 := ok.r0
  have r1 := ok.r1
  refine ⟨?_, ?_, ?_, ?_⟩ <;> omega
theorem ct_small {g : GaugeM} (ok : GOk g) (n : Nat) (hn : n ≤ 150) : (countsF g.rs n).1.natAbs < 2 ^ 800 ∧ (countsF g.rs n).2.natAbs < 2 ^ 800 := by
  rw [counts_ok ok.ok n]
  have := dcf_small ok.ok hn
  constructor
  · show ((dcF g.rs 0 n : Nat) : Int).natAbs < _
    omega
  · show ((drF g.rs 0 n : Nat) : Int).natAbs < _
    omega
theorem gt_rows {g : GaugeM} (p : GPos g) (i k : Nat) : gtF g (i + g.rs.length * k) = ((gtF g i).1, (gtF g i).2 * ((dcF g.rs 0 g.rs.length : Nat) : Int) ^ k) := by
  induction k with
  | zero => simp
  | succ k ih =>
    rw [Nat.mul_succ, ← Nat.add_assoc, gt_row p, ih, Int.pow_succ, Int.mul_assoc]
theorem gt_mod {g : GaugeM} (p : GPos g) (n : Nat) : gtF g (n + 1) = ((gtF g (n % g.rs.length + 1)).1, (gtF g (n % g.rs.length + 1)).2 * ((dcF g.rs 0 g.rs.length : Nat) : Int) ^ (n / g.rs.length)) := by
  rw [← gt_rows p]
  congr 1
  have := Nat.mod_add_div n g.rs.length
  omega
theorem grow_small {rs : List (List Cut)} (ok : OkR rs) (k : Nat) : (((dcF rs 0 rs.length : Nat) : Int) ^ k).natAbs < 2 ^ (15 * k + 1) := by
  have h := (dc_bits ok.n 0 rs.length).1
  have l3 := ok.l3
  have e : (((dcF rs 0 rs.length : Nat) : Int) ^ k).natAbs = (dcF rs 0 rs.length) ^ k := by rw [Int.natAbs_pow]; rfl
  rw [e]
  have h2 : dcF rs 0 rs.length ≤ 2 ^ 15 := Nat.le_trans (by omega) (Nat.pow_le_pow_right (by decide) (show 5 * rs.length ≤ 15 by omega))
  have h3 := Nat.pow_le_pow_left h2 k
  rw [← Nat.pow_mul] at h3
  have : 2 ^ (15 * k) < 2 ^ (15 * k + 1) := Nat.pow_lt_pow_right (by decide) (by omega)
  omega
theorem sc_check_distance : FnScope ["d"] ["d"] (defScope s_check_distance) := ⟨rfl, rfl, rfl, by decide +kernel, rfl, by decide +kernel, by decide +kernel⟩
def spChkDist (R0 : Addr) : Sp := fun vs H Q _ => ∃ (x : V) (a b : Int), vs = [x] ∧ NumV R0 H x a b ∧ 0 < a ∧ ∀ H', Ext H H' → Q .non H'
theorem ok_check_distance (F : FunD K "check_distance" "check_distance" (defArgs s_check_distance) (defBody s_check_distance) (defScope s_check_distance) [] [] f fd) (T : TB mg) {fis_above_0 : Addr} {fdis_above_0 : FuncData} (Dis_above_0 : Gd P w K mg base "is_above_0" 5 ["value"] (spAboveR R0) fis_above_0 fdis_above_0) : FnOk P w K mg base CX0 6 f fd ["d"] (spChkDist R0) := by
  refine F.ok sc_check_distance (fun vs H Q E h => ?_) (fun cdv A outer s H vs Q E hr h => ?_)
  · obtain ⟨x, a, b, rfl, hx, h0, k⟩ := h
    rfl
  · obtain ⟨x, a, b, rfl, hx, h0, k⟩ := h
    refine ⟨_, (PSs.nox (pss_one (ps_if (pt_not (pt_val (pe_gd Dis_above_0 hr (by decide) (by rfl) (pa_cons (pv 0) pa_nil)))) (pss_one ps_never) pss_nil))), ?_⟩
    refine ⟨_, rfl, x, a, b, rfl, hx, fun H1 e1 => ?_⟩
    rw [decide_eq_true h0]
    exact ⟨_, rfl, iteF (k H1 e1)⟩
theorem sc_is_less_behind : FnScope ["gauge", "f"] ["gauge", "f"] (defScope s_is_less_behind) := ⟨rfl, rfl, rfl, by decide +kernel, rfl, by decide +kernel, by decide +kernel⟩
def spLessB (C0 R0 M0 U0 : Addr) : Sp := fun vs H Q _ => ∃ (a : Addr) (g : GaugeM) (n : Nat), vs = [.ref a, .int n] ∧ GaugeAt C0 R0 M0 U0 H a g ∧ GOk g ∧ n + 1 ≤ 150 ∧ ∀ H', Ext H H' → Q (.bl (lsF g n)) H'
theorem ok_is_less_behind (F : FunD K "_is_less_behind" "_is_less_behind" (defArgs s_is_less_behind) (defBody s_is_less_behind) (defScope s_is_less_behind) [] [] f fd) (T : TB mg) (RQ : RatT K mg R0) {fgreatest_at : Addr} {fdgreatest_at : FuncData} (Dgreatest_at : Gd P w K mg base "greatest_at" 8 ["gauge", "f"] (spGreatest C0 R0 M0 U0) fgreatest_at fdgreatest_at) {f_Ratio_is_below : Addr} {fd_Ratio_is_below : FuncData} (m_Ratio_is_below : Meth K R0 "is_below" f_Ratio_is_below) (g_Ratio_is_below : FnOk P w K mg base CX0 5 f_Ratio_is_below fd_Ratio_is_below ["self", "other"] (spBelowR R0)) (b_Ratio_is_below : Binds K fd_Ratio_is_below ["self", "other"] []) : FnOk P w K mg base CX0 9 f fd ["gauge", "f"] (spLessB C0 R0 M0 U0) := by
  refine F.ok sc_is_less_behind (fun vs H Q E h => ?_) (fun cdv A outer s H vs Q E hr h => ?_)
  · obtain ⟨a, g, n, rfl, hg, ok, hn, k⟩ := h
    rfl
  · obtain ⟨a, g, n, rfl, hg, ok, hn, k⟩ := h
    refine ⟨_, (PSs.nox (pss_one (ps_ret (pe_meth (pe_gd Dgreatest_at hr (by decide) (by rfl) (pa_cons (pv 0) (pa_cons (pe_op op_add (pv 1) pe_int) pa_nil))) RQ.cl m_Ratio_is_below g_Ratio_is_below (hr.mono (by decide)) b_Ratio_is_below .nil pass0 (pa_cons (pe_gd Dgreatest_at hr (by decide) (by rfl) (pa_cons (pv 0) (pa_cons (pv 1) pa_nil))) pa_nil))))), ?_⟩
    have s1 := gt_small ok n (by omega)
    have s2 := gt_small ok (n + 1) (by omega)
    have z4 := re_small ok
    have cz := ct_small ok
    refine ⟨_, rfl, _, rfl, _, _, rfl, rfl, a, g, n + 1, 70, 800, rfl, hg, by omega, ok.ze.1, ok.ze.2, ok.zn.1, ok.zn.2, z4.1, z4.2.1, z4.2.2.1, z4.2.2.2, (cz _ (by omega)).1, (cz _ (by omega)).2, by decide, by decide, by decide, fun qa Ha ea ha => ?_⟩
    obtain ⟨da, hda⟩ := id ha.2
    refine ⟨qa, da, _, rfl, hda, rfl, _, rfl, _, rfl, a, g, n, 70, 800, rfl, hg.ext ea, by omega, ok.ze.1, ok.ze.2, ok.zn.1, ok.zn.2, z4.1, z4.2.1, z4.2.2.1, z4.2.2.2, (cz _ (by omega)).1, (cz _ (by omega)).2, by decide, by decide, by decide, fun qb Hb eb hb => ⟨qa, .ref qb, _, _, _, _, 900, 900, rfl, ha.ext eb, .inl ⟨qb, rfl, hb⟩, s2.1, s2.2, s1.1, s1.2, by decide, by decide, by decide, fun Hc ec => k Hc ((ea.trans eb).trans ec)⟩⟩
def spIsTaken (C0 R0 M0 U0 : Addr) : Sp := fun vs H Q _ => ∃ (a : Addr) (g : GaugeM) (n : Nat), vs = [.ref a, .int n] ∧ GaugeAt C0 R0 M0 U0 H a g ∧ GOk g ∧ n + 1 ≤ 150 ∧ ∀ H', Ext H H' → Q (.bl (decide (n = 0) || lsF g n)) H'

theorem sc_first_fineness : FnScope ["gauge", "phase"] ["gauge", "phase"] (defScope s_first_fineness) := ⟨rfl, rfl, rfl, by decide +kernel, rfl, by decide +kernel, by decide +kernel⟩
def spFirstF (C0 R0 M0 U0 : Addr) : Sp := fun vs H Q _ => ∃ (a : Addr) (g : GaugeM) (n : Nat), vs = [.ref a, .int n] ∧ GaugeAt C0 R0 M0 U0 H a g ∧ Q (.int ((if n = 0 then g.rs.length else n : Nat) : Int)) H
theorem ok_first_fineness (F : FunD K "first_fineness" "first_fineness" (defArgs s_first_fineness) (defBody s_first_fineness) (defScope s_first_fineness) [] [] f fd) (T : TB mg) (R : PlanT K mg C0 aX mc) (RM : MapT K mg M0) (RU : GaugeT K mg U0 kX) {p_Gauge_area f_Gauge_area : Addr} {fd_Gauge_area : FuncData} (m_Gauge_area : PropOf K U0 "area" p_Gauge_area f_Gauge_area) (g_Gauge_area : FnOk P w K mg base CX0 1 f_Gauge_area fd_Gauge_area ["self"] (spGArea C0 R0 M0 U0)) (b_Gauge_area : Binds K fd_Gauge_area ["self"] []) {p_Map_plan f_Map_plan : Addr} {fd_Map_plan : FuncData} (m_Map_plan : PropOf K M0 "plan" p_Map_plan f_Map_plan) (g_Map_plan : FnOk P w K mg base CX0 1 f_Map_plan fd_Map_plan ["self"] (spMPlan C0 R0 M0)) (b_Map_plan : Binds K fd_Map_plan ["self"] []) {fLen : Addr} {fdLen : FuncData} (mLen : Meth K C0 "__len__" fLen) (Glen : FnOk P w K mg base CX0 1 fLen fdLen ["self"] (spLen C0)) (bLen : Binds K fdLen ["self"] []) : FnOk P w K mg base CX0 3 f fd ["gauge", "phase"] (spFirstF C0 R0 M0 U0) := by
  refine F.ok sc_first_fineness (fun vs H Q E h => ?_) (fun cdv A outer s H vs Q E hr h => ?_)
  · obtain ⟨a, g, n, rfl, hg, k⟩ := h
    rfl
  · obtain ⟨a, g, n, rfl, hg, k⟩ := h
    refine ⟨_, (PSs.nox (pss_cons (ps_if (pt_cmpR op_eq (pv 1) pe_int (nomark _)) (pss_one (ps_ret (pe_callB (call_lenO mLen Glen bLen (hr.mono (by decide))) (by rfl) T.len PySem.boot_len (pa_cons (pe_prop (pe_prop (pv 0) RU.cl m_Gauge_area g_Gauge_area (hr.mono (by decide)) b_Gauge_area .nil pass0 rfl) RM.cl m_Map_plan g_Map_plan (hr.mono (by decide)) b_Map_plan .nil pass0 rfl) pa_nil)))) pss_nil)
      (pss_one (ps_ret (pv 1))))), ?_⟩
    obtain ⟨dx, m, tr, r1, r2, u, v, ha, gi⟩ := id hg
    refine ⟨_, rfl, rfl, _, rfl, ite2 (fun hz => ?_) (fun hz => ?_)⟩
    · have hz := V.int.inj (of_decide_eq_true hz)
      rw [if_pos (show n = 0 by omega)] at k
      refine ⟨_, rfl, a, dx, _, rfl, ha, a, g, rfl, hg, fun m' hm' => ?_⟩
      obtain ⟨dm, pp', re, rn, tc, h1, mi⟩ := id hm'
      have l3 := mi.ok.l3
      refine ⟨m', dm, _, rfl, h1, m', rfl, g.rs, g.le, g.ln, g.cl, hm', fun pp hpp => ?_⟩
      obtain ⟨pdx, lr, lp, ll, gg, hp1, _⟩ := id hpp
      exact ⟨pp, pdx, _, rfl, hp1, pp, g.rs, rfl, hpp, g.rs.length, rfl, by omega, k⟩
    · rw [if_neg (fun z => hz (decide_eq_true (by rw [z]; rfl)))] at k
      exact ⟨_, rfl, k⟩
theorem sc_fineness_of : FnScope ["gauge", "d", "plan", "f", "firsts", "grown"] ["gauge", "d"] (defScope s_fineness_of) := ⟨rfl, rfl, rfl, by decide +kernel, rfl, by decide +kernel, by decide +kernel⟩
def spFinOf (C0 R0 M0 U0 : Addr) : Sp := fun vs H Q _ => ∃ (a : Addr) (g : GaugeM) (x : V) (c e : Int) (n : Nat), vs = [.ref a, x] ∧ GaugeAt C0 R0 M0 U0 H a g ∧ GOk g ∧ NumV R0 H x c e ∧ c.natAbs < 2 ^ 2000 ∧ e.natAbs < 2 ^ 2000 ∧ n ≤ 60 ∧ (∀ i, i < n → abF g c e (i + 1) = false) ∧ abF g c e (n + 1) = true ∧ ∀ H', Ext H H' → Q (.int n) H'
theorem ok_fineness_of (F : FunD K "fineness_of" "fineness_of" (defArgs s_fineness_of) (defBody s_fineness_of) (defScope s_fineness_of) [] [] f fd) (T : TB mg) (R : PlanT K mg C0 aX mc) (RM : MapT K mg M0) (RU : GaugeT K mg U0 kX) (RQ : RatT K mg R0) {p_Gauge_area f_Gauge_area : Addr} {fd_Gauge_area : FuncData} (m_Gauge_area : PropOf K U0 "area" p_Gauge_area f_Gauge_area) (g_Gauge_area : FnOk P w K mg base CX0 1 f_Gauge_area fd_Gauge_area ["self"] (spGArea C0 R0 M0 U0)) (b_Gauge_area : Binds K fd_Gauge_area ["self"] []) {p_Map_plan f_Map_plan : Addr} {fd_Map_plan : FuncData} (m_Map_plan : PropOf K M0 "plan" p_Map_plan f_Map_plan) (g_Map_plan : FnOk P w K mg base CX0 1 f_Map_plan fd_Map_plan ["self"] (spMPlan C0 R0 M0)) (b_Map_plan : Binds K fd_Map_plan ["self"] []) {fLen : Addr} {fdLen : FuncData} (mLen : Meth K C0 "__len__" fLen) (Glen : FnOk P w K mg base CX0 1 fLen fdLen ["self"] (spLen C0)) (bLen : Binds K fdLen ["self"] []) {fgreatest_at : Addr} {fdgreatest_at : FuncData} (Dgreatest_at : Gd P w K mg base "greatest_at" 8 ["gauge", "f"] (spGreatest C0 R0 M0 U0) fgreatest_at fdgreatest_at) {fas_ratio : Addr} {fdas_ratio : FuncData} (Das_ratio : Gd P w K mg base "as_ratio" 4 ["value"] (spAsR R0) fas_ratio fdas_ratio) {f_Ratio_is_below : Addr} {fd_Ratio_is_below : FuncData} (m_Ratio_is_below : Meth K R0 "is_below" f_Ratio_is_below) (g_Ratio_is_below : FnOk P w K mg base CX0 5 f_Ratio_is_below fd_Ratio_is_below ["self", "other"] (spBelowR R0)) (b_Ratio_is_below : Binds K fd_Ratio_is_below ["self", "other"] []) {f_Ratio___mul__ : Addr} {fd_Ratio___mul__ : FuncData} (o_Ratio___mul__ : OwnB K R0 "mul" f_Ratio___mul__) (g_Ratio___mul__ : FnOk P w K mg base CX0 5 f_Ratio___mul__ fd_Ratio___mul__ ["self", "other"] (spMulR R0)) (b_Ratio___mul__ : Binds K fd_Ratio___mul__ ["self", "other"] []) {pgr fGr : Addr} {fdGr : FuncData} (pGr : PropOf K C0 "growth" pgr fGr) (Ggr : FnOk P w K mg base CX0 1 fGr fdGr ["self"] (spGrowth C0)) (bGr : Binds K fdGr ["self"] []) : FnOk P w K mg base CX0 9 f fd ["gauge", "d"] (spFinOf C0 R0 M0 U0) := by
  refine F.ok sc_fineness_of (fun vs H Q E h => ?_) (fun cdv A outer s H vs Q E hr h => ?_)
  · obtain ⟨a, g, x, c, e, n, rfl, hg, ok, hx, zc, ze, hn, lo, hi, k⟩ := h
    rfl
  · obtain ⟨a, g, x, c, e, n, rfl, hg, ok, hx, zc, ze, hn, lo, hi, k⟩ := h
    refine ⟨_, (PSs.nox (pss_cons (ps_set (i := 2) sc_fineness_of.nd rfl (.inl rfl) (pe_prop (pe_prop (pv 0) RU.cl m_Gauge_area g_Gauge_area (hr.mono (by decide)) b_Gauge_area .nil pass0 rfl) RM.cl m_Map_plan g_Map_plan (hr.mono (by decide)) b_Map_plan .nil pass0 rfl))
      (pss_cons (ps_setLc (i := 4) (own := [("f", 3)]) (g := gName 3) (tt := tYes) rfl sc_fineness_of.nd rfl rfl (sw_true rfl rfl rfl (by decide +kernel)) (pi_range1 (by rfl) T.range (pa_cons (pe_callB (call_lenO mLen Glen bLen (hr.mono (by decide))) (by rfl) T.len PySem.boot_len (pa_cons (pv 2) pa_nil)) pa_nil)) (blkOk_by (own := [("f", 3)]) (N := ["gauge", "d", "plan", "f", "firsts", "grown"]) (sc := defScope s_fineness_of) (by decide +kernel)) (fun _ _ _ _ _ => (pg_name (i := 3) sc_fineness_of.nd rfl (.inl rfl))) (fun _ _ _ _ _ => pts_nil) (fun _ _ _ _ _ => (pe_gd Dgreatest_at hr (by decide) (by rfl) (pa_cons (pv 0) (pa_cons (pe_op op_add (pv 3) pe_int) pa_nil)))))
      (pss_cons (ps_set (i := 5) sc_fineness_of.nd rfl (.inl rfl) (pe_gd Das_ratio hr (by decide) (by rfl) (pa_cons (pv 1) pa_nil)))
      (pss_cons (ps_set (i := 3) sc_fineness_of.nd rfl (.inl rfl) pe_int)
      (pss_cons (ps_while PassesOwn.never (pt_not (pt_val (pe_meth (pe_ix ix_seq (pv 4) (pe_op op_mod (pv 3) (pe_callB (call_lenO mLen Glen bLen (hr.mono (by decide))) (by rfl) T.len PySem.boot_len (pa_cons (pv 2) pa_nil))) (fun _ _ => rfl)) RQ.cl m_Ratio_is_below g_Ratio_is_below (hr.mono (by decide)) b_Ratio_is_below .nil pass0 (pa_cons (pv 5) pa_nil)))) (pss_cons (ps_set (i := 3) sc_fineness_of.nd rfl (.inl rfl) (pe_op op_add (pv 3) pe_int))
      (pss_cons (ps_if (pt_cmpR op_gt (pv 3) (pe_glob (v := .int 1000) (by rfl) R.mF.choose_spec ⟨_, rfl⟩) (nomark _)) (pss_one ps_never) pss_nil)
      (pss_one (ps_if (pt_cmpR op_eq (pe_op op_mod (pv 3) (pe_callB (call_lenO mLen Glen bLen (hr.mono (by decide))) (by rfl) T.len PySem.boot_len (pa_cons (pv 2) pa_nil))) pe_int (nomark _)) (pss_one (ps_set (i := 5) sc_fineness_of.nd rfl (.inl rfl) (pe_op (op_binO o_Ratio___mul__ g_Ratio___mul__ b_Ratio___mul__ (hr.mono (by decide))) (pv 5) (pe_prop (pv 2) R.cl pGr Ggr (hr.mono (by decide)) bGr .nil pass0 rfl)))) pss_nil)))))
      (pss_one (ps_ret (pv 3))))))))), ?_⟩
    have z4 := re_small ok
    have cz := ct_small ok
    obtain ⟨dx, m, tr, r1, r2, u, v, ha, gi⟩ := id hg
    refine ⟨_, rfl, a, dx, _, rfl, ha, a, g, rfl, hg, fun m' hm' => ?_⟩
    obtain ⟨dm, pp', re, rn, tc, h1, mi⟩ := id hm'
    have l3 := ok.ok.l3
    have l1 := ok.ok.l1
    refine ⟨m', dm, _, rfl, h1, m', rfl, g.rs, g.le, g.ln, g.cl, hm', fun pp hpp => ?_⟩
    clear h1 mi hm' gi
    obtain ⟨pdx, lr, lp, ll, gg, hp1, _⟩ := id hpp
    refine ⟨_, rfl, pp, pdx, _, rfl, hp1, pp, g.rs, rfl, hpp, g.rs.length, rfl, by omega, (g.rs.length : Nat), rfl, by omega, by omega, fun D hD => lc_walk (walk_r (lo := 0)) (fun i H' => ∃ ps : List Addr, H' D = some (.lst (ps.map V.ref)) ∧ ps.length = i ∧ (∀ j p, ps[j]? = some p → RatV R0 H' p (gtF g (j + 1)).1 (gtF g (j + 1)).2) ∧ Ext H H') ⟨[], upd_same, rfl, fun _ _ z => (nomatch z), Ext.upd hD⟩ (fun _ _ _ => trivial) ?_ ?_⟩
    · rintro i y H1 hy ⟨ps, d1, d2, d3, e1⟩
      obtain ⟨hi', rfl⟩ := range_get hy
      have hi' : i < g.rs.length := by simpa using hi'
      refine ⟨rfl, lc_yes ⟨_, rfl, _, rfl, _, _, rfl, rfl, a, g, i + 1, 70, 800, rfl, hg.ext e1, by omega, ok.ze.1, ok.ze.2, ok.zn.1, ok.zn.2, z4.1, z4.2.1, z4.2.2.1, z4.2.2.2, (cz _ (by omega)).1, (cz _ (by omega)).2, by decide, by decide, by decide, fun q H2 e2 hq => ?_⟩⟩
      refine ⟨_, e2 _ _ d1, by rw [List.length_map, d2, sizeLine_eq]; omega, ps ++ [q], by rw [upd_same, List.map_append]; rfl, by rw [List.length_append, d2]; rfl, ?_, ext_put (e1.trans e2) hD⟩
      intro j p hj
      have nD : ∀ {r : Addr} {a b : Int}, RatV R0 H2 r a b → r ∉ [D] := fun hr z => by
        obtain ⟨_, dr, er⟩ := hr
        rw [List.mem_singleton.mp z, e2 _ _ d1] at er
        cases er
      have fD : ∀ {o : HO}, Frm [D] H2 (upd H2 D o) := Frm.put (List.mem_singleton.mpr rfl)
      by_cases h : j < ps.length
      · rw [List.getElem?_append_left h] at hj
        have := (d3 j p hj).ext e2
        exact this.frm fD (nD this)
      · have hl := (List.getElem?_eq_some_iff.mp hj).1
        rw [List.length_append] at hl
        have hl : j < ps.length + 1 := hl
        have ej : j = ps.length := by omega
        subst ej
        rw [List.getElem?_append_right (Nat.le_refl _), Nat.sub_self] at hj
        cases hj
        rw [d2]
        exact hq.frm fD (nD hq)
    rintro H1 ⟨ps, d1, d2, d3, e1⟩
    have d2 : ps.length = g.rs.length := by rw [d2]; simp
    have gp := gpos ok
    obtain ⟨G, hG⟩ : ∃ G : Int, G = ((dcF g.rs 0 g.rs.length : Nat) : Int) := ⟨_, rfl⟩
    refine ⟨_, rfl, x, c, e, rfl, hx.ext e1, fun g0 H2 e2 hg0 => ?_⟩
    refine ⟨fun m σ H' => ∃ (f : Nat) (gq : Addr), m = n - f ∧ f ≤ n ∧ σ = [some (.ref a), some x, some (.ref pp), some (.int (f : Nat)), some (.ref D), some (.ref gq)] ∧ RatV R0 H' gq (c * G ^ (f / g.rs.length)) e ∧ Ext H1 H', ⟨n, 0, g0, rfl, Nat.zero_le _, rfl, by rw [Nat.zero_div, Int.pow_zero, Int.mul_one]; exact hg0, e2⟩, ?_⟩
    rintro m σ H3 ⟨f, gq, rfl, hf, rfl, hgq, e3⟩
    have e13 := e1.trans e3
    have hpp3 := hpp.ext e13
    have hp3 := e13 _ _ hp1
    have hm : f % g.rs.length < ps.length := by rw [d2]; exact Nat.mod_lt _ (by omega)
    obtain ⟨pf, hpf⟩ : ∃ p, ps[f % g.rs.length]? = some p := ⟨_, List.getElem?_eq_getElem hm⟩
    have rf := (d3 _ _ hpf).ext e3
    obtain ⟨dpf, hdpf⟩ := id rf.2
    have s1 := gt_small ok (f % g.rs.length + 1) (by omega)
    have fl : f / g.rs.length ≤ 60 := Nat.le_trans (Nat.div_le_self _ _) (by omega)
    have zg : (c * G ^ (f / g.rs.length)).natAbs < 2 ^ 3000 := by
      have h := wide_lt zc (grow_small ok.ok (f / g.rs.length))
      rw [← hG] at h
      exact Nat.lt_of_lt_of_le h (Nat.pow_le_pow_right (by decide) (by omega))
    have ze2 : e.natAbs < 2 ^ 3000 := Nat.lt_of_lt_of_le ze (Nat.pow_le_pow_right (by decide) (by decide))
    refine ⟨_, rfl, _, rfl, _, rfl, pp, pdx, _, rfl, hp3, pp, g.rs, rfl, hpp3, g.rs.length, rfl, by omega, (f : Int), (g.rs.length : Int), rfl, rfl, by omega, .inl ⟨D, _, _, _, rfl, rfl, SqL.of (e3 _ _ d1), ?_, pf, dpf, _, rfl, hdpf, rfl, _, rfl, pf, .ref gq, _, _, _, _, 900, 3000, rfl, rf, .inl ⟨gq, rfl, hgq⟩, s1.1, s1.2, zg, ze2, by decide, by decide, by decide, fun H4 e4 => ?_⟩⟩
    · show atI (ps.map V.ref) ((f % g.rs.length : Nat) : Int) = some (V.ref pf)
      exact atI_nat (by rw [List.getElem?_map, hpf]; rfl)
    have key : decide ((gtF g (f % g.rs.length + 1)).1 * e < c * G ^ (f / g.rs.length) * (gtF g (f % g.rs.length + 1)).2) = abF g c e (f + 1) := by
      unfold abF
      rw [gt_mod gp f, ← hG]
      congr 1
      rw [show c * ((gtF g (f % g.rs.length + 1)).2 * G ^ (f / g.rs.length)) = c * G ^ (f / g.rs.length) * (gtF g (f % g.rs.length + 1)).2 by rw [Int.mul_assoc, Int.mul_comm (G ^ _)]]
    rw [key]
    have e14 := e13.trans e4
    have e34 := e3.trans e4
    have hgq4 := hgq.ext e4
    have hpp4 := hpp.ext e14
    have hp4 := e14 _ _ hp1
    refine ⟨_, rfl, ?_⟩
    by_cases hfn : f = n
    · subst hfn
      rw [hi]
      show (if (!true) = true then _ else _)
      rw [if_neg (by decide)]
      exact ⟨_, rfl, k H4 e14⟩
    rw [lo f (by omega)]
    show (if (!false) = true then _ else _)
    rw [if_pos (show (!false) = true from rfl)]
    refine ⟨fun σ H' => ∃ (f2 : Nat) (gq : Addr), f2 = f + 1 ∧ σ = [some (.ref a), some x, some (.ref pp), some (.int (f2 : Nat)), some (.ref D), some (.ref gq)] ∧ RatV R0 H' gq (c * G ^ (f2 / g.rs.length)) e ∧ Ext H1 H', ?_, ?_⟩
    · rintro σ' H' ⟨f2, gq2, rfl, rfl, h1, h2⟩
      exact ⟨n - (f + 1), by omega, f + 1, gq2, rfl, by omega, rfl, h1, h2⟩
    refine ⟨_, rfl, _, _, rfl, rfl, ?_⟩
    have ef : (f : Int) + 1 = ((f + 1 : Nat) : Int) := rfl
    refine ⟨_, rfl, _, _, rfl, rfl, _, rfl, ite2 (fun hz => absurd (of_decide_eq_true hz) (by omega)) (fun _ => ?_)⟩
    have pos : (0 : Int) < (g.rs.length : Int) := by omega
    refine ⟨_, rfl, _, rfl, pp, pdx, _, rfl, hp4, pp, g.rs, rfl, hpp4, g.rs.length, rfl, by omega, ((f + 1 : Nat) : Int), (g.rs.length : Int), rfl, rfl, pos, rfl, _, rfl, ite2 (fun hz => ?_) (fun hz => ?_)⟩
    · have hz := V.int.inj (of_decide_eq_true hz)
      have hz : (f + 1) % g.rs.length = 0 := by
        have : (((f + 1) % g.rs.length : Nat) : Int) = 0 := hz
        omega
      have g1 : (mulF (partsF g.rs)).1 = G := by rw [growth_eq g.rs, hG]
      have zG : G.natAbs < 2 ^ 16 := by
        have h := grow_small ok.ok 1
        rw [Int.pow_one, ← hG] at h
        exact h
      obtain ⟨dgq, hdgq⟩ := id hgq4.2
      have hd : (f + 1) / g.rs.length = f / g.rs.length + 1 := by
        rw [Nat.succ_div, if_pos (Nat.dvd_of_mod_eq_zero hz)]
      refine ⟨_, rfl, _, rfl, pp, pdx, _, rfl, hp4, pp, g.rs, rfl, hpp4, ?_⟩
      rw [g1]
      refine ⟨gq, dgq, _, rfl, hdgq, .inr ⟨_, rfl⟩, gq, .int G, _, _, G, 1, 3000, 16, rfl, hgq4, .inr ⟨rfl, rfl⟩, zg, ze2, zG, by decide, by decide, by decide, by decide, fun qe He ee he => ⟨qe, rfl, f + 1, qe, rfl, rfl, ?_, e34.trans ee⟩⟩
      rw [hd, Int.pow_succ, ← Int.mul_assoc]
      rw [Int.mul_one] at he
      exact he
    · have hz : ¬ (f + 1) % g.rs.length = 0 := fun z => hz (decide_eq_true (by
        show V.int (((f + 1) % g.rs.length : Nat) : Int) = V.int 0
        rw [z]; rfl))
      have hd : (f + 1) / g.rs.length = f / g.rs.length := by
        rw [Nat.succ_div, if_neg (fun z => hz (Nat.mod_eq_zero_of_dvd z))]
        rfl
      exact ⟨f + 1, gq, rfl, rfl, by rw [hd]; exact hgq4, e34⟩
theorem sc_Gauge___call : FnScope ["self", "d"] ["self", "d"] (defScope s_Gauge___call) := ⟨rfl, rfl, rfl, by decide +kernel, rfl, by decide +kernel, by decide +kernel⟩
def spCall (C0 R0 M0 U0 : Addr) : Sp := fun vs H Q _ => ∃ (a : Addr) (g : GaugeM) (x : V) (c e : Int) (n : Nat), vs = [.ref a, x] ∧ GaugeAt C0 R0 M0 U0 H a g ∧ GOk g ∧ NumV R0 H x c e ∧ 0 < c ∧ c.natAbs < 2 ^ 2000 ∧ e.natAbs < 2 ^ 2000 ∧ n ≤ 60 ∧ (∀ i, i < n → abF g c e (i + 1) = false) ∧ abF g c e (n + 1) = true ∧ ∀ H', Ext H H' → Q (.int n) H'
theorem ok_Gauge___call (F : FunD K "__call__" "Gauge.__call__" (defArgs s_Gauge___call) (defBody s_Gauge___call) (defScope s_Gauge___call) [] [] f fd) (T : TB mg) {fcheck_distance : Addr} {fdcheck_distance : FuncData} (Dcheck_distance : Gd P w K mg base "check_distance" 6 ["d"] (spChkDist R0) fcheck_distance fdcheck_distance) {ffineness_of : Addr} {fdfineness_of : FuncData} (Dfineness_of : Gd P w K mg base "fineness_of" 9 ["gauge", "d"] (spFinOf C0 R0 M0 U0) ffineness_of fdfineness_of) : FnOk P w K mg base CX0 10 f fd ["self", "d"] (spCall C0 R0 M0 U0) := by
  refine F.ok sc_Gauge___call (fun vs H Q E h => ?_) (fun cdv A outer s H vs Q E hr h => ?_)
  · obtain ⟨a, g, x, c, e, n, rfl, hg, ok, hx, c0, zc, ze, hn, lo, hi, k⟩ := h
    rfl
  · obtain ⟨a, g, x, c, e, n, rfl, hg, ok, hx, c0, zc, ze, hn, lo, hi, k⟩ := h
    refine ⟨_, (PSs.nox (pss_cons (ps_expr (pe_gd Dcheck_distance hr (by decide) (by rfl) (pa_cons (pv 1) pa_nil)))
      (pss_one (ps_ret (pe_gd Dfineness_of hr (by decide) (by rfl) (pa_cons (pv 0) (pa_cons (pv 1) pa_nil))))))), ?_⟩
    exact ⟨_, rfl, x, c, e, rfl, hx, c0, fun H1 e1 => ⟨_, rfl, _, rfl, a, g, x, c, e, n, rfl, hg.ext e1, ok, hx.ext e1, zc, ze, hn, lo, hi, fun H2 e2 => k H2 (e1.trans e2)⟩⟩
theorem sc_Gauge_taken : FnScope ["self", "phases", "phase"] ["self"] (defScope s_Gauge_taken) := ⟨rfl, rfl, rfl, by decide +kernel, rfl, by decide +kernel, by decide +kernel⟩
/-- the fineness at which a phase is asked first -/
def ffF (L k : Nat) : Nat := if k = 0 then L else k
/-- the phases that are taken -/
def tkF (g : GaugeM) (n : Nat) : List Nat := (List.range n).filter fun k => lsF g (ffF g.rs.length k)
theorem tk_succ (g : GaugeM) (n : Nat) : tkF g (n + 1) = tkF g n ++ (if lsF g (ffF g.rs.length n) = true then [n] else []) := by
  unfold tkF
  rw [List.range_succ, List.filter_append, List.filter_cons, List.filter_nil]
theorem tk_len (g : GaugeM) (n : Nat) : (tkF g n).length ≤ n := by
  have := List.length_filter_le (fun k => lsF g (ffF g.rs.length k)) (List.range n)
  rw [List.length_range] at this
  exact this
def tkV (g : GaugeM) : List V := (tkF g g.rs.length).map fun k : Nat => V.int k
def TkOk (H : Hp) (g : GaugeM) (u : V) : Prop := u = .non ∨ ∃ l, u = .ref l ∧ H l = some (.lst (tkV g))
def spTaken (C0 R0 M0 U0 : Addr) : Sp := fun vs H Q _ => ∃ (a : Addr) (g : GaugeM) (dx m tr r1 r2 : Addr) (u v : V), vs = [.ref a] ∧ H a = some (.ins U0 dx (flU m tr g.kd u v)) ∧ GaugeIn C0 R0 M0 H m tr r1 r2 g ∧ GOk g ∧ TkOk H g u ∧
  ∀ q l H', Frm [a] H H' → H' a = some (.ins U0 dx (flU m tr g.kd (.ref l) v)) → H' l = some (.lst (tkV g)) → (u = .ref l ∨ H l = none) → H' q = some (.lst (tkV g)) → H q = none → q ≠ l → Q (.ref q) H'
theorem ok_Gauge_taken (F : FunD K "taken" "Gauge.taken" (defArgs s_Gauge_taken) (defBody s_Gauge_taken) (defScope s_Gauge_taken) [] [] f fd) (T : TB mg) (R : PlanT K mg C0 aX mc) (RM : MapT K mg M0) (RU : GaugeT K mg U0 kX) {p_Map_plan f_Map_plan : Addr} {fd_Map_plan : FuncData} (m_Map_plan : PropOf K M0 "plan" p_Map_plan f_Map_plan) (g_Map_plan : FnOk P w K mg base CX0 1 f_Map_plan fd_Map_plan ["self"] (spMPlan C0 R0 M0)) (b_Map_plan : Binds K fd_Map_plan ["self"] []) {fLen : Addr} {fdLen : FuncData} (mLen : Meth K C0 "__len__" fLen) (Glen : FnOk P w K mg base CX0 1 fLen fdLen ["self"] (spLen C0)) (bLen : Binds K fdLen ["self"] []) {fis_less_behind : Addr} {fdis_less_behind : FuncData} (Dis_less_behind : Gd P w K mg base "_is_less_behind" 9 ["gauge", "f"] (spLessB C0 R0 M0 U0) fis_less_behind fdis_less_behind) {ffirst_fineness : Addr} {fdfirst_fineness : FuncData} (Dfirst_fineness : Gd P w K mg base "first_fineness" 3 ["gauge", "phase"] (spFirstF C0 R0 M0 U0) ffirst_fineness fdfirst_fineness) : FnOk P w K mg base CX0 10 f fd ["self"] (spTaken C0 R0 M0 U0) := by
  refine F.ok sc_Gauge_taken (fun vs H Q E h => ?_) (fun cdv A outer s H vs Q E hr h => ?_)
  · obtain ⟨a, g, dx, m, tr, r1, r2, u, v, rfl, ha, gi, ok, tk, k⟩ := h
    rfl
  · obtain ⟨a, g, dx, m, tr, r1, r2, u, v, rfl, ha, gi, ok, tk, k⟩ := h
    refine ⟨_, (PSs.nox (pss_cons (ps_if (pt_cmpR op_isN (pe_fld (pv 0) rfl) pe_non (nomark _)) (pss_cons (ps_set (i := 1) sc_Gauge_taken.nd rfl (.inl rfl) (pe_callTy cr_range1 (by rfl) T.range (by decide +kernel) (pa_cons (pe_callB (call_lenO mLen Glen bLen (hr.mono (by decide))) (by rfl) T.len PySem.boot_len (pa_cons (pe_prop (pe_fld (pv 0) rfl) RM.cl m_Map_plan g_Map_plan (hr.mono (by decide)) b_Map_plan .nil pass0 rfl) pa_nil)) pa_nil)))
      (pss_one (ps_fld (pv 0) (pe_lc (own := [("phase", 2)]) (g := gName 2) rfl sc_Gauge_taken.nd (pi_rng (pv 1)) (blkOk_by (own := [("phase", 2)]) (N := ["self", "phases", "phase"]) (sc := defScope s_Gauge_taken) (by decide +kernel)) (fun _ _ _ _ _ => (pg_name (i := 2) sc_Gauge_taken.nd rfl (.inl rfl))) (fun _ _ _ _ _ => (pts_one (pt_val (pe_gd Dis_less_behind hr (by decide) (by rfl) (pa_cons (pv 0) (pa_cons (pe_gd Dfirst_fineness hr (by decide) (by rfl) (pa_cons (pv 0) (pa_cons (pv 2) pa_nil))) pa_nil)))))) (fun _ _ _ _ _ => (pv 2))) rfl))) pss_nil)
      (pss_one (ps_ret (pe_callTy (call_listK (K := K) rfl) (by rfl) T.list (by decide +kernel) (pa_cons (pe_fld (pv 0) rfl) pa_nil)))))), ?_⟩
    rcases tk with rfl | ⟨l, rfl, hl⟩
    · refine ⟨_, rfl, a, U0, dx, _, _, rfl, ha, RU.cl, RU.nT, rfl, rfl, _, rfl, ite2 (fun _ => ?_) (fun z => absurd rfl z)⟩
      obtain ⟨dm, pp', re, rn, tc, h1, mi⟩ := id gi.m
      have l3 := ok.ok.l3
      have l1 := ok.ok.l1
      refine ⟨_, rfl, a, U0, dx, _, _, rfl, ha, RU.cl, RU.nA, rfl, m, dm, _, rfl, h1, m, rfl, g.rs, g.le, g.ln, g.cl, gi.m, fun pp hpp => ?_⟩
      obtain ⟨pdx, lr, lp, ll, gg, hp1, _⟩ := id hpp
      refine ⟨pp, pdx, _, rfl, hp1, pp, g.rs, rfl, hpp, g.rs.length, rfl, by omega, (g.rs.length : Int), rfl, fun r hr => ?_⟩
      have e0 := Ext.upd (H := H) (o := .rng 0 (g.rs.length : Int)) hr
      have hr0 : (upd H r (.rng 0 (g.rs.length : Int))) r = some (.rng 0 (g.rs.length : Int)) := upd_same
      generalize upd H r (.rng 0 (g.rs.length : Int)) = H0 at e0 hr0 ⊢
      refine ⟨_, rfl, r, 0, (g.rs.length : Int), rfl, hr0, (by omega), fun D hD => lc_walk (walk_r (lo := 0)) (fun i H' => H' D = some (.lst ((tkF g i).map fun k : Nat => V.int k)) ∧ Ext H0 H') ⟨by rw [upd_same]; rfl, Ext.upd hD⟩ (fun _ _ _ => trivial) ?_ ?_⟩
      · rintro i y H1 hy ⟨d1, e1⟩
        obtain ⟨hi', rfl⟩ := range_get hy
        have hi' : i < g.rs.length := by omega
        have hg1 : GaugeAt C0 R0 M0 U0 H1 a g := ⟨dx, m, tr, r1, r2, _, v, e1 _ _ (e0 _ _ ha), gi.ext (e0.trans e1)⟩
        have ts := tk_succ g i
        have tl := tk_len g i
        refine ⟨rfl, _, rfl, _, rfl, _, rfl, a, g, i, rfl, hg1, a, g, ffF g.rs.length i, rfl, hg1, ok, (by unfold ffF; split <;> omega), fun H2 e2 => ⟨_, rfl, ?_⟩⟩
        by_cases hz : lsF g (ffF g.rs.length i) = true
        · rw [if_pos hz] at ts ⊢
          refine ⟨_, rfl, _, e2 _ _ d1, by rw [List.length_map, sizeLine_eq]; omega, ?_, ext_put (e1.trans e2) hD⟩
          rw [upd_same, ts, List.map_append]
          rfl
        · rw [if_neg hz] at ts ⊢
          rw [List.append_nil] at ts
          rw [ts]
          exact ⟨e2 _ _ d1, e1.trans e2⟩
      rintro H1 ⟨d1, e1⟩
      have eL : (List.range ((g.rs.length : Int) - 0).toNat).length = g.rs.length := by rw [List.length_range]; omega
      rw [List.length_map, eL] at d1
      have ha1 := e1 _ _ (e0 _ _ ha)
      refine ⟨_, rfl, a, U0, dx, _, rfl, ha1, RU.cl, RU.nT, (by show 5 < 1000; decide), ?_⟩
      have nDa : D ≠ a := fun z => by rw [z, ha1] at d1; cases d1
      have eP : upd H1 a (.ins U0 dx (putF "_taken" (.ref D) (flU m tr g.kd .non v))) = upd H1 a (.ins U0 dx (flU m tr g.kd (.ref D) v)) := rfl
      rw [eP]
      have f2 : Frm [a] H (upd H1 a (.ins U0 dx (flU m tr g.kd (.ref D) v))) := (Frm.ext (e0.trans e1)).trans (Frm.put (List.mem_singleton.mpr rfl))
      have ha2 : (upd H1 a (.ins U0 dx (flU m tr g.kd (.ref D) v))) a = some (.ins U0 dx (flU m tr g.kd (.ref D) v)) := upd_same
      have d2 : (upd H1 a (.ins U0 dx (flU m tr g.kd (.ref D) v))) D = some (.lst (tkV g)) := by rw [upd_ne nDa]; exact d1
      have hDn : H D = none := by
        cases q : H D with
        | none => rfl
        | some o => rw [e0 _ _ q] at hD; cases hD
      have hqn : ∀ q, (upd H1 a (.ins U0 dx (flU m tr g.kd (.ref D) v))) q = none → H q = none := fun q hq => by
        cases z : H q with
        | none => rfl
        | some o =>
          have na : q ≠ a := fun w => by rw [w, ha2] at hq; cases hq
          rw [upd_ne na, e1 _ _ (e0 _ _ z)] at hq
          cases hq
      generalize upd H1 a (.ins U0 dx (flU m tr g.kd (.ref D) v)) = H2 at f2 ha2 d2 hqn ⊢
      exact ⟨_, rfl, a, U0, dx, _, _, rfl, ha2, RU.cl, RU.nT, rfl, D, _, rfl, .inl (SqL.of d2), fun q hq => k q D _ (f2.trans (Frm.ext (Ext.upd hq))) (by rw [upd_ne (ne_of_none ha2 hq)]; exact ha2) (by rw [upd_ne (ne_of_none d2 hq)]; exact d2) (.inr hDn) upd_same (hqn q hq) (fun z => ne_of_none d2 hq z.symm)⟩
    · refine ⟨_, rfl, a, U0, dx, _, _, rfl, ha, RU.cl, RU.nT, rfl, rfl, _, rfl, ite2 (fun z => ?_) (fun _ => ?_)⟩
      · cases of_decide_eq_true z
      exact ⟨_, rfl, a, U0, dx, _, _, rfl, ha, RU.cl, RU.nT, rfl, l, _, rfl, .inl (SqL.of hl), fun q hq => k q l _ (Frm.ext (Ext.upd hq)) (by rw [upd_ne (ne_of_none ha hq)]; exact ha) (by rw [upd_ne (ne_of_none hl hq)]; exact hl) (.inl rfl) upd_same hq (fun z => ne_of_none hl hq z.symm)⟩
end
end Mc

set_option Elab.async false
set_option linter.all false
set_option maxRecDepth 100000
set_option maxHeartbeats 4000000
/-! zip of four tuples -/
namespace Mc
open PySem PySem.Spec PyProof.Rows L2 RZ
theorem typeCall_zip_4 (a b c d : Value) : checkTypeCall "zip" ⟨[a, b, c, d], []⟩ = pure () := by kernel_rfl
theorem newCall_zip_4 (a b c d : Value) : checkBuiltinCall "zip.__new__" ⟨[.type "zip", a, b, c, d], []⟩ = pure () := by kernel_rfl
theorem args_init_5 (a b c d e : Value) : argsOk "object.__init__" ⟨[a, b, c, d, e], []⟩ := by
  unfold argsOk; rw [signature?_of (id := "object.__init__") (n := ['_', '_', 't', 'i', 'n', 'i', '_', '_']) (o := ['t', 'c', 'e', 'j', 'b', 'o']) (by kernel_rfl) F.owner_object]; kernel_rfl
abbrev IsT (h : Heap) (T : Addr) (xs : Array Value) : Prop := h.get? T = some { cls := .type "tuple", data := .seq xs }
/-- what stands but at M stays -/
def Kp (M : List Addr) (h h' : Heap) : Prop := ∀ c o, c ∉ M → h.get? c = some o → h'.get? c = some o
theorem Kp.refl {h : Heap} : Kp [] h h := fun _ _ _ e => e
theorem Kp.step {M : List Addr} {a : Addr} {h h1 h2 : Heap} (k : Kp M h h1) (e : Heap.SameBut a h1 h2) : Kp (a :: M) h h2 := fun c o n z =>
  e.extBut _ _ (fun w => n (w ▸ List.mem_cons_self)) (k c o (fun w => n (List.mem_cons_of_mem _ w)) z)
theorem Kp.less {M M' : List Addr} {h h1 : Heap} (k : Kp M h h1) (s : ∀ x ∈ M, x ∈ M') : Kp M' h h1 := fun c o n z => k c o (fun w => n (s _ w)) z
theorem Kp.iter {M : List Addr} {h h1 : Heap} {it l : Addr} {i : Nat} (k : Kp M h h1) (t : h.IsTupleIter it l i) (n : it ∉ M) : h1.IsTupleIter it l i := t.at fun o e => k it o n e
theorem Kp.tup {M : List Addr} {h h1 : Heap} {l : Addr} {xs : Array Value} (k : Kp M h h1) (t : h.IsTuple l xs) (n : l ∉ M) : h1.IsTuple l xs := by
  obtain ⟨o, e, r⟩ := t
  exact ⟨o, k l o n e, r⟩
structure Z4 (z TI TO i1 i2 i3 i4 l1 l2 l3 l4 : Addr) : Prop where
  z_TI : z ≠ TI
  z_TO : z ≠ TO
  z_i1 : z ≠ i1
  z_i2 : z ≠ i2
  z_i3 : z ≠ i3
  z_i4 : z ≠ i4
  TI_TO : TI ≠ TO
  TI_i1 : TI ≠ i1
  TI_i2 : TI ≠ i2
  TI_i3 : TI ≠ i3
  TI_i4 : TI ≠ i4
  TO_i1 : TO ≠ i1
  TO_i2 : TO ≠ i2
  TO_i3 : TO ≠ i3
  TO_i4 : TO ≠ i4
  i1_i2 : i1 ≠ i2
  i1_i3 : i1 ≠ i3
  i1_i4 : i1 ≠ i4
  i2_i3 : i2 ≠ i3
  i2_i4 : i2 ≠ i4
  i3_i4 : i3 ≠ i4
  l1_z : l1 ≠ z
  l1_TO : l1 ≠ TO
  l1_i1 : l1 ≠ i1
  l1_i2 : l1 ≠ i2
  l1_i3 : l1 ≠ i3
  l1_i4 : l1 ≠ i4
  l2_z : l2 ≠ z
  l2_TO : l2 ≠ TO
  l2_i1 : l2 ≠ i1
  l2_i2 : l2 ≠ i2
  l2_i3 : l2 ≠ i3
  l2_i4 : l2 ≠ i4
  l3_z : l3 ≠ z
  l3_TO : l3 ≠ TO
  l3_i1 : l3 ≠ i1
  l3_i2 : l3 ≠ i2
  l3_i3 : l3 ≠ i3
  l3_i4 : l3 ≠ i4
  l4_z : l4 ≠ z
  l4_TO : l4 ≠ TO
  l4_i1 : l4 ≠ i1
  l4_i2 : l4 ≠ i2
  l4_i3 : l4 ≠ i3
  l4_i4 : l4 ≠ i4
theorem sub9 {c z TO i1 i2 i3 i4 : Addr} (w : c ∈ [TO, i4, TO, i3, TO, i2, TO, i1, z]) : c ∈ [z, TO, i1, i2, i3, i4] := by
  simp only [List.mem_cons, List.not_mem_nil, or_false] at w ⊢
  rcases w with w | w | w | w | w | w | w | w | w <;> simp [w]
theorem sub2 {c z TO i1 i2 i3 i4 : Addr} (w : c ∈ [z]) : c ∈ [z, TO, i1, i2, i3, i4] := by simp at w; simp [w]
theorem sub6 {c z TI TO i1 i2 i3 i4 : Addr} (w : c ∈ [z, TO, i1, i2, i3, i4]) : c ∈ [z, TI, TO, i1, i2, i3, i4] := by
  simp only [List.mem_cons, List.not_mem_nil, or_false] at w ⊢
  rcases w with w | w | w | w | w | w <;> simp [w]
section
variable {prog : Program} {w : World} {A : Around} {E : Value → Shared → Prop} {s : Shared} {z TI TO i1 i2 i3 i4 l1 l2 l3 l4 : Addr} {k : Nat} {xs1 xs2 xs3 xs4 : Array Value} {x1 x2 x3 x4 a1 a2 a3 a4 : Value}
theorem upd_T {T : Addr} {a b c d x : Value} {j : Nat} {Q : Unit → Shared → Prop} (hT : IsT s.heap T #[a, b, c, d])
    (h : ∀ h', IsT h' T ((#[a, b, c, d] : Array Value).setIfInBounds j x) → Heap.SameBut T s.heap h' → Q () { s with heap := h' }) : wpAny (model prog w) A (updateSeq T (·.setIfInBounds j x)) Q E s := by
  refine wpAny_updateSeq hT rfl (h _ ?_ (Heap.SameBut.update ..))
  show (Heap.update _ _ _).get? T = _
  rw [Heap.get?_update_self _ hT rfl]
  simp [Obj.mapSeq]
theorem zip4_item {Q : Value → Shared → Prop} (D : Z4 z TI TO i1 i2 i3 i4 l1 l2 l3 l4)
    (hz : IsZip s.heap z TI TO .none) (hTI : IsT s.heap TI #[.ref i1, .ref i2, .ref i3, .ref i4]) (hTO : IsT s.heap TO #[a1, a2, a3, a4])
    (h1 : s.heap.IsTupleIter i1 l1 k) (p1 : s.heap.IsTuple l1 xs1) (h2 : s.heap.IsTupleIter i2 l2 k) (p2 : s.heap.IsTuple l2 xs2) (h3 : s.heap.IsTupleIter i3 l3 k) (p3 : s.heap.IsTuple l3 xs3) (h4 : s.heap.IsTupleIter i4 l4 k) (p4 : s.heap.IsTuple l4 xs4) (hx1 : xs1[k]? = some x1) (hx2 : xs2[k]? = some x2) (hx3 : xs3[k]? = some x3) (hx4 : xs4[k]? = some x4)
    (hQ : ∀ h', IsZip h' z TI TO (rawInt s.heap.objs.size) → IsT h' TO #[x1, x2, x3, x4] → h'.IsTupleIter i1 l1 (k + 1) → h'.IsTupleIter i2 l2 (k + 1) → h'.IsTupleIter i3 l3 (k + 1) → h'.IsTupleIter i4 l4 (k + 1) → IsT h' s.heap.objs.size #[x1, x2, x3, x4] → h'.objs.size = s.heap.objs.size + 1 →
      Kp [z, TO, i1, i2, i3, i4] s.heap h' → Q (.ref s.heap.objs.size) { s with heap := h' }) :
    wpAny (model prog w) A (Builtin.«zip.__next__» ⟨[.ref z], []⟩) (fun fin s' => ∃ v, fin = .done (.ret v) ∧ Q v s') E s := by
  show wpAny _ _ (field (.ref z) 2 >>= _) _ _ _
  refine wpAny_bind (wpAny_field hz rfl (x := .bool false) rfl ?_)
  show wpAny _ _ (field (.ref z) 3 >>= _) _ _ _
  refine wpAny_bind (wpAny_field hz rfl (x := .ref TI) rfl ?_)
  refine wpAny_bind (wpAny_seqItems hTI rfl ?_)
  show wpAny _ _ (Builtin.SmallTypes.ownedTupleIsFree (.ref z) >>= _) _ _ _
  refine wpAny_bind ?_
  unfold Builtin.SmallTypes.ownedTupleIsFree
  refine wpAny_bind (wpAny_field hz rfl (x := .none) rfl (wpAny_pure ?_))
  simp only [if_true]
  refine wpAny_bind (wpAny_rule ?_)
  refine wpAny_bind (wpAny_field hz rfl (x := .ref TO) rfl ?_)
  refine wpAny_bind (wpAny_setField_rec hz (by simp) fun h₁ hz₁ hs₁ => ?_)
  replace hz₁ : IsZip h₁ z TI TO .ellipsis := hz₁
  have K0 : Kp [z] s.heap h₁ := Kp.refl.step hs₁
  have t0 : IsT h₁ TO #[a1, a2, a3, a4] := K0 _ _ (by simp only [List.mem_cons, List.not_mem_nil, or_false, not_or]; exact D.z_TO.symm) hTO
  refine wpAny_bind ?_
  simp only [List.zipIdx_cons, List.zipIdx_nil, List.forIn_cons, List.forIn_nil]
  refine wpAny_bind (wpAny_bind (wpAny_onRaise ?_))
  show wpAny _ _ (Builtin.SmallTypes.nextOf (.ref i1) >>= _) _ _ _
  refine wpAny_bind (nextOf_tuple_item (K0.iter h1 (by simp only [List.mem_cons, List.not_mem_nil, or_false, not_or]; exact D.z_i1.symm)) (K0.tup p1 (by simp only [List.mem_cons, List.not_mem_nil, or_false, not_or]; exact D.l1_z)) hx1 fun g1 n1 e1 => wpAny_pure ?_)
  have u1 : IsT g1 TO #[a1, a2, a3, a4] := e1.extBut _ _ D.TO_i1 t0
  refine wpAny_bind (wpAny_seqItems u1 rfl ?_)
  refine wpAny_bind (upd_T u1 fun h1b t1 f1 => ?_)
  replace t1 : IsT h1b TO #[x1, a2, a3, a4] := t1
  have K1 := (K0.step e1).step f1
  refine wpAny_bind (wpAny_letGo (wpAny_pure ?_))
  refine wpAny_bind (wpAny_bind (wpAny_onRaise ?_))
  show wpAny _ _ (Builtin.SmallTypes.nextOf (.ref i2) >>= _) _ _ _
  refine wpAny_bind (nextOf_tuple_item (K1.iter h2 (by simp only [List.mem_cons, List.not_mem_nil, or_false, not_or]; exact ⟨D.TO_i2.symm, D.i1_i2.symm, D.z_i2.symm⟩)) (K1.tup p2 (by simp only [List.mem_cons, List.not_mem_nil, or_false, not_or]; exact ⟨D.l2_TO, D.l2_i1, D.l2_z⟩)) hx2 fun g2 n2 e2 => wpAny_pure ?_)
  have u2 : IsT g2 TO #[x1, a2, a3, a4] := e2.extBut _ _ D.TO_i2 t1
  refine wpAny_bind (wpAny_seqItems u2 rfl ?_)
  refine wpAny_bind (upd_T u2 fun h2b t2 f2 => ?_)
  replace t2 : IsT h2b TO #[x1, x2, a3, a4] := t2
  have K2 := (K1.step e2).step f2
  refine wpAny_bind (wpAny_letGo (wpAny_pure ?_))
  refine wpAny_bind (wpAny_bind (wpAny_onRaise ?_))
  show wpAny _ _ (Builtin.SmallTypes.nextOf (.ref i3) >>= _) _ _ _
  refine wpAny_bind (nextOf_tuple_item (K2.iter h3 (by simp only [List.mem_cons, List.not_mem_nil, or_false, not_or]; exact ⟨D.TO_i3.symm, D.i2_i3.symm, D.TO_i3.symm, D.i1_i3.symm, D.z_i3.symm⟩)) (K2.tup p3 (by simp only [List.mem_cons, List.not_mem_nil, or_false, not_or]; exact ⟨D.l3_TO, D.l3_i2, D.l3_TO, D.l3_i1, D.l3_z⟩)) hx3 fun g3 n3 e3 => wpAny_pure ?_)
  have u3 : IsT g3 TO #[x1, x2, a3, a4] := e3.extBut _ _ D.TO_i3 t2
  refine wpAny_bind (wpAny_seqItems u3 rfl ?_)
  refine wpAny_bind (upd_T u3 fun h3b t3 f3 => ?_)
  replace t3 : IsT h3b TO #[x1, x2, x3, a4] := t3
  have K3 := (K2.step e3).step f3
  refine wpAny_bind (wpAny_letGo (wpAny_pure ?_))
  refine wpAny_bind (wpAny_bind (wpAny_onRaise ?_))
  show wpAny _ _ (Builtin.SmallTypes.nextOf (.ref i4) >>= _) _ _ _
  refine wpAny_bind (nextOf_tuple_item (K3.iter h4 (by simp only [List.mem_cons, List.not_mem_nil, or_false, not_or]; exact ⟨D.TO_i4.symm, D.i3_i4.symm, D.TO_i4.symm, D.i2_i4.symm, D.TO_i4.symm, D.i1_i4.symm, D.z_i4.symm⟩)) (K3.tup p4 (by simp only [List.mem_cons, List.not_mem_nil, or_false, not_or]; exact ⟨D.l4_TO, D.l4_i3, D.l4_TO, D.l4_i2, D.l4_TO, D.l4_i1, D.l4_z⟩)) hx4 fun g4 n4 e4 => wpAny_pure ?_)
  have u4 : IsT g4 TO #[x1, x2, x3, a4] := e4.extBut _ _ D.TO_i4 t3
  refine wpAny_bind (wpAny_seqItems u4 rfl ?_)
  refine wpAny_bind (upd_T u4 fun h4b t4 f4 => ?_)
  replace t4 : IsT h4b TO #[x1, x2, x3, x4] := t4
  have K4 := (K3.step e4).step f4
  refine wpAny_bind (wpAny_letGo (wpAny_pure (wpAny_pure ?_)))
  refine wpAny_bind (wpAny_seqItems t4 rfl ?_)
  refine wpAny_bind (wpAny_newTuple ?_)
  have hsz : h4b.objs.size = s.heap.objs.size := by rw [f4.1, e4.1, f3.1, e3.1, f2.1, e2.1, f1.1, e1.1, hs₁.1]
  have hz5 : IsZip h4b z TI TO .ellipsis := (f4.extBut _ _ D.z_TO (e4.extBut _ _ D.z_i4 (f3.extBut _ _ D.z_TO (e3.extBut _ _ D.z_i3 (f2.extBut _ _ D.z_TO (e2.extBut _ _ D.z_i2 (f1.extBut _ _ D.z_TO (e1.extBut _ _ D.z_i1 hz₁))))))))
  have m1 : h4b.IsTupleIter i1 l1 (k + 1) := (((((((n1.extBut f1.extBut D.TO_i1.symm).extBut e2.extBut D.i1_i2).extBut f2.extBut D.TO_i1.symm).extBut e3.extBut D.i1_i3).extBut f3.extBut D.TO_i1.symm).extBut e4.extBut D.i1_i4).extBut f4.extBut D.TO_i1.symm)
  have m2 : h4b.IsTupleIter i2 l2 (k + 1) := (((((n2.extBut f2.extBut D.TO_i2.symm).extBut e3.extBut D.i2_i3).extBut f3.extBut D.TO_i2.symm).extBut e4.extBut D.i2_i4).extBut f4.extBut D.TO_i2.symm)
  have m3 : h4b.IsTupleIter i3 l3 (k + 1) := (((n3.extBut f3.extBut D.TO_i3.symm).extBut e4.extBut D.i3_i4).extBut f4.extBut D.TO_i3.symm)
  have m4 : h4b.IsTupleIter i4 l4 (k + 1) := (n4.extBut f4.extBut D.TO_i4.symm)
  have hzlt : z < h4b.objs.size := Heap.lt_size hz5
  show wpAny _ _ (Builtin.SmallTypes.ownedTupleHandOut (.ref z) (.ref h4b.objs.size) >>= _) _ _ _
  refine wpAny_bind ?_
  unfold Builtin.SmallTypes.ownedTupleHandOut
  have hz6 : IsZip (h4b.push { cls := .type "tuple", data := .seq #[x1, x2, x3, x4] }) z TI TO .ellipsis := Heap.get?_push_of_some _ hz5
  refine wpAny_bind (wpAny_setField_rec hz6 (by simp) fun h7 hz7 hs7 => ?_)
  replace hz7 : IsZip h7 z TI TO (rawInt h4b.objs.size) := hz7
  refine wpAny_setField_rec hz7 (by simp) fun h8 hz8 hs8 => ?_
  replace hz8 : IsZip h8 z TI TO (rawInt h4b.objs.size) := hz8
  have up : ∀ c o, c ≠ z → h4b.get? c = some o → h8.get? c = some o := fun c o c1 e => hs8.extBut _ _ c1 (hs7.extBut _ _ c1 (Heap.get?_push_of_some _ e))
  have hT8 : IsT h8 h4b.objs.size #[x1, x2, x3, x4] := hs8.extBut _ _ (Nat.ne_of_gt hzlt) (hs7.extBut _ _ (Nat.ne_of_gt hzlt) (Heap.get?_push_size _ rfl))
  have hs8' : h8.objs.size = h4b.objs.size + 1 := by rw [hs8.1, hs7.1, Heap.size_push]
  rw [hsz] at hz8 hT8 hs8'
  refine wpAny_pure ⟨_, rfl, ?_⟩
  show Q (.ref h4b.objs.size) _
  rw [hsz]
  exact hQ h8 hz8 (up _ _ D.z_TO.symm t4) (m1.at fun o e => up _ o D.z_i1.symm e) (m2.at fun o e => up _ o D.z_i2.symm e) (m3.at fun o e => up _ o D.z_i3.symm e) (m4.at fun o e => up _ o D.z_i4.symm e) hT8 hs8' (fun c o n e => up c o (fun w => n (by simp [w])) (K4 c o (fun w => n (sub9 w)) e))
theorem zip4_end {Q : Fin → Shared → Prop} (hh : A.handled = none) (D : Z4 z TI TO i1 i2 i3 i4 l1 l2 l3 l4)
    (hz : IsZip s.heap z TI TO .none) (hTI : IsT s.heap TI #[.ref i1, .ref i2, .ref i3, .ref i4]) (hTO : IsT s.heap TO #[a1, a2, a3, a4])
    (h1 : s.heap.IsTupleIter i1 l1 k) (p1 : s.heap.IsTuple l1 xs1) (h2 : s.heap.IsTupleIter i2 l2 k) (p2 : s.heap.IsTuple l2 xs2) (h3 : s.heap.IsTupleIter i3 l3 k) (p3 : s.heap.IsTuple l3 xs3) (h4 : s.heap.IsTupleIter i4 l4 k) (p4 : s.heap.IsTuple l4 xs4) (hx : xs1[k]? = none)
    (hE : ∀ h' e, Kp [z, TO, i1, i2, i3, i4] s.heap h' → (∃ o, h'.get? e = some o ∧ o.cls = .type "StopIteration") → E (.ref e) { s with heap := h' }) :
    wpAny (model prog w) A (Builtin.«zip.__next__» ⟨[.ref z], []⟩) Q E s := by
  show wpAny _ _ (field (.ref z) 2 >>= _) _ _ _
  refine wpAny_bind (wpAny_field hz rfl (x := .bool false) rfl ?_)
  show wpAny _ _ (field (.ref z) 3 >>= _) _ _ _
  refine wpAny_bind (wpAny_field hz rfl (x := .ref TI) rfl ?_)
  refine wpAny_bind (wpAny_seqItems hTI rfl ?_)
  show wpAny _ _ (Builtin.SmallTypes.ownedTupleIsFree (.ref z) >>= _) _ _ _
  refine wpAny_bind ?_
  unfold Builtin.SmallTypes.ownedTupleIsFree
  refine wpAny_bind (wpAny_field hz rfl (x := .none) rfl (wpAny_pure ?_))
  simp only [if_true]
  refine wpAny_bind (wpAny_rule ?_)
  refine wpAny_bind (wpAny_field hz rfl (x := .ref TO) rfl ?_)
  refine wpAny_bind (wpAny_setField_rec hz (by simp) fun h₁ hz₁ hs₁ => ?_)
  replace hz₁ : IsZip h₁ z TI TO .ellipsis := hz₁
  have K0 : Kp [z] s.heap h₁ := Kp.refl.step hs₁
  have t0 : IsT h₁ TO #[a1, a2, a3, a4] := K0 _ _ (by simp only [List.mem_cons, List.not_mem_nil, or_false, not_or]; exact D.z_TO.symm) hTO
  refine wpAny_bind ?_
  simp only [List.zipIdx_cons, List.zipIdx_nil, List.forIn_cons, List.forIn_nil]
  refine wpAny_bind (wpAny_bind (wpAny_onRaise ?_))
  show wpAny _ _ (Builtin.SmallTypes.nextOf (.ref i1) >>= _) _ _ _
  refine wpAny_bind (nextOf_tuple_end hh (K0.iter h1 (by simp only [List.mem_cons, List.not_mem_nil, or_false, not_or]; exact D.z_i1.symm)) (K0.tup p1 (by simp only [List.mem_cons, List.not_mem_nil, or_false, not_or]; exact D.l1_z)) hx fun g e hs2 he => ?_)
  obtain ⟨oe, hoe, hce⟩ := he
  have hz2 : IsZip g z TI TO .ellipsis := hs2 _ _ D.z_i1 hz₁
  have hez : e ≠ z := fun x => by subst x; rw [hz2] at hoe; cases hoe; simp at hce
  refine wpAny_setField_rec hz2 (by simp) fun h3 _ hs3 => hE h3 e (fun c o n x => hs3.extBut _ _ (fun w => n (by simp [w])) (hs2 _ _ (fun w => n (by simp [w])) (K0 c o (fun w => n (sub2 w)) x))) ⟨oe, hs3.extBut _ _ hez hoe, hce⟩
theorem pyNext4_item {Q : Option Value → Shared → Prop} (D : Z4 z TI TO i1 i2 i3 i4 l1 l2 l3 l4)
    (hz : IsZip s.heap z TI TO .none) (hTI : IsT s.heap TI #[.ref i1, .ref i2, .ref i3, .ref i4]) (hTO : IsT s.heap TO #[a1, a2, a3, a4])
    (h1 : s.heap.IsTupleIter i1 l1 k) (p1 : s.heap.IsTuple l1 xs1) (h2 : s.heap.IsTupleIter i2 l2 k) (p2 : s.heap.IsTuple l2 xs2) (h3 : s.heap.IsTupleIter i3 l3 k) (p3 : s.heap.IsTuple l3 xs3) (h4 : s.heap.IsTupleIter i4 l4 k) (p4 : s.heap.IsTuple l4 xs4) (hx1 : xs1[k]? = some x1) (hx2 : xs2[k]? = some x2) (hx3 : xs3[k]? = some x3) (hx4 : xs4[k]? = some x4)
    (hQ : ∀ h', IsZip h' z TI TO (rawInt s.heap.objs.size) → IsT h' TO #[x1, x2, x3, x4] → h'.IsTupleIter i1 l1 (k + 1) → h'.IsTupleIter i2 l2 (k + 1) → h'.IsTupleIter i3 l3 (k + 1) → h'.IsTupleIter i4 l4 (k + 1) → IsT h' s.heap.objs.size #[x1, x2, x3, x4] → h'.objs.size = s.heap.objs.size + 1 →
      Kp [z, TO, i1, i2, i3, i4] s.heap h' → Q (some (.ref s.heap.objs.size)) { s with heap := h' }) : wpAny (model prog w) A (pyNext (.ref z)) Q E s := by
  have hT : s.TypeIs (.ref z) "zip" := ⟨_, hz, rfl⟩
  unfold pyNext
  exact wpAny_bind (wpAny_attempt (wpAny_callSpecial?_slot (name := Str.ofString "__next__") hT F.slot_zip_next
    (wpAny_call_entry F.slot_zip_next hT F.entry_zip_next
      (zip4_item D hz hTI hTO h1 p1 h2 p2 h3 p3 h4 p4 hx1 hx2 hx3 hx4 fun h' b1 b2 b3 b4 b5 b6 b7 b8 b9 => wpAny_pure (hQ h' b1 b2 b3 b4 b5 b6 b7 b8 b9)) (F.args_zip_next_1 _))))
theorem pyNext4_end {Q : Option Value → Shared → Prop} (hh : A.handled = none) (D : Z4 z TI TO i1 i2 i3 i4 l1 l2 l3 l4)
    (hz : IsZip s.heap z TI TO .none) (hTI : IsT s.heap TI #[.ref i1, .ref i2, .ref i3, .ref i4]) (hTO : IsT s.heap TO #[a1, a2, a3, a4])
    (h1 : s.heap.IsTupleIter i1 l1 k) (p1 : s.heap.IsTuple l1 xs1) (h2 : s.heap.IsTupleIter i2 l2 k) (p2 : s.heap.IsTuple l2 xs2) (h3 : s.heap.IsTupleIter i3 l3 k) (p3 : s.heap.IsTuple l3 xs3) (h4 : s.heap.IsTupleIter i4 l4 k) (p4 : s.heap.IsTuple l4 xs4) (hx : xs1[k]? = none)
    (hQ : ∀ h', Kp [z, TO, i1, i2, i3, i4] s.heap h' → Q none { s with heap := h' }) : wpAny (model prog w) A (pyNext (.ref z)) Q E s := by
  have hT : s.TypeIs (.ref z) "zip" := ⟨_, hz, rfl⟩
  unfold pyNext
  refine wpAny_bind (wpAny_attempt (wpAny_callSpecial?_slot (name := Str.ofString "__next__") hT F.slot_zip_next
    (wpAny_call_entry F.slot_zip_next hT F.entry_zip_next (zip4_end hh D hz hTI hTO h1 p1 h2 p2 h3 p3 h4 p4 hx fun h' e hk he => ?_) (F.args_zip_next_1 _))))
  obtain ⟨o, ho, hc⟩ := he
  refine wpAny_bind (wpAny_isInstance (T := "StopIteration") (b := true) ⟨o, ho, hc⟩ isSubtype_stop ?_)
  exact wpAny_pure (hQ _ hk)
end
abbrev zH (h : Heap) (l : Addr) : Heap := h.push { cls := .type "tuple_iterator", data := .fields #[.ref l, .int 0 0] }
abbrev zH4 (h : Heap) (l1 l2 l3 l4 : Addr) : Heap := zH (zH (zH (zH h l1) l2) l3) l4
abbrev zH5 (h : Heap) (l1 l2 l3 l4 : Addr) : Heap := (zH4 h l1 l2 l3 l4).push { cls := .type "tuple", data := .seq #[.ref h.objs.size, .ref (zH h l1).objs.size, .ref (zH (zH h l1) l2).objs.size, .ref (zH (zH (zH h l1) l2) l3).objs.size] }
abbrev zH6 (h : Heap) (l1 l2 l3 l4 : Addr) : Heap := (zH5 h l1 l2 l3 l4).push { cls := .type "tuple", data := .seq #[.none, .none, .none, .none] }
abbrev zH7 (h : Heap) (l1 l2 l3 l4 : Addr) : Heap := (zH6 h l1 l2 l3 l4).push { cls := .type "zip", data := .fields #[.none, .bool false, .bool false, .ref (zH4 h l1 l2 l3 l4).objs.size, .ref (zH5 h l1 l2 l3 l4).objs.size] }
theorem meets_zip4 (l1 l2 l3 l4 : Addr) (xs1 xs2 xs3 xs4 : Array Value) :
    Meets (Builtin.«zip.__new__» ⟨[.type "zip", .ref l1, .ref l2, .ref l3, .ref l4], []⟩) (fun _ R s => s.heap.IsTuple l1 xs1 ∧ s.heap.IsTuple l2 xs2 ∧ s.heap.IsTuple l3 xs3 ∧ s.heap.IsTuple l4 xs4 ∧
      R (.ok (.ret (.ref (zH6 s.heap l1 l2 l3 l4).objs.size))) { s with heap := zH7 s.heap l1 l2 l3 l4 }) :=
  .of_wp fun prog w A R s h => by
    obtain ⟨hp, g, d, tk, os⟩ := s; obtain ⟨hl1, hl2, hl3, hl4, h⟩ := h
    have hsub := sub_zip
    have hL1 : Heap.IsTuple (Shared.heap ⟨hp, g, d, tk, os⟩) l1 xs1 := hl1
    have hL2 : Heap.IsTuple (Shared.heap ⟨zH hp l1, g, d, tk, os⟩) l2 xs2 := Heap.IsTuple.push hl2 _
    have hL3 : Heap.IsTuple (Shared.heap ⟨zH (zH hp l1) l2, g, d, tk, os⟩) l3 xs3 := (Heap.IsTuple.push hl3 _).push _
    have hL4 : Heap.IsTuple (Shared.heap ⟨zH (zH (zH hp l1) l2) l3, g, d, tk, os⟩) l4 xs4 := ((Heap.IsTuple.push hl4 _).push _).push _
    wp_walk using wpAny_pyIter_tuple hL1, wpAny_pyIter_tuple hL2, wpAny_pyIter_tuple hL3, wpAny_pyIter_tuple hL4
    exact ⟨_, rfl, h⟩
theorem z4_apart (I l1 l2 l3 l4 : Nat) (h1 : l1 < I) (h2 : l2 < I) (h3 : l3 < I) (h4 : l4 < I) : Z4 (I + 6) (I + 4) (I + 5) I (I + 1) (I + 2) (I + 3) l1 l2 l3 l4 := by
  constructor <;> (refine PySem.W.neN ?_; omega)
section
variable {prog : Program} {w : World} {A : Around} {E : Value → Shared → Prop} {s : Shared} {l1 l2 l3 l4 : Addr} {xs1 xs2 xs3 xs4 : Array Value}
theorem call_zip4 {Q : Value → Shared → Prop} (hl1 : s.heap.IsTuple l1 xs1) (hl2 : s.heap.IsTuple l2 xs2) (hl3 : s.heap.IsTuple l3 xs3) (hl4 : s.heap.IsTuple l4 xs4)
    (h : ∀ h', IsZip h' (s.heap.objs.size + 6) (s.heap.objs.size + 4) (s.heap.objs.size + 5) .none → IsT h' (s.heap.objs.size + 4) #[.ref s.heap.objs.size, .ref (s.heap.objs.size + 1), .ref (s.heap.objs.size + 2), .ref (s.heap.objs.size + 3)] →
      IsT h' (s.heap.objs.size + 5) #[.none, .none, .none, .none] → h'.IsTupleIter s.heap.objs.size l1 0 → h'.IsTupleIter (s.heap.objs.size + 1) l2 0 → h'.IsTupleIter (s.heap.objs.size + 2) l3 0 → h'.IsTupleIter (s.heap.objs.size + 3) l4 0 →
      (∀ c o, s.heap.get? c = some o → h'.get? c = some o) → Q (.ref (s.heap.objs.size + 6)) { s with heap := h' }) :
    wpAny (model prog w) A (call (.type "zip") [.ref l1, .ref l2, .ref l3, .ref l4]) Q E s := by
  refine callType_new F.called_zip (by decide) (typeCall_zip_4 _ _ _ _) (newCall_zip_4 _ _ _ _) (fun obj => args_init_5 obj _ _ _ _) F.entry_zip_new
    (meets_zip4 l1 l2 l3 l4 xs1 xs2 xs3 xs4) ⟨hl1, hl2, hl3, hl4, ?_⟩
  have z1 : (zH s.heap l1).objs.size = s.heap.objs.size + 1 := Heap.size_push ..
  have z2 : (zH (zH s.heap l1) l2).objs.size = s.heap.objs.size + 2 := by rw [Heap.size_push, z1]
  have z3 : (zH (zH (zH s.heap l1) l2) l3).objs.size = s.heap.objs.size + 3 := by rw [Heap.size_push, z2]
  have z4 : (zH4 s.heap l1 l2 l3 l4).objs.size = s.heap.objs.size + 4 := by rw [Heap.size_push, z3]
  have z5 : (zH5 s.heap l1 l2 l3 l4).objs.size = s.heap.objs.size + 5 := by rw [Heap.size_push, z4]
  have z6 : (zH6 s.heap l1 l2 l3 l4).objs.size = s.heap.objs.size + 6 := by rw [Heap.size_push, z5]
  have pu : ∀ {c : Addr} {o o' : Obj} {g : Heap}, g.get? c = some o → (g.push o').get? c = some o := fun e => Heap.get?_push_of_some _ e
  have g7 : (zH7 s.heap l1 l2 l3 l4).get? (zH6 s.heap l1 l2 l3 l4).objs.size = some _ := Heap.get?_push_size _ rfl
  have g6 : (zH7 s.heap l1 l2 l3 l4).get? (zH5 s.heap l1 l2 l3 l4).objs.size = some _ := pu (Heap.get?_push_size _ rfl)
  have g5 : (zH7 s.heap l1 l2 l3 l4).get? (zH4 s.heap l1 l2 l3 l4).objs.size = some _ := pu (pu (Heap.get?_push_size _ rfl))
  have g4 : (zH7 s.heap l1 l2 l3 l4).get? (zH (zH (zH s.heap l1) l2) l3).objs.size = some _ := pu (pu (pu (Heap.get?_push_size _ rfl)))
  have g3 : (zH7 s.heap l1 l2 l3 l4).get? (zH (zH s.heap l1) l2).objs.size = some _ := pu (pu (pu (pu (Heap.get?_push_size _ rfl))))
  have g2 : (zH7 s.heap l1 l2 l3 l4).get? (zH s.heap l1).objs.size = some _ := pu (pu (pu (pu (pu (Heap.get?_push_size _ rfl)))))
  have g1 : (zH7 s.heap l1 l2 l3 l4).get? s.heap.objs.size = some _ := pu (pu (pu (pu (pu (pu (Heap.get?_push_size _ rfl))))))
  show _ ∧ _
  rw [z6, z4, z5] at g7
  rw [z5] at g6
  rw [z4, z1, z2, z3] at g5
  rw [z3] at g4
  rw [z2] at g3
  rw [z1] at g2
  rw [z6]
  exact ⟨⟨_, g7, rfl⟩, h _ g7 g5 g6 ⟨_, g1, rfl, rfl⟩ ⟨_, g2, rfl, rfl⟩ ⟨_, g3, rfl, rfl⟩ ⟨_, g4, rfl, rfl⟩ fun c o x => pu (pu (pu (pu (pu (pu (pu x))))))⟩
end
/-- four tuples as they stand at each turn, the items in new tuples -/
def ItzQ (K : PySem.W.Frag) (a b c d : Addr) : It :=
  ⟨fun i H => ∃ (ws xs ys zs : List V) (w x y z : V), SqT K H a ws ∧ SqT K H b xs ∧ SqT K H c ys ∧ SqT K H d zs ∧ ws[i]? = some w ∧ xs[i]? = some x ∧ ys[i]? = some y ∧ zs[i]? = some z,
    fun i H v H' => ∃ T w x y z, v = .ref T ∧ H T = none ∧ H' = upd H T (.tup [w, x, y, z]) ∧ (∀ ws, SqT K H a ws → ws[i]? = some w) ∧ (∀ xs, SqT K H b xs → xs[i]? = some x) ∧ (∀ ys, SqT K H c ys → ys[i]? = some y) ∧ ∀ zs, SqT K H d zs → zs[i]? = some z,
    fun i H => ∃ ws xs ys zs : List V, SqT K H a ws ∧ SqT K H b xs ∧ SqT K H c ys ∧ SqT K H d zs ∧ ws.length ≤ i⟩
theorem turn_zipQ {P : Program} {w : World} {K : PySem.W.Frag} {elts : List Expr} {kk : Nat} {tpos : Pos} {l1 l2 l3 l4 z TI TO i1 i2 i3 i4 : Addr} (D : Z4 z TI TO i1 i2 i3 i4 l1 l2 l3 l4) :
    Turn P w K (.Tuple elts kk tpos) (ItzQ K l1 l2 l3 l4) [z, TI, TO, i1, i2, i3, i4] z (fun i h => IsZip h z TI TO .none ∧ IsT h TI #[.ref i1, .ref i2, .ref i3, .ref i4] ∧ (∃ a b c d, IsT h TO #[a, b, c, d]) ∧ h.IsTupleIter i1 l1 i ∧ h.IsTupleIter i2 l2 i ∧ h.IsTupleIter i3 l3 i ∧ h.IsTupleIter i4 l4 i) where
  mem := by simp
  obj := fun i h st c hc => by
    obtain ⟨hz, hTI, ⟨x, y, u, v, hTO⟩, ⟨o1, e1, _, d1⟩, ⟨o2, e2, _, d2⟩, ⟨o3, e3, _, d3⟩, ⟨o4, e4, _, d4⟩⟩ := st
    simp only [List.mem_cons, List.not_mem_nil, or_false] at hc
    rcases hc with q | q | q | q | q | q | q
    · rw [q]; exact ⟨_, hz, fun v q => nomatch q⟩
    · rw [q]; exact ⟨_, hTI, fun v q => nomatch q⟩
    · rw [q]; exact ⟨_, hTO, fun v q => nomatch q⟩
    · rw [q]; exact ⟨o1, e1, fun v q => by rw [d1] at q; cases q⟩
    · rw [q]; exact ⟨o2, e2, fun v q => by rw [d2] at q; cases q⟩
    · rw [q]; exact ⟨o3, e3, fun v q => by rw [d3] at q; cases q⟩
    · rw [q]; exact ⟨o4, e4, fun v q => by rw [d4] at q; cases q⟩
  keep := fun i h h' st k => by
    obtain ⟨hz, hTI, ⟨x, y, u, v, hTO⟩, h1, h2, h3, h4⟩ := st
    exact ⟨k z (by simp) _ hz, k TI (by simp) _ hTI, ⟨x, y, u, v, k TO (by simp) _ hTO⟩, h1.at fun o q => k i1 (by simp) o q, h2.at fun o q => k i2 (by simp) o q, h3.at fun o q => k i3 (by simp) o q, h4.at fun o q => k i4 (by simp) o q⟩
  item := by
    intro X hP hw hK hc i pins s σ H E I hf st hg
    subst hP hw hK
    obtain ⟨hz, hTI, ⟨x0, y0, u0, v0, hTO⟩, h1, h2, h3, h4⟩ := st
    obtain ⟨q1, q2, q3, q4, x1, x2, x3, x4, t1, t2, t3, t4, g1, g2, g3, g4⟩ := hg
    obtain ⟨its1, rv1, p1, _⟩ := I.tuple t1
    obtain ⟨its2, rv2, p2, _⟩ := I.tuple t2
    obtain ⟨its3, rv3, p3, _⟩ := I.tuple t3
    obtain ⟨its4, rv4, p4, _⟩ := I.tuple t4
    obtain ⟨u1, hu1, ru1⟩ := rv1.get g1
    obtain ⟨u2, hu2, ru2⟩ := rv2.get g2
    obtain ⟨u3, hu3, ru3⟩ := rv3.get g3
    obtain ⟨u4, hu4, ru4⟩ := rv4.get g4
    have hzl : z < s.heap.objs.size := Heap.lt_size hz
    refine pyNext4_item D hz hTI hTO h1 p1 h2 p2 h3 p3 h4 p4 (x1 := u1) (x2 := u2) (x3 := u3) (x4 := u4) (by simpa using hu1) (by simpa using hu2) (by simpa using hu3) (by simpa using hu4) fun h' z' TO' m1 m2 m3 m4 hT hsz hk => ?_
    refine ⟨_, rfl, wpAny_letOwnedTupleGo_zip (s := { s with heap := h' }) z' fun h'' z'' sb => ?_⟩
    have hT2 : h''.get? s.heap.objs.size = some { cls := .type "tuple", data := .seq #[u1, u2, u3, u4] } := (sb.2 _ (Nat.ne_of_gt hzl)).trans hT
    have new : ObjOk X.prog X.w (upd H s.heap.objs.size (.tup [x1, x2, x3, x4])) h'' s.heap.objs.size (.tup [x1, x2, x3, x4]) :=
      ⟨by show 4 ≤ sizeLine; decide, [u1, u2, u3, u4], .cons ru1 (.cons ru2 (.cons ru3 (.cons ru4 .nil))), ⟨_, hT2, rfl, _, rfl⟩⟩
    have nin : ∀ {c : Addr}, c ∉ [z, TI, TO, i1, i2, i3, i4] → c ∉ [z, TO, i1, i2, i3, i4] := fun h w => h (sub6 w)
    have I1 : Inv X pins σ (upd H s.heap.objs.size (.tup [x1, x2, x3, x4])) { s with heap := h'' } :=
      I.turnedNew (t' := s.toks) (ch := [z, TI, TO, i1, i2, i3, i4]) (fun c o hb q => (sb.2 c (fun q' => hb (by simp [q']))).trans (hk c o (nin hb) q)) hf (Nat.le_refl _) new
    have lts : ∀ c ∈ [z, TI, TO, i1, i2, i3, i4], c < s.heap.objs.size := fun c hcm => by
      simp only [List.mem_cons, List.not_mem_nil, or_false] at hcm
      rcases hcm with q | q | q | q | q | q | q
      · rw [q]; exact hzl
      · rw [q]; exact Heap.lt_size hTI
      · rw [q]; exact Heap.lt_size hTO
      · rw [q]; obtain ⟨_, e, _⟩ := h1; exact Heap.lt_size e
      · rw [q]; obtain ⟨_, e, _⟩ := h2; exact Heap.lt_size e
      · rw [q]; obtain ⟨_, e, _⟩ := h3; exact Heap.lt_size e
      · rw [q]; obtain ⟨_, e, _⟩ := h4; exact Heap.lt_size e
    refine ⟨.ref s.heap.objs.size, _, I1, rfl, ⟨_, x1, x2, x3, x4, rfl, I.hok.fresh (Nat.le_refl _), rfl, fun l hl => by rw [I.tuple_inj hl t1]; exact g1, fun l hl => by rw [I.tuple_inj hl t2]; exact g2, fun l hl => by rw [I.tuple_inj hl t3]; exact g3, fun l hl => by rw [I.tuple_inj hl t4]; exact g4⟩, ⟨z'', ?_, ⟨u1, u2, u3, u4, ?_⟩, ?_, ?_, ?_, ?_⟩, fun c hcm => ?_⟩
    · exact (sb.2 _ D.z_TI.symm).trans (hk _ _ (by simp only [List.mem_cons, List.not_mem_nil, or_false, not_or]; exact ⟨D.z_TI.symm, D.TI_TO, D.TI_i1, D.TI_i2, D.TI_i3, D.TI_i4⟩) hTI)
    · exact (sb.2 _ D.z_TO.symm).trans TO'
    · exact m1.at fun o q => (sb.2 _ D.z_i1.symm).trans q
    · exact m2.at fun o q => (sb.2 _ D.z_i2.symm).trans q
    · exact m3.at fun o q => (sb.2 _ D.z_i3.symm).trans q
    · exact m4.at fun o q => (sb.2 _ D.z_i4.symm).trans q
    · rw [upd_ne (Nat.ne_of_lt (lts c hcm))]
      exact (hf c hcm).1
  done := by
    intro X hP hw hK hc i pins s σ H E I hf st hg
    subst hP hw hK
    obtain ⟨hz, hTI, ⟨x0, y0, u0, v0, hTO⟩, h1, h2, h3, h4⟩ := st
    obtain ⟨q1, q2, q3, q4, t1, t2, t3, t4, hend⟩ := hg
    obtain ⟨its1, rv1, p1, _⟩ := I.tuple t1
    obtain ⟨its2, rv2, p2, _⟩ := I.tuple t2
    obtain ⟨its3, rv3, p3, _⟩ := I.tuple t3
    obtain ⟨its4, rv4, p4, _⟩ := I.tuple t4
    have ll := rv1.length
    have nin : ∀ {c : Addr}, c ∉ [z, TI, TO, i1, i2, i3, i4] → c ∉ [z, TO, i1, i2, i3, i4] := fun h w => h (sub6 w)
    exact pyNext4_end (I.ok.hd hc) D hz hTI hTO h1 p1 h2 p2 h3 p3 h4 p4 (by simp; omega) fun h' hk => ⟨rfl, I.turnedL (t' := s.toks) (ch := [z, TI, TO, i1, i2, i3, i4]) (fun c o hb q => hk c o (nin hb) q) hf⟩
  self := fun A i s Q E st h => wpAny_pyIter_zip st.1 h
def iZipQ (K : PySem.W.Frag) (ta : TA) : TI := fun σ H R => ta σ H fun vs H1 => ∃ a b c d ws xs ys zs, vs = [.ref a, .ref b, .ref c, .ref d] ∧ SqT K H1 a ws ∧ SqT K H1 b xs ∧ SqT K H1 c ys ∧ SqT K H1 d zs ∧ R (ItzQ K a b c d) H1
theorem pi_zipQ {X : Cx} {e1 e2 e3 e4 : Expr} {ta : TA} {p pos tpos : Pos} {elts : List Expr} {kk : Nat} (hg : Gl X "zip") (hm : X.mg "zip" = none) (ha : PA X [e1, e2, e3, e4] ta)
    (hs : starEach [e1, e2, e3, e4] X.env = (false, eval e1 X.env) :: starEach [e2, e3, e4] X.env := by rfl) (hpl : (backTo pos (starEach [e2, e3, e4] X.env)).any (·.1) = false := by rfl) :
    PI X (.Tuple elts kk tpos) (.Call (.Name "zip" p) [e1, e2, e3, e4] [] pos) (iZipQ X.K ta) := by
  refine ⟨fun pins s σ H R I h => ?_⟩
  refine Call_ (ld_blt I hg hm PyProof.Rows.boot_zip (PyProof.Rows.callWith_type1 (thn (ha.run pos pins s σ H _ I h) fun us s1 ⟨vs, H1, I1, r1, q1⟩ => ?_) hs hpl))
  obtain ⟨a, b, c, d, ws, xs, ys, zs, ex, t1, t2, t3, t4, q⟩ := q1
  subst ex
  cases r1 with
  | cons r rr => cases rr with
    | cons r' rr => cases rr with
      | cons r'' rr => cases rr with
        | cons r3 rr =>
          cases rr
          cases r
          cases r'
          cases r''
          cases r3
          obtain ⟨N, hN⟩ : ∃ N, s1.heap.objs.size = N := ⟨_, rfl⟩
          have fresh : ∀ x, x ∈ [N + 6, N + 4, N + 5, N, N + 1, N + 2, N + 3] → FpOk X pins H1 x := fun x hx => by
            have hle : s1.heap.objs.size ≤ x := by
              rw [hN]
              simp only [List.mem_cons, List.not_mem_nil, or_false] at hx
              rcases hx with q | q | q | q | q | q | q <;> rw [q] <;> first | exact Nat.le_add_right _ _ | exact Nat.le_refl _
            exact I1.fpOk hle (I1.hok.fresh hle)
          obtain ⟨its1, rv1, p1, _⟩ := I1.tuple t1
          obtain ⟨its2, rv2, p2, _⟩ := I1.tuple t2
          obtain ⟨its3, rv3, p3, _⟩ := I1.tuple t3
          obtain ⟨its4, rv4, p4, _⟩ := I1.tuple t4
          obtain ⟨o1, ho1, _⟩ := id p1
          obtain ⟨o2, ho2, _⟩ := id p2
          obtain ⟨o3, ho3, _⟩ := id p3
          obtain ⟨o4, ho4, _⟩ := id p4
          refine call_zip4 (show s1.heap.IsTuple a its1.toArray from p1) (show s1.heap.IsTuple b its2.toArray from p2) (show s1.heap.IsTuple c its3.toArray from p3) (show s1.heap.IsTuple d its4.toArray from p4) fun h' hz hTI hTO m1 m2 m3 m4 hk => wpAny_pyIter_zip hz ?_
          have I2 : Inv X pins σ H1 { s1 with heap := h' } := I1.kept (t' := s1.toks) hk
          have D := z4_apart s1.heap.objs.size a b c d (Heap.lt_size ho1) (Heap.lt_size ho2) (Heap.lt_size ho3) (Heap.lt_size ho4)
          rw [hN] at hz hTI hTO m1 m2 m3 m4 D
          rw [hN]
          exact ⟨N + 6, [N + 6, N + 4, N + 5, N, N + 1, N + 2, N + 3], _, _, H1, rfl, I2, turn_zipQ D, ⟨hz, hTI, ⟨_, _, _, _, hTO⟩, m1, m2, m3, m4⟩, fresh, q⟩
end Mc

set_option Elab.async false
set_option linter.all false
set_option maxRecDepth 100000
set_option maxHeartbeats 4000000
set_option exponentiation.threshold 20000
namespace Mc
open PySem PySem.Spec PyProof.Rows L2 ClX StX
open RZ
theorem sqT_ext {K : PySem.W.Frag} {H H' : Hp} {a : Addr} {xs : List V} (h : SqT K H a xs) (e : Ext H H') : SqT K H' a xs := SqT.ext h e
theorem lc_zipQ {K : PySem.W.Frag} {a b c d : Addr} {ws xs ys zs : List V} {g : TG} {tt : TT} {te : TE} {vs : List Nat} {σ : L2.St} {H1 : Hp} {D : Addr} {Qd : Hp → Prop} (l1 : xs.length = ws.length) (l2 : ys.length = ws.length) (l3 : zs.length = ws.length) (Pv : Nat → Hp → Prop) (h0 : Pv 0 (upd H1 D (.lst []))) (hS : ∀ i H, Pv i H → SqT K H a ws ∧ SqT K H b xs ∧ SqT K H c ys ∧ SqT K H d zs)
    (hs : ∀ i w x y z T H, ws[i]? = some w → xs[i]? = some x → ys[i]? = some y → zs[i]? = some z → H T = none → Pv i H → g (.ref T) (wipe σ vs) (upd H T (.tup [w, x, y, z])) fun σ2 H2 => wipe σ2 vs = wipe σ vs ∧ tt σ2 H2 fun b H3 => if b = true then te σ2 H3 fun y H4 => ∃ acc, H4 D = some (.lst acc) ∧ acc.length < sizeLine ∧ Pv (i + 1) (upd H4 D (.lst (acc ++ [y]))) else Pv (i + 1) H3) (hd : ∀ H, Pv ws.length H → Qd H) : ∃ W : Nat → Nat → Hp → Prop, (∃ m, W 0 m (upd H1 D (.lst []))) ∧ ∀ i m H, W i m H →
      ((ItzQ K a b c d).stop i H ∧ Qd H) ∨ ((ItzQ K a b c d).go i H ∧ ∃ Nx : Hp → Prop, (∀ H', Nx H' → ∃ m', m' < m ∧ W (i + 1) m' H') ∧ ∀ x H', (ItzQ K a b c d).yld i H x H' → g x (wipe σ vs) H' fun σ2 H2 => wipe σ2 vs = wipe σ vs ∧ tt σ2 H2 fun b H3 => if b = true then te σ2 H3 fun y H4 => ∃ acc, H4 D = some (.lst acc) ∧ acc.length < sizeLine ∧ Nx (upd H4 D (.lst (acc ++ [y]))) else Nx H3) := by
  refine ⟨fun i m H => i + m = ws.length ∧ Pv i H, ⟨ws.length, Nat.zero_add _, h0⟩, fun i m H ⟨hm, p⟩ => ?_⟩
  obtain ⟨s1, s2, s3, s4⟩ := hS i H p
  rcases Nat.eq_zero_or_pos m with z | z
  · have e : i = ws.length := by omega
    exact .inl ⟨⟨ws, xs, ys, zs, s1, s2, s3, s4, Nat.le_of_eq e.symm⟩, hd H (e ▸ p)⟩
  · have lt : i < ws.length := by omega
    refine .inr ⟨⟨ws, xs, ys, zs, ws[i], xs[i]'(l1 ▸ lt), ys[i]'(l2 ▸ lt), zs[i]'(l3 ▸ lt), s1, s2, s3, s4, List.getElem?_eq_getElem lt, List.getElem?_eq_getElem _, List.getElem?_eq_getElem _, List.getElem?_eq_getElem _⟩, Pv (i + 1), fun _ q => ⟨m - 1, by omega, by omega, q⟩, ?_⟩
    rintro v H' ⟨T, w, x, y, z, rfl, hT, rfl, h1, h2, h3, h4⟩
    exact hs i w x y z T H (h1 ws s1) (h2 xs s2) (h3 ys s3) (h4 zs s4) hT p
/-- the nine moves -/
def mvL : List (Int × Int) := [(-1, -1), (-1, 0), (-1, 1), (0, -1), (0, 0), (0, 1), (1, -1), (1, 0), (1, 1)]
/-- what the text says of MOVES -/
structure MovT (K : PySem.W.Frag) (mg : Str → Option Value) (mX : Addr) (mas : List Addr) : Prop where
  mx : mg "MOVES" = some (.ref mX)
  all : ∀ H, SqT K H mX (mas.map V.ref)
  at_ : Paired (fun a (m : Int × Int) => ∀ H, SqT K H a [.int m.1, .int m.2]) mas mvL
section
variable {P : Program} {w : World} {K : PySem.W.Frag} {mg : Str → Option Value} {base : Heap} {f U0 kX M0 R0 C0 aX mX : Addr} {mas : List Addr} {mc : Value} {fd : FuncData}
/-- a least gap on one axis -/
def lgF (i : Int) (s : Int × Int) (part parts : Int) : Int × Int := if i = 0 then (0, 1) else if i = 1 then (s.1 * (parts - part - 1), s.2 * parts) else (s.1 * part, s.2 * parts)
def jnF (kd : Bool) (e n : Int × Int) : Int × Int := if kd then (if e.1 * n.2 < n.1 * e.2 then n else e) else (e.1 * n.2 + n.1 * e.2, e.2 * n.2)
def plF (cs : List Cut) (s : Nat) : Pr := (placesF cs).getD s (0, 0)
def csF (g : GaugeM) (ph : Nat) : List Cut := g.rs.getD ph []
def sdE (g : GaugeM) (n : Nat) : Int × Int := (g.le.1, g.le.2 * (countsF g.rs n).1)
def sdN (g : GaugeM) (n : Nat) : Int × Int := (g.ln.1, g.ln.2 * (countsF g.rs n).2)
/-- the least gaps of a move together -/
def leF (g : GaugeM) (ph s : Nat) (m : Int × Int) : Int × Int :=
  jnF g.kd (lgF m.1 (sdE g (ffF g.rs.length ph)) (plF (csF g ph) s).1 (colsF (csF g ph))) (lgF m.2 (sdN g (ffF g.rs.length ph)) (plF (csF g ph) s).2 (rowsF (csF g ph)))
def rcB (g : GaugeM) (ph s : Nat) (m : Int × Int) : Bool := decide ((leF g ph s m).1 * (gtF g (ffF g.rs.length ph)).2 < (gtF g (ffF g.rs.length ph)).1 * (leF g ph s m).2)
def rcP (mas : List Addr) (g : GaugeM) (ph s : Nat) : List (Addr × Int × Int) := (mas.zip mvL).filter fun q => rcB g ph s q.2
def rcV (mas : List Addr) (g : GaugeM) (ph s : Nat) : List V := (rcP mas g ph s).map fun q => V.ref q.1
theorem lg_pos {i : Int} {s : Int × Int} {part parts : Int} (hs : 0 < s.2) (h : 0 < parts) : 0 < (lgF i s part parts).2 := by
  unfold lgF
  split
  · decide
  · split
    · exact Int.mul_pos hs h
    · exact Int.mul_pos hs h
theorem lg_small {i : Int} {s : Int × Int} {part parts : Int} (h1 : s.1.natAbs < 2 ^ 70) (h2 : s.2.natAbs < 2 ^ 880) (p0 : 0 ≤ part) (p1 : part < parts) (p2 : parts ≤ 32) : (lgF i s part parts).1.natAbs < 2 ^ 890 ∧ (lgF i s part parts).2.natAbs < 2 ^ 890 := by
  have up : ∀ {x : Int} {m : Nat}, x.natAbs < 2 ^ m → m ≤ 890 → x.natAbs < 2 ^ 890 := fun h hm => Nat.lt_of_lt_of_le h (Nat.pow_le_pow_right (by decide) hm)
  unfold lgF
  split
  · exact ⟨by decide, by decide⟩
  · split
    · exact ⟨up (wide_lt h1 (show (parts - part - 1).natAbs < 2 ^ 6 by omega)) (by decide), up (wide_lt h2 (show parts.natAbs < 2 ^ 6 by omega)) (by decide)⟩
    · exact ⟨up (wide_lt h1 (show part.natAbs < 2 ^ 6 by omega)) (by decide), up (wide_lt h2 (show parts.natAbs < 2 ^ 6 by omega)) (by decide)⟩
theorem jn_small {kd : Bool} {e n : Int × Int} (h1 : e.1.natAbs < 2 ^ 890 ∧ e.2.natAbs < 2 ^ 890) (h2 : n.1.natAbs < 2 ^ 890 ∧ n.2.natAbs < 2 ^ 890) : (jnF kd e n).1.natAbs < 2 ^ 1800 ∧ (jnF kd e n).2.natAbs < 2 ^ 1800 := by
  have up : ∀ {x : Int} {m : Nat}, x.natAbs < 2 ^ m → m ≤ 1800 → x.natAbs < 2 ^ 1800 := fun h hm => Nat.lt_of_lt_of_le h (Nat.pow_le_pow_right (by decide) hm)
  unfold jnF
  cases kd
  · refine ⟨?_, up (wide_lt h1.2 h2.2) (by decide)⟩
    have a := wide_lt h1.1 h2.2
    have b := wide_lt h2.1 h1.2
    have c := Int.natAbs_add_le (e.1 * n.2) (n.1 * e.2)
    have d : 2 ^ (890 + 890) + 2 ^ (890 + 890) ≤ 2 ^ 1800 := by decide +kernel
    show (e.1 * n.2 + n.1 * e.2).natAbs < _
    omega
  · show (if e.1 * n.2 < n.1 * e.2 then n else e).1.natAbs < _ ∧ (if e.1 * n.2 < n.1 * e.2 then n else e).2.natAbs < _
    split
    · exact ⟨up h2.1 (by decide), up h2.2 (by decide)⟩
    · exact ⟨up h1.1 (by decide), up h1.2 (by decide)⟩
theorem sc_least_gap : FnScope ["many", "side", "part", "parts"] ["many", "side", "part", "parts"] (defScope s_least_gap) := ⟨rfl, rfl, rfl, by decide +kernel, rfl, by decide +kernel, by decide +kernel⟩
def spLeastG (R0 : Addr) : Sp := fun vs H Q _ => ∃ (i : Int) (s : Addr) (a b part parts : Int), vs = [.int i, .ref s, .int part, .int parts] ∧ RatV R0 H s a b ∧ a.natAbs < 2 ^ 880 ∧ b.natAbs < 2 ^ 880 ∧ 0 ≤ part ∧ part < parts ∧ parts ≤ 32 ∧ ∀ q H', Ext H H' → RatV R0 H' q (lgF i (a, b) part parts).1 (lgF i (a, b) part parts).2 → Q (.ref q) H'
theorem ok_least_gap (F : FunD K "_least_gap" "_least_gap" (defArgs s_least_gap) (defBody s_least_gap) (defScope s_least_gap) [] [] f fd) (T : TB mg) (RQ : RatT K mg R0) {fI : Addr} {fdI : FuncData} {dsI : List Value} (MI : Mk K R0 fI) (GI : FnOk P w K mg base CX0 2 fI fdI ["self", "top", "bottom"] (spInitR R0)) (bI2 : Binds K fdI ["self", "top", "bottom"] []) (hdI : Vals [.int 1] dsI) (bI1 : Binds K fdI ["self", "top", "bottom"] dsI) {f_Ratio___mul__ : Addr} {fd_Ratio___mul__ : FuncData} (o_Ratio___mul__ : OwnB K R0 "mul" f_Ratio___mul__) (g_Ratio___mul__ : FnOk P w K mg base CX0 5 f_Ratio___mul__ fd_Ratio___mul__ ["self", "other"] (spMulR R0)) (b_Ratio___mul__ : Binds K fd_Ratio___mul__ ["self", "other"] []) : FnOk P w K mg base CX0 6 f fd ["many", "side", "part", "parts"] (spLeastG R0) := by
  refine F.ok sc_least_gap (fun vs H Q E h => ?_) (fun cdv A outer s H vs Q E hr h => ?_)
  · obtain ⟨i, s, a, b, part, parts, rfl, hs, za, zb, p0, p1, p2, k⟩ := h
    rfl
  · obtain ⟨i, s, a, b, part, parts, rfl, hs, za, zb, p0, p1, p2, k⟩ := h
    refine ⟨_, (PSs.nox (pss_cons (ps_if (pt_cmpR op_eq (pv 0) pe_int (nomark _)) (pss_one (ps_ret (pe_make MI GI (hr.mono (by decide)) (by rfl) RQ.mgR bI1 hdI pass0 (pa_cons pe_int pa_nil)))) pss_nil)
      (pss_cons (ps_if (pt_cmpR op_eq (pv 0) pe_int (nomark _)) (pss_one (ps_ret (pe_op (op_binO o_Ratio___mul__ g_Ratio___mul__ b_Ratio___mul__ (hr.mono (by decide))) (pv 1) (pe_make MI GI (hr.mono (by decide)) (by rfl) RQ.mgR bI2 .nil pass0 (pa_cons (pe_op op_sub (pe_op op_sub (pv 3) (pv 2)) pe_int) (pa_cons (pv 3) pa_nil)))))) pss_nil)
      (pss_one (ps_ret (pe_op (op_binO o_Ratio___mul__ g_Ratio___mul__ b_Ratio___mul__ (hr.mono (by decide))) (pv 1) (pe_make MI GI (hr.mono (by decide)) (by rfl) RQ.mgR bI2 .nil pass0 (pa_cons (pv 2) (pa_cons (pv 3) pa_nil))))))))), ?_⟩
    unfold lgF at k
    refine ⟨_, rfl, rfl, _, rfl, ite2 (fun hz => ?_) (fun hz => ?_)⟩
    · rw [if_pos (V.int.inj (of_decide_eq_true hz))] at k
      refine fun x dx hx hdx ne => ⟨x, dx, 0, 1, rfl, upd_same, by decide, by decide, fun H2 F2 h2 => ⟨rfl, ?_⟩⟩
      exact k x H2 (made_ext hx hdx F2) ⟨by decide, dx, h2⟩
    rw [if_neg (fun z => hz (decide_eq_true (by rw [z])))] at k
    obtain ⟨ds, hds⟩ := id hs.2
    have u1 : ∀ {x : Int}, x.natAbs < 2 ^ 6 → x.natAbs < 2 ^ 8000 := fun h => Nat.lt_of_lt_of_le h (Nat.pow_le_pow_right (by decide) (by decide))
    have q2 : parts.natAbs < 2 ^ 6 := by omega
    refine ⟨_, rfl, rfl, _, rfl, ite2 (fun hy => ?_) (fun hy => ?_)⟩
    · rw [if_pos (V.int.inj (of_decide_eq_true hy))] at k
      have q1 : (parts - part - 1).natAbs < 2 ^ 6 := by omega
      refine ⟨_, rfl, _, rfl, _, rfl, _, _, rfl, rfl, _, _, rfl, rfl, _, rfl, fun x dx hx hdx ne => ⟨x, dx, parts - part - 1, parts, rfl, upd_same, by omega, u1 q2, fun H2 F2 h2 => ⟨rfl, ?_⟩⟩⟩
      have e2 := made_ext hx hdx F2
      exact ⟨s, ds, _, rfl, e2 _ _ hds, .inl ⟨x, dx, _, rfl, h2⟩, s, .ref x, a, b, parts - part - 1, parts, 880, 6, rfl, hs.ext e2, .inl ⟨x, rfl, by omega, dx, h2⟩, za, zb, q1, q2, by decide, by decide, by decide, fun q H3 e3 hq => ⟨q, rfl, k q H3 (e2.trans e3) hq⟩⟩
    · rw [if_neg (fun z => hy (decide_eq_true (by rw [z])))] at k
      have q1 : part.natAbs < 2 ^ 6 := by omega
      refine ⟨_, rfl, _, rfl, _, rfl, fun x dx hx hdx ne => ⟨x, dx, part, parts, rfl, upd_same, by omega, u1 q2, fun H2 F2 h2 => ⟨rfl, ?_⟩⟩⟩
      have e2 := made_ext hx hdx F2
      exact ⟨s, ds, _, rfl, e2 _ _ hds, .inl ⟨x, dx, _, rfl, h2⟩, s, .ref x, a, b, part, parts, 880, 6, rfl, hs.ext e2, .inl ⟨x, rfl, by omega, dx, h2⟩, za, zb, q1, q2, by decide, by decide, by decide, fun q H3 e3 hq => ⟨q, rfl, k q H3 (e2.trans e3) hq⟩⟩
theorem sc_joined : FnScope ["kind", "gaps", "east", "north"] ["kind", "gaps"] (defScope s_joined) := ⟨rfl, rfl, rfl, by decide +kernel, rfl, by decide +kernel, by decide +kernel⟩
def spJoined (R0 : Addr) : Sp := fun vs H Q _ => ∃ (b : Bool) (l p q : Addr) (e n : Int × Int), vs = [.str (kdS b), .ref l] ∧ H l = some (.lst [.ref p, .ref q]) ∧ RatV R0 H p e.1 e.2 ∧ RatV R0 H q n.1 n.2 ∧ (e.1.natAbs < 2 ^ 890 ∧ e.2.natAbs < 2 ^ 890) ∧ (n.1.natAbs < 2 ^ 890 ∧ n.2.natAbs < 2 ^ 890) ∧ ∀ r H', Ext H H' → RatV R0 H' r (jnF b e n).1 (jnF b e n).2 → Q (.ref r) H'
theorem ok_joined (F : FunD K "joined" "joined" (defArgs s_joined) (defBody s_joined) (defScope s_joined) [] [] f fd) (T : TB mg) (RQ : RatT K mg R0) {f_Ratio___add__ : Addr} {fd_Ratio___add__ : FuncData} (o_Ratio___add__ : OwnB K R0 "add" f_Ratio___add__) (g_Ratio___add__ : FnOk P w K mg base CX0 5 f_Ratio___add__ fd_Ratio___add__ ["self", "other"] (spAddR R0)) (b_Ratio___add__ : Binds K fd_Ratio___add__ ["self", "other"] []) {fgreater : Addr} {fdgreater : FuncData} (Dgreater : Gd P w K mg base "greater" 6 ["one", "other"] (spGreater R0) fgreater fdgreater) : FnOk P w K mg base CX0 7 f fd ["kind", "gaps"] (spJoined R0) := by
  refine F.ok sc_joined (fun vs H Q E h => ?_) (fun cdv A outer s H vs Q E hr h => ?_)
  · obtain ⟨b, l, p, q, e, n, rfl, hl, hp, hq, z1, z2, k⟩ := h
    rfl
  · obtain ⟨b, l, p, q, e, n, rfl, hl, hp, hq, z1, z2, k⟩ := h
    refine ⟨_, (PSs.nox (pss_cons (ps_asg (pv 1) (pg_unl rfl (pgs_cons (pg_name (i := 2) sc_joined.nd rfl (.inl rfl)) (pgs_cons (pg_name (i := 3) sc_joined.nd rfl (.inl rfl)) pgs_nil))))
      (pss_cons (ps_if (pt_cmpR op_eq (pv 0) pe_str (nomark _)) (pss_one (ps_ret (pe_op (op_binO o_Ratio___add__ g_Ratio___add__ b_Ratio___add__ (hr.mono (by decide))) (pv 2) (pv 3)))) pss_nil)
      (pss_one (ps_ret (pe_gd Dgreater hr (by decide) (by rfl) (pa_cons (pv 2) (pa_cons (pv 3) pa_nil)))))))), ?_⟩
    obtain ⟨dp, hdp⟩ := id hp.2
    obtain ⟨dq, hdq⟩ := id hq.2
    refine ⟨_, rfl, l, _, rfl, SqL.of hl, rfl, _, _, rfl, _, _, rfl, rfl, _, rfl, rfl, _, rfl, ?_⟩
    have up : ∀ {x : Int}, x.natAbs < 2 ^ 890 → x.natAbs < 2 ^ 1000 := fun h => Nat.lt_of_lt_of_le h (Nat.pow_le_pow_right (by decide) (by decide))
    cases b
    · have e0 : decide (V.str (kdS false) = V.str "sum") = true := by decide +kernel
      rw [e0]
      refine iteT ?_
      exact ⟨_, rfl, _, rfl, p, dp, _, rfl, hdp, .inl ⟨q, dq, _, rfl, hdq⟩, p, .ref q, _, _, _, _, 1000, 1000, rfl, hp, .inl ⟨q, rfl, hq⟩, up z1.1, up z1.2, up z2.1, up z2.2, by decide, by decide, by decide, fun r H1 e1 hr => ⟨r, rfl, k r H1 e1 hr⟩⟩
    · have e0 : decide (V.str (kdS true) = V.str "sum") = false := by decide +kernel
      rw [e0]
      refine iteF ?_
      refine ⟨_, rfl, _, rfl, p, q, _, _, _, _, 1000, rfl, hp, hq, up z1.1, up z1.2, up z2.1, up z2.2, by decide, by decide, fun H1 e1 => k _ H1 e1 ?_⟩
      show RatV R0 H1 _ (if e.1 * n.2 < n.1 * e.2 then n else e).1 (if e.1 * n.2 < n.1 * e.2 then n else e).2
      split
      · exact hq.ext e1
      · exact hp.ext e1
theorem sc_least : FnScope ["gauge", "phase", "sign", "move", "plan", "sides", "gaps", "many", "side", "part", "parts"] ["gauge", "phase", "sign", "move"] (defScope s_least) := ⟨rfl, rfl, rfl, by decide +kernel, rfl, by decide +kernel, by decide +kernel⟩
def spLeast (K : PySem.W.Frag) (C0 R0 M0 U0 : Addr) : Sp := fun vs H Q _ => ∃ (a : Addr) (g : GaugeM) (ph s : Nat) (mv : Addr) (m : Int × Int), vs = [.ref a, .int ph, .int s, .ref mv] ∧ GaugeAt C0 R0 M0 U0 H a g ∧ GOk g ∧ SqT K H mv [.int m.1, .int m.2] ∧ ph < g.rs.length ∧ s < (placesF (csF g ph)).length ∧ ∀ r H', Ext H H' → RatV R0 H' r (leF g ph s m).1 (leF g ph s m).2 → Q (.ref r) H'
theorem ok_least (F : FunD K "_least" "_least" (defArgs s_least) (defBody s_least) (defScope s_least) [] [] f fd) (T : TB mg) (R : PlanT K mg C0 aX mc) (RM : MapT K mg M0) (RU : GaugeT K mg U0 kX) (RQ : RatT K mg R0) {p_Gauge_area f_Gauge_area : Addr} {fd_Gauge_area : FuncData} (m_Gauge_area : PropOf K U0 "area" p_Gauge_area f_Gauge_area) (g_Gauge_area : FnOk P w K mg base CX0 1 f_Gauge_area fd_Gauge_area ["self"] (spGArea C0 R0 M0 U0)) (b_Gauge_area : Binds K fd_Gauge_area ["self"] []) {p_Map_plan f_Map_plan : Addr} {fd_Map_plan : FuncData} (m_Map_plan : PropOf K M0 "plan" p_Map_plan f_Map_plan) (g_Map_plan : FnOk P w K mg base CX0 1 f_Map_plan fd_Map_plan ["self"] (spMPlan C0 R0 M0)) (b_Map_plan : Binds K fd_Map_plan ["self"] []) {p_Gauge_kind f_Gauge_kind : Addr} {fd_Gauge_kind : FuncData} (m_Gauge_kind : PropOf K U0 "kind" p_Gauge_kind f_Gauge_kind) (g_Gauge_kind : FnOk P w K mg base CX0 1 f_Gauge_kind fd_Gauge_kind ["self"] (spGKind C0 R0 M0 U0)) (b_Gauge_kind : Binds K fd_Gauge_kind ["self"] []) {ffirst_fineness : Addr} {fdfirst_fineness : FuncData} (Dfirst_fineness : Gd P w K mg base "first_fineness" 3 ["gauge", "phase"] (spFirstF C0 R0 M0 U0) ffirst_fineness fdfirst_fineness) {fsides_at : Addr} {fdsides_at : FuncData} (Dsides_at : Gd P w K mg base "sides_at" 7 ["area", "f"] (spSides C0 R0 M0) fsides_at fdsides_at) {fPo : Addr} {fdPo : FuncData} (mPo : Meth K C0 "place_of" fPo) (Gpo : FnOk P w K mg base CX0 7 fPo fdPo ["self", "phase", "sign"] (spPlaceOf C0)) (bPo : Binds K fdPo ["self", "phase", "sign"] []) {fPa : Addr} {fdPa : FuncData} (mPa : Meth K C0 "parts" fPa) (Gpa : FnOk P w K mg base CX0 5 fPa fdPa ["self", "phase"] (spPartsM C0)) (bPa : Binds K fdPa ["self", "phase"] []) {fleast_gap : Addr} {fdleast_gap : FuncData} (Dleast_gap : Gd P w K mg base "_least_gap" 6 ["many", "side", "part", "parts"] (spLeastG R0) fleast_gap fdleast_gap) {fjoined : Addr} {fdjoined : FuncData} (Djoined : Gd P w K mg base "joined" 7 ["kind", "gaps"] (spJoined R0) fjoined fdjoined) : FnOk P w K mg base CX0 9 f fd ["gauge", "phase", "sign", "move"] (spLeast K C0 R0 M0 U0) := by
  refine F.ok sc_least (fun vs H Q E h => ?_) (fun cdv A outer s H vs Q E hr h => ?_)
  · obtain ⟨a, g, ph, s, mv, m, rfl, hg, ok, hm, hph, hs, k⟩ := h
    rfl
  · obtain ⟨a, g, ph, s, mv, m, rfl, hg, ok, hm, hph, hs, k⟩ := h
    refine ⟨_, (PSs.nox (pss_cons (ps_set (i := 4) sc_least.nd rfl (.inl rfl) (pe_prop (pe_prop (pv 0) RU.cl m_Gauge_area g_Gauge_area (hr.mono (by decide)) b_Gauge_area .nil pass0 rfl) RM.cl m_Map_plan g_Map_plan (hr.mono (by decide)) b_Map_plan .nil pass0 rfl))
      (pss_cons (ps_set (i := 5) sc_least.nd rfl (.inl rfl) (pe_gd Dsides_at hr (by decide) (by rfl) (pa_cons (pe_prop (pv 0) RU.cl m_Gauge_area g_Gauge_area (hr.mono (by decide)) b_Gauge_area .nil pass0 rfl) (pa_cons (pe_gd Dfirst_fineness hr (by decide) (by rfl) (pa_cons (pv 0) (pa_cons (pv 1) pa_nil))) pa_nil))))
      (pss_cons (ps_setLc (i := 6) (own := [("many", 7), ("side", 8), ("part", 9), ("parts", 10)]) (g := gTup K 4 (gCons (gName 7) (gCons (gName 8) (gCons (gName 9) (gCons (gName 10) gNil))))) (tt := tYes) rfl sc_least.nd rfl rfl (sw_true rfl rfl rfl (by decide +kernel)) (pi_zipQ (by rfl) T.zip (pa_cons (pv 3) (pa_cons (pv 5) (pa_cons (pe_meth (pv 4) R.cl mPo Gpo (hr.mono (by decide)) bPo .nil pass0 (pa_cons (pv 1) (pa_cons (pv 2) pa_nil))) (pa_cons (pe_meth (pv 4) R.cl mPa Gpa (hr.mono (by decide)) bPa .nil pass0 (pa_cons (pv 1) pa_nil)) pa_nil))))) (blkOk_by (own := [("many", 7), ("side", 8), ("part", 9), ("parts", 10)]) (N := ["gauge", "phase", "sign", "move", "plan", "sides", "gaps", "many", "side", "part", "parts"]) (sc := defScope s_least) (by decide +kernel)) (fun _ _ _ _ _ => (pg_tup rfl (pgs_cons (pg_name (i := 7) sc_least.nd rfl (.inl rfl)) (pgs_cons (pg_name (i := 8) sc_least.nd rfl (.inl rfl)) (pgs_cons (pg_name (i := 9) sc_least.nd rfl (.inl rfl)) (pgs_cons (pg_name (i := 10) sc_least.nd rfl (.inl rfl)) pgs_nil)))))) (fun _ _ _ _ _ => pts_nil) (fun _ _ _ _ _ => (pe_gd Dleast_gap hr (by decide) (by rfl) (pa_cons (pv 7) (pa_cons (pv 8) (pa_cons (pv 9) (pa_cons (pv 10) pa_nil)))))))
      (pss_one (ps_ret (pe_gd Djoined hr (by decide) (by rfl) (pa_cons (pe_prop (pv 0) RU.cl m_Gauge_kind g_Gauge_kind (hr.mono (by decide)) b_Gauge_kind .nil pass0 rfl) (pa_cons (pv 6) pa_nil))))))))), ?_⟩
    have z4 := re_small ok
    have cz := ct_small ok
    have csg : g.rs[ph]? = some (csF g ph) := by
      show _ = some (g.rs.getD ph [])
      rw [List.getD_eq_getElem?_getD, List.getElem?_eq_getElem hph]
      rfl
    have plg : (placesF (csF g ph))[s]? = some (plF (csF g ph) s) := by
      show _ = some ((placesF (csF g ph)).getD s (0, 0))
      rw [List.getD_eq_getElem?_getD, List.getElem?_eq_getElem hs]
      rfl
    have pin := placesF_mem _ (List.mem_of_getElem? plg)
    have l3 := ok.ok.l3
    have cmem := List.mem_of_getElem? csg
    have ppos := pos_cols (ok.ok.hc _ cmem)
    have p32 : colsF (csF g ph) ≤ 32 ∧ rowsF (csF g ph) ≤ 32 := by
      have h := ok.ok.h32 _ cmem
      exact ⟨Nat.le_trans (Nat.le_mul_of_pos_right _ ppos.2) h, Nat.le_trans (Nat.le_mul_of_pos_left _ ppos.1) h⟩
    obtain ⟨dx, mm, tr, r1, r2, u, v, ha, gi⟩ := id hg
    obtain ⟨F, hF⟩ : ∃ F, F = ffF g.rs.length ph := ⟨_, rfl⟩
    have F150 : F ≤ 150 := by rw [hF]; unfold ffF; split <;> omega
    refine ⟨_, rfl, a, dx, _, rfl, ha, a, g, rfl, hg, fun m' hm' => ?_⟩
    obtain ⟨dm, pp', re, rn, tc, h1, mi⟩ := id hm'
    refine ⟨m', dm, _, rfl, h1, m', rfl, g.rs, g.le, g.ln, g.cl, hm', fun pp hpp => ?_⟩
    clear h1 mi
    obtain ⟨pdx, lr, lp, ll, gg, hp1, _⟩ := id hpp
    refine ⟨_, rfl, a, dx, _, rfl, ha, a, g, rfl, hg, fun m2 hm2 => ⟨_, rfl, _, rfl, a, g, ph, rfl, hg, ?_⟩⟩
    have eF : ((if ph = 0 then g.rs.length else ph : Nat) : Int) = (F : Int) := by rw [hF]; rfl
    rw [eF]
    refine ⟨m2, g.rs, g.le, g.ln, g.cl, F, 70, 800, rfl, hm2, by omega, ok.ze.1, ok.ze.2, ok.zn.1, ok.zn.2, (cz _ F150).1, (cz _ F150).2, by decide, by decide, by decide, fun t s1 s2 H1 e1 ht hs1 hs2 => ?_⟩
    have cp := counts_pos ok.ok F
    have zE : (sdE g F).1.natAbs < 2 ^ 70 ∧ (sdE g F).2.natAbs < 2 ^ 880 := ⟨ok.ze.1, Nat.lt_of_lt_of_le (wide_lt ok.ze.2 (cz _ F150).1) (Nat.pow_le_pow_right (by decide) (by decide))⟩
    have zN : (sdN g F).1.natAbs < 2 ^ 70 ∧ (sdN g F).2.natAbs < 2 ^ 880 := ⟨ok.zn.1, Nat.lt_of_lt_of_le (wide_lt ok.zn.2 (cz _ F150).2) (Nat.pow_le_pow_right (by decide) (by decide))⟩
    have u880 : ∀ {x : Int}, x.natAbs < 2 ^ 70 → x.natAbs < 2 ^ 880 := fun h => Nat.lt_of_lt_of_le h (Nat.pow_le_pow_right (by decide) (by decide))
    have hpp1 := hpp.ext e1
    have hp11 := e1 _ _ hp1
    refine ⟨_, rfl, _, rfl, _, rfl, pp, pdx, _, rfl, hp11, rfl, _, rfl, _, rfl, pp, g.rs, ph, csF g ph, s, plF (csF g ph) s, rfl, hpp1, csg, l3, plg, ?_⟩
    intro tp htp
    refine ⟨_, rfl, pp, pdx, _, rfl, hp11, rfl, _, rfl, pp, g.rs, ph, csF g ph, rfl, hpp1, csg, l3, fun tq htq => ?_⟩
    refine ⟨mv, t, tp, tq, _, _, _, _, rfl, sqT_ext hm e1, SqT.of ht, SqT.of htp, SqT.of htq, fun D hD => lc_zipQ (ws := [.int m.1, .int m.2]) (xs := [.ref s1, .ref s2]) (ys := [.int (plF (csF g ph) s).1, .int (plF (csF g ph) s).2]) (zs := [.int (colsF (csF g ph)), .int (rowsF (csF g ph))]) rfl rfl rfl
      (fun j H' => ∃ ps : List Addr, H' D = some (.lst (ps.map V.ref)) ∧ ps.length = j ∧ (∀ p, ps[0]? = some p → RatV R0 H' p (lgF m.1 (sdE g F) (plF (csF g ph) s).1 (colsF (csF g ph))).1 (lgF m.1 (sdE g F) (plF (csF g ph) s).1 (colsF (csF g ph))).2) ∧ (∀ p, ps[1]? = some p → RatV R0 H' p (lgF m.2 (sdN g F) (plF (csF g ph) s).2 (rowsF (csF g ph))).1 (lgF m.2 (sdN g F) (plF (csF g ph) s).2 (rowsF (csF g ph))).2) ∧ Ext H1 H')
      ⟨[], upd_same, rfl, fun _ z => (nomatch z), fun _ z => (nomatch z), Ext.upd hD⟩ (fun _ _ ⟨_, _, _, _, _, e⟩ => ⟨sqT_ext hm (e1.trans e), SqT.of (e _ _ ht), SqT.of (e _ _ htp), SqT.of (e _ _ htq)⟩) ?_ ?_⟩
    · rintro j w x y z T2 H' hw hx hy hz hT ⟨ps, d1, d2, d3, d4, e⟩
      have key : ∃ (i : Int) (sa : Addr) (sd : Int × Int) (part parts : Int), w = .int i ∧ x = .ref sa ∧ y = .int part ∧ z = .int parts ∧ RatV R0 H' sa sd.1 sd.2 ∧ sd.1.natAbs < 2 ^ 70 ∧ sd.2.natAbs < 2 ^ 880 ∧ 0 ≤ part ∧ part < parts ∧ parts ≤ 32 ∧ ((j = 0 ∧ lgF i sd part parts = lgF m.1 (sdE g F) (plF (csF g ph) s).1 (colsF (csF g ph))) ∨ (j = 1 ∧ lgF i sd part parts = lgF m.2 (sdN g F) (plF (csF g ph) s).2 (rowsF (csF g ph)))) := by
        match j, hw, hx, hy, hz with
        | 0, hw, hx, hy, hz => cases hw; cases hx; cases hy; cases hz; exact ⟨_, _, sdE g F, _, _, rfl, rfl, rfl, rfl, hs1.ext e, zE.1, zE.2, pin.1, pin.2.1, by omega, .inl ⟨rfl, rfl⟩⟩
        | 1, hw, hx, hy, hz => cases hw; cases hx; cases hy; cases hz; exact ⟨_, _, sdN g F, _, _, rfl, rfl, rfl, rfl, hs2.ext e, zN.1, zN.2, pin.2.2.1, pin.2.2.2, by omega, .inr ⟨rfl, rfl⟩⟩
      obtain ⟨i, sa, sd, part, parts, rfl, rfl, rfl, rfl, hsa, za, zb, q0, q1, q2, hj⟩ := key
      have eT : Ext H' (upd H' T2 (.tup [.int i, .ref sa, .int part, .int parts])) := Ext.upd hT
      have hT2 : (upd H' T2 (.tup [.int i, .ref sa, .int part, .int parts])) T2 = some (.tup [.int i, .ref sa, .int part, .int parts]) := upd_same
      generalize upd H' T2 (.tup [.int i, .ref sa, .int part, .int parts]) = H2 at eT hT2 ⊢
      refine ⟨T2, _, rfl, SqT.of hT2, rfl, _, _, rfl, _, _, rfl, _, _, rfl, _, _, rfl, rfl, rfl, lc_yes ⟨_, rfl, _, rfl, _, rfl, _, rfl, i, sa, sd.1, sd.2, part, parts, rfl, hsa.ext eT, u880 za, zb, q0, q1, q2, fun p H3 e3 hp => ?_⟩⟩
      have dT := e3 _ _ (eT _ _ d1)
      have nD : ∀ {r : Addr} {a b : Int}, RatV R0 H3 r a b → r ∉ [D] := fun hr z => by
        obtain ⟨_, dr, er⟩ := hr
        rw [List.mem_singleton.mp z, dT] at er
        cases er
      have fD : ∀ {o : HO}, Frm [D] H3 (upd H3 D o) := Frm.put (List.mem_singleton.mpr rfl)
      have j2 : j < 2 := (List.getElem?_eq_some_iff.mp hw).1
      refine ⟨_, dT, by rw [List.length_map, d2, sizeLine_eq]; omega, ps ++ [p], by rw [upd_same, List.map_append]; rfl, by rw [List.length_append, d2]; rfl, fun p' hp' => ?_, fun p' hp' => ?_, ext_put ((e.trans eT).trans e3) hD⟩
      · rcases hj with ⟨rfl, hj⟩ | ⟨rfl, hj⟩
        · have : ps = [] := List.length_eq_zero_iff.mp d2
          subst this
          cases hp'
          rw [← hj]
          exact hp.frm fD (nD hp)
        · have := (d3 p' (by rwa [List.getElem?_append_left (by omega)] at hp')).ext (eT.trans e3)
          exact this.frm fD (nD this)
      · rcases hj with ⟨rfl, hj⟩ | ⟨rfl, hj⟩
        · have := (List.getElem?_eq_some_iff.mp hp').1
          rw [List.length_append, d2] at this
          simp at this
        · have e4 : (ps ++ [p])[1]? = some p := by rw [List.getElem?_append_right (by omega), d2] <;> rfl
          rw [e4] at hp'
          cases hp'
          rw [← hj]
          exact hp.frm fD (nD hp)
    rintro H2 ⟨ps, d1, d2, d3, d4, e⟩
    match ps, d2 with
    | [p1, p2], _ =>
      have ha2 := e _ _ (e1 _ _ ha)
      have z1 := lg_small (i := m.1) zE.1 zE.2 pin.1 pin.2.1 (by omega)
      have z2 := lg_small (i := m.2) zN.1 zN.2 pin.2.2.1 pin.2.2.2 (by omega)
      refine ⟨_, rfl, a, dx, _, rfl, ha2, a, g, rfl, hg.ext (e1.trans e), _, rfl, g.kd, D, p1, p2, _, _, rfl, d1, d3 p1 rfl, d4 p2 rfl, z1, z2, fun r H3 e3 hr => ?_⟩
      subst hF
      exact k r H3 ((e1.trans e).trans e3) hr
theorem sc_reached_with : FnScope ["gauge", "phase", "sign", "greatest", "move"] ["gauge", "phase", "sign"] (defScope s_reached_with) := ⟨rfl, rfl, rfl, by decide +kernel, rfl, by decide +kernel, by decide +kernel⟩
theorem le_small {g : GaugeM} (ok : GOk g) {ph s : Nat} (hph : ph < g.rs.length) (hs : s < (placesF (csF g ph)).length) (m : Int × Int) : (leF g ph s m).1.natAbs < 2 ^ 1800 ∧ (leF g ph s m).2.natAbs < 2 ^ 1800 := by
  have csg : g.rs[ph]? = some (csF g ph) := by
    show _ = some (g.rs.getD ph [])
    rw [List.getD_eq_getElem?_getD, List.getElem?_eq_getElem hph]
    rfl
  have plg : (placesF (csF g ph))[s]? = some (plF (csF g ph) s) := by
    show _ = some ((placesF (csF g ph)).getD s (0, 0))
    rw [List.getD_eq_getElem?_getD, List.getElem?_eq_getElem hs]
    rfl
  have pin := placesF_mem _ (List.mem_of_getElem? plg)
  have cmem := List.mem_of_getElem? csg
  have ppos := pos_cols (ok.ok.hc _ cmem)
  have h := ok.ok.h32 _ cmem
  have pc : colsF (csF g ph) ≤ 32 := Nat.le_trans (Nat.le_mul_of_pos_right _ ppos.2) h
  have pr : rowsF (csF g ph) ≤ 32 := Nat.le_trans (Nat.le_mul_of_pos_left _ ppos.1) h
  have F150 : ffF g.rs.length ph ≤ 150 := by have := ok.ok.l3; unfold ffF; split <;> omega
  have cz := ct_small ok _ F150
  exact jn_small (lg_small ok.ze.1 (Nat.lt_of_lt_of_le (wide_lt ok.ze.2 cz.1) (Nat.pow_le_pow_right (by decide) (by decide))) pin.1 pin.2.1 (by omega)) (lg_small ok.zn.1 (Nat.lt_of_lt_of_le (wide_lt ok.zn.2 cz.2) (Nat.pow_le_pow_right (by decide) (by decide))) pin.2.2.1 pin.2.2.2 (by omega))
def spReachedW (K : PySem.W.Frag) (C0 R0 M0 U0 : Addr) (mas : List Addr) : Sp := fun vs H Q _ => ∃ (a : Addr) (g : GaugeM) (ph s : Nat), vs = [.ref a, .int ph, .int s] ∧ GaugeAt C0 R0 M0 U0 H a g ∧ GOk g ∧ ph < g.rs.length ∧ s < (placesF (csF g ph)).length ∧ ∀ q H', Ext H H' → H q = none → H' q = some (.lst (rcV mas g ph s)) → Q (.ref q) H'
theorem ok_reached_with (F : FunD K "_reached_with" "_reached_with" (defArgs s_reached_with) (defBody s_reached_with) (defScope s_reached_with) [] [] f fd) (T : TB mg) (RQ : RatT K mg R0) (RV : MovT K mg mX mas) {ffirst_fineness : Addr} {fdfirst_fineness : FuncData} (Dfirst_fineness : Gd P w K mg base "first_fineness" 3 ["gauge", "phase"] (spFirstF C0 R0 M0 U0) ffirst_fineness fdfirst_fineness) {fgreatest_at : Addr} {fdgreatest_at : FuncData} (Dgreatest_at : Gd P w K mg base "greatest_at" 8 ["gauge", "f"] (spGreatest C0 R0 M0 U0) fgreatest_at fdgreatest_at) {fleast : Addr} {fdleast : FuncData} (Dleast : Gd P w K mg base "_least" 9 ["gauge", "phase", "sign", "move"] (spLeast K C0 R0 M0 U0) fleast fdleast) {f_Ratio_is_below : Addr} {fd_Ratio_is_below : FuncData} (m_Ratio_is_below : Meth K R0 "is_below" f_Ratio_is_below) (g_Ratio_is_below : FnOk P w K mg base CX0 5 f_Ratio_is_below fd_Ratio_is_below ["self", "other"] (spBelowR R0)) (b_Ratio_is_below : Binds K fd_Ratio_is_below ["self", "other"] []) : FnOk P w K mg base CX0 10 f fd ["gauge", "phase", "sign"] (spReachedW K C0 R0 M0 U0 mas) := by
  refine F.ok sc_reached_with (fun vs H Q E h => ?_) (fun cdv A outer s H vs Q E hr h => ?_)
  · obtain ⟨a, g, ph, s, rfl, hg, ok, hph, hs, k⟩ := h
    rfl
  · obtain ⟨a, g, ph, s, rfl, hg, ok, hph, hs, k⟩ := h
    refine ⟨_, (PSs.nox (pss_cons (ps_set (i := 3) sc_reached_with.nd rfl (.inr rfl) (pe_gd Dgreatest_at hr (by decide) (by rfl) (pa_cons (pv 0) (pa_cons (pe_gd Dfirst_fineness hr (by decide) (by rfl) (pa_cons (pv 0) (pa_cons (pv 1) pa_nil))) pa_nil))))
      (pss_one (ps_ret (pe_lc (own := [("move", 4)]) (g := gName 4) rfl sc_reached_with.nd (pi_tup (pe_glob (v := .ref mX) (by rfl) RV.mx rfl)) (blkOk_by (own := [("move", 4)]) (N := ["gauge", "phase", "sign", "greatest", "move"]) (sc := defScope s_reached_with) (by decide +kernel)) (fun _ _ _ _ _ => (pg_name (i := 4) sc_reached_with.nd rfl (.inl rfl))) (fun _ _ _ _ _ => (pts_one (pt_val (pe_meth (pe_gd Dleast hr (by decide) (by rfl) (pa_cons (pv 0) (pa_cons (pv 1) (pa_cons (pv 2) (pa_cons (pv 4) pa_nil))))) RQ.cl m_Ratio_is_below g_Ratio_is_below (hr.mono (by decide)) b_Ratio_is_below .nil pass0 (pa_cons (pv 3) pa_nil))))) (fun _ _ _ _ _ => (pv 4))))))), ?_⟩
    have z4 := re_small ok
    have cz := ct_small ok
    have F150 : ffF g.rs.length ph ≤ 150 := by have := ok.ok.l3; unfold ffF; split <;> omega
    have s1 := gt_small ok _ F150
    have lz : mas.length = 9 := pd_len RV.at_
    refine ⟨_, rfl, _, rfl, _, rfl, a, g, ph, rfl, hg, a, g, ffF g.rs.length ph, 70, 800, rfl, hg, by omega, ok.ze.1, ok.ze.2, ok.zn.1, ok.zn.2, z4.1, z4.2.1, z4.2.2.1, z4.2.2.2, (cz _ F150).1, (cz _ F150).2, by decide, by decide, by decide, fun qa Ha ea ha => ?_⟩
    refine ⟨mX, rfl, ⟨_, RV.all Ha⟩, fun D hD => lc_walk walk_t (fun i H' => H' D = some (.lst ((((mas.zip mvL).take i).filter fun q => rcB g ph s q.2).map fun q => V.ref q.1)) ∧ Ext Ha H') ⟨upd_same, Ext.upd hD⟩ (fun _ _ _ => RV.all _) ?_ ?_⟩
    · rintro i x H1 hx ⟨d1, e1⟩
      obtain ⟨b, rfl, m, hm, hb⟩ := refs_get RV.at_ hx
      have hi : i < 9 := by have := (List.getElem?_eq_some_iff.mp hx).1; rw [List.length_map, lz] at this; exact this
      have hz : (mas.zip mvL)[i]? = some (b, m) := by
        rw [List.getElem?_map] at hx
        obtain ⟨b', hb', eb⟩ := Option.map_eq_some_iff.mp hx
        cases eb
        exact List.getElem?_zip_eq_some.mpr ⟨hb', hm⟩
      have sn : ((mas.zip mvL).take (i + 1)).filter (fun q => rcB g ph s q.2) = ((mas.zip mvL).take i).filter (fun q => rcB g ph s q.2) ++ (if rcB g ph s m = true then [(b, m)] else []) := by
        rw [take_snoc hz, List.filter_append, List.filter_cons, List.filter_nil]
      have ll : (((mas.zip mvL).take i).filter fun q => rcB g ph s q.2).length ≤ 9 := Nat.le_trans (List.length_filter_le _ _) (by rw [List.length_take]; omega)
      have cE := le_small ok hph hs m
      refine ⟨rfl, _, rfl, _, rfl, _, rfl, _, rfl, a, g, ph, s, b, m, rfl, hg.ext (ea.trans e1), ok, hb H1, hph, hs, fun r H2 e2 hr => ?_⟩
      obtain ⟨dr, hdr⟩ := id hr.2
      refine ⟨r, dr, _, rfl, hdr, rfl, _, rfl, r, .ref qa, _, _, _, _, 1800, 900, rfl, hr, .inl ⟨qa, rfl, (ha.ext e1).ext e2⟩, cE.1, cE.2, s1.1, s1.2, by decide, by decide, by decide, fun H3 e3 => ⟨_, rfl, ?_⟩⟩
      show if rcB g ph s m = true then _ else _
      have e23 := e2.trans e3
      by_cases hq : rcB g ph s m = true
      · rw [if_pos hq] at sn ⊢
        refine ⟨_, rfl, _, e23 _ _ d1, by rw [List.length_map, sizeLine_eq]; omega, ?_, ext_put (e1.trans e23) hD⟩
        rw [upd_same, sn, List.map_append]
        rfl
      · rw [if_neg hq] at sn ⊢
        rw [List.append_nil] at sn
        rw [sn]
        exact ⟨e23 _ _ d1, e1.trans e23⟩
    rintro H1 ⟨d1, e1⟩
    have eL : (mas.map V.ref).length = (mas.zip mvL).length := by rw [List.length_map, List.length_zip, lz]; rfl
    rw [eL, List.take_length] at d1
    have hn : H D = none := by
      cases z : H D with
      | none => rfl
      | some o => rw [ea _ _ z] at hD; cases hD
    exact k D H1 (ea.trans e1) hn d1
theorem sc_Gauge_reached : FnScope ["self", "phase", "sign"] ["self", "phase", "sign"] (defScope s_Gauge_reached) := ⟨rfl, rfl, rfl, by decide +kernel, rfl, by decide +kernel, by decide +kernel⟩
theorem sqT_ext_ : True := trivial
section
variable {H : Hp} {p : Addr}
/-- a gauge stands at p; a dict of tuples -/
def IsG (H : Hp) (p : Addr) : Prop := ∃ C dx u fs, H p = some (.ins C dx (("_area", u) :: fs))
def IsD (H : Hp) (p : Addr) : Prop := ∃ kvs, H p = some (.dT kvs)
def noG : HO → Bool
  | .ins _ _ ((n, _) :: _) => !(decide (n = "_area"))
  | _ => true
def noD : HO → Bool
  | .dT _ => false
  | _ => true
theorem bareG_pk {a : Addr} {o : HO} (hp : IsG H p) (h : H a = some o) (n : noG o = true := by first | rfl | decide) : bare p H a = some o := bare_at h fun z => by
  obtain ⟨C, dx, u, fs, e⟩ := hp
  rw [z, e] at h
  cases h
  cases (show (!(decide (("_area" : Str) = "_area"))) = true from n)
theorem bareD_pk2 {a : Addr} {o : HO} {p : Addr} {H : Hp} (h : H a = some o) (n : a ≠ p) : bare p H a = some o := bare_at h n
theorem bareD_pk {a : Addr} {o : HO} (hp : IsD H p) (h : H a = some o) (n : noD o = true := by rfl) : bare p H a = some o := bare_at h fun z => by
  obtain ⟨kvs, e⟩ := hp
  rw [z, e] at h
  cases h
  cases n
theorem cl_bareG {l : Addr} {cs : List Cut} (h : CutsL H l cs) (hp : IsG H p) : CutsL (Mc.bare p H) l cs := by
  obtain ⟨as, h1, h2⟩ := h
  exact ⟨as, bareG_pk hp h1, pd_imp (fun _ _ q => bareG_pk hp q) h2⟩
theorem RowsL.bareG {l : Addr} {rs : List (List Cut)} (h : RowsL H l rs) (hp : IsG H p) : RowsL (Mc.bare p H) l rs := by
  obtain ⟨as, h1, h2⟩ := h
  exact ⟨as, bareG_pk hp h1, pd_imp (fun _ _ q => cl_bareG q hp) h2⟩
theorem prs_bareG {l : Addr} {qs : List Pr} (h : PairsAt H l qs) (hp : IsG H p) : PairsAt (Mc.bare p H) l qs := by
  obtain ⟨as, h1, h2⟩ := h
  exact ⟨as, bareG_pk hp h1, pd_imp (fun _ _ q => bareG_pk hp q) h2⟩
theorem PlanAt.bareG {C0 t : Addr} {rs : List (List Cut)} (h : PlanAt C0 H t rs) (hp : IsG H p) : PlanAt C0 (Mc.bare p H) t rs := by
  obtain ⟨dx, lr, lp, ll, g, h1, ⟨a1, r1, r2⟩, ⟨a2, q1, q2⟩, ⟨a3, s1, s2⟩, e⟩ := h
  exact ⟨dx, lr, lp, ll, g, bareG_pk hp h1, ⟨a1, bareG_pk hp r1, pd_imp (fun _ _ q => cl_bareG q hp) r2⟩, ⟨a2, bareG_pk hp q1, pd_imp (fun _ _ q => bareG_pk hp q) q2⟩, ⟨a3, bareG_pk hp s1, pd_imp (fun _ _ q => prs_bareG q hp) s2⟩, e⟩
theorem RatV.bareG {R0 q : Addr} {a b : Int} (h : RatV R0 H q a b) (hp : IsG H p) : RatV R0 (Mc.bare p H) q a b := by
  obtain ⟨h1, dx, h2⟩ := h
  exact ⟨h1, dx, bareG_pk hp h2⟩
theorem NumV.bareG {R0 : Addr} {x : V} {a b : Int} (h : NumV R0 H x a b) (hp : IsG H p) : NumV R0 (Mc.bare p H) x a b := h.imp (fun ⟨q, e, r⟩ => ⟨q, e, r.bareG hp⟩) id
theorem MapAt.bareG {C0 R0 M0 m : Addr} {rs : List (List Cut)} {le ln : Int × Int} {cl : List Bool} (h : MapAt C0 R0 M0 H m rs le ln cl) (hp : IsG H p) : MapAt C0 R0 M0 (Mc.bare p H) m rs le ln cl := by
  obtain ⟨dx, pp, re, rn, tc, h1, i⟩ := h
  exact ⟨dx, pp, re, rn, tc, bareG_pk hp h1, i.p.bareG hp, i.ok, i.e.bareG hp, i.n.bareG hp, bareG_pk hp i.c, i.cl, i.e0, i.n0⟩
theorem MdlAt.bareG {d : Addr} {g : GaugeM} (h : MdlAt H d g) (hp : IsG H p) : MdlAt (Mc.bare p H) d g := by
  obtain ⟨lr, ll, lq, ls, l1, l2, q1, q2, h1, i⟩ := h
  exact ⟨lr, ll, lq, ls, l1, l2, q1, q2, bareG_pk hp h1, i.r.bareG hp, bareG_pk hp i.l, bareG_pk hp i.l1, bareG_pk hp i.l2, bareG_pk hp i.q, bareG_pk hp i.q1, bareG_pk hp i.q2, bareG_pk hp i.s⟩
theorem GaugeIn.bareG {C0 R0 M0 m tr r1 r2 : Addr} {g : GaugeM} (i : GaugeIn C0 R0 M0 H m tr r1 r2 g) (hp : IsG H p) : GaugeIn C0 R0 M0 (Mc.bare p H) m tr r1 r2 g := ⟨i.m.bareG hp, bareG_pk hp i.t, i.e.bareG hp, i.n.bareG hp, i.e0, i.n0⟩
theorem cl_bareD {l : Addr} {cs : List Cut} (h : CutsL H l cs) (hp : IsD H p) : CutsL (Mc.bare p H) l cs := by
  obtain ⟨as, h1, h2⟩ := h
  exact ⟨as, bareD_pk hp h1, pd_imp (fun _ _ q => bareD_pk hp q) h2⟩
theorem RowsL.bareD {l : Addr} {rs : List (List Cut)} (h : RowsL H l rs) (hp : IsD H p) : RowsL (Mc.bare p H) l rs := by
  obtain ⟨as, h1, h2⟩ := h
  exact ⟨as, bareD_pk hp h1, pd_imp (fun _ _ q => cl_bareD q hp) h2⟩
theorem prs_bareD {l : Addr} {qs : List Pr} (h : PairsAt H l qs) (hp : IsD H p) : PairsAt (Mc.bare p H) l qs := by
  obtain ⟨as, h1, h2⟩ := h
  exact ⟨as, bareD_pk hp h1, pd_imp (fun _ _ q => bareD_pk hp q) h2⟩
theorem PlanAt.bareD {C0 t : Addr} {rs : List (List Cut)} (h : PlanAt C0 H t rs) (hp : IsD H p) : PlanAt C0 (Mc.bare p H) t rs := by
  obtain ⟨dx, lr, lp, ll, g, h1, ⟨a1, r1, r2⟩, ⟨a2, q1, q2⟩, ⟨a3, s1, s2⟩, e⟩ := h
  exact ⟨dx, lr, lp, ll, g, bareD_pk hp h1, ⟨a1, bareD_pk hp r1, pd_imp (fun _ _ q => cl_bareD q hp) r2⟩, ⟨a2, bareD_pk hp q1, pd_imp (fun _ _ q => bareD_pk hp q) q2⟩, ⟨a3, bareD_pk hp s1, pd_imp (fun _ _ q => prs_bareD q hp) s2⟩, e⟩
theorem RatV.bareD {R0 q : Addr} {a b : Int} (h : RatV R0 H q a b) (hp : IsD H p) : RatV R0 (Mc.bare p H) q a b := by
  obtain ⟨h1, dx, h2⟩ := h
  exact ⟨h1, dx, bareD_pk hp h2⟩
theorem NumV.bareD {R0 : Addr} {x : V} {a b : Int} (h : NumV R0 H x a b) (hp : IsD H p) : NumV R0 (Mc.bare p H) x a b := h.imp (fun ⟨q, e, r⟩ => ⟨q, e, r.bareD hp⟩) id
theorem MapAt.bareD {C0 R0 M0 m : Addr} {rs : List (List Cut)} {le ln : Int × Int} {cl : List Bool} (h : MapAt C0 R0 M0 H m rs le ln cl) (hp : IsD H p) : MapAt C0 R0 M0 (Mc.bare p H) m rs le ln cl := by
  obtain ⟨dx, pp, re, rn, tc, h1, i⟩ := h
  exact ⟨dx, pp, re, rn, tc, bareD_pk hp h1, i.p.bareD hp, i.ok, i.e.bareD hp, i.n.bareD hp, bareD_pk hp i.c, i.cl, i.e0, i.n0⟩
theorem MdlAt.bareD {d : Addr} {g : GaugeM} (h : MdlAt H d g) (hp : IsD H p) : MdlAt (Mc.bare p H) d g := by
  obtain ⟨lr, ll, lq, ls, l1, l2, q1, q2, h1, i⟩ := h
  exact ⟨lr, ll, lq, ls, l1, l2, q1, q2, bareD_pk hp h1, i.r.bareD hp, bareD_pk hp i.l, bareD_pk hp i.l1, bareD_pk hp i.l2, bareD_pk hp i.q, bareD_pk hp i.q1, bareD_pk hp i.q2, bareD_pk hp i.s⟩
theorem GaugeIn.bareD {C0 R0 M0 m tr r1 r2 : Addr} {g : GaugeM} (i : GaugeIn C0 R0 M0 H m tr r1 r2 g) (hp : IsD H p) : GaugeIn C0 R0 M0 (Mc.bare p H) m tr r1 r2 g := ⟨i.m.bareD hp, bareD_pk hp i.t, i.e.bareD hp, i.n.bareD hp, i.e0, i.n0⟩
theorem GaugeIn.bare {C0 R0 M0 m tr r1 r2 : Addr} {g : GaugeM} (i : GaugeIn C0 R0 M0 H m tr r1 r2 g) (hp : Pot H p) : GaugeIn C0 R0 M0 (Mc.bare p H) m tr r1 r2 g := ⟨i.m.bare hp, bare_pk hp i.t, i.e.bare hp, i.n.bare hp, i.e0, i.n0⟩
end
def kyF (ph s : Nat) : List Key := [.inl (ph : Int), .inl (s : Int)]
theorem kyF_inj {a b c d : Nat} (h : kyF a b = kyF c d) : a = c ∧ b = d := by
  unfold kyF at h
  simp only [List.cons.injEq, Sum.inl.injEq, and_true] at h
  omega
def RcOk (mas : List Addr) (H : Hp) (g : GaugeM) (kvs : List (List Key × V)) : Prop := ∀ (ph s : Nat) (v : V), valV kvs (kyF ph s) = some v → ∃ l, v = .ref l ∧ H l = some (.lst (rcV mas g ph s))
/-- keys of phases below 3 and signs below 32, each once -/
structure KyOk (kvs : List (List Key × V)) : Prop where
  ex : ∃ ns : List Nat, kvs.map (·.1) = ns.map (fun n => kyF (n / 32) (n % 32)) ∧ ns.Nodup ∧ ∀ n ∈ ns, n < 96
theorem nodup_lt : ∀ (n : Nat) (l : List Nat), l.Nodup → (∀ x ∈ l, x < n) → l.length ≤ n
  | 0, [], _, _ => Nat.le_refl 0
  | 0, x :: _, _, h => absurd (h x List.mem_cons_self) (Nat.not_lt_zero _)
  | n + 1, l, d, h => by
    have h1 := nodup_lt n (l.erase n) (d.erase n) (fun x hx => by
      have m := (d.mem_erase_iff).mp hx
      have := h x m.2
      omega)
    by_cases m : n ∈ l
    · have := List.length_erase_of_mem m
      omega
    · rw [List.erase_of_not_mem m] at h1
      omega
theorem KyOk.len {kvs : List (List Key × V)} (k : KyOk kvs) : kvs.length ≤ 96 := by
  obtain ⟨ns, e, d, h⟩ := k.ex
  have : kvs.length = ns.length := by rw [← List.length_map (f := (·.1)), e, List.length_map]
  rw [this]
  exact nodup_lt 96 ns d h
theorem KyOk.nil : KyOk [] := ⟨[], rfl, List.nodup_nil, fun _ z => nomatch z⟩
theorem KyOk.put {kvs : List (List Key × V)} {ph s : Nat} {v : V} (k : KyOk kvs) (h : valV kvs (kyF ph s) = none) (hp : ph < 3) (hs : s < 32) : KyOk (putK kvs (kyF ph s) v) := by
  obtain ⟨ns, e, d, hl⟩ := k.ex
  have ha : (kvs.any fun kv => decide (kv.1 = kyF ph s)) = false := by rw [valV_any, h]; rfl
  have ep : putK kvs (kyF ph s) v = kvs ++ [(kyF ph s, v)] := by
    unfold putK
    rw [ha]
    rfl
  have e1 : (ph * 32 + s) / 32 = ph := by omega
  have e2 : (ph * 32 + s) % 32 = s := by omega
  refine ⟨ns ++ [ph * 32 + s], ?_, ?_, ?_⟩
  · rw [ep, List.map_append, List.map_append, e]
    show _ = _ ++ [kyF ((ph * 32 + s) / 32) ((ph * 32 + s) % 32)]
    rw [e1, e2]
    rfl
  · rw [List.nodup_append]
    refine ⟨d, by simp, fun x hx y hy z => ?_⟩
    rw [List.mem_singleton.mp hy] at z
    subst z
    have m : kyF ph s ∈ kvs.map (·.1) := by
      rw [e]
      exact List.mem_map.mpr ⟨_, hx, by rw [e1, e2]⟩
    obtain ⟨kv, hkv, ek⟩ := List.mem_map.mp m
    have := List.any_eq_false.mp ha kv hkv
    exact this (decide_eq_true ek)
  · intro n hn
    rcases List.mem_append.mp hn with z | z
    · exact hl n z
    · rw [List.mem_singleton.mp z]
      omega
/-- a gauge with what it has kept: d its dict; p the pot beside -/
def GSt (C0 R0 M0 U0 p : Addr) (mas : List Addr) (H : Hp) (a d : Addr) (g : GaugeM) : Prop := ∃ dx m tr r1 r2 u kvs, H a = some (.ins U0 dx (flU m tr g.kd u (.ref d))) ∧ GaugeIn C0 R0 M0 H m tr r1 r2 g ∧ TkOk H g u ∧ (∀ l, u = .ref l → l ≠ p) ∧ H d = some (.dT kvs) ∧ RcOk mas H g kvs ∧ KyOk kvs
section
variable {C0 R0 M0 U0 p a d b c : Addr} {mas : List Addr} {H H' : Hp} {g : GaugeM}
theorem GaugeNew.st (h : GaugeNew C0 R0 M0 U0 H a d g) : GSt C0 R0 M0 U0 p mas H a d g := by
  obtain ⟨dx, m, tr, r1, r2, e, i, hd⟩ := h
  exact ⟨dx, m, tr, r1, r2, .non, [], e, i, .inl rfl, (fun _ z => nomatch z), hd, (fun _ _ _ z => nomatch z), KyOk.nil⟩
theorem GSt.at (h : GSt C0 R0 M0 U0 p mas H a d g) : GaugeAt C0 R0 M0 U0 H a g := by
  obtain ⟨dx, m, tr, r1, r2, u, kvs, e, i, _⟩ := h
  exact ⟨dx, m, tr, r1, r2, _, _, e, i⟩
theorem GSt.isG (h : GSt C0 R0 M0 U0 p mas H a d g) : IsG H a := by
  obtain ⟨dx, m, tr, r1, r2, u, kvs, e, i, _⟩ := h
  exact ⟨_, _, _, _, e⟩
theorem GSt.isD (h : GSt C0 R0 M0 U0 p mas H a d g) : IsD H d := by
  obtain ⟨dx, m, tr, r1, r2, u, kvs, e, i, _, _, hd, _⟩ := h
  exact ⟨_, hd⟩
theorem noPot_rc (mas : List Addr) (g : GaugeM) (ph s : Nat) : noPot (.lst (rcV mas g ph s)) = true := by
  have e : rcV mas g ph s = ((rcP mas g ph s).map (·.1)).map V.ref := by unfold rcV; rw [List.map_map]; rfl
  rw [e]
  exact noPot_refs _
theorem GSt.carry (h : GSt C0 R0 M0 U0 p mas H a d g) (hg : ∀ o, H a = some o → (∃ dx fs, o = .ins U0 dx fs) → H' a = some o) (hi : ∀ m tr r1 r2, GaugeIn C0 R0 M0 H m tr r1 r2 g → GaugeIn C0 R0 M0 H' m tr r1 r2 g) (hl : ∀ l, l ≠ p → H l = some (.lst (tkV g)) → H' l = some (.lst (tkV g)))
    (hd : ∀ kvs, H d = some (.dT kvs) → H' d = some (.dT kvs)) (hr : ∀ l ph s, H l = some (.lst (rcV mas g ph s)) → H' l = some (.lst (rcV mas g ph s))) : GSt C0 R0 M0 U0 p mas H' a d g := by
  obtain ⟨dx, m, tr, r1, r2, u, kvs, e, i, t, n, k, r, o⟩ := h
  refine ⟨dx, m, tr, r1, r2, u, kvs, hg _ e ⟨_, _, rfl⟩, hi _ _ _ _ i, ?_, n, hd _ k, fun ph s v z => ?_, o⟩
  · rcases t with t | ⟨l, t, z⟩
    · exact .inl t
    · exact .inr ⟨l, t, hl l (n l t) z⟩
  · obtain ⟨l, e', z⟩ := r ph s v z
    exact ⟨l, e', hr l ph s z⟩
theorem GSt.ext (h : GSt C0 R0 M0 U0 p mas H a d g) (e : Ext H H') : GSt C0 R0 M0 U0 p mas H' a d g := h.carry (fun o z _ => e _ _ z) (fun _ _ _ _ i => i.ext e) (fun l _ z => e _ _ z) (fun _ z => e _ _ z) (fun _ _ _ z => e _ _ z)
/-- a number is drawn -/
theorem GSt.draw (h : GSt C0 R0 M0 U0 p mas H a d g) (f : Frm [p] H H') (hp : Pot H p) : GSt C0 R0 M0 U0 p mas H' a d g := by
  have e := bare_frm f
  exact h.carry (fun o z ⟨_, _, w⟩ => by subst w; exact e _ _ (bare_pk hp z)) (fun _ _ _ _ i => (i.bare hp).ext e) (fun l n z => f _ _ z (fun w => n (List.mem_singleton.mp w))) (fun _ z => e _ _ (bare_pk hp z)) (fun _ _ _ z => e _ _ (bare_pk hp z (noPot_rc _ _ _ _)))
/-- another gauge changes: its instance, or its dict -/
theorem GSt.otherG (h : GSt C0 R0 M0 U0 p mas H a d g) (f : Frm [b] H H') (hb : IsG H b) (n : a ≠ b) : GSt C0 R0 M0 U0 p mas H' a d g := by
  have e := bare_frm f
  exact h.carry (fun o z _ => f _ _ z (fun w => n (List.mem_singleton.mp w))) (fun _ _ _ _ i => (i.bareG hb).ext e) (fun l _ z => e _ _ (bareG_pk hb z)) (fun _ z => e _ _ (bareG_pk hb z)) (fun _ _ _ z => e _ _ (bareG_pk hb z))
theorem GSt.otherD (h : GSt C0 R0 M0 U0 p mas H a d g) (f : Frm [c] H H') (hb : IsD H c) (n : d ≠ c) : GSt C0 R0 M0 U0 p mas H' a d g := by
  have e := bare_frm f
  exact h.carry (fun o z ⟨_, _, w⟩ => by subst w; exact e _ _ (bareD_pk hb z)) (fun _ _ _ _ i => (i.bareD hb).ext e) (fun l _ z => e _ _ (bareD_pk hb z)) (fun _ z => f _ _ z (fun w => n (List.mem_singleton.mp w))) (fun _ _ _ z => e _ _ (bareD_pk hb z))
/-- what is taken is asked -/
theorem GSt.took {dx m tr r1 r2 l : Addr} {u : V} (h : GSt C0 R0 M0 U0 p mas H a d g) (hm : H a = some (.ins U0 dx (flU m tr g.kd u (.ref d)))) (f : Frm [a] H H') (h2 : H' a = some (.ins U0 dx (flU m tr g.kd (.ref l) (.ref d)))) (hl : H' l = some (.lst (tkV g))) (ln : l ≠ p) : GSt C0 R0 M0 U0 p mas H' a d g := by
  have hb := h.isG
  have e := bare_frm f
  obtain ⟨dx', m', tr', r1', r2', u', kvs, e', i, t, n, k, r, o⟩ := h
  rw [e'] at hm
  have q := (HO.ins.inj (Option.some.inj hm))
  have q2 := q.2.2
  unfold flU at q2
  simp only [List.cons.injEq, Prod.mk.injEq, V.ref.injEq, true_and, and_true] at q2
  obtain ⟨rfl, rfl, _⟩ := q2
  exact ⟨dx, m', tr', r1', r2', .ref l, kvs, h2, (i.bareG hb).ext e, .inr ⟨l, rfl, hl⟩, (fun l2 z => by cases z; exact ln), e _ _ (bareG_pk hb k), fun ph s v z => by
    obtain ⟨l3, e3, z3⟩ := r ph s v z
    exact ⟨l3, e3, e _ _ (bareG_pk hb z3)⟩, o⟩
end
/-- .. beside B, which stays, and with none of N among the lists that are kept -/
def GSx (C0 R0 M0 U0 : Addr) (mas : List Addr) (B : Hp) (N : Addr → Prop) (H : Hp) (a d : Addr) (g : GaugeM) : Prop := ∃ dx m tr r1 r2 u kvs, H a = some (.ins U0 dx (flU m tr g.kd u (.ref d))) ∧ GaugeIn C0 R0 M0 B m tr r1 r2 g ∧ Ext B H ∧ B a = none ∧ B d = none ∧ (∀ x, N x → B x = none) ∧ ¬ N a ∧ ¬ N d ∧
  TkOk H g u ∧ (∀ l, u = .ref l → ¬ N l) ∧ H d = some (.dT kvs) ∧ RcOk mas H g kvs ∧ (∀ ph s l, valV kvs (kyF ph s) = some (.ref l) → ¬ N l) ∧ KyOk kvs
section
variable {C0 R0 M0 U0 p a d z : Addr} {mas : List Addr} {B H H' : Hp} {N : Addr → Prop} {g : GaugeM}
theorem GSx.st (h : GSx C0 R0 M0 U0 mas B N H a d g) (hp : N p) : GSt C0 R0 M0 U0 p mas H a d g := by
  obtain ⟨dx, m, tr, r1, r2, u, kvs, ha, gi, ex, ba, bd, bn, na, nd, tk, tn, hd, rc, rn, ky⟩ := h
  exact ⟨dx, m, tr, r1, r2, u, kvs, ha, gi.ext ex, tk, (fun l e w => tn l e (w ▸ hp)), hd, rc, ky⟩
theorem GSx.isD (h : GSx C0 R0 M0 U0 mas B N H a d g) : IsD H d := by
  obtain ⟨dx, m, tr, r1, r2, u, kvs, ha, gi, ex, ba, bd, bn, na, nd, tk, tn, hd, rc, rn, ky⟩ := h
  exact ⟨_, hd⟩
theorem GSx.turn (h : GSx C0 R0 M0 U0 mas B N H a d g) (f : Frm [z] H H') (hz : N z) : GSx C0 R0 M0 U0 mas B N H' a d g := by
  obtain ⟨dx, m, tr, r1, r2, u, kvs, ha, gi, ex, ba, bd, bn, na, nd, tk, tn, hd, rc, rn, ky⟩ := h
  have k : ∀ {x : Addr} {o : HO}, H x = some o → ¬ N x → H' x = some o := fun e n => f _ _ e fun w => n (List.mem_singleton.mp w ▸ hz)
  refine ⟨dx, m, tr, r1, r2, u, kvs, k ha na, gi, fun x o e => f _ _ (ex _ _ e) (fun w => by rw [List.mem_singleton.mp w, bn _ hz] at e; cases e), ba, bd, bn, na, nd, ?_, tn, k hd nd, fun ph s v e => ?_, rn, ky⟩
  · rcases tk with t | ⟨l, t, e⟩
    · exact .inl t
    · exact .inr ⟨l, t, k e (tn l t)⟩
  · obtain ⟨l, e1, e2⟩ := rc ph s v e
    subst e1
    exact ⟨l, rfl, k e2 (rn ph s l e)⟩
theorem GSx.ext (h : GSx C0 R0 M0 U0 mas B N H a d g) (e : Ext H H') : GSx C0 R0 M0 U0 mas B N H' a d g := by
  obtain ⟨dx, m, tr, r1, r2, u, kvs, ha, gi, ex, ba, bd, bn, na, nd, tk, tn, hd, rc, rn, ky⟩ := h
  refine ⟨dx, m, tr, r1, r2, u, kvs, e _ _ ha, gi, ex.trans e, ba, bd, bn, na, nd, ?_, tn, e _ _ hd, fun ph s v w => ?_, rn, ky⟩
  · rcases tk with t | ⟨l, t, w⟩
    · exact .inl t
    · exact .inr ⟨l, t, e _ _ w⟩
  · obtain ⟨l, e1, e2⟩ := rc ph s v w
    exact ⟨l, e1, e _ _ e2⟩
/-- a new address is added -/
theorem GSx.add (h : GSx C0 R0 M0 U0 mas B N H a d g) (hz : H z = none) : GSx C0 R0 M0 U0 mas B (fun x => N x ∨ x = z) H a d g := by
  obtain ⟨dx, m, tr, r1, r2, u, kvs, ha, gi, ex, ba, bd, bn, na, nd, tk, tn, hd, rc, rn, ky⟩ := h
  have nz : ∀ {x : Addr} {o : HO}, H x = some o → x ≠ z := fun e w => by rw [w, hz] at e; cases e
  refine ⟨dx, m, tr, r1, r2, u, kvs, ha, gi, ex, ba, bd, fun x hx => ?_, fun w => w.elim na (nz ha), fun w => w.elim nd (nz hd), tk, fun l e w => ?_, hd, rc, fun ph s l e w => ?_, ky⟩
  · rcases hx with hx | rfl
    · exact bn x hx
    · exact none_ext ex hz
  · rcases tk with t | ⟨l2, t, q⟩
    · rw [t] at e; cases e
    · rw [t] at e
      cases e
      exact w.elim (tn _ t) (nz q)
  · obtain ⟨l2, e1, q⟩ := rc ph s _ e
    cases e1
    exact w.elim (rn ph s _ e) (nz q)
theorem GaugeNew.stx (h : GaugeNew C0 R0 M0 U0 H a d g) {e : Addr} (hp : Pot H p) (he : e = p ∨ (IsD H e ∧ e ≠ d)) : GSx C0 R0 M0 U0 mas (bare e (bare p (bare d (bare a H)))) (fun x => x = p ∨ x = e) H a d g := by
  obtain ⟨dx, m, tr, r1, r2, ha, gi, hd⟩ := h
  have hA : IsG H a := ⟨_, _, _, _, ha⟩
  have hd1 := bareG_pk hA hd
  have hD : IsD (bare a H) d := ⟨_, hd1⟩
  have np : ∀ {o : HO}, H p = some o → (∃ x y, o = .lst [.int x, .int y]) := fun w => by
    obtain ⟨x, y, q, _⟩ := hp
    rw [q] at w
    exact ⟨x, y, (Option.some.inj w).symm⟩
  have ap : a ≠ p := fun w => by rw [w] at ha; obtain ⟨_, _, q⟩ := np ha; cases q
  have dp : d ≠ p := fun w => by rw [w] at hd; obtain ⟨_, _, q⟩ := np hd; cases q
  have hp2 : Pot (bare d (bare a H)) p := by
    obtain ⟨x, y, q, w⟩ := hp
    exact ⟨x, y, bareD_pk hD (bareG_pk hA q), w⟩
  have g3 := ((gi.bareG hA).bareD hD).bare hp2
  have ae : a ≠ e := by
    rcases he with rfl | ⟨⟨kv, q⟩, _⟩
    · exact ap
    · exact fun w => by rw [w, q] at ha; cases ha
  have de : d ≠ e := by
    rcases he with rfl | ⟨_, q⟩
    · exact dp
    · exact fun w => q w.symm
  have g4 : GaugeIn C0 R0 M0 (bare e (bare p (bare d (bare a H)))) m tr r1 r2 g := by
    rcases he with rfl | ⟨⟨kv, q⟩, n⟩
    · have eb : bare e (bare e (bare d (bare a H))) = bare e (bare d (bare a H)) := by
        funext x
        unfold bare
        split <;> rfl
      rw [eb]
      exact g3
    · exact g3.bareD (p := e) ⟨kv, bare_pk hp2 (bareD_pk2 (bareG_pk hA q) n)⟩
  have bo : ∀ {x y : Addr} {G : Hp}, G y = none → bare x G y = none := fun h => by
    unfold bare
    split
    · rfl
    · exact h
  have bs : ∀ {x : Addr} {G : Hp}, bare x G x = none := fun {x G} => if_pos rfl
  refine ⟨dx, m, tr, r1, r2, .non, [], ha, g4, (((bare_ext _ _).trans (bare_ext _ _)).trans (bare_ext _ _)).trans (bare_ext _ _), bo (bo (bo bs)), bo (bo bs), fun x hx => ?_, fun w => w.elim ap ae, fun w => w.elim dp de, .inl rfl, (fun _ z => nomatch z), hd, (fun _ _ _ z => nomatch z), (fun _ _ _ z => nomatch z), KyOk.nil⟩
  rcases hx with rfl | rfl
  · exact bo bs
  · exact bs
end
def spReached (C0 R0 M0 U0 : Addr) (mas : List Addr) : Sp := fun vs H Q _ => ∃ (p a d : Addr) (g : GaugeM) (ph s : Nat), vs = [.ref a, .int ph, .int s] ∧ GSt C0 R0 M0 U0 p mas H a d g ∧ GOk g ∧ ph < g.rs.length ∧ s < (placesF (csF g ph)).length ∧ ∀ q H', Frm [d] H H' → H q = none → H' q = some (.lst (rcV mas g ph s)) → GSt C0 R0 M0 U0 p mas H' a d g → (∀ (B : Hp) (N : Addr → Prop), (∀ x, N x → H x ≠ none) → GSx C0 R0 M0 U0 mas B N H a d g → GSx C0 R0 M0 U0 mas B (fun y => N y ∨ y = q) H' a d g) → Q (.ref q) H'
theorem ok_Gauge_reached (F : FunD K "reached" "Gauge.reached" (defArgs s_Gauge_reached) (defBody s_Gauge_reached) (defScope s_Gauge_reached) [] [] f fd) (T : TB mg) (R : PlanT K mg C0 aX mc) (RM : MapT K mg M0) (RU : GaugeT K mg U0 kX) {p_Map_plan f_Map_plan : Addr} {fd_Map_plan : FuncData} (m_Map_plan : PropOf K M0 "plan" p_Map_plan f_Map_plan) (g_Map_plan : FnOk P w K mg base CX0 1 f_Map_plan fd_Map_plan ["self"] (spMPlan C0 R0 M0)) (b_Map_plan : Binds K fd_Map_plan ["self"] []) {fcheck_sign : Addr} {fdcheck_sign : FuncData} (Dcheck_sign : Gd P w K mg base "check_sign" 6 ["plan", "phase", "sign"] (spSignOk C0) fcheck_sign fdcheck_sign) {freached_with : Addr} {fdreached_with : FuncData} (Dreached_with : Gd P w K mg base "_reached_with" 10 ["gauge", "phase", "sign"] (spReachedW K C0 R0 M0 U0 mas) freached_with fdreached_with) : FnOk P w K mg base CX0 11 f fd ["self", "phase", "sign"] (spReached C0 R0 M0 U0 mas) := by
  refine F.ok sc_Gauge_reached (fun vs H Q E h => ?_) (fun cdv A outer s H vs Q E hr h => ?_)
  · obtain ⟨p, a, d, g, ph, s, rfl, hG, ok, hph, hs, k⟩ := h
    rfl
  · obtain ⟨p, a, d, g, ph, s, rfl, hG, ok, hph, hs, k⟩ := h
    refine ⟨_, (PSs.nox (pss_cons (ps_expr (pe_gd Dcheck_sign hr (by decide) (by rfl) (pa_cons (pe_prop (pe_fld (pv 0) rfl) RM.cl m_Map_plan g_Map_plan (hr.mono (by decide)) b_Map_plan .nil pass0 rfl) (pa_cons (pv 1) (pa_cons (pv 2) pa_nil)))))
      (pss_cons (ps_if (pt_cmp (pc_dnotin (hu_of hr) (pe_tup (pa_cons (pv 1) (pa_cons (pv 2) pa_nil))) (pe_fld (pv 0) rfl))) (pss_one (ps_dput (hu_of hr) (pe_fld (pv 0) rfl) (pe_tup (pa_cons (pv 1) (pa_cons (pv 2) pa_nil))) (pe_gd Dreached_with hr (by decide) (by rfl) (pa_cons (pv 0) (pa_cons (pv 1) (pa_cons (pv 2) pa_nil)))) rfl)) pss_nil)
      (pss_one (ps_ret (pe_callTy (call_listK (K := K) rfl) (by rfl) T.list (by decide +kernel) (pa_cons (pe_dget (hu_of hr) (pe_fld (pv 0) rfl) (pe_tup (pa_cons (pv 1) (pa_cons (pv 2) pa_nil))) (fun _ _ => rfl)) pa_nil))))))), ?_⟩
    obtain ⟨dx, m, tr, r1, r2, u, kvs, ha, gi, tk, tp, hd, rc, ky⟩ := id hG
    obtain ⟨dm, pp', re, rn, tc, h1, mi⟩ := id gi.m
    have l3 := ok.ok.l3
    have csg : g.rs[ph]? = some (csF g ph) := by
      show _ = some (g.rs.getD ph [])
      rw [List.getD_eq_getElem?_getD, List.getElem?_eq_getElem hph]
      rfl
    have s32 : s < 32 := by
      rw [placesF_length] at hs
      exact Nat.lt_of_lt_of_le hs (ok.ok.h32 _ (List.mem_of_getElem? csg))
    have kl : kvs.length < sizeLine := by have := ky.len; rw [sizeLine_eq]; omega
    refine ⟨_, rfl, a, U0, dx, _, _, rfl, ha, RU.cl, RU.nA, rfl, m, dm, _, rfl, h1, m, rfl, g.rs, g.le, g.ln, g.cl, gi.m, fun pp hpp => ⟨_, rfl, _, rfl, pp, g.rs, ph, csF g ph, s, rfl, hpp, csg, l3, hs, ?_⟩⟩
    refine ⟨_, rfl, _, rfl, (by show 2 ≤ sizeLine; decide), fun t ht => ?_⟩
    have e1 := Ext.upd (H := H) (o := .tup [.int (ph : Nat), .int (s : Nat)]) ht
    have ht1 : (upd H t (.tup [.int (ph : Nat), .int (s : Nat)])) t = some (.tup [.int (ph : Nat), .int (s : Nat)]) := upd_same
    generalize upd H t (.tup [.int (ph : Nat), .int (s : Nat)]) = H1 at e1 ht1 ⊢
    have ha1 := e1 _ _ ha
    have hd1 := e1 _ _ hd
    refine ⟨_, rfl, a, U0, dx, _, _, rfl, ha1, RU.cl, RU.nD, rfl, d, _, rfl, DGet.t (k := kyF ph s) hd1 ht1, _, rfl, ?_⟩
    -- the answer, once it is there
    have fin : ∀ (H2 : Hp) (kvs2 : List (List Key × V)) (l : Addr), Frm [d] H H2 → H2 a = some (.ins U0 dx (flU m tr g.kd u (.ref d))) → H2 d = some (.dT kvs2) → valV kvs2 (kyF ph s) = some (.ref l) → H2 l = some (.lst (rcV mas g ph s)) → GSt C0 R0 M0 U0 p mas H2 a d g → (∀ q, H2 q = none → H q = none) → (∀ (B : Hp) (N : Addr → Prop), (∀ x, N x → H x ≠ none) → GSx C0 R0 M0 U0 mas B N H a d g → GSx C0 R0 M0 U0 mas B N H2 a d g) → ∀ q, H2 q = none → Q (.ref q) (upd H2 q (.lst (rcV mas g ph s))) := fun H2 kvs2 l f2 ha2 hd2 hv hl hG2 hn hX q hq =>
      k q _ (f2.trans (Frm.ext (Ext.upd hq))) (hn q hq) upd_same (hG2.ext (Ext.upd hq)) (fun B N hn hx => ((hX B N hn hx).add hq).ext (Ext.upd hq))
    cases hv : valV kvs (kyF ph s) with
    | some v =>
      obtain ⟨l, rfl, hl⟩ := rc ph s v hv
      show if (!true) = true then _ else _
      rw [if_neg (by decide)]
      refine ⟨_, rfl, a, U0, dx, _, _, rfl, ha1, RU.cl, RU.nD, rfl, _, rfl, _, rfl, (by show 2 ≤ sizeLine; decide), fun t2 ht2 => ?_⟩
      have e2 := Ext.upd (H := H1) (o := .tup [.int (ph : Nat), .int (s : Nat)]) ht2
      have ht3 : (upd H1 t2 (.tup [.int (ph : Nat), .int (s : Nat)])) t2 = some (.tup [.int (ph : Nat), .int (s : Nat)]) := upd_same
      generalize upd H1 t2 (.tup [.int (ph : Nat), .int (s : Nat)]) = H2 at e2 ht3 ⊢
      have e12 := e1.trans e2
      have g2 := DGet.t (k := kyF ph s) (e12 _ _ hd) ht3
      rw [hv] at g2
      exact ⟨d, _, rfl, g2, l, _, rfl, .inl (SqL.of (e12 _ _ hl)), fin H2 kvs l (Frm.ext e12) (e12 _ _ ha) (e12 _ _ hd) hv (e12 _ _ hl) (hG.ext e12) (fun q hq => none_ext e12 hq) (fun _ _ _ hx => hx.ext e12)⟩
    | none =>
      show if (!false) = true then _ else _
      rw [if_pos (show (!false) = true from rfl)]
      refine ⟨_, rfl, _, rfl, _, rfl, a, g, ph, s, rfl, hG.at.ext e1, ok, hph, hs, fun l H2 e2 hl0 hl => ?_⟩
      have e12 := e1.trans e2
      refine ⟨_, rfl, a, U0, dx, _, _, rfl, e12 _ _ ha, RU.cl, RU.nD, rfl, _, rfl, _, rfl, (by show 2 ≤ sizeLine; decide), fun t2 ht2 => ?_⟩
      have e3 := Ext.upd (H := H2) (o := .tup [.int (ph : Nat), .int (s : Nat)]) ht2
      have ht3 : (upd H2 t2 (.tup [.int (ph : Nat), .int (s : Nat)])) t2 = some (.tup [.int (ph : Nat), .int (s : Nat)]) := upd_same
      generalize upd H2 t2 (.tup [.int (ph : Nat), .int (s : Nat)]) = H3 at e3 ht3 ⊢
      have e13 := e12.trans e3
      have hl3 := e3 _ _ hl
      refine ⟨d, _, rfl, DPut.t (k := kyF ph s) (e13 _ _ hd) ht3 kl, ?_⟩
      have hd3 := e13 _ _ hd
      have ha3 := e13 _ _ ha
      have f4 : Frm [d] H3 (upd H3 d (.dT (putK kvs (kyF ph s) (.ref l)))) := Frm.put (List.mem_singleton.mpr rfl)
      have hD : IsD H3 d := ⟨_, hd3⟩
      have hd4 : (upd H3 d (.dT (putK kvs (kyF ph s) (.ref l)))) d = some (.dT (putK kvs (kyF ph s) (.ref l))) := upd_same
      have n4 : ∀ q, (upd H3 d (.dT (putK kvs (kyF ph s) (.ref l)))) q = none → H q = none := fun q hq => none_ext e13 (by
        by_cases z : q = d
        · rw [z, upd_same] at hq; cases hq
        · rwa [upd_ne z] at hq)
      generalize upd H3 d (.dT (putK kvs (kyF ph s) (.ref l))) = H4 at f4 hd4 n4 ⊢
      have b4 := bare_frm f4
      have ha4 : H4 a = some (.ins U0 dx (flU m tr g.kd u (.ref d))) := b4 _ _ (bareD_pk hD ha3)
      have hl4 := b4 _ _ (bareD_pk hD hl3)
      have hX4 : ∀ (B : Hp) (N : Addr → Prop), (∀ x, N x → H x ≠ none) → GSx C0 R0 M0 U0 mas B N H a d g → GSx C0 R0 M0 U0 mas B N H4 a d g := by
        intro B N hn hx
        obtain ⟨dx', m', tr', r1', r2', u', kvs', xa, xi, ex, ba, bd, bn, na, nd, xt, tn, xd, xr, rn, xk⟩ := hx
        rw [hd] at xd
        cases xd
        have nl : ¬ N l := fun w => hn l w (none_ext e1 hl0)
        refine ⟨dx', m', tr', r1', r2', u', _, b4 _ _ (bareD_pk hD (e13 _ _ xa)), xi, fun x o z => f4 _ _ (e13 _ _ (ex _ _ z)) (fun w => by rw [List.mem_singleton.mp w, bd] at z; cases z), ba, bd, bn, na, nd, ?_, tn, hd4, fun ph' s' v' hv' => ?_, fun ph' s' l' hv' => ?_, xk.put hv (by omega) s32⟩
        · rcases xt with z | ⟨l', z, hl'⟩
          · exact .inl z
          · exact .inr ⟨l', z, b4 _ _ (bareD_pk hD (e13 _ _ hl'))⟩
        · rw [valV_put] at hv'
          by_cases z : kyF ph' s' = kyF ph s
          · rw [if_pos z] at hv'
            cases hv'
            obtain ⟨rfl, rfl⟩ := kyF_inj z
            exact ⟨l, rfl, hl4⟩
          · rw [if_neg z] at hv'
            obtain ⟨l', e', hl'⟩ := xr ph' s' v' hv'
            exact ⟨l', e', b4 _ _ (bareD_pk hD (e13 _ _ hl'))⟩
        · rw [valV_put] at hv'
          by_cases z : kyF ph' s' = kyF ph s
          · rw [if_pos z] at hv'
            cases hv'
            exact nl
          · rw [if_neg z] at hv'
            exact rn _ _ _ hv'
      have hG4 : GSt C0 R0 M0 U0 p mas H4 a d g := by
        refine ⟨dx, m, tr, r1, r2, u, _, ha4, ((gi.ext e13).bareD hD).ext b4, ?_, tp, hd4, fun ph' s' v' hv' => ?_, ky.put hv (by omega) s32⟩
        · rcases tk with z | ⟨l', z, hl'⟩
          · exact .inl z
          · exact .inr ⟨l', z, b4 _ _ (bareD_pk hD (e13 _ _ hl'))⟩
        · rw [valV_put] at hv'
          by_cases z : kyF ph' s' = kyF ph s
          · rw [if_pos z] at hv'
            cases hv'
            obtain ⟨rfl, rfl⟩ := kyF_inj z
            exact ⟨l, rfl, hl4⟩
          · rw [if_neg z] at hv'
            obtain ⟨l', e', hl'⟩ := rc ph' s' v' hv'
            exact ⟨l', e', b4 _ _ (bareD_pk hD (e13 _ _ hl'))⟩
      refine ⟨_, rfl, a, U0, dx, _, _, rfl, ha4, RU.cl, RU.nD, rfl, _, rfl, _, rfl, (by show 2 ≤ sizeLine; decide), fun t5 ht5 => ?_⟩
      have e5 := Ext.upd (H := H4) (o := .tup [.int (ph : Nat), .int (s : Nat)]) ht5
      have ht6 : (upd H4 t5 (.tup [.int (ph : Nat), .int (s : Nat)])) t5 = some (.tup [.int (ph : Nat), .int (s : Nat)]) := upd_same
      generalize upd H4 t5 (.tup [.int (ph : Nat), .int (s : Nat)]) = H5 at e5 ht6 ⊢
      have g5 := DGet.t (k := kyF ph s) (e5 _ _ hd4) ht6
      have v5 : valV (putK kvs (kyF ph s) (.ref l)) (kyF ph s) = some (.ref l) := by rw [valV_put, if_pos rfl]
      rw [v5] at g5
      exact ⟨d, _, rfl, g5, l, _, rfl, .inl (SqL.of (e5 _ _ hl4)), fin H5 _ l (((Frm.ext e13).trans f4).trans (Frm.ext e5)) (e5 _ _ ha4) (e5 _ _ hd4) v5 (e5 _ _ hl4) (hG4.ext e5) (fun q hq => n4 q (none_ext e5 hq)) (fun B N hn hx => (hX4 B N hn hx).ext e5)⟩
end
end Mc

set_option Elab.async false
set_option linter.all false
set_option maxRecDepth 100000
set_option maxHeartbeats 4000000
set_option exponentiation.threshold 20000
namespace Mc
open PySem PySem.Spec PyProof.Rows L2 ClX StX
open RZ
/-! ### finenesses by distances -/
theorem cr_two {cs : List Cut} (h : ∀ c ∈ cs, okC c) (n : 1 ≤ cs.length) : 2 ≤ colsF cs * rowsF cs := by
  cases cs with
  | nil => exact absurd n (by decide)
  | cons c r =>
    have p := pos_cols (fun d hd => h d (List.mem_cons_of_mem _ hd))
    have c2 := (h c List.mem_cons_self).1
    have q : 0 < colsF r * rowsF r := Nat.mul_pos p.1 p.2
    obtain ⟨b, m⟩ := c
    have c2 : 2 ≤ m := c2
    have e : colsF ((b, m) :: r) * rowsF ((b, m) :: r) = m * (colsF r * rowsF r) := by
      cases b
      · show 1 * colsF r * (m * rowsF r) = _
        rw [Nat.one_mul, Nat.mul_left_comm]
      · show m * colsF r * (1 * rowsF r) = _
        rw [Nat.one_mul, Nat.mul_assoc]
    rw [e]
    exact Nat.le_trans c2 (Nat.le_mul_of_pos_right _ q)
theorem dc_first {rs : List (List Cut)} (ok : OkR rs) : ∀ m, dcF rs 0 1 ≤ dcF rs 0 (m + 1) ∧ drF rs 0 1 ≤ drF rs 0 (m + 1)
  | 0 => ⟨Nat.le_refl _, Nat.le_refl _⟩
  | m + 1 => by
    have h := dc_first ok m
    have g := dc_grow ok (m + 1)
    exact ⟨Nat.le_trans h.1 g.1, Nat.le_trans h.2 g.2⟩
theorem grow_two {rs : List (List Cut)} (ok : OkR rs) : 2 ≤ dcF rs 0 rs.length := by
  have l1 := ok.l1
  obtain ⟨L, hL⟩ : ∃ L, rs.length = L + 1 := ⟨rs.length - 1, by omega⟩
  have g := dc_first ok L
  rw [← hL] at g
  have e1 : dcF rs 0 1 = colsF (csA rs 0) := by show 1 * colsF (csA rs (0 + 0)) = _; rw [Nat.one_mul]
  have e2 : drF rs 0 1 = rowsF (csA rs 0) := by show 1 * rowsF (csA rs (0 + 0)) = _; rw [Nat.one_mul]
  have m := csA_mem l1 0
  have t := cr_two (ok.hc _ m) (ok.h1 _ m)
  rw [← e1, ← e2] at t
  have b := ok.bal
  rw [growth_eq rs] at b
  have b : dcF rs 0 rs.length = drF rs 0 rs.length := Int.ofNat.inj b
  rcases Nat.lt_or_ge (dcF rs 0 rs.length) 2 with h | h
  · have h1 : dcF rs 0 1 ≤ 1 := by omega
    have h2 : drF rs 0 1 ≤ 1 := by omega
    have := Nat.mul_le_mul h1 h2
    omega
  · exact h
theorem gt_num {g : GaugeM} (p : GPos g) (i : Nat) : 0 < (gtF g i).1 := by
  have h1 : 0 < (gtE g i).1 := Int.mul_pos p.e0 p.r0
  have h2 : 0 < (gtN g i).1 := Int.mul_pos p.n0 p.s0
  unfold gtF
  split
  · exact h2
  · exact h1
theorem gt_monoN {g : GaugeM} (p : GPos g) (i : Nat) : ∀ k, (gtF g (i + k)).1 * (gtF g i).2 ≤ (gtF g i).1 * (gtF g (i + k)).2
  | 0 => Int.le_refl _
  | k + 1 => by
    have h := gt_monoN p i k
    have m := gt_mono p (i + k)
    exact fr_trans (gt_pos p _).2.2 (gt_pos p _).2.2 (gt_pos p _).2.2 (Int.not_lt.mp m) h
/-- a row later it is less -/
theorem gt_late {g : GaugeM} (p : GPos g) (i : Nat) : (gtF g (i + g.rs.length)).1 * (gtF g i).2 < (gtF g i).1 * (gtF g (i + g.rs.length)).2 := by
  rw [gt_row p i]
  have g2 := grow_two p.ok
  have h1 := gt_num p i
  have h2 := (gt_pos p i).2.2
  have e : (gtF g i).1 * ((gtF g i).2 * ((dcF g.rs 0 g.rs.length : Nat) : Int)) = (gtF g i).1 * (gtF g i).2 * ((dcF g.rs 0 g.rs.length : Nat) : Int) := by rw [Int.mul_assoc]
  show (gtF g i).1 * (gtF g i).2 < (gtF g i).1 * ((gtF g i).2 * ((dcF g.rs 0 g.rs.length : Nat) : Int))
  rw [e]
  have h3 := Int.mul_pos h1 h2
  have h4 : (gtF g i).1 * (gtF g i).2 * 2 ≤ (gtF g i).1 * (gtF g i).2 * ((dcF g.rs 0 g.rs.length : Nat) : Int) := Int.mul_le_mul_of_nonneg_left (by omega) (Int.le_of_lt h3)
  omega
/-- the fineness of a distance -/
def FinIs (g : GaugeM) (c e : Int) (k : Nat) : Prop := (∀ i, i < k → abF g c e (i + 1) = false) ∧ abF g c e (k + 1) = true
theorem fin_ex {g : GaugeM} {c e : Int} : ∀ N, abF g c e (N + 1) = true → ∃ k, k ≤ N ∧ FinIs g c e k
  | 0, h => ⟨0, Nat.le_refl _, fun i hi => absurd hi (Nat.not_lt_zero i), h⟩
  | N + 1, h => by
    by_cases q : ∃ i, i ≤ N ∧ abF g c e (i + 1) = true
    · obtain ⟨i, hi, hq⟩ := q
      obtain ⟨k, hk, f⟩ := fin_ex i hq
      exact ⟨k, by omega, f⟩
    · refine ⟨N + 1, Nat.le_refl _, fun i hi => ?_, h⟩
      cases z : abF g c e (i + 1) with
      | false => rfl
      | true => exact absurd ⟨i, by omega, z⟩ q
  termination_by N => N
theorem fin_le {g : GaugeM} {c e : Int} {k n : Nat} (f : FinIs g c e k) (h : abF g c e (n + 1) = true) : k ≤ n := by
  rcases Nat.lt_or_ge n k with z | z
  · rw [f.1 n z] at h
    cases h
  · exact z
theorem fin_ge {g : GaugeM} {c e : Int} {k n : Nat} (f : FinIs g c e k) (h : ∀ i, i < n → abF g c e (i + 1) = false) : n ≤ k := by
  rcases Nat.lt_or_ge k n with z | z
  · have := h k z
    rw [f.2] at this
    cases this
  · exact z
theorem fin_same {g : GaugeM} {c e c2 e2 : Int} {k k2 : Nat} (f : FinIs g c e k) (f2 : FinIs g c2 e2 k2) (s : ∀ i, abF g c e i = abF g c2 e2 i) : k = k2 := by
  have h1 := fin_le f (by rw [s]; exact f2.2)
  have h2 := fin_le f2 (by rw [← s]; exact f.2)
  omega
theorem ab_top {g : GaugeM} (i n : Nat) : abF g (gtF g n).1 (gtF g n).2 i = decide ((gtF g i).1 * (gtF g n).2 < (gtF g n).1 * (gtF g i).2) := rfl
theorem ab_low {g : GaugeM} (p : GPos g) {i n : Nat} (h : i ≤ n) : abF g (gtF g n).1 (gtF g n).2 i = false := by
  obtain ⟨k, rfl⟩ := Nat.exists_eq_add_of_le h
  have := gt_monoN p i k
  rw [ab_top]
  exact decide_eq_false (by omega)
/-- the middle of a fineness' greatest distance and the next one's -/
def mdF (g : GaugeM) (n : Nat) : Int × Int := ((gtF g n).1 * (gtF g (n + 1)).2 + (gtF g (n + 1)).1 * (gtF g n).2, 2 * (gtF g n).2 * (gtF g (n + 1)).2)
theorem md_le {g : GaugeM} (p : GPos g) (n : Nat) : (mdF g n).1 * (gtF g n).2 ≤ (gtF g n).1 * (mdF g n).2 := by
  have m := Int.not_lt.mp (gt_mono p n)
  have d := (gt_pos p n).2.2
  unfold mdF
  show ((gtF g n).1 * (gtF g (n + 1)).2 + (gtF g (n + 1)).1 * (gtF g n).2) * (gtF g n).2 ≤ (gtF g n).1 * (2 * (gtF g n).2 * (gtF g (n + 1)).2)
  have e : (gtF g n).1 * (2 * (gtF g n).2 * (gtF g (n + 1)).2) = ((gtF g n).1 * (gtF g (n + 1)).2 + (gtF g n).1 * (gtF g (n + 1)).2) * (gtF g n).2 := by
    rw [← Int.two_mul]
    simp only [Int.mul_assoc, Int.mul_comm, Int.mul_left_comm]
  rw [e]
  exact Int.mul_le_mul_of_nonneg_right (by omega) (Int.le_of_lt d)
theorem md_pos {g : GaugeM} (p : GPos g) (n : Nat) : 0 < (mdF g n).1 ∧ 0 < (mdF g n).2 := by
  have a := gt_num p n
  have b := gt_num p (n + 1)
  have c := (gt_pos p n).2.2
  have d := (gt_pos p (n + 1)).2.2
  have h1 := Int.mul_pos a d
  have h2 := Int.mul_pos b c
  have h3 := Int.mul_pos (Int.mul_pos (show (0 : Int) < 2 by decide) c) d
  exact ⟨Int.add_pos h1 h2, h3⟩
theorem md_low {g : GaugeM} (p : GPos g) {i n : Nat} (h : i ≤ n) : abF g (mdF g n).1 (mdF g n).2 i = false := by
  obtain ⟨k, rfl⟩ := Nat.exists_eq_add_of_le h
  have h1 := gt_monoN p i k
  have h2 := md_le p (i + k)
  unfold abF
  have := fr_trans (md_pos p _).2 (gt_pos p _).2.2 (gt_pos p _).2.2 h2 h1
  exact decide_eq_false (by omega)
theorem md_next {g : GaugeM} (p : GPos g) {n : Nat} (h : lsF g n = true) : abF g (mdF g n).1 (mdF g n).2 (n + 1) = true := by
  have h : (gtF g (n + 1)).1 * (gtF g n).2 < (gtF g n).1 * (gtF g (n + 1)).2 := of_decide_eq_true h
  have d := (gt_pos p (n + 1)).2.2
  refine decide_eq_true ?_
  unfold mdF
  show (gtF g (n + 1)).1 * (2 * (gtF g n).2 * (gtF g (n + 1)).2) < ((gtF g n).1 * (gtF g (n + 1)).2 + (gtF g (n + 1)).1 * (gtF g n).2) * (gtF g (n + 1)).2
  have e : (gtF g (n + 1)).1 * (2 * (gtF g n).2 * (gtF g (n + 1)).2) = ((gtF g (n + 1)).1 * (gtF g n).2 + (gtF g (n + 1)).1 * (gtF g n).2) * (gtF g (n + 1)).2 := by
    rw [← Int.two_mul]
    simp only [Int.mul_assoc, Int.mul_comm, Int.mul_left_comm]
  rw [e]
  exact Int.mul_lt_mul_of_pos_right (by omega) d
theorem md_same {g : GaugeM} (p : GPos g) {n : Nat} (h : lsF g n = false) (i : Nat) : abF g (gtF g n).1 (gtF g n).2 i = abF g (mdF g n).1 (mdF g n).2 i := by
  have h : ¬ (gtF g (n + 1)).1 * (gtF g n).2 < (gtF g n).1 * (gtF g (n + 1)).2 := of_decide_eq_false h
  have m := Int.not_lt.mp (gt_mono p n)
  have s : (gtF g (n + 1)).1 * (gtF g n).2 = (gtF g n).1 * (gtF g (n + 1)).2 := by omega
  have d := (gt_pos p (n + 1)).2.2
  unfold abF mdF
  rw [s, ← Int.two_mul]
  congr 1
  have e1 : (gtF g i).1 * (2 * (gtF g n).2 * (gtF g (n + 1)).2) = (gtF g i).1 * (gtF g n).2 * (2 * (gtF g (n + 1)).2) := by simp only [Int.mul_assoc, Int.mul_comm, Int.mul_left_comm]
  have e2 : 2 * ((gtF g n).1 * (gtF g (n + 1)).2) * (gtF g i).2 = (gtF g n).1 * (gtF g i).2 * (2 * (gtF g (n + 1)).2) := by simp only [Int.mul_assoc, Int.mul_comm, Int.mul_left_comm]
  show _ = ((gtF g i).1 * (2 * (gtF g n).2 * (gtF g (n + 1)).2) < 2 * ((gtF g n).1 * (gtF g (n + 1)).2) * (gtF g i).2)
  rw [e1, e2]
  exact propext (lt_mulp (show 0 < 2 * (gtF g (n + 1)).2 by omega)).symm
/-- both distances' finenesses -/
theorem deep_key {g : GaugeM} (p : GPos g) (n : Nat) : ∃ k1 k2, k1 ≤ n + 3 ∧ k2 ≤ n + 3 ∧ FinIs g (gtF g n).1 (gtF g n).2 k1 ∧ FinIs g (mdF g n).1 (mdF g n).2 k2 ∧ (lsF g n = true → k1 = n ∧ k2 = n) ∧ (lsF g n = false → k1 = k2 ∧ n < k1) := by
  have l1 := p.ok.l1
  have l3 := p.ok.l3
  cases h : lsF g n with
  | true =>
    obtain ⟨k1, b1, f1⟩ := fin_ex (g := g) (c := (gtF g n).1) (e := (gtF g n).2) n h
    obtain ⟨k2, b2, f2⟩ := fin_ex n (md_next p h)
    have a1 := fin_ge f1 (n := n) fun i hi => ab_low p (by omega)
    have a2 := fin_ge f2 (n := n) fun i hi => md_low p (by omega)
    exact ⟨k1, k2, by omega, by omega, f1, f2, fun _ => ⟨by omega, by omega⟩, (fun z => by cases z)⟩
  | false =>
    have hl : abF g (gtF g n).1 (gtF g n).2 (n + g.rs.length - 1 + 1) = true := by
      rw [ab_top, show n + g.rs.length - 1 + 1 = n + g.rs.length by omega]
      exact decide_eq_true (gt_late p n)
    obtain ⟨k1, b1, f1⟩ := fin_ex _ hl
    obtain ⟨k2, b2, f2⟩ := fin_ex _ (by rw [← md_same p h]; exact hl)
    have s := fin_same f1 f2 (md_same p h)
    have a1 := fin_ge f1 (n := n + 1) fun i hi => by
      rcases Nat.lt_or_ge i n with z | z
      · exact ab_low p (by omega)
      · obtain rfl : i = n := by omega
        exact h
    exact ⟨k1, k2, by omega, by omega, f1, f2, (fun z => by cases z), fun _ => ⟨s, by omega⟩⟩
theorem ls_row {g : GaugeM} (p : GPos g) (n : Nat) : lsF g (n + g.rs.length) = lsF g n := by
  have g2 := grow_two p.ok
  unfold lsF
  rw [show n + g.rs.length + 1 = (n + 1) + g.rs.length by omega, gt_row p, gt_row p]
  congr 1
  show ((gtF g (n + 1)).1 * ((gtF g n).2 * ((dcF g.rs 0 g.rs.length : Nat) : Int)) < (gtF g n).1 * ((gtF g (n + 1)).2 * ((dcF g.rs 0 g.rs.length : Nat) : Int))) = _
  rw [← Int.mul_assoc, ← Int.mul_assoc]
  exact propext (lt_mulp (by omega))
/-- the law's taken phases are the program's -/
theorem tk_law {g : GaugeM} (p : GPos g) (n : Nat) : ((List.range n).filter fun k => lsF g (g.rs.length + k)) = tkF g n := by
  unfold tkF
  congr 1
  funext k
  unfold ffF
  split
  · rename_i h
    rw [h, Nat.add_zero]
  · rw [Nat.add_comm, ls_row p]
theorem tk_some {g : GaugeM} (p : GPos g) : tkF g g.rs.length ≠ [] := by
  intro z
  have h : ∀ k, k < g.rs.length → lsF g (g.rs.length + k) = false := by
    intro k hk
    rw [← tk_law p] at z
    have := List.filter_eq_nil_iff.mp z k (List.mem_range.mpr hk)
    simpa using this
  have e : ∀ k, k ≤ g.rs.length → (gtF g (g.rs.length + k)).1 * (gtF g g.rs.length).2 = (gtF g g.rs.length).1 * (gtF g (g.rs.length + k)).2 := by
    intro k
    induction k with
    | zero => intro _; rfl
    | succ k ih =>
      intro hk
      have i1 := ih (by omega)
      have i2 : ¬ (gtF g (g.rs.length + k + 1)).1 * (gtF g (g.rs.length + k)).2 < (gtF g (g.rs.length + k)).1 * (gtF g (g.rs.length + k + 1)).2 := of_decide_eq_false (h k (by omega))
      have a := (gt_pos p g.rs.length).2.2
      have b := (gt_pos p (g.rs.length + k)).2.2
      have c := (gt_pos p (g.rs.length + k + 1)).2.2
      have up := fr_trans a b c (by omega : (gtF g g.rs.length).1 * (gtF g (g.rs.length + k)).2 ≤ (gtF g (g.rs.length + k)).1 * (gtF g g.rs.length).2) (Int.not_lt.mp i2)
      have dn := gt_monoN p g.rs.length (k + 1)
      rw [show g.rs.length + (k + 1) = g.rs.length + k + 1 by omega] at dn ⊢
      omega
  have := e g.rs.length (Nat.le_refl _)
  have l := gt_late p g.rs.length
  omega
end Mc

set_option Elab.async false
set_option linter.all false
set_option maxRecDepth 100000
set_option maxHeartbeats 4000000
set_option exponentiation.threshold 20000
namespace Mc
open PySem PySem.Spec PyProof.Rows L2 ClX StX
open RZ
/-! ### fractions beside each other -/
/-- x' is x, divided by G -/
def Sc (G : Int) (x' x : Int × Int) : Prop := x'.1 * (x.2 * G) = x.1 * x'.2
theorem sc_lt {G : Int} {a a' b b' : Int × Int} (hG : 0 < G) (ha : Sc G a' a) (hb : Sc G b' b) (a2 : 0 < a.2) (b2 : 0 < b.2) (a2' : 0 < a'.2) (b2' : 0 < b'.2) : a'.1 * b'.2 < b'.1 * a'.2 ↔ a.1 * b.2 < b.1 * a.2 := by
  obtain ⟨x, y⟩ := a
  obtain ⟨x', y'⟩ := a'
  obtain ⟨u, v⟩ := b
  obtain ⟨u', v'⟩ := b'
  unfold Sc at ha hb
  dsimp only at *
  have k1 : x' * v' * (y * G * (v * G)) = x * v * (y' * v' * G) := by grind
  have k2 : u' * y' * (y * G * (v * G)) = u * y * (y' * v' * G) := by grind
  have p1 : 0 < y * G * (v * G) := Int.mul_pos (Int.mul_pos a2 hG) (Int.mul_pos b2 hG)
  have p2 : 0 < y' * v' * G := Int.mul_pos (Int.mul_pos a2' b2') hG
  rw [← lt_mulp p1, k1, k2, lt_mulp p2]
theorem sc_lg {G i : Int} {s : Int × Int} {p q : Int} : Sc G (lgF i (s.1, s.2 * G) p q) (lgF i s p q) := by
  unfold Sc lgF
  split
  · show (0 : Int) * _ = 0 * _
    rw [Int.zero_mul, Int.zero_mul]
  · split
    · dsimp only
      grind
    · dsimp only
      grind
theorem sc_jn {G : Int} {kd : Bool} {e e' n n' : Int × Int} (hG : 0 < G) (he : Sc G e' e) (hn : Sc G n' n) (e2 : 0 < e.2) (n2 : 0 < n.2) (e2' : 0 < e'.2) (n2' : 0 < n'.2) : Sc G (jnF kd e' n') (jnF kd e n) := by
  cases kd
  · obtain ⟨x, y⟩ := e
    obtain ⟨x', y'⟩ := e'
    obtain ⟨u, v⟩ := n
    obtain ⟨u', v'⟩ := n'
    unfold Sc at he hn
    show (x' * v' + u' * y') * (y * v * G) = (x * v + u * y) * (y' * v')
    dsimp only at he hn
    grind
  · have k := sc_lt hG he hn e2 n2 e2' n2'
    show Sc G (if e'.1 * n'.2 < n'.1 * e'.2 then n' else e') (if e.1 * n.2 < n.1 * e.2 then n else e)
    by_cases z : e.1 * n.2 < n.1 * e.2
    · rw [if_pos z, if_pos (k.mpr z)]; exact hn
    · rw [if_neg z, if_neg (fun w => z (k.mp w))]; exact he
theorem jn_pos {kd : Bool} {e n : Int × Int} (he : 0 < e.2) (hn : 0 < n.2) : 0 < (jnF kd e n).2 := by
  cases kd
  · exact Int.mul_pos he hn
  · show 0 < (if e.1 * n.2 < n.1 * e.2 then n else e).2
    split
    · exact hn
    · exact he
/-- x is at most y -/
def Le (x y : Int × Int) : Prop := x.1 * y.2 ≤ y.1 * x.2
theorem le_trans_lt {a b t : Int × Int} (h : Le a b) (a2 : 0 < a.2) (b2 : 0 < b.2) (t2 : 0 < t.2) (hb : b.1 * t.2 < t.1 * b.2) : a.1 * t.2 < t.1 * a.2 := by
  obtain ⟨x, y⟩ := a
  obtain ⟨u, v⟩ := b
  obtain ⟨r, s⟩ := t
  unfold Le at h
  dsimp only at *
  have h1 := Int.mul_le_mul_of_nonneg_right h (Int.le_of_lt t2)
  have h2 := Int.mul_lt_mul_of_pos_right hb a2
  have e1 : x * v * s = x * s * v := by grind
  have e2 : u * y * s = u * s * y := by grind
  have e3 : r * v * y = r * y * v := by grind
  rw [e1, e2] at h1
  rw [e3] at h2
  exact (lt_mulp b2).mp (Int.lt_of_le_of_lt h1 h2)
theorem le_jn {kd : Bool} {e e' n n' : Int × Int} (he : Le e e') (hn : Le n n') (e2 : 0 < e.2) (n2 : 0 < n.2) (e2' : 0 < e'.2) (n2' : 0 < n'.2) : Le (jnF kd e n) (jnF kd e' n') := by
  cases kd
  · obtain ⟨x, y⟩ := e
    obtain ⟨x', y'⟩ := e'
    obtain ⟨u, v⟩ := n
    obtain ⟨u', v'⟩ := n'
    unfold Le at he hn
    show (x * v + u * y) * (y' * v') ≤ (x' * v' + u' * y') * (y * v)
    dsimp only at *
    have h1 := Int.mul_le_mul_of_nonneg_right he (Int.le_of_lt (Int.mul_pos n2 n2'))
    have h2 := Int.mul_le_mul_of_nonneg_right hn (Int.le_of_lt (Int.mul_pos e2 e2'))
    have q1 : (x * v + u * y) * (y' * v') = x * y' * (v * v') + u * v' * (y * y') := by grind
    have q2 : (x' * v' + u' * y') * (y * v) = x' * y * (v * v') + u' * v * (y * y') := by grind
    rw [q1, q2]
    exact Int.add_le_add h1 h2
  · show Le (if e.1 * n.2 < n.1 * e.2 then n else e) (if e'.1 * n'.2 < n'.1 * e'.2 then n' else e')
    by_cases z : e.1 * n.2 < n.1 * e.2
    · rw [if_pos z]
      split
      · exact hn
      · rename_i w
        exact fr_trans n2 n2' e2' hn (Int.not_lt.mp w)
    · rw [if_neg z]
      split
      · rename_i w
        exact fr_trans e2 e2' n2' he (Int.le_of_lt w)
      · exact he
theorem le_of_eq {a b t : Int × Int} (e : a.1 * b.2 = b.1 * a.2) : Le a b ∧ Le b a := ⟨Int.le_of_eq e, Int.le_of_eq e.symm⟩
/-- one number, told twice -/
def Fe (x y : Int × Int) : Prop := x.1 * y.2 = y.1 * x.2
theorem fe_lt {x x' y y' : Int × Int} (hx : Fe x x') (hy : Fe y y') (x2 : 0 < x.2) (x2' : 0 < x'.2) (y2 : 0 < y.2) (y2' : 0 < y'.2) : x.1 * y.2 < y.1 * x.2 ↔ x'.1 * y'.2 < y'.1 * x'.2 := by
  obtain ⟨a, b⟩ := x
  obtain ⟨a', b'⟩ := x'
  obtain ⟨u, v⟩ := y
  obtain ⟨u', v'⟩ := y'
  unfold Fe at hx hy
  dsimp only at *
  have k1 : a * v * (b' * v') = a' * v' * (b * v) := by grind
  have k2 : u * b * (b' * v') = u' * b' * (b * v) := by grind
  rw [← lt_mulp (Int.mul_pos x2' y2'), k1, k2, lt_mulp (Int.mul_pos x2 y2)]
theorem cs_pos {g : GaugeM} (ok : OkR g.rs) {ph : Nat} (hph : ph < g.rs.length) : 0 < (colsF (csF g ph) : Int) ∧ 0 < (rowsF (csF g ph) : Int) := by
  have csg : g.rs[ph]? = some (csF g ph) := by
    show _ = some (g.rs.getD ph [])
    rw [List.getD_eq_getElem?_getD, List.getElem?_eq_getElem hph]
    rfl
  have := pos_cols (ok.hc _ (List.mem_of_getElem? csg))
  omega
theorem sd_pos {g : GaugeM} (p : GPos g) (n : Nat) : 0 < (sdE g n).2 ∧ 0 < (sdN g n).2 := by
  have c := counts_pos p.ok n
  exact ⟨Int.mul_pos p.e1 c.1, Int.mul_pos p.n1 c.2⟩
theorem le_pos {g : GaugeM} (p : GPos g) {ph : Nat} (hph : ph < g.rs.length) (s : Nat) (m : Int × Int) : 0 < (leF g ph s m).2 := by
  have c := cs_pos p.ok hph
  have d := sd_pos p (ffF g.rs.length ph)
  exact jn_pos (lg_pos d.1 c.1) (lg_pos d.2 c.2)
def grF (g : GaugeM) : Int := ((dcF g.rs 0 g.rs.length : Nat) : Int)
theorem gr_pos {g : GaugeM} (p : GPos g) : 2 ≤ grF g := by
  have : 2 ≤ dcF g.rs 0 g.rs.length := grow_two p.ok
  unfold grF
  omega
theorem rc_zero {g : GaugeM} (p : GPos g) (ph s : Nat) : rcB g ph s (0, 0) = true := by
  have e : leF g ph s (0, 0) = (0, 1) := by
    unfold leF jnF lgF
    cases g.kd <;> rfl
  unfold rcB
  rw [e]
  refine decide_eq_true ?_
  show 0 * _ < _ * 1
  rw [Int.zero_mul, Int.mul_one]
  exact gt_num p _

/-! ### what is due, by the law's own fractions -/
def ltB (x y : Int × Int) : Bool := decide (x.1 * y.2 < y.1 * x.2)
/-- in sides, what lies between -/
def shF (i at_ many : Int) : Int × Int := if i = 0 then (0, 1) else if i = 1 then (many - at_ - 1, many) else (at_, many)
def gapF (i : Int) (s : Int × Int) (at_ many : Int) : Int × Int := (s.1 * (shF i at_ many).1, s.2 * (shF i at_ many).2)
def dueB (g : GaugeM) (n : Nat) (cs : List Cut) (s : Nat) (m : Int × Int) : Bool :=
  if g.kd = true then ltB (gapF m.1 (sdE g n) (plF cs s).1 (colsF cs)) (gtF g n) && ltB (gapF m.2 (sdN g n) (plF cs s).2 (rowsF cs)) (gtF g n)
  else decide (m = (0, 0)) || ltB (jnF false (gapF m.1 (sdE g n) (plF cs s).1 (colsF cs)) (gapF m.2 (sdN g n) (plF cs s).2 (rowsF cs))) (gtF g n)
theorem gap_pos {i at_ many : Int} {s : Int × Int} (hs : 0 < s.2) (h : 0 < many) : 0 < (gapF i s at_ many).2 := by
  unfold gapF shF
  split
  · show 0 < s.2 * 1
    omega
  · split
    · exact Int.mul_pos hs h
    · exact Int.mul_pos hs h
theorem gap_lg (i at_ many : Int) (s : Int × Int) : Fe (gapF i s at_ many) (lgF i s at_ many) := by
  unfold gapF shF lgF Fe
  split
  · show s.1 * 0 * 1 = 0 * _
    rw [Int.mul_zero, Int.zero_mul, Int.zero_mul]
  · split
    · rfl
    · rfl
theorem jn_fe2 {kd : Bool} {e e' n n' : Int × Int} (he : Fe e e') (hn : Fe n n') (e2 : 0 < e.2) (n2 : 0 < n.2) (e2' : 0 < e'.2) (n2' : 0 < n'.2) : Fe (jnF kd e n) (jnF kd e' n') := by
  cases kd
  · obtain ⟨x, y⟩ := e
    obtain ⟨x', y'⟩ := e'
    obtain ⟨u, v⟩ := n
    obtain ⟨u', v'⟩ := n'
    unfold Fe at he hn
    show (x * v + u * y) * (y' * v') = (x' * v' + u' * y') * (y * v)
    dsimp only at he hn
    grind
  · have k := fe_lt he hn e2 e2' n2 n2'
    show Fe (if e.1 * n.2 < n.1 * e.2 then n else e) (if e'.1 * n'.2 < n'.1 * e'.2 then n' else e')
    by_cases z : e.1 * n.2 < n.1 * e.2
    · rw [if_pos z, if_pos (k.mp z)]; exact hn
    · rw [if_neg z, if_neg (fun w => z (k.mpr w))]; exact he
theorem max_lt {e n t : Int × Int} (e2 : 0 < e.2) (n2 : 0 < n.2) (t2 : 0 < t.2) : ltB (jnF true e n) t = (ltB e t && ltB n t) := by
  have h1 := fun (h : Le e n) (w : n.1 * t.2 < t.1 * n.2) => le_trans_lt (t := t) h e2 n2 t2 w
  have h2 := fun (h : Le n e) (w : e.1 * t.2 < t.1 * e.2) => le_trans_lt (t := t) h n2 e2 t2 w
  show ltB (if e.1 * n.2 < n.1 * e.2 then n else e) t = _
  unfold ltB
  by_cases z : e.1 * n.2 < n.1 * e.2
  · rw [if_pos z]
    by_cases w : n.1 * t.2 < t.1 * n.2
    · rw [decide_eq_true w, decide_eq_true (h1 (Int.le_of_lt z) w)]; rfl
    · rw [decide_eq_false w, Bool.and_false]
  · rw [if_neg z]
    by_cases w : e.1 * t.2 < t.1 * e.2
    · rw [decide_eq_true w, decide_eq_true (h2 (Int.not_lt.mp z) w)]; rfl
    · rw [decide_eq_false w, Bool.false_and]
theorem lt_fe {x x' t : Int × Int} (h : Fe x x') (x2 : 0 < x.2) (x2' : 0 < x'.2) (t2 : 0 < t.2) : ltB x t = ltB x' t := decide_eq_decide.mpr (fe_lt h (show Fe t t from rfl) x2 x2' t2 t2)
/-- at the phase's first fineness the law's due is the program's -/
theorem due_one {g : GaugeM} (p : GPos g) {ph : Nat} (hph : ph < g.rs.length) (s : Nat) (m : Int × Int) : dueB g (ffF g.rs.length ph) (csF g ph) s m = rcB g ph s m := by
  have c := cs_pos p.ok hph
  have d := sd_pos p (ffF g.rs.length ph)
  have t2 := (gt_pos p (ffF g.rs.length ph)).2.2
  have gE : 0 < (gapF m.1 (sdE g (ffF g.rs.length ph)) (plF (csF g ph) s).1 (colsF (csF g ph))).2 := gap_pos d.1 c.1
  have gN : 0 < (gapF m.2 (sdN g (ffF g.rs.length ph)) (plF (csF g ph) s).2 (rowsF (csF g ph))).2 := gap_pos d.2 c.2
  have lE : 0 < (lgF m.1 (sdE g (ffF g.rs.length ph)) (plF (csF g ph) s).1 (colsF (csF g ph))).2 := lg_pos d.1 c.1
  have lN : 0 < (lgF m.2 (sdN g (ffF g.rs.length ph)) (plF (csF g ph) s).2 (rowsF (csF g ph))).2 := lg_pos d.2 c.2
  have key : ∀ kd, ltB (jnF kd (gapF m.1 (sdE g (ffF g.rs.length ph)) (plF (csF g ph) s).1 (colsF (csF g ph))) (gapF m.2 (sdN g (ffF g.rs.length ph)) (plF (csF g ph) s).2 (rowsF (csF g ph)))) (gtF g (ffF g.rs.length ph)) = ltB (jnF kd (lgF m.1 (sdE g (ffF g.rs.length ph)) (plF (csF g ph) s).1 (colsF (csF g ph))) (lgF m.2 (sdN g (ffF g.rs.length ph)) (plF (csF g ph) s).2 (rowsF (csF g ph)))) (gtF g (ffF g.rs.length ph)) := fun kd =>
    lt_fe (jn_fe2 (gap_lg _ _ _ _) (gap_lg _ _ _ _) gE gN lE lN) (jn_pos gE gN) (jn_pos lE lN) t2
  have er : rcB g ph s m = ltB (jnF g.kd (lgF m.1 (sdE g (ffF g.rs.length ph)) (plF (csF g ph) s).1 (colsF (csF g ph))) (lgF m.2 (sdN g (ffF g.rs.length ph)) (plF (csF g ph) s).2 (rowsF (csF g ph)))) (gtF g (ffF g.rs.length ph)) := rfl
  unfold dueB
  by_cases hk : g.kd = true
  · rw [if_pos hk, er, hk, ← key true, max_lt gE gN t2]
  · have hk : g.kd = false := by cases h : g.kd; · rfl
                                 · exact absurd h hk
    rw [if_neg (by rw [hk]; decide), er, hk, ← key false]
    by_cases z : m = (0, 0)
    · subst z
      rw [decide_eq_true rfl, Bool.true_or]
      have r := rc_zero p ph s
      rw [er, hk, ← key false] at r
      exact r.symm
    · rw [decide_eq_false z, Bool.false_or]
theorem sc_gap {G i at_ many : Int} {s : Int × Int} : Sc G (gapF i (s.1, s.2 * G) at_ many) (gapF i s at_ many) := by
  unfold Sc gapF
  dsimp only
  grind
theorem sd_rows {g : GaugeM} (p : GPos g) (n k : Nat) : sdE g (n + g.rs.length * k) = ((sdE g n).1, (sdE g n).2 * grF g ^ k) ∧ sdN g (n + g.rs.length * k) = ((sdN g n).1, (sdN g n).2 * grF g ^ k) := by
  induction k with
  | zero => simp
  | succ k ih =>
    have c := counts_row p.ok (n + g.rs.length * k)
    rw [Nat.mul_succ, ← Nat.add_assoc]
    obtain ⟨a, b⟩ := ih
    have a2 : g.le.2 * (countsF g.rs (n + g.rs.length * k)).1 = (sdE g n).2 * grF g ^ k := congrArg Prod.snd a
    have b2 : g.ln.2 * (countsF g.rs (n + g.rs.length * k)).2 = (sdN g n).2 * grF g ^ k := congrArg Prod.snd b
    constructor
    · show (g.le.1, g.le.2 * (countsF g.rs (n + g.rs.length * k + g.rs.length)).1) = _
      rw [c, Int.pow_succ]
      show (g.le.1, g.le.2 * ((countsF g.rs (n + g.rs.length * k)).1 * grF g)) = (g.le.1, (sdE g n).2 * (grF g ^ k * grF g))
      rw [← Int.mul_assoc, a2, Int.mul_assoc]
    · show (g.ln.1, g.ln.2 * (countsF g.rs (n + g.rs.length * k + g.rs.length)).2) = _
      rw [c, Int.pow_succ]
      show (g.ln.1, g.ln.2 * ((countsF g.rs (n + g.rs.length * k)).2 * grF g)) = (g.ln.1, (sdN g n).2 * (grF g ^ k * grF g))
      rw [← Int.mul_assoc, b2, Int.mul_assoc]
/-- rows of rounds later it is the same -/
theorem due_rows {g : GaugeM} (p : GPos g) {cs : List Cut} (c : 0 < (colsF cs : Int) ∧ 0 < (rowsF cs : Int)) (n k s : Nat) (m : Int × Int) : dueB g (n + g.rs.length * k) cs s m = dueB g n cs s m := by
  have G0 : 0 < grF g ^ k := Int.pow_pos (by have := gr_pos p; omega)
  have d := sd_pos p n
  have t2 := (gt_pos p n).2.2
  have t2' := (gt_pos p (n + g.rs.length * k)).2.2
  have d' := sd_pos p (n + g.rs.length * k)
  obtain ⟨a, b⟩ := sd_rows p n k
  have gt : gtF g (n + g.rs.length * k) = ((gtF g n).1, (gtF g n).2 * grF g ^ k) := gt_rows p n k
  have tp : Sc (grF g ^ k) (gtF g (n + g.rs.length * k)) (gtF g n) := by rw [gt]; exact rfl
  have sE : Sc (grF g ^ k) (gapF m.1 (sdE g (n + g.rs.length * k)) (plF cs s).1 (colsF cs)) (gapF m.1 (sdE g n) (plF cs s).1 (colsF cs)) := by rw [a]; exact sc_gap
  have sN : Sc (grF g ^ k) (gapF m.2 (sdN g (n + g.rs.length * k)) (plF cs s).2 (rowsF cs)) (gapF m.2 (sdN g n) (plF cs s).2 (rowsF cs)) := by rw [b]; exact sc_gap
  have l1 := gap_pos (i := m.1) (at_ := (plF cs s).1) d.1 c.1
  have l2 := gap_pos (i := m.2) (at_ := (plF cs s).2) d.2 c.2
  have l1' := gap_pos (i := m.1) (at_ := (plF cs s).1) d'.1 c.1
  have l2' := gap_pos (i := m.2) (at_ := (plF cs s).2) d'.2 c.2
  have e1 : ltB (gapF m.1 (sdE g (n + g.rs.length * k)) (plF cs s).1 (colsF cs)) (gtF g (n + g.rs.length * k)) = ltB (gapF m.1 (sdE g n) (plF cs s).1 (colsF cs)) (gtF g n) := decide_eq_decide.mpr (sc_lt G0 sE tp l1 t2 l1' t2')
  have e2 : ltB (gapF m.2 (sdN g (n + g.rs.length * k)) (plF cs s).2 (rowsF cs)) (gtF g (n + g.rs.length * k)) = ltB (gapF m.2 (sdN g n) (plF cs s).2 (rowsF cs)) (gtF g n) := decide_eq_decide.mpr (sc_lt G0 sN tp l2 t2 l2' t2')
  have e3 : ltB (jnF false (gapF m.1 (sdE g (n + g.rs.length * k)) (plF cs s).1 (colsF cs)) (gapF m.2 (sdN g (n + g.rs.length * k)) (plF cs s).2 (rowsF cs))) (gtF g (n + g.rs.length * k)) = ltB (jnF false (gapF m.1 (sdE g n) (plF cs s).1 (colsF cs)) (gapF m.2 (sdN g n) (plF cs s).2 (rowsF cs))) (gtF g n) := decide_eq_decide.mpr (sc_lt G0 (sc_jn G0 sE sN l1 l2 l1' l2') tp (jn_pos l1 l2) t2 (jn_pos l1' l2') t2')
  unfold dueB
  rw [e1, e2, e3]
theorem due_is {g : GaugeM} (p : GPos g) {ph : Nat} (hph : ph < g.rs.length) (k s : Nat) (m : Int × Int) : dueB g (ffF g.rs.length ph + g.rs.length * k) (csF g ph) s m = rcB g ph s m := by rw [due_rows p (cs_pos p.ok hph), due_one p hph]
end Mc

set_option Elab.async false
set_option linter.all false
set_option maxRecDepth 100000
set_option maxHeartbeats 4000000
namespace Mc
open PySem PySem.Spec PyProof.Rows L2 ClX StX
/-- data of small parts: depth k, at most n in each -/
def Sm : Nat → Nat → PyData → Prop
  | 0, _, _ => False
  | _ + 1, _, .int i => i.natAbs < 2 ^ 64
  | _ + 1, _, .bool _ => True
  | _ + 1, _, .none => True
  | _ + 1, _, .str s => s = "east" ∨ s = "north"
  | k + 1, n, .list xs => xs.length ≤ n ∧ ∀ x ∈ xs, Sm k n x
  | k + 1, n, .tuple xs => xs.length ≤ n ∧ ∀ x ∈ xs, Sm k n x
  | _ + 1, _, .dict _ => False
def SmB : Nat → Nat → Nat
  | 0, _ => 0
  | k + 1, n => n * (SmB k n + 2) + 2000
structure SmOk (k n : Nat) (d : PyData) : Prop where
  s : d.showable = true
  h : d.hasDict = false
  dp : d.depth ≤ k
  l : d.shown.length ≤ SmB k n
  c : d.canLay0 = true
theorem sm_all {k n : Nat} {xs : List PyData} (h : ∀ x ∈ xs, SmOk k n x) (hn : xs.length ≤ n) : PyData.showableAll xs = true ∧ PyData.hasDictAll xs = false ∧ PyData.depthAll xs ≤ k ∧ ((PyData.shownAll xs).map (·.length)).sum ≤ xs.length * SmB k n ∧ PyData.canLayAll0 xs = true ∧ (PyData.shownAll xs).length = xs.length := by
  clear hn
  induction xs with
  | nil => exact ⟨by simp [PyData.showableAll], by simp [PyData.hasDictAll], by simp [PyData.depthAll], by simp [PyData.shownAll], by simp [PyData.canLayAll0], by simp [PyData.shownAll]⟩
  | cons x r ih =>
    obtain ⟨a, b, c, d, e, f⟩ := ih fun y m => h y (.tail _ m)
    have hx := h x (.head _)
    refine ⟨by rw [PyData.showableAll, hx.s, a]; rfl, by rw [PyData.hasDictAll, hx.h, b]; rfl, by rw [PyData.depthAll]; have := hx.dp; omega, ?_, by rw [PyData.canLayAll0, hx.c, e]; rfl, by rw [PyData.shownAll, List.length_cons, f]; rfl⟩
    rw [PyData.shownAll, List.map_cons, List.sum_cons, List.length_cons, Nat.succ_mul]
    have := hx.l
    omega
theorem list_len (ts : List Str) : (listText ts).length ≤ (ts.map (·.length)).sum + 2 * ts.length + 2 := by
  have h := listText_le ts
  have e : ∀ l : List Str, piled l = (l.map (·.length)).sum + 2 * l.length := fun l => by
    induction l with
    | nil => rfl
    | cons t r ih => rw [piled_cons, ih, List.map_cons, List.sum_cons, List.length_cons]; omega
  have := e ts
  omega
theorem Sm.ok : ∀ {k n : Nat} {d : PyData}, Sm k n d → SmOk k n d
  | 0, _, _, h => h.elim
  | k + 1, n, .int i, h => by
    have h : i.natAbs < 2 ^ 64 := h
    have lg : i.natAbs.log2 < 1920 := Nat.lt_of_lt_of_le (PySem.Flt.log2_lt_of (by decide) h) (by decide)
    refine ⟨by rw [PyData.showable]; exact decide_eq_true lg, by simp [PyData.hasDict], by simp [PyData.depth], ?_, by simp [PyData.canLay0]⟩
    rw [PyData.shown]
    have := int_text_len_1921 lg
    show (Str.ofString (toString i)).length ≤ n * (SmB k n + 2) + 2000
    omega
  | k + 1, n, .bool b, _ => ⟨by simp [PyData.showable], by simp [PyData.hasDict], by simp [PyData.depth], Nat.le_trans (m := 2000) (by cases b <;> decide +kernel) (Nat.le_add_left _ _), by simp [PyData.canLay0]⟩
  | k + 1, n, .none, _ => ⟨by simp [PyData.showable], by simp [PyData.hasDict], by simp [PyData.depth], Nat.le_trans (m := 2000) (by decide +kernel) (Nat.le_add_left _ _), by simp [PyData.canLay0]⟩
  | k + 1, n, .str s, h => ⟨by simp [PyData.showable], by simp [PyData.hasDict], by simp [PyData.depth], Nat.le_trans (m := 2000) (by rcases h with rfl | rfl <;> decide +kernel) (Nat.le_add_left _ _), by rw [PyData.canLay0]; rcases h with rfl | rfl <;> decide +kernel⟩
  | k + 1, n, .list xs, h => by
    obtain ⟨a, b, c, d, e, f⟩ := sm_all (fun x m => Sm.ok (h.2 x m)) h.1
    have h1 := h.1
    refine ⟨by rw [PyData.showable]; exact a, by rw [PyData.hasDict]; exact b, by rw [PyData.depth]; omega, ?_, by rw [PyData.canLay0]; exact e⟩
    rw [PyData.shown]
    have := list_len (PyData.shownAll xs)
    have h2 := Nat.mul_le_mul_right (SmB k n) h1
    show _ ≤ n * (SmB k n + 2) + 2000
    rw [Nat.mul_add]
    omega
  | k + 1, n, .tuple xs, h => by
    obtain ⟨a, b, c, d, e, f⟩ := sm_all (fun x m => Sm.ok (h.2 x m)) h.1
    have h1 := h.1
    refine ⟨by rw [PyData.showable]; exact a, by rw [PyData.hasDict]; exact b, by rw [PyData.depth]; omega, ?_, by rw [PyData.canLay0]; exact e⟩
    rw [PyData.shown]
    have := tupleText_len_le (PyData.shownAll xs)
    have h2 := Nat.mul_le_mul_right (SmB k n) h1
    show _ ≤ n * (SmB k n + 2) + 2000
    rw [Nat.mul_add]
    omega
theorem Sm.show {n : Nat} {d : PyData} (h : Sm 4 n d) (hn : n ≤ 10) : d.showable = true ∧ d.hasDict = false ∧ d.depth ≤ 64 ∧ d.shown.length ≤ sizeLine := by
  have o := h.ok
  refine ⟨o.s, o.h, Nat.le_trans o.dp (by decide), Nat.le_trans o.l ?_⟩
  rw [sizeLine_eq]
  have a1 : SmB 1 n ≤ 2020 := by show n * (0 + 2) + 2000 ≤ 2020; omega
  have a2 : SmB 2 n ≤ 30000 := by show n * (SmB 1 n + 2) + 2000 ≤ 30000; have := Nat.mul_le_mul hn (show SmB 1 n + 2 ≤ 2022 by omega); omega
  have a3 : SmB 3 n ≤ 400000 := by show n * (SmB 2 n + 2) + 2000 ≤ 400000; have := Nat.mul_le_mul hn (show SmB 2 n + 2 ≤ 30002 by omega); omega
  show n * (SmB 3 n + 2) + 2000 ≤ 16777216
  have := Nat.mul_le_mul hn (show SmB 3 n + 2 ≤ 400002 by omega)
  omega
theorem Sm.len {n : Nat} {d : PyData} (h : Sm 4 n d) (hn : n ≤ 10) : d.shown.length ≤ 5000000 := by
  have o := h.ok
  refine Nat.le_trans o.l ?_
  have a1 : SmB 1 n ≤ 2020 := by show n * (0 + 2) + 2000 ≤ 2020; omega
  have a2 : SmB 2 n ≤ 30000 := by show n * (SmB 1 n + 2) + 2000 ≤ 30000; have := Nat.mul_le_mul hn (show SmB 1 n + 2 ≤ 2022 by omega); omega
  have a3 : SmB 3 n ≤ 400000 := by show n * (SmB 2 n + 2) + 2000 ≤ 400000; have := Nat.mul_le_mul hn (show SmB 2 n + 2 ≤ 30002 by omega); omega
  show n * (SmB 3 n + 2) + 2000 ≤ 5000000
  have := Nat.mul_le_mul hn (show SmB 3 n + 2 ≤ 400002 by omega)
  omega
theorem Sm.shaped {k n : Nat} {d : PyData} (h : Sm k n d) (hk : k ≤ 64) : SeqAt.shaped d = true := by
  have o := h.ok
  unfold SeqAt.shaped
  rw [o.c, Bool.true_and]
  exact decide_eq_true (Nat.le_trans o.dp hk)
theorem Sm.l2 {k n : Nat} {a b : PyData} (hn : 2 ≤ n) (ha : Sm k n a) (hb : Sm k n b) : Sm (k + 1) n (.list [a, b]) := ⟨hn, fun y m => by
  simp only [List.mem_cons, List.not_mem_nil, or_false] at m
  rcases m with rfl | rfl
  · exact ha
  · exact hb⟩
theorem Sm.l3 {k n : Nat} {a b c : PyData} (hn : 3 ≤ n) (ha : Sm k n a) (hb : Sm k n b) (hc : Sm k n c) : Sm (k + 1) n (.list [a, b, c]) := ⟨hn, fun y m => by
  simp only [List.mem_cons, List.not_mem_nil, or_false] at m
  rcases m with rfl | rfl | rfl
  · exact ha
  · exact hb
  · exact hc⟩
theorem Sm.l4 {k n : Nat} {a b c d : PyData} (hn : 4 ≤ n) (ha : Sm k n a) (hb : Sm k n b) (hc : Sm k n c) (hd : Sm k n d) : Sm (k + 1) n (.list [a, b, c, d]) := ⟨hn, fun y m => by
  simp only [List.mem_cons, List.not_mem_nil, or_false] at m
  rcases m with rfl | rfl | rfl | rfl
  · exact ha
  · exact hb
  · exact hc
  · exact hd⟩
/-- numbers as data -/
theorem dp_ints {K : PySem.W.Frag} {H : Hp} : ∀ ns : List Nat, DpAll K H (ns.map fun k : Nat => V.int k) (ns.map fun k : Nat => PyData.int k)
  | [] => .nil
  | n :: ns => .cons (.int _) (dp_ints ns)
theorem sm_ints {k n : Nat} {ns : List Nat} (hn : ns.length ≤ n) (h : ∀ x ∈ ns, x < 2 ^ 64) : Sm (k + 2) n (.list (ns.map fun k : Nat => PyData.int k)) := ⟨by rw [List.length_map]; exact hn, fun y m => by
  obtain ⟨x, hx, rfl⟩ := List.mem_map.mp m
  have := h x hx
  show ((x : Nat) : Int).natAbs < 2 ^ 64
  omega⟩
end Mc

set_option Elab.async false
set_option linter.all false
set_option maxRecDepth 100000
set_option maxHeartbeats 4000000
set_option exponentiation.threshold 20000
namespace Mc
open PySem PySem.Spec PyProof.Rows L2 ClX StX
open RZ
section
variable {P : Program} {w : World} {K : PySem.W.Frag} {mg : Str → Option Value} {base : Heap} {f U0 kX M0 R0 C0 aX mX : Addr} {mas : List Addr} {mc : Value} {fd : FuncData}
theorem sc_share : FnScope ["_law_part", "_law_at", "_law_many"] ["_law_part", "_law_at", "_law_many"] (defScope s_share) := ⟨rfl, rfl, rfl, by decide +kernel, rfl, by decide +kernel, by decide +kernel⟩
def spShare : Sp := fun vs H Q _ => ∃ (i a m : Int), vs = [.int i, .int a, .int m] ∧ ∀ t H', Ext H H' → H' t = some (.tup [.int (shF i a m).1, .int (shF i a m).2]) → Q (.ref t) H'
theorem ok_share (F : FunD K "_law_share" "_law_share" (defArgs s_share) (defBody s_share) (defScope s_share) [] [] f fd) (T : TB mg) : FnOk P w K mg base CX0 1 f fd ["_law_part", "_law_at", "_law_many"] (spShare) := by
  refine F.ok sc_share (fun vs H Q E h => ?_) (fun cdv A outer s H vs Q E hr h => ?_)
  · obtain ⟨i, a, m, rfl, k⟩ := h
    rfl
  · obtain ⟨i, a, m, rfl, k⟩ := h
    refine ⟨_, (PSs.nox (pss_cons (ps_if (pt_cmpR op_eq (pv 0) pe_int (nomark _)) (pss_one (ps_ret (pe_tup (pa_cons pe_int (pa_cons pe_int pa_nil))))) pss_nil)
      (pss_one (ps_ret (pe_ifExp (pt_cmpR op_eq (pv 0) pe_int (nomark _)) (pe_tup (pa_cons (pe_op op_sub (pe_op op_sub (pv 2) (pv 1)) pe_int) (pa_cons (pv 2) pa_nil))) (pe_tup (pa_cons (pv 1) (pa_cons (pv 2) pa_nil)))))))), ?_⟩
    unfold shF at k
    refine ⟨_, rfl, rfl, _, rfl, ite2 (fun hz => ?_) (fun hz => ?_)⟩
    · rw [if_pos (V.int.inj (of_decide_eq_true hz))] at k
      exact ⟨(by show 2 ≤ sizeLine; decide), fun t ht => k t _ (Ext.upd ht) upd_same⟩
    rw [if_neg (fun z => hz (decide_eq_true (by rw [z])))] at k
    refine ⟨_, rfl, rfl, _, rfl, ite2 (fun hy => ?_) (fun hy => ?_)⟩
    · rw [if_pos (V.int.inj (of_decide_eq_true hy))] at k
      exact ⟨_, rfl, _, rfl, _, _, rfl, rfl, _, _, rfl, rfl, _, rfl, (by show 2 ≤ sizeLine; decide), fun t ht => k t _ (Ext.upd ht) upd_same⟩
    · rw [if_neg (fun z => hy (decide_eq_true (by rw [z])))] at k
      exact ⟨_, rfl, _, rfl, (by show 2 ≤ sizeLine; decide), fun t ht => k t _ (Ext.upd ht) upd_same⟩
theorem sc_sum : FnScope ["_law_one", "_law_other"] ["_law_one", "_law_other"] (defScope s_sum) := ⟨rfl, rfl, rfl, by decide +kernel, rfl, by decide +kernel, by decide +kernel⟩
def spSum : Sp := fun vs H Q _ => ∃ (t u : Addr) (a b c d : Int), vs = [.ref t, .ref u] ∧ H t = some (.tup [.int a, .int b]) ∧ H u = some (.tup [.int c, .int d]) ∧ a.natAbs < 2 ^ 900 ∧ b.natAbs < 2 ^ 900 ∧ c.natAbs < 2 ^ 900 ∧ d.natAbs < 2 ^ 900 ∧ ∀ w H', Ext H H' → H' w = some (.tup [.int (a * d + c * b), .int (b * d)]) → Q (.ref w) H'
theorem ok_sum (F : FunD K "_law_sum" "_law_sum" (defArgs s_sum) (defBody s_sum) (defScope s_sum) [] [] f fd) (T : TB mg) : FnOk P w K mg base CX0 1 f fd ["_law_one", "_law_other"] (spSum) := by
  refine F.ok sc_sum (fun vs H Q E h => ?_) (fun cdv A outer s H vs Q E hr h => ?_)
  · obtain ⟨t, u, a, b, c, d, rfl, ht, hu, za, zb, zc, zd, k⟩ := h
    rfl
  · obtain ⟨t, u, a, b, c, d, rfl, ht, hu, za, zb, zc, zd, k⟩ := h
    refine ⟨_, (PSs.nox (pss_one (ps_ret (pe_tup (pa_cons (pe_op op_add (pe_op op_mulW (pe_ix ix_seq (pv 0) pe_int (fun _ _ => rfl)) (pe_ix ix_seq (pv 1) pe_int (fun _ _ => rfl))) (pe_op op_mulW (pe_ix ix_seq (pv 1) pe_int (fun _ _ => rfl)) (pe_ix ix_seq (pv 0) pe_int (fun _ _ => rfl)))) (pa_cons (pe_op op_mulW (pe_ix ix_seq (pv 0) pe_int (fun _ _ => rfl)) (pe_ix ix_seq (pv 1) pe_int (fun _ _ => rfl))) pa_nil)))))), ?_⟩
    refine ⟨_, rfl, .inr (.inl ⟨t, _, 0, _, rfl, rfl, SqT.of ht, rfl, _, rfl, .inr (.inl ⟨u, _, 1, _, rfl, rfl, SqT.of hu, rfl, _, _, rfl, rfl, mulW za zd (by decide) (by decide) (by decide), _, rfl, .inr (.inl ⟨u, _, 0, _, rfl, rfl, SqT.of hu, rfl, _, rfl, .inr (.inl ⟨t, _, 1, _, rfl, rfl, SqT.of ht, rfl, _, _, rfl, rfl, mulW zc zb (by decide) (by decide) (by decide), _, _, rfl, rfl, ?_⟩)⟩)⟩)⟩)⟩
    refine ⟨_, rfl, .inr (.inl ⟨t, _, 1, _, rfl, rfl, SqT.of ht, rfl, _, rfl, .inr (.inl ⟨u, _, 1, _, rfl, rfl, SqT.of hu, rfl, _, _, rfl, rfl, mulW zb zd (by decide) (by decide) (by decide), (by show 2 ≤ sizeLine; decide), fun w hw => k w _ (Ext.upd hw) upd_same⟩)⟩)⟩
theorem sc_is_due : FnScope ["_law_model_here", "_law_deep", "_law_sign_now", "_law_i", "_law_j", "_law_top_here", "_law_rounds_here", "_law_cuts", "_law_spot_here", "_law_counts_here", "_law_parts", "_law_found", "_law_k", "_law_part", "_law_side", "_law_near"] ["_law_model_here", "_law_deep", "_law_sign_now", "_law_i", "_law_j"] (defScope s_is_due) := ⟨rfl, rfl, rfl, by decide +kernel, rfl, by decide +kernel, by decide +kernel⟩
theorem op_eqDK {X : Cx} {K : PySem.W.Frag} (hK : X.K = K) (hu : X.A.units + 64 < cLine) : OpR X (compareOp .Eq) (rEqD K) := by
  subst hK
  exact op_eqD hu
theorem eqv_ij (i j : Int) : PyData.eqv (.tuple [.int i, .int j]) (.tuple [.int 0, .int 0]) = decide ((i, j) = ((0, 0) : Int × Int)) := by
  have e : PyData.eqv (.tuple [.int i, .int j]) (.tuple [.int 0, .int 0]) = (i == 0 && (j == 0 && true)) := by simp [PyData.eqv, PyData.eqvAll]
  rw [e, Bool.eq_iff_iff]
  simp
theorem shaped_ij (i j : Int) : SeqAt.shaped (.tuple [.int i, .int j]) = true := by
  unfold SeqAt.shaped
  have c : PyData.canLay0 (.tuple [.int i, .int j]) = true := by simp [PyData.canLay0, PyData.canLayAll0]
  rw [c, Bool.true_and]
  exact decide_eq_true (by simp [PyData.depth, PyData.depthAll])
def spIsDue : Sp := fun vs H Q _ => ∃ (d : Addr) (g : GaugeM) (n s : Nat) (i j : Int), vs = [.ref d, .int n, .int s, .int i, .int j] ∧ MdlAt H d g ∧ GOk g ∧ n ≤ 100 ∧ s < (placesF (csA g.rs n)).length ∧ ∀ H', Ext H H' → Q (.bl (dueB g n (csA g.rs n) s (i, j))) H'
theorem ok_is_due (F : FunD K "_law_is_due" "_law_is_due" (defArgs s_is_due) (defBody s_is_due) (defScope s_is_due) [] [] f fd) (T : TB mg) {fcounts : Addr} {fdcounts : FuncData} (Dcounts : Gd P w K mg base "_law_counts" 1 ["_law_rounds_here", "_law_many"] (spCounts5) fcounts fdcounts) {fis_less : Addr} {fdis_less : FuncData} (Dis_less : Gd P w K mg base "_law_is_less" 1 ["_law_one", "_law_other"] (spLess5) fis_less fdis_less) {ftop : Addr} {fdtop : FuncData} (Dtop : Gd P w K mg base "_law_top" 3 ["_law_model_here", "_law_deep"] (spTop5) ftop fdtop) {fspot : Addr} {fdspot : FuncData} (Dspot : Gd P w K mg base "_law_spot" 1 ["_law_cuts", "_law_sign_now"] (spSpot) fspot fdspot) {fshare : Addr} {fdshare : FuncData} (Dshare : Gd P w K mg base "_law_share" 1 ["_law_part", "_law_at", "_law_many"] (spShare) fshare fdshare) {fsum : Addr} {fdsum : FuncData} (Dsum : Gd P w K mg base "_law_sum" 1 ["_law_one", "_law_other"] (spSum) fsum fdsum) : FnOk P w K mg base CX0 4 f fd ["_law_model_here", "_law_deep", "_law_sign_now", "_law_i", "_law_j"] (spIsDue) := by
  refine F.ok sc_is_due (fun vs H Q E h => ?_) (fun cdv A outer s H vs Q E hr h => ?_)
  · obtain ⟨d, g, n, s, i, j, rfl, hd, ok, hn, hs, k⟩ := h
    rfl
  · obtain ⟨d, g, n, s, i, j, rfl, hd, ok, hn, hs, k⟩ := h
    refine ⟨_, (PSs.nox (pss_cons (ps_par (i := 5) (j := 6) (by rfl) sc_is_due.nd rfl rfl (by decide) rfl rfl (pa_cons (pe_gd Dtop hr (by decide) (by rfl) (pa_cons (pv 0) (pa_cons (pv 1) pa_nil))) (pa_cons (pe_dget (hu_of hr) (pv 0) pe_str (fun _ _ => rfl)) pa_nil)) (by rfl))
      (pss_cons (ps_set (i := 7) sc_is_due.nd rfl (.inl rfl) (pe_ix ix_seq (pv 6) (pe_op op_mod (pv 1) (pe_callB call_len_seq (by rfl) T.len PySem.boot_len (pa_cons (pv 6) pa_nil))) (fun _ _ => rfl)))
      (pss_cons (ps_par (i := 8) (j := 9) (by rfl) sc_is_due.nd rfl rfl (by decide) rfl rfl (pa_cons (pe_gd Dspot hr (by decide) (by rfl) (pa_cons (pv 7) (pa_cons (pv 2) pa_nil))) (pa_cons (pe_gd Dcounts hr (by decide) (by rfl) (pa_cons (pv 6) (pa_cons (pv 1) pa_nil))) pa_nil)) (by rfl))
      (pss_cons (ps_par (i := 10) (j := 11) (by rfl) sc_is_due.nd rfl rfl (by decide) rfl rfl (pa_cons (pe_gd Dcounts hr (by decide) (by rfl) (pa_cons (pe_lst (pa_cons (pv 7) pa_nil)) (pa_cons pe_int pa_nil))) (pa_cons (pe_lst pa_nil) pa_nil)) (by rfl))
      (pss_cons (ps_for PassesOwn.never rfl (pi_enum (by rfl) T.enumerate (pa_cons (pe_lst (pa_cons (pv 3) (pa_cons (pv 4) pa_nil))) pa_nil)) (pg_tup rfl (pgs_cons (pg_name (i := 12) sc_is_due.nd rfl (.inl rfl)) (pgs_cons (pg_name (i := 13) sc_is_due.nd rfl (.inl rfl)) pgs_nil))) (pss_cons (ps_set (i := 14) sc_is_due.nd rfl (.inl rfl) (pe_tup (pa_cons (pe_ix ix_seq (pe_ix ix_seq (pe_dget (hu_of hr) (pv 0) pe_str (fun _ _ => rfl)) (pv 12) (fun _ _ => rfl)) pe_int (fun _ _ => rfl)) (pa_cons (pe_op op_mulW (pe_ix ix_seq (pe_ix ix_seq (pe_dget (hu_of hr) (pv 0) pe_str (fun _ _ => rfl)) (pv 12) (fun _ _ => rfl)) pe_int (fun _ _ => rfl)) (pe_ix ix_seq (pv 9) (pv 12) (fun _ _ => rfl))) pa_nil))))
      (pss_cons (ps_set (i := 15) sc_is_due.nd rfl (.inl rfl) (pe_gd Dshare hr (by decide) (by rfl) (pa_cons (pv 13) (pa_cons (pe_ix ix_seq (pv 8) (pv 12) (fun _ _ => rfl)) (pa_cons (pe_ix ix_seq (pv 10) (pv 12) (fun _ _ => rfl)) pa_nil)))))
      (pss_one (ps_expr (pe_bm PySem.F.plainAttrs_list PySem.F.slot_list_append PySem.F.type_list_append mt_append (pv 11) (pa_cons (pe_tup (pa_cons (pe_op op_mulW (pe_ix ix_seq (pv 14) pe_int (fun _ _ => rfl)) (pe_ix ix_seq (pv 15) pe_int (fun _ _ => rfl))) (pa_cons (pe_op op_mulW (pe_ix ix_seq (pv 14) pe_int (fun _ _ => rfl)) (pe_ix ix_seq (pv 15) pe_int (fun _ _ => rfl))) pa_nil))) pa_nil)))))))
      (pss_cons (ps_if (pt_cmpR op_eq (pe_dget (hu_of hr) (pv 0) pe_str (fun _ _ => rfl)) pe_str (nomark _)) (pss_one (ps_ret (pe_or (pe_cmpR (op_eqDK (K := K) rfl (hu64 hr)) (pe_tup (pa_cons (pv 3) (pa_cons (pv 4) pa_nil))) (pe_tup (pa_cons pe_int (pa_cons pe_int pa_nil))) (nomark _)) (pe_one (pe_gd Dis_less hr (by decide) (by rfl) (pa_cons (pe_gd Dsum hr (by decide) (by rfl) (pa_cons (pe_ix ix_seq (pv 11) pe_int (fun _ _ => rfl)) (pa_cons (pe_ix ix_seq (pv 11) pe_int (fun _ _ => rfl)) pa_nil))) (pa_cons (pv 5) pa_nil))))))) pss_nil)
      (pss_one (ps_ret (pe_and (pe_gd Dis_less hr (by decide) (by rfl) (pa_cons (pe_ix ix_seq (pv 11) pe_int (fun _ _ => rfl)) (pa_cons (pv 5) pa_nil))) (pe_one (pe_gd Dis_less hr (by decide) (by rfl) (pa_cons (pe_ix ix_seq (pv 11) pe_int (fun _ _ => rfl)) (pa_cons (pv 5) pa_nil)))))))))))))), ?_⟩
    have l1 := ok.ok.l1
    obtain ⟨lr, ll, lq, ls, lt1, lt2, lq1, lq2, hdd, hm⟩ := id hd
    obtain ⟨as, hr1, hr2⟩ := id hm.r
    have lrs : (as.map V.ref).length = g.rs.length := by rw [List.length_map, pd_len hr2]
    refine ⟨_, rfl, _, rfl, d, g, n, rfl, hd, ok, (by omega), fun tt H1 e1 htt => ⟨_, rfl, d, _, rfl, DGet.s (e1 _ _ hdd) vk1, ?_⟩⟩
    refine ⟨_, _, rfl, ?_⟩
    refine ⟨_, rfl, _, rfl, _, rfl, lr, _, rfl, .inl (SqL.of (e1 _ _ hr1)), (n : Int), ((as.map V.ref).length : Int), rfl, rfl, (by rw [lrs]; omega), ?_⟩
    obtain ⟨ca, hca, hcc⟩ := pd_get2 hr2 (n % g.rs.length) (csA g.rs n) (csA_get l1 n)
    have cm := csA_mem l1 n
    have okc := ok.ok.one cm
    have pos := pos_cols (ok.ok.hc _ cm)
    have h32 := ok.ok.h32 _ cm
    have pc : colsF (csA g.rs n) ≤ 32 := Nat.le_trans (Nat.le_mul_of_pos_right _ pos.2) h32
    have pr : rowsF (csA g.rs n) ≤ 32 := Nat.le_trans (Nat.le_mul_of_pos_left _ pos.1) h32
    obtain ⟨pl, hpl, hpl2⟩ : ∃ pl, (placesF (csA g.rs n))[s]? = some pl ∧ plF (csA g.rs n) s = pl := by
      refine ⟨(placesF (csA g.rs n))[s], List.getElem?_eq_getElem hs, ?_⟩
      unfold plF
      rw [List.getD_eq_getElem?_getD, List.getElem?_eq_getElem hs]
      rfl
    have pin := placesF_mem _ (List.mem_of_getElem? hpl)
    refine .inl ⟨lr, _, _, _, rfl, rfl, SqL.of (e1 _ _ hr1), (by rw [lrs]; exact atI_nat (j := n % g.rs.length) (by rw [List.getElem?_map, hca]; rfl)), ?_⟩
    refine ⟨_, rfl, _, rfl, ca, csA g.rs n, s, pl, rfl, cl_ext hcc e1, ok.ok.hc _ cm, ok.ok.h5 _ cm, hpl, fun sp H2 e2 hsp => ⟨_, rfl, _, rfl, lr, g.rs, n, rfl, ⟨as, (e1.trans e2) _ _ hr1, pd_imp (fun _ _ w => cl_ext w (e1.trans e2)) hr2⟩, ok.ok.c, (by omega), fun ct H3 e3 hct => ⟨_, _, rfl, ?_⟩⟩⟩
    have e13 := (e1.trans e2).trans e3
    refine ⟨_, rfl, (by show 1 ≤ sizeLine; decide), fun lc hlc => ⟨lc, [csA g.rs n], 1, rfl, ⟨[ca], upd_same, .cons (cl_ext hcc (e13.trans (Ext.upd hlc))) .nil⟩, okc, by decide, fun pt H4 e4 hpt => ⟨(by show 0 ≤ sizeLine; decide), fun fl hfl => ⟨_, _, rfl, ?_⟩⟩⟩⟩
    have e14 := (e13.trans (Ext.upd hlc)).trans e4
    have hfl5 : (upd H4 fl (.lst [])) fl = some (.lst []) := upd_same
    have e5 := Ext.upd (H := H4) (o := .lst []) hfl
    have hflH : H fl = none := none_ext e14 hfl
    have e15 := e14.trans e5
    have n_t : tt ≠ fl := ne_of_none (((((e2.trans e3).trans (Ext.upd hlc)).trans e4)) _ _ htt) hfl
    have n_s : sp ≠ fl := ne_of_none (((e3.trans (Ext.upd hlc)).trans e4) _ _ hsp) hfl
    have n_c : ct ≠ fl := ne_of_none (((Ext.upd hlc).trans e4) _ _ hct) hfl
    have n_p : pt ≠ fl := ne_of_none hpt hfl
    have htt5 := e5 _ _ (((((e2.trans e3).trans (Ext.upd hlc)).trans e4)) _ _ htt)
    have hsp5 := e5 _ _ (((e3.trans (Ext.upd hlc)).trans e4) _ _ hsp)
    have hct5 := e5 _ _ (((Ext.upd hlc).trans e4) _ _ hct)
    have hpt5 := e5 _ _ hpt
    generalize upd H4 fl (.lst []) = H5 at hfl5 e5 e15 htt5 hsp5 hct5 hpt5 ⊢
    have p1 : dcF [csA g.rs n] 0 1 = colsF (csA g.rs n) ∧ drF [csA g.rs n] 0 1 = rowsF (csA g.rs n) := ⟨Nat.one_mul _, Nat.one_mul _⟩
    rw [p1.1, p1.2] at hpt5
    have cz := ct_small ok n (by omega)
    have co := counts_ok ok.ok n
    rw [co] at cz
    refine ⟨_, rfl, _, rfl, (by show 2 ≤ sizeLine; decide), fun il hil => ⟨il, _, rfl, SqL.of upd_same, ?_⟩⟩
    have e6 := Ext.upd (H := H5) (o := .lst [.int i, .int j]) hil
    have hil6 : (upd H5 il (.lst [.int i, .int j])) il = some (.lst [.int i, .int j]) := upd_same
    have hfl6 := e6 _ _ hfl5
    have nif : il ≠ fl := (ne_of_none hfl5 hil).symm
    generalize upd H5 il (.lst [.int i, .int j]) = H6 at e6 hil6 hfl6 ⊢
    have e16 := e15.trans e6
    refine for_enumL (fun r σ H' => ∃ (ts : List Addr) (u12 u13 u14 u15 : Option V), σ = [some (.ref d), some (.int (n : Nat)), some (.int (s : Nat)), some (.int i), some (.int j), some (.ref tt), some (.ref lr), some (.ref ca), some (.ref sp), some (.ref ct), some (.ref pt), some (.ref fl), u12, u13, u14, u15] ∧ H' fl = some (.lst (ts.map V.ref)) ∧ ts.length = r ∧ (∀ t, ts[0]? = some t → H' t = some (.tup [.int (gapF i (sdE g n) pl.1 (colsF (csA g.rs n))).1, .int (gapF i (sdE g n) pl.1 (colsF (csA g.rs n))).2])) ∧ (∀ t, ts[1]? = some t → H' t = some (.tup [.int (gapF j (sdN g n) pl.2 (rowsF (csA g.rs n))).1, .int (gapF j (sdN g n) pl.2 (rowsF (csA g.rs n))).2])) ∧ (∀ x o, H6 x = some o → x ≠ fl → H' x = some o)) ⟨[], none, none, none, none, rfl, hfl6, rfl, (fun _ z => (nomatch z)), (fun _ z => (nomatch z)), (fun _ _ w _ => w)⟩ (fun _ _ _ ⟨_, _, _, _, _, _, _, _, _, _, e⟩ => SqL.of (e _ _ hil6 nif)) ?_ ?_
    · rintro r x T2 σ H7 hx hT ⟨ts, u12, u13, u14, u15, rfl, h1, h2, h3, h4, kp⟩
      have K0 : ∀ {y : Addr} {o : HO}, H y = some o → H7 y = some o := fun {y o} w => kp _ _ (e16 _ _ w) (fun z => by rw [z, hflH] at w; cases w)
      have key : ∃ (iv a b C' av mv : Int) (tk : Addr), x = .int iv ∧ [V.ref lt1, V.ref lt2][r]? = some (.ref tk) ∧ H7 tk = some (.tup [.int a, .int b]) ∧ [V.int ((dcF g.rs 0 n : Nat) : Int), V.int ((drF g.rs 0 n : Nat) : Int)][r]? = some (.int C') ∧ [V.int pl.1, V.int pl.2][r]? = some (.int av) ∧ [V.int (colsF (csA g.rs n) : Nat), V.int (rowsF (csA g.rs n) : Nat)][r]? = some (.int mv) ∧ C'.natAbs < 2 ^ 800 ∧ a.natAbs < 2 ^ 70 ∧ b.natAbs < 2 ^ 70 ∧ 0 ≤ av ∧ av < mv ∧ mv ≤ 32 ∧ ((r = 0 ∧ (a * (shF iv av mv).1, b * C' * (shF iv av mv).2) = gapF i (sdE g n) pl.1 (colsF (csA g.rs n))) ∨ (r = 1 ∧ (a * (shF iv av mv).1, b * C' * (shF iv av mv).2) = gapF j (sdN g n) pl.2 (rowsF (csA g.rs n)))) := by
        match r, hx with
        | 0, hx => cases hx; exact ⟨_, _, _, _, _, _, _, rfl, rfl, K0 hm.l1, rfl, rfl, rfl, cz.1, ok.ze.1, ok.ze.2, pin.1, pin.2.1, by omega, .inl ⟨rfl, by unfold gapF sdE; rw [co]⟩⟩
        | 1, hx => cases hx; exact ⟨_, _, _, _, _, _, _, rfl, rfl, K0 hm.l2, rfl, rfl, rfl, cz.2, ok.zn.1, ok.zn.2, pin.2.2.1, pin.2.2.2, by omega, .inr ⟨rfl, by unfold gapF sdN; rw [co]⟩⟩
      obtain ⟨iv, a, b, C', av, mv, tk, rfl, htk, hk, hC, ha, hm', zc, za, zb, a0, a1, m32, hr⟩ := key
      have zsh : (shF iv av mv).1.natAbs < 2 ^ 6 ∧ (shF iv av mv).2.natAbs < 2 ^ 6 := by
        unfold shF
        split
        · exact ⟨by decide, by decide⟩
        · split
          · exact ⟨by show (mv - av - 1).natAbs < _; omega, by show mv.natAbs < _; omega⟩
          · exact ⟨by show av.natAbs < _; omega, by show mv.natAbs < _; omega⟩
      have eT : Ext H7 (upd H7 T2 (.tup [.int (r : Nat), .int iv])) := Ext.upd hT
      have hT2 : (upd H7 T2 (.tup [.int (r : Nat), .int iv])) T2 = some (.tup [.int (r : Nat), .int iv]) := upd_same
      generalize upd H7 T2 (.tup [.int (r : Nat), .int iv]) = H8 at eT hT2 ⊢
      have hfl8 := eT _ _ h1
      have hsp8 := eT _ _ (kp _ _ (e6 _ _ hsp5) n_s)
      have hct8 := eT _ _ (kp _ _ (e6 _ _ hct5) n_c)
      have hpt8 := eT _ _ (kp _ _ (e6 _ _ hpt5) n_p)
      have htk := eT _ _ hk
      have r2 : r < 2 := (List.getElem?_eq_some_iff.mp hx).1
      refine ⟨T2, _, rfl, SqT.of hT2, rfl, _, _, rfl, _, _, rfl, rfl, ?_⟩
      refine ⟨_, rfl, d, _, rfl, DGet.s (eT _ _ (K0 hdd)) (vk2 (by decide +kernel)), _, rfl, .inl ⟨ll, _, _, _, rfl, rfl, SqL.of (eT _ _ (K0 hm.l)), atI_nat (by assumption), .inr (.inl ⟨tk, _, 0, _, rfl, rfl, SqT.of htk, rfl, _, rfl, d, _, rfl, DGet.s (eT _ _ (K0 hdd)) (vk2 (by decide +kernel)), _, rfl, .inl ⟨ll, _, _, _, rfl, rfl, SqL.of (eT _ _ (K0 hm.l)), atI_nat (by assumption), .inr (.inl ⟨tk, _, 1, _, rfl, rfl, SqT.of htk, rfl, _, rfl, _, rfl, .inl ⟨ct, _, _, _, rfl, rfl, SqL.of hct8, atI_nat hC, _, _, rfl, rfl, mulW zb zc (by decide) (by decide) (by decide), (by show 2 ≤ sizeLine; decide), fun sd hsd => ?_⟩⟩)⟩⟩)⟩⟩
      have e9 := Ext.upd (H := H8) (o := .tup [.int a, .int (b * C')]) hsd
      have hsd9 : (upd H8 sd (.tup [.int a, .int (b * C')])) sd = some (.tup [.int a, .int (b * C')]) := upd_same
      generalize upd H8 sd (.tup [.int a, .int (b * C')]) = H9 at e9 hsd9 ⊢
      refine ⟨_, rfl, _, rfl, _, rfl, .inl ⟨sp, _, _, _, rfl, rfl, SqL.of (e9 _ _ hsp8), atI_nat ha, _, rfl, _, rfl, .inl ⟨pt, _, _, _, rfl, rfl, SqL.of (e9 _ _ hpt8), atI_nat hm', iv, av, mv, rfl, fun nr Ha ea hnr => ?_⟩⟩⟩
      have hsd := ea _ _ hsd9
      have hfla := ea _ _ (e9 _ _ hfl8)
      refine ⟨_, rfl, .inl ⟨rfl, _, SqL.of hfla⟩, _, rfl, .inr (.inl ⟨sd, _, 0, _, rfl, rfl, SqT.of hsd, rfl, _, rfl, .inr (.inl ⟨nr, _, 0, _, rfl, rfl, SqT.of hnr, rfl, _, _, rfl, rfl, mulW za zsh.1 (by decide) (by decide) (by decide), _, rfl, .inr (.inl ⟨sd, _, 1, _, rfl, rfl, SqT.of hsd, rfl, _, rfl, .inr (.inl ⟨nr, _, 1, _, rfl, rfl, SqT.of hnr, rfl, _, _, rfl, rfl, mulW (wide_lt zb zc) zsh.2 (by decide) (by decide) (by decide), (by show 2 ≤ sizeLine; decide), fun t2 ht2 => ?_⟩)⟩)⟩)⟩)⟩
      have eb := Ext.upd (H := Ha) (o := .tup [.int (a * (shF iv av mv).1), .int (b * C' * (shF iv av mv).2)]) ht2
      have ht2b : (upd Ha t2 (.tup [.int (a * (shF iv av mv).1), .int (b * C' * (shF iv av mv).2)])) t2 = some (.tup [.int (a * (shF iv av mv).1), .int (b * C' * (shF iv av mv).2)]) := upd_same
      generalize upd Ha t2 (.tup [.int (a * (shF iv av mv).1), .int (b * C' * (shF iv av mv).2)]) = Hb at eb ht2b ⊢
      have hflb := eb _ _ hfla
      have e7b := ((eT.trans e9).trans ea).trans eb
      have ne : ∀ {t' : Addr} {o : List V}, Hb t' = some (.tup o) → t' ≠ fl := fun h z => by rw [z, hflb] at h; cases h
      refine ⟨fl, _, _, rfl, rfl, hflb, by rw [List.length_map, h2, sizeLine_eq]; omega, ts ++ [t2], _, _, _, _, rfl, by rw [upd_same, List.map_append]; rfl, by rw [List.length_append, h2]; rfl, fun t' ht' => ?_, fun t' ht' => ?_, fun y o w n' => by rw [upd_ne n']; exact e7b _ _ (kp _ _ w n')⟩
      · rcases hr with ⟨rfl, hr⟩ | ⟨rfl, hr⟩
        · have : ts = [] := List.length_eq_zero_iff.mp h2
          subst this
          cases ht'
          rw [upd_ne (ne ht2b), ← hr]
          exact ht2b
        · have h := e7b _ _ (h3 t' (by rwa [List.getElem?_append_left (by omega)] at ht'))
          rw [upd_ne (ne h)]
          exact h
      · rcases hr with ⟨rfl, hr⟩ | ⟨rfl, hr⟩
        · have := (List.getElem?_eq_some_iff.mp ht').1
          rw [List.length_append, h2] at this
          simp at this
        · have e4 : (ts ++ [t2])[1]? = some t2 := by rw [List.getElem?_append_right (by omega), h2] <;> rfl
          rw [e4] at ht'
          cases ht'
          rw [upd_ne (ne ht2b), ← hr]
          exact ht2b
    rintro σ H7 ⟨ts, u12, u13, u14, u15, rfl, h1, h2, h3, h4, kp⟩
    have K0 : ∀ {y : Addr} {o : HO}, H y = some o → H7 y = some o := fun {y o} w => kp _ _ (e16 _ _ w) (fun z => by rw [z, hflH] at w; cases w)
    have h2 : ts.length = 2 := h2
    obtain ⟨t1, t2, rfl⟩ := len2 h2
    have w1 := h3 t1 rfl
    have w2 := h4 t2 rfl
    have htt7 := kp _ _ (e6 _ _ htt5) n_t
    rw [tp_gt ok.ok] at htt7
    have gs := gt_small ok n (by omega)
    have zsd : ∀ (v : Int) (sd : Int × Int) (a m : Int), sd.1.natAbs < 2 ^ 70 → sd.2.natAbs < 2 ^ 870 → 0 ≤ a → a < m → m ≤ 32 → (gapF v sd a m).1.natAbs < 2 ^ 900 ∧ (gapF v sd a m).2.natAbs < 2 ^ 900 := fun v sd a m x1 x2 a0 a1 m32 => by
      have up : ∀ {x : Int} {k : Nat}, x.natAbs < 2 ^ k → k ≤ 900 → x.natAbs < 2 ^ 900 := fun h hm => Nat.lt_of_lt_of_le h (Nat.pow_le_pow_right (by decide) hm)
      have zsh : (shF v a m).1.natAbs < 2 ^ 6 ∧ (shF v a m).2.natAbs < 2 ^ 6 := by
        unfold shF
        split
        · exact ⟨by decide, by decide⟩
        · split
          · exact ⟨by show (m - a - 1).natAbs < _; omega, by show m.natAbs < _; omega⟩
          · exact ⟨by show a.natAbs < _; omega, by show m.natAbs < _; omega⟩
      exact ⟨up (wide_lt x1 zsh.1) (by decide), up (wide_lt x2 zsh.2) (by decide)⟩
    have y1 : (sdE g n).2.natAbs < 2 ^ 870 := by unfold sdE; rw [co]; exact wide_lt ok.ze.2 cz.1
    have y2 : (sdN g n).2.natAbs < 2 ^ 870 := by unfold sdN; rw [co]; exact wide_lt ok.zn.2 cz.2
    have v1 := zsd i (sdE g n) pl.1 (colsF (csA g.rs n)) ok.ze.1 y1 pin.1 pin.2.1 (by omega)
    have v2 := zsd j (sdN g n) pl.2 (rowsF (csA g.rs n)) ok.zn.1 y2 pin.2.2.1 pin.2.2.2 (by omega)
    have kk : ∀ b H', Ext H H' → b = dueB g n (csA g.rs n) s (i, j) → Q (.bl b) H' := fun b H' e w => by rw [w]; exact k H' e
    clear k
    unfold dueB at kk
    rw [hpl2] at kk
    have E7 : Ext H H7 := fun y o w => K0 w
    have kp5 := DGet.s (K0 hdd) (vk5 (by decide +kernel) (by decide +kernel) (by decide +kernel) (by decide +kernel))
    have up : ∀ {x : Int}, x.natAbs < 2 ^ 900 → x.natAbs < 2 ^ 2000 := fun h => Nat.lt_of_lt_of_le h (Nat.pow_le_pow_right (by decide) (by decide))
    cases hkd : g.kd
    · rw [hkd] at kk kp5
      refine ⟨_, rfl, d, _, rfl, kp5, rfl, _, rfl, ?_⟩
      have e0 : decide (V.str (kdS false) = V.str "sum") = true := by decide +kernel
      rw [e0]
      refine iteT ?_
      have kk := fun b H' (e : Ext H H') w => kk b H' e (by rw [if_neg (by decide)]; exact w)
      refine ⟨_, rfl, _, rfl, (by show 2 ≤ sizeLine; decide), fun ta hta => ⟨(by show 2 ≤ sizeLine; decide), fun tb htb => ?_⟩⟩
      have e8 := (Ext.upd (H := H7) (o := .tup [.int i, .int j]) hta).trans (Ext.upd (o := .tup [.int 0, .int 0]) htb)
      have hta8 : (upd (upd H7 ta (.tup [.int i, .int j])) tb (.tup [.int 0, .int 0])) ta = some (.tup [.int i, .int j]) := by rw [upd_ne (ne_of_none upd_same htb), upd_same]
      have htb8 : (upd (upd H7 ta (.tup [.int i, .int j])) tb (.tup [.int 0, .int 0])) tb = some (.tup [.int 0, .int 0]) := upd_same
      generalize upd (upd H7 ta (.tup [.int i, .int j])) tb (.tup [.int 0, .int 0]) = H8 at e8 hta8 htb8 ⊢
      have E8 := E7.trans e8
      refine ⟨.tuple [.int i, .int j], .tuple [.int 0, .int 0], .tup (SqT.of hta8) (.cons (.int _) (.cons (.int _) .nil)), .tup (SqT.of htb8) (.cons (.int _) (.cons (.int _) .nil)), shaped_ij i j, shaped_ij 0 0, ?_⟩
      rw [eqv_ij]
      refine ⟨_, rfl, ite2 (fun z => ?_) (fun z => ?_)⟩
      · rw [z] at kk
        exact kk true H8 E8 (by rw [Bool.true_or])
      have z : decide ((i, j) = ((0, 0) : Int × Int)) = false := by cases h : decide ((i, j) = ((0, 0) : Int × Int)) with | false => rfl | true => exact absurd h z
      rw [z] at kk
      refine ⟨_, rfl, .inl ⟨fl, _, 0, _, rfl, rfl, SqL.of (e8 _ _ h1), rfl, _, rfl, .inl ⟨fl, _, 1, _, rfl, rfl, SqL.of (e8 _ _ h1), rfl, t1, t2, _, _, _, _, rfl, e8 _ _ w1, e8 _ _ w2, v1.1, v1.2, v2.1, v2.2, fun tw H9 e9 hw => ?_⟩⟩⟩
      have jsm := fun (x y : Int) (hx : x.natAbs < 2 ^ 900) (hy : y.natAbs < 2 ^ 900) => wide_lt hx hy
      refine ⟨_, rfl, tw, tt, _, _, _, _, 2000, rfl, hw, e9 _ _ (e8 _ _ htt7), ?_, ?_, up gs.1, up gs.2, by decide, by decide, ?_⟩
      · have a1 := jsm _ _ v1.1 v2.2
        have a2 := jsm _ _ v2.1 v1.2
        have := Int.natAbs_add_le ((gapF i (sdE g n) pl.1 (colsF (csA g.rs n))).1 * (gapF j (sdN g n) pl.2 (rowsF (csA g.rs n))).2) ((gapF j (sdN g n) pl.2 (rowsF (csA g.rs n))).1 * (gapF i (sdE g n) pl.1 (colsF (csA g.rs n))).2)
        have d : 2 ^ (900 + 900) + 2 ^ (900 + 900) ≤ 2 ^ 2000 := by decide +kernel
        omega
      · exact Nat.lt_of_lt_of_le (jsm _ _ v1.2 v2.2) (Nat.pow_le_pow_right (by decide) (by decide))
      · exact kk _ H9 (E8.trans e9) (by rw [Bool.false_or]; rfl)
    · rw [hkd] at kk kp5
      refine ⟨_, rfl, d, _, rfl, kp5, rfl, _, rfl, ?_⟩
      have e0 : decide (V.str (kdS true) = V.str "sum") = false := by decide +kernel
      rw [e0]
      refine iteF ?_
      refine ⟨_, rfl, .inl ⟨fl, _, 0, _, rfl, rfl, SqL.of h1, rfl, _, rfl, t1, tt, _, _, _, _, 900, rfl, w1, htt7, v1.1, v1.2, gs.1, gs.2, by decide, by decide, ?_⟩⟩
      have kk := fun b H' (e : Ext H H') w => kk b H' e (by rw [if_pos rfl]; exact w)
      refine ⟨_, rfl, ite2 (fun z1 => ?_) (fun z1 => ?_)⟩
      · refine ⟨_, rfl, .inl ⟨fl, _, 1, _, rfl, rfl, SqL.of h1, rfl, _, rfl, t2, tt, _, _, _, _, 900, rfl, w2, htt7, v2.1, v2.2, gs.1, gs.2, by decide, by decide, ?_⟩⟩
        exact kk _ H7 E7 (by unfold ltB; rw [z1, Bool.true_and])
      · have z1 : decide ((gapF i (sdE g n) pl.1 (colsF (csA g.rs n))).1 * (gtF g n).2 < (gtF g n).1 * (gapF i (sdE g n) pl.1 (colsF (csA g.rs n))).2) = false := decide_eq_false (fun w => z1 (decide_eq_true w))
        exact kk false H7 E7 (by unfold ltB; rw [z1, Bool.false_and])
end
end Mc

set_option Elab.async false
set_option linter.all false
set_option maxRecDepth 100000
set_option maxHeartbeats 4000000
set_option exponentiation.threshold 20000
namespace Mc
open PySem PySem.Spec PyProof.Rows L2 ClX StX
open RZ
section
variable {P : Program} {w : World} {K : PySem.W.Frag} {mg : Str → Option Value} {base : Heap} {f U0 kX M0 R0 C0 aX mX : Addr} {mas : List Addr} {mc : Value} {fd : FuncData}
theorem sc_moves : FnScope ["_law_found", "_law_i", "_law_j"] [] (defScope s_moves) := ⟨rfl, rfl, rfl, by decide +kernel, rfl, by decide +kernel, by decide +kernel⟩
/-- a list of new pairs -/
def MsAt (H : Hp) (x : Addr) (ms : List (Int × Int)) : Prop := ∃ cs : List Addr, H x = some (.lst (cs.map V.ref)) ∧ Paired (fun c (m : Int × Int) => H c = some (.tup [.int m.1, .int m.2])) cs ms
theorem MsAt.ext {H H' : Hp} {x : Addr} {ms : List (Int × Int)} (h : MsAt H x ms) (e : Ext H H') : MsAt H' x ms := by
  obtain ⟨cs, h1, h2⟩ := h
  exact ⟨cs, e _ _ h1, pd_imp (fun c m w => e _ _ w) h2⟩
theorem pd_app {α β : Type} {F : α → β → Prop} {l : List α} {m : List β} {l' : List α} {m' : List β} (a : Paired F l m) (b : Paired F l' m') : Paired F (l ++ l') (m ++ m') := by
  induction a with
  | nil => exact b
  | cons r _ ih => exact .cons r ih
def spMoves : Sp := fun vs H Q _ => vs = [] ∧ ∀ l H', Ext H H' → MsAt H' l mvL → Q (.ref l) H'
theorem ok_moves (F : FunD K "_law_moves" "_law_moves" (defArgs s_moves) (defBody s_moves) (defScope s_moves) [] [] f fd) (T : TB mg) : FnOk P w K mg base CX0 1 f fd [] (spMoves) := by
  refine F.ok sc_moves (fun vs H Q E h => ?_) (fun cdv A outer s H vs Q E hr h => ?_)
  · obtain ⟨rfl, k⟩ := h
    rfl
  · obtain ⟨rfl, k⟩ := h
    refine ⟨_, (PSs.nox (pss_cons (ps_set (i := 0) sc_moves.nd rfl (.inl rfl) (pe_lst pa_nil))
      (pss_cons (ps_for PassesOwn.never rfl (pi_tup (pe_tup (pa_cons (pe_un un_neg pe_int) (pa_cons pe_int (pa_cons pe_int pa_nil))))) (pg_name (i := 1) sc_moves.nd rfl (.inr rfl)) (pss_one (ps_expr (pe_bm PySem.F.plainAttrs_list PySem.F.slot_list_extend PySem.F.type_list_extend mt_extend (pv 0) (pa_cons (pe_lc (own := [("_law_j", 2)]) (g := gName 2) (tt := tYes) rfl sc_moves.nd (pi_tup (pe_tup (pa_cons (pe_un un_neg pe_int) (pa_cons pe_int (pa_cons pe_int pa_nil))))) (blkOk_by (own := [("_law_j", 2)]) (N := ["_law_found", "_law_i", "_law_j"]) (sc := defScope s_moves) (by decide +kernel)) (fun _ _ _ _ _ => (pg_name (i := 2) sc_moves.nd rfl (.inl rfl))) (fun _ _ _ _ _ => pts_nil) (fun _ _ _ _ _ => (pe_tup (pa_cons (pv 1) (pa_cons (pv 2) pa_nil))))) pa_nil)))))
      (pss_one (ps_ret (pv 0)))))), ?_⟩
    refine ⟨(by show 0 ≤ sizeLine; decide), fun fl hfl => ?_⟩
    have e1 := Ext.upd (H := H) (o := .lst []) hfl
    have hf1 : (upd H fl (.lst [])) fl = some (.lst []) := upd_same
    generalize upd H fl (.lst []) = H1 at e1 hf1 ⊢
    refine ⟨_, rfl, (by show 3 ≤ sizeLine; decide), fun tl htl => ⟨tl, rfl, ⟨_, SqT.of upd_same⟩, ?_⟩⟩
    have e2 := Ext.upd (H := H1) (o := .tup [.int (-1), .int 0, .int 1]) htl
    have htl2 : (upd H1 tl (.tup [.int (-1), .int 0, .int 1])) tl = some (.tup [.int (-1), .int 0, .int 1]) := upd_same
    have hf2 := e2 _ _ hf1
    have nft : tl ≠ fl := (ne_of_none hf1 htl).symm
    generalize upd H1 tl (.tup [.int (-1), .int 0, .int 1]) = H2 at e2 htl2 hf2 ⊢
    have E2 := e1.trans e2
    refine for_walk walk_t (fun i σ H' => ∃ u1, σ = [some (.ref fl), u1, none] ∧ MsAt H' fl (mvL.take (3 * i)) ∧ H' tl = some (.tup [.int (-1), .int 0, .int 1]) ∧ Ext H H') ⟨none, rfl, ⟨[], hf2, .nil⟩, htl2, E2⟩ (fun _ _ _ ⟨_, _, _, h, _⟩ => SqT.of h) ?_ ?_
    · rintro i x σ H3 hx ⟨u1, rfl, ⟨cs, hf3, pcs⟩, htl3, E3⟩
      have i3 : i < 3 := (List.getElem?_eq_some_iff.mp hx).1
      obtain ⟨v, rfl, hv⟩ : ∃ v : Int, x = .int v ∧ v = (i : Int) - 1 := by
        match i, hx with
        | 0, hx => cases hx; exact ⟨_, rfl, rfl⟩
        | 1, hx => cases hx; exact ⟨_, rfl, rfl⟩
        | 2, hx => cases hx; exact ⟨_, rfl, rfl⟩
      refine ⟨_, rfl, .inl ⟨rfl, _, SqL.of hf3⟩, _, rfl, (by show 3 ≤ sizeLine; decide), fun t2 ht2 => ⟨t2, rfl, ⟨_, SqT.of upd_same⟩, fun D hD => ?_⟩⟩
      have e4 := Ext.upd (H := H3) (o := .tup [.int (-1), .int 0, .int 1]) ht2
      have ht4 : (upd H3 t2 (.tup [.int (-1), .int 0, .int 1])) t2 = some (.tup [.int (-1), .int 0, .int 1]) := upd_same
      generalize upd H3 t2 (.tup [.int (-1), .int 0, .int 1]) = H4 at e4 ht4 hD ⊢
      refine lc_walk walk_t (fun j H' => (∃ ds : List Addr, H' D = some (.lst (ds.map V.ref)) ∧ Paired (fun c (m : Int × Int) => H' c = some (.tup [.int m.1, .int m.2])) ds (([(v, -1), (v, 0), (v, 1)] : List (Int × Int)).take j)) ∧ Ext H4 H') ⟨⟨[], upd_same, .nil⟩, Ext.upd hD⟩ (fun _ _ ⟨_, e⟩ => SqT.of (e _ _ ht4)) ?_ ?_
      · rintro j y H5 hy ⟨⟨ds, hD5, pds⟩, e5⟩
        have j3 : j < 3 := (List.getElem?_eq_some_iff.mp hy).1
        obtain ⟨z, rfl, hm⟩ : ∃ z : Int, y = .int z ∧ ([(v, -1), (v, 0), (v, 1)] : List (Int × Int))[j]? = some (v, z) := by
          match j, hy with
          | 0, hy => cases hy; exact ⟨_, rfl, rfl⟩
          | 1, hy => cases hy; exact ⟨_, rfl, rfl⟩
          | 2, hy => cases hy; exact ⟨_, rfl, rfl⟩
        refine ⟨rfl, lc_yes ⟨_, rfl, _, rfl, (by show 2 ≤ sizeLine; decide), fun tt htt => ?_⟩⟩
        have nDt : D ≠ tt := ne_of_none hD5 htt
        have ett := Ext.upd (H := H5) (o := .tup [.int v, .int z]) htt
        have ld : ds.length ≤ 3 := by rw [pd_len pds, List.length_take]; exact Nat.min_le_right _ _
        refine ⟨_, by rw [upd_ne nDt]; exact hD5, by rw [List.length_map, sizeLine_eq]; omega, ⟨ds ++ [tt], by rw [upd_same, List.map_append]; rfl, ?_⟩, ext_put (e5.trans ett) hD⟩
        rw [take_snoc hm]
        exact pd_snoc (pd_imp (fun c m w => by rw [upd_ne (fun z => by rw [z, hD5] at w; cases w)]; exact ett _ _ w) pds) (by rw [upd_ne nDt.symm]; exact upd_same)
      rintro H5 ⟨⟨ds, hD5, pds⟩, e5⟩
      have pds : Paired (fun c (m : Int × Int) => H5 c = some (.tup [.int m.1, .int m.2])) ds [(v, -1), (v, 0), (v, 1)] := pds
      have e35 := e4.trans e5
      have hf5 := e35 _ _ hf3
      have lc : cs.length ≤ 9 := by rw [pd_len pcs, List.length_take]; exact Nat.min_le_right _ _
      have ld : ds.length = 3 := pd_len pds
      refine ⟨fl, D, _, _, rfl, rfl, hf5, hD5, by rw [List.length_map, List.length_map, sizeLine_eq]; omega, ?_⟩
      have ntl : tl ≠ fl := nft
      refine ⟨_, rfl, ⟨cs ++ ds, by rw [upd_same, List.map_append], ?_⟩, by rw [upd_ne ntl]; exact e35 _ _ htl3, ext_put (E3.trans e35) hfl⟩
      have ek : mvL.take (3 * (i + 1)) = mvL.take (3 * i) ++ [(v, -1), (v, 0), (v, 1)] := by
        rw [hv]
        match i, i3 with
        | 0, _ => rfl
        | 1, _ => rfl
        | 2, _ => rfl
      rw [ek]
      exact pd_app (pd_imp (fun c m w => by rw [upd_ne (fun z => by rw [z, hf3] at w; cases w)]; exact e35 _ _ w) pcs) (pd_imp (fun c m w => by rw [upd_ne (fun z => by rw [z, hf5] at w; cases w)]; exact w) pds)
    rintro σ H3 ⟨u1, rfl, ms, _, E3⟩
    exact ⟨_, rfl, k fl H3 E3 ms⟩
theorem sc_dues : FnScope ["_law_model_here", "_law_deep", "_law_sign_now", "_law_i", "_law_j"] ["_law_model_here", "_law_deep", "_law_sign_now"] (defScope s_dues) := ⟨rfl, rfl, rfl, by decide +kernel, rfl, by decide +kernel, by decide +kernel⟩
def spDues : Sp := fun vs H Q _ => ∃ (d : Addr) (g : GaugeM) (n s : Nat), vs = [.ref d, .int n, .int s] ∧ MdlAt H d g ∧ GOk g ∧ n ≤ 100 ∧ s < (placesF (csA g.rs n)).length ∧ ∀ l H', Ext H H' → H l = none → MsAt H' l (mvL.filter (dueB g n (csA g.rs n) s)) → Q (.ref l) H'
theorem ok_dues (F : FunD K "_law_dues" "_law_dues" (defArgs s_dues) (defBody s_dues) (defScope s_dues) [] [] f fd) (T : TB mg) {fmoves : Addr} {fdmoves : FuncData} (Dmoves : Gd P w K mg base "_law_moves" 1 [] (spMoves) fmoves fdmoves) {fis_due : Addr} {fdis_due : FuncData} (Dis_due : Gd P w K mg base "_law_is_due" 4 ["_law_model_here", "_law_deep", "_law_sign_now", "_law_i", "_law_j"] (spIsDue) fis_due fdis_due) : FnOk P w K mg base CX0 5 f fd ["_law_model_here", "_law_deep", "_law_sign_now"] (spDues) := by
  refine F.ok sc_dues (fun vs H Q E h => ?_) (fun cdv A outer s H vs Q E hr h => ?_)
  · obtain ⟨d, g, n, s, rfl, hd, ok, hn, hs, k⟩ := h
    rfl
  · obtain ⟨d, g, n, s, rfl, hd, ok, hn, hs, k⟩ := h
    refine ⟨_, (PSs.nox (pss_one (ps_ret (pe_lc (own := [("_law_i", 3), ("_law_j", 4)]) (g := gTup K 2 (gCons (gName 3) (gCons (gName 4) gNil))) rfl sc_dues.nd (pi_list (pe_call0 Dmoves.ok (hr.mono (by decide)) (by rfl) Dmoves.g Dmoves.kp Dmoves.b .nil pass0)) (blkOk_by (own := [("_law_i", 3), ("_law_j", 4)]) (N := ["_law_model_here", "_law_deep", "_law_sign_now", "_law_i", "_law_j"]) (sc := defScope s_dues) (by decide +kernel)) (fun _ _ _ _ _ => (pg_tup rfl (pgs_cons (pg_name (i := 3) sc_dues.nd rfl (.inl rfl)) (pgs_cons (pg_name (i := 4) sc_dues.nd rfl (.inl rfl)) pgs_nil)))) (fun _ _ _ _ _ => (pts_one (pt_val (pe_gd Dis_due hr (by decide) (by rfl) (pa_cons (pv 0) (pa_cons (pv 1) (pa_cons (pv 2) (pa_cons (pv 3) (pa_cons (pv 4) pa_nil))))))))) (fun _ _ _ _ _ => (pe_tup (pa_cons (pv 3) (pa_cons (pv 4) pa_nil)))))))), ?_⟩
    refine ⟨rfl, fun ml H1 e1 ⟨cs, hml, pcs⟩ => ⟨ml, rfl, ⟨_, SqL.of hml⟩, fun D hD => lc_walk walk_l (fun i H' => (∃ ds : List Addr, H' D = some (.lst (ds.map V.ref)) ∧ Paired (fun c (m : Int × Int) => H' c = some (.tup [.int m.1, .int m.2])) ds ((mvL.take i).filter (dueB g n (csA g.rs n) s))) ∧ Ext H1 H') ⟨⟨[], upd_same, .nil⟩, Ext.upd hD⟩ (fun _ _ ⟨_, e⟩ => SqL.of (e _ _ hml)) ?_ ?_⟩⟩
    · rintro i x H2 hx ⟨⟨ds, hD2, pds⟩, e2⟩
      obtain ⟨c, rfl, m, hm, hc⟩ := refs_get pcs hx
      have hD2' := hD2
      have hi := (List.getElem?_eq_some_iff.mp hm).1
      have hi : i < 9 := hi
      have ld : ds.length ≤ 9 := by rw [pd_len pds]; exact Nat.le_trans (List.length_filter_le _ _) (by rw [List.length_take]; omega)
      have sn : (mvL.take (i + 1)).filter (dueB g n (csA g.rs n) s) = (mvL.take i).filter (dueB g n (csA g.rs n) s) ++ (if dueB g n (csA g.rs n) s m = true then [m] else []) := by
        rw [take_snoc hm, List.filter_append, List.filter_cons, List.filter_nil]
      refine ⟨c, _, rfl, SqT.of (e2 _ _ hc), rfl, _, _, rfl, _, _, rfl, rfl, rfl, _, rfl, _, rfl, _, rfl, _, rfl, _, rfl, d, g, n, s, m.1, m.2, rfl, (hd.ext e1).ext e2, ok, hn, hs, fun H3 e3 => ⟨_, rfl, ?_⟩⟩
      show if dueB g n (csA g.rs n) s m = true then _ else _
      by_cases hq : dueB g n (csA g.rs n) s m = true
      · rw [if_pos hq] at sn ⊢
        refine ⟨_, rfl, _, rfl, (by show 2 ≤ sizeLine; decide), fun tt htt => ?_⟩
        have hD3 := e3 _ _ hD2
        have nDt : D ≠ tt := ne_of_none hD3 htt
        have ett := Ext.upd (H := H3) (o := .tup [.int m.1, .int m.2]) htt
        refine ⟨_, by rw [upd_ne nDt]; exact hD3, by rw [List.length_map, sizeLine_eq]; omega, ⟨ds ++ [tt], by rw [upd_same, List.map_append]; rfl, ?_⟩, ext_put ((e2.trans e3).trans ett) hD⟩
        rw [sn]
        exact pd_snoc (pd_imp (fun c m w => by rw [upd_ne (fun z => by rw [z, hD2] at w; cases w)]; exact ett _ _ (e3 _ _ w)) pds) (by rw [upd_ne nDt.symm]; exact upd_same)
      · rw [if_neg hq] at sn ⊢
        rw [List.append_nil] at sn
        rw [sn]
        exact ⟨⟨ds, e3 _ _ hD2, pd_imp (fun c m w => e3 _ _ w) pds⟩, e2.trans e3⟩
    rintro H2 ⟨⟨ds, hD2, pds⟩, e2⟩
    have pds : Paired (fun c (m : Int × Int) => H2 c = some (.tup [.int m.1, .int m.2])) ds (mvL.filter (dueB g n (csA g.rs n) s)) := by
      have e1 : (cs.map V.ref).length = mvL.length := by rw [List.length_map, pd_len pcs]
      rwa [e1, List.take_length] at pds
    exact k D H2 (e1.trans e2) (none_ext e1 hD) ⟨ds, hD2, pds⟩
end
end Mc

set_option Elab.async false
set_option linter.all false
set_option maxRecDepth 100000
set_option maxHeartbeats 4000000
set_option exponentiation.threshold 20000
namespace Mc
open PySem PySem.Spec PyProof.Rows L2 ClX StX
open RZ
section
variable {P : Program} {w : World} {K : PySem.W.Frag} {mg : Str → Option Value} {base : Heap} {f U0 kX M0 R0 C0 aX mX : Addr} {mas : List Addr} {mc : Value} {fd : FuncData}
section
variable {C0 R0 M0 U0 p a d dm sl z : Addr} {mas xs : List Addr} {g : GaugeM} {H0 B H H' : Hp} {N : Addr → Prop}
theorem GSx.isG (h : GSx C0 R0 M0 U0 mas B N H a d g) : IsG H a := by
  obtain ⟨dx, m, tr, r1, r2, u, kvs, ha, _⟩ := h
  exact ⟨_, _, _, _, ha⟩
theorem GSx.at (h : GSx C0 R0 M0 U0 mas B N H a d g) : GaugeAt C0 R0 M0 U0 H a g := by
  obtain ⟨dx, m, tr, r1, r2, u, kvs, ha, gi, ex, _⟩ := h
  exact ⟨dx, m, tr, r1, r2, u, _, ha, gi.ext ex⟩
theorem GSx.nn (h : GSx C0 R0 M0 U0 mas B N H a d g) : ¬ N a ∧ ¬ N d := by
  obtain ⟨dx, m, tr, r1, r2, u, kvs, ha, gi, ex, ba, bd, bn, na, nd, _⟩ := h
  exact ⟨na, nd⟩
theorem pot_ng {H : Hp} {p b : Addr} (hp : Pot H p) (hb : IsG H b) : p ∉ [b] := fun z => by
  obtain ⟨x, y, e, _⟩ := hp
  obtain ⟨C, dx, u, fs, e2⟩ := hb
  rw [List.mem_singleton.mp z, e2] at e
  cases e
theorem pot_nd {H : Hp} {p b : Addr} (hp : Pot H p) (hb : IsD H b) : p ∉ [b] := fun z => by
  obtain ⟨x, y, e, _⟩ := hp
  obtain ⟨kv, e2⟩ := hb
  rw [List.mem_singleton.mp z, e2] at e
  cases e
theorem GSx.took {dx m tr l : Addr} {u : V} (h : GSx C0 R0 M0 U0 mas B N H a d g) (hm : H a = some (.ins U0 dx (flU m tr g.kd u (.ref d)))) (f : Frm [a] H H') (h2 : H' a = some (.ins U0 dx (flU m tr g.kd (.ref l) (.ref d)))) (hl : H' l = some (.lst (tkV g))) (ln : u = .ref l ∨ H l = none) (dom : ∀ z, N z → H z ≠ none) : GSx C0 R0 M0 U0 mas B N H' a d g := by
  have hb := h.isG
  have e := bare_frm f
  obtain ⟨dx', m', tr', r1', r2', u', kvs, ha, gi, ex, ba, bd, bn, na, nd, tk, tn, hd, rc, rn, ky⟩ := h
  rw [ha] at hm
  have q := (HO.ins.inj (Option.some.inj hm))
  have q2 := q.2.2
  unfold flU at q2
  simp only [List.cons.injEq, Prod.mk.injEq, V.ref.injEq, true_and, and_true] at q2
  obtain ⟨rfl, rfl, rfl⟩ := q2
  have q1 := q.2.1
  subst q1
  refine ⟨_, m', tr', r1', r2', .ref l, kvs, h2, gi, fun x o w => f _ _ (ex _ _ w) (fun y => by rw [List.mem_singleton.mp y, ba] at w; cases w), ba, bd, bn, na, nd, .inr ⟨l, rfl, hl⟩, fun l2 z => ?_, e _ _ (bareG_pk hb hd), fun ph s v z => ?_, rn, ky⟩
  · cases z
    rcases ln with w | w
    · exact tn l w
    · exact fun y => dom l y w
  · obtain ⟨l3, e3, z3⟩ := rc ph s v z
    exact ⟨l3, e3, e _ _ (bareG_pk hb z3)⟩
theorem in_bare {m tr r1 r2 : Addr} (gi : GaugeIn C0 R0 M0 B m tr r1 r2 g) (e : Ext B H) (hz : IsG H z ∨ IsD H z ∨ Pot H z) : GaugeIn C0 R0 M0 (bare z B) m tr r1 r2 g := by
  cases q : B z with
  | none =>
    have : bare z B = B := by
      funext y
      unfold bare
      split
      · rename_i w; rw [w, q]
      · rfl
    rw [this]
    exact gi
  | some o =>
    have w := e _ _ q
    rcases hz with ⟨C, dx, u, fs, h⟩ | ⟨kv, h⟩ | ⟨x, y, h, ok⟩
    · rw [w] at h; cases h; exact gi.bareG ⟨_, _, _, _, q⟩
    · rw [w] at h; cases h; exact gi.bareD ⟨_, q⟩
    · rw [w] at h; cases h; exact gi.bare ⟨_, _, q, ok⟩
theorem bare_no {y : Addr} (h : H y = none) : bare z H y = none := by
  unfold bare
  split
  · rfl
  · exact h
/-- all of zs taken away -/
def bareL (zs : List Addr) (B : Hp) : Hp := zs.foldr bare B
theorem bareL_ext (B : Hp) : ∀ zs, Ext (bareL zs B) B
  | [] => Ext.rfl'
  | z :: zs => (bare_ext _ _).trans (bareL_ext B zs)
theorem bareL_no (B : Hp) {y : Addr} : ∀ zs, (y ∈ zs ∨ B y = none) → bareL zs B y = none
  | [], h => h.elim (fun w => nomatch w) id
  | z :: zs, h => by
    by_cases e : y = z
    · rw [e]
      exact if_pos rfl
    · refine bare_no (bareL_no B zs ?_)
      rcases h with h | h
      · rcases List.mem_cons.mp h with w | w
        · exact absurd w e
        · exact .inl w
      · exact .inr h
theorem in_bareL {m tr r1 r2 : Addr} (gi : GaugeIn C0 R0 M0 B m tr r1 r2 g) (e : Ext B H) : ∀ zs : List Addr, (∀ z ∈ zs, IsG H z ∨ IsD H z ∨ Pot H z) → GaugeIn C0 R0 M0 (bareL zs B) m tr r1 r2 g
  | [], _ => gi
  | z :: zs, h => in_bare (in_bareL gi e zs fun y hy => h y (List.mem_cons_of_mem _ hy)) ((bareL_ext B zs).trans e) (h z List.mem_cons_self)
theorem GaugeNew.stN {a' d' : Addr} {g' : GaugeM} (h : GaugeNew C0 R0 M0 U0 H a' d' g') (zs : List Addr) (hz : ∀ z ∈ zs, IsG H z ∨ IsD H z ∨ Pot H z) (na : a' ∉ zs) (nd : d' ∉ zs) : ∃ B', GSx C0 R0 M0 U0 mas B' (· ∈ zs) H a' d' g' := by
  obtain ⟨dx, m, tr, r1, r2, e, gi, hdd⟩ := h
  have i1 := in_bare gi (fun _ _ q => q) (.inl (⟨_, _, _, _, e⟩ : IsG H a'))
  have i2 := in_bare i1 (bare_ext _ _) (.inr (.inl (⟨_, hdd⟩ : IsD H d')))
  have x2 : Ext (bare d' (bare a' H)) H := (bare_ext _ _).trans (bare_ext _ _)
  have bs : ∀ {x : Addr} {G : Hp}, bare x G x = none := fun {x G} => if_pos rfl
  exact ⟨_, dx, m, tr, r1, r2, .non, [], e, in_bareL i2 x2 zs hz, (bareL_ext _ zs).trans x2, bareL_no _ zs (.inr (bare_no bs)), bareL_no _ zs (.inr bs), fun x hx => bareL_no _ zs (.inl hx), na, nd, .inl rfl, (fun _ z => nomatch z), hdd, (fun _ _ _ z => nomatch z), (fun _ _ _ z => nomatch z), KyOk.nil⟩
end
theorem md_kind (lr ll lq ls : Addr) (kd b : Bool) : putK (mdD lr ll lq ls kd) (kS "kind") (.str (kdS b)) = mdD lr ll lq ls b := by
  have e1 : decide (kS "rounds" = kS "kind") = false := by decide +kernel
  have e2 : decide (kS "lengths" = kS "kind") = false := by decide +kernel
  have e3 : decide (kS "reaches" = kS "kind") = false := by decide +kernel
  have e4 : decide (kS "shut" = kS "kind") = false := by decide +kernel
  unfold putK mdD
  simp [of_decide_eq_false e1, of_decide_eq_false e2, of_decide_eq_false e3, of_decide_eq_false e4]
theorem sc_twin : FnScope ["_law_model_here", "_law_found", "_law_reach_here"] ["_law_model_here"] (defScope s_twin) := ⟨rfl, rfl, rfl, by decide +kernel, rfl, by decide +kernel, by decide +kernel⟩
theorem md_all (lr ll lq ls : Addr) (kd : Bool) : mergeK [] (mdD lr ll lq ls kd) = mdD lr ll lq ls kd := by
  unfold mergeK mdD
  rw [List.foldl_cons, List.foldl_cons, List.foldl_cons, List.foldl_cons, List.foldl_cons, List.foldl_nil, putK_new (kvs := []) rfl, List.nil_append, putK_new (kvs := [_]) (by show (decide (kS "rounds" = kS "lengths") || false) = false; decide +kernel)]
  rw [List.singleton_append, md_3, md_4, md_5]
  rfl
theorem md_len (lr ll lq ls x : Addr) (kd : Bool) : putK (mdD lr ll lq ls kd) (kS "lengths") (.ref x) = mdD lr x lq ls kd := by
  have e1 : decide (kS "rounds" = kS "lengths") = false := by decide +kernel
  have e2 : decide (kS "reaches" = kS "lengths") = false := by decide +kernel
  have e3 : decide (kS "shut" = kS "lengths") = false := by decide +kernel
  have e4 : decide (kS "kind" = kS "lengths") = false := by decide +kernel
  unfold putK mdD
  simp [of_decide_eq_false e1, of_decide_eq_false e2, of_decide_eq_false e3, of_decide_eq_false e4]
theorem md_rea (lr ll lq ls x : Addr) (kd : Bool) : putK (mdD lr ll lq ls kd) (kS "reaches") (.ref x) = mdD lr ll x ls kd := by
  have e1 : decide (kS "rounds" = kS "reaches") = false := by decide +kernel
  have e2 : decide (kS "lengths" = kS "reaches") = false := by decide +kernel
  have e3 : decide (kS "shut" = kS "reaches") = false := by decide +kernel
  have e4 : decide (kS "kind" = kS "reaches") = false := by decide +kernel
  unfold putK mdD
  simp [of_decide_eq_false e1, of_decide_eq_false e2, of_decide_eq_false e3, of_decide_eq_false e4]
def twF (g : GaugeM) : GaugeM := ⟨g.rs, g.ln, g.le, g.cl, (g.re.1, 2 * g.re.2), g.rn, g.kd⟩
def spTwin : Sp := fun vs H Q _ => ∃ (d : Addr) (g : GaugeM), vs = [.ref d] ∧ MdlAt H d g ∧ GOk g ∧ ∀ q H', Ext H H' → MdlAt H' q (twF g) → Q (.ref q) H'
theorem ok_twin (F : FunD K "_law_twin" "_law_twin" (defArgs s_twin) (defBody s_twin) (defScope s_twin) [] [] f fd) (T : TB mg) (tDict : mg "dict" = none) : FnOk P w K mg base CX0 1 f fd ["_law_model_here"] (spTwin) := by
  refine F.ok sc_twin (fun vs H Q E h => ?_) (fun cdv A outer s H vs Q E hr h => ?_)
  · obtain ⟨d, g, rfl, hd, ok, k⟩ := h
    rfl
  · obtain ⟨d, g, rfl, hd, ok, k⟩ := h
    refine ⟨_, (PSs.nox (pss_cons (ps_par (i := 1) (j := 2) (by rfl) sc_twin.nd rfl rfl (by decide) rfl rfl (pa_cons (pe_callTy (call_dictP rfl) (by rfl) tDict (by decide +kernel) (pa_cons (LiI.pe_listItems rfl (pv 0) (by rfl) T.list (by decide +kernel)) pa_nil)) (pa_cons (pe_ix ix_seq (pe_dget (hu_of hr) (pv 0) pe_str (fun _ _ => rfl)) pe_int (fun _ _ => rfl)) pa_nil)) (by rfl))
      (pss_cons (ps_dput (hu_of hr) (pv 1) pe_str (pe_revL (pe_dget (hu_of hr) (pv 0) pe_str (fun _ _ => rfl))) rfl)
      (pss_cons (ps_dput (hu_of hr) (pv 1) pe_str (pe_lst (pa_cons (pe_tup (pa_cons (pe_ix ix_seq (pv 2) pe_int (fun _ _ => rfl)) (pa_cons (pe_op op_mulW pe_int (pe_ix ix_seq (pv 2) pe_int (fun _ _ => rfl))) pa_nil))) (pa_cons (pe_ix ix_seq (pe_dget (hu_of hr) (pv 0) pe_str (fun _ _ => rfl)) pe_int (fun _ _ => rfl)) pa_nil))) rfl)
      (pss_one (ps_ret (pv 1))))))), ?_⟩
    obtain ⟨lr, ll, lq, ls, l1_, l2_, q1, q2, hdd, hm⟩ := id hd
    have r0 := ok.r0
    refine ⟨_, rfl, d, _, rfl, hdd, fun H1 p ts e1 _ _ _ hp hts => ⟨p, ts, _, rfl, SqL.of hp, pd_imp (fun _ _ q => SqT.of q) hts, fun nd hnd => ?_⟩⟩
    rw [md_all]
    have e2 : Ext H (upd H1 nd (.dK (mdD lr ll lq ls g.kd))) := Ext.trans e1 (Ext.upd hnd)
    have hn0 : H nd = none := by
      cases z : H nd with
      | none => rfl
      | some o => rw [e1 _ _ z] at hnd; cases hnd
    have hn2 : (upd H1 nd (.dK (mdD lr ll lq ls g.kd))) nd = some (.dK (mdD lr ll lq ls g.kd)) := upd_same
    generalize upd H1 nd (.dK (mdD lr ll lq ls g.kd)) = H2 at e2 hn2 ⊢
    clear hp hts hnd e1
    refine ⟨_, rfl, d, _, rfl, DGet.s (e2 _ _ hdd) (vk3 (by decide +kernel) (by decide +kernel)), .inl ⟨lq, _, 0, _, rfl, rfl, SqL.of (e2 _ _ hm.q), rfl, _, _, rfl, ?_⟩⟩
    refine ⟨_, rfl, d, _, rfl, DGet.s (e2 _ _ hdd) (vk2 (by decide +kernel)), ll, _, rfl, SqL.of (e2 _ _ hm.l), fun rl hrl => ?_⟩
    have e3 := Ext.upd (o := .lst [.ref l1_, .ref l2_].reverse) hrl
    have hrl3 : (upd H2 rl (.lst [.ref l1_, .ref l2_].reverse)) rl = some (.lst [.ref l2_, .ref l1_]) := upd_same
    have hn3 := e3 _ _ hn2
    have e23 := e2.trans e3
    generalize upd H2 rl (.lst [.ref l1_, .ref l2_].reverse) = H3 at e3 hrl3 hn3 e23 ⊢
    have lrl : rl ≠ nd := fun z => by rw [z, hn3] at hrl3; cases hrl3
    refine ⟨_, rfl, nd, _, rfl, DPut.k (k := kS "lengths") hn3 (by show 5 < sizeLine; decide), ?_⟩
    rw [md_len]
    have e4 : Ext H (upd H3 nd (.dK (mdD lr rl lq ls g.kd))) := ext_put e23 hn0
    have hn4 : (upd H3 nd (.dK (mdD lr rl lq ls g.kd))) nd = some (.dK (mdD lr rl lq ls g.kd)) := upd_same
    have hrl4 : (upd H3 nd (.dK (mdD lr rl lq ls g.kd))) rl = some (.lst [.ref l2_, .ref l1_]) := by rw [upd_ne lrl]; exact hrl3
    generalize upd H3 nd (.dK (mdD lr rl lq ls g.kd)) = H4 at e4 hn4 hrl4 ⊢
    clear hn3 hrl3 e3 e23 hrl hn2 e2
    have zz : g.re.2.natAbs < 2 ^ 70 := by omega
    refine ⟨_, rfl, .inr (.inl ⟨q1, _, 0, _, rfl, rfl, SqT.of (e4 _ _ hm.q1), rfl, _, rfl, .inr (.inl ⟨q1, _, 1, _, rfl, rfl, SqT.of (e4 _ _ hm.q1), rfl, _, _, rfl, rfl, mulW (show (2 : Int).natAbs < 2 ^ 2 by decide) zz (by decide) (by decide) (by decide), (by show 2 ≤ sizeLine; decide), fun nt hnt => ?_⟩)⟩)⟩
    have e5 := Ext.upd (o := .tup [.int g.re.1, .int (2 * g.re.2)]) hnt
    have hnt5 : (upd H4 nt (.tup [.int g.re.1, .int (2 * g.re.2)])) nt = some (.tup [.int g.re.1, .int (2 * g.re.2)]) := upd_same
    generalize upd H4 nt (.tup [.int g.re.1, .int (2 * g.re.2)]) = H5 at e5 hnt5 ⊢
    have e15 := e4.trans e5
    refine ⟨_, rfl, d, _, rfl, DGet.s (e15 _ _ hdd) (vk3 (by decide +kernel) (by decide +kernel)), .inl ⟨lq, _, 1, _, rfl, rfl, SqL.of (e15 _ _ hm.q), rfl, (by show 2 ≤ sizeLine; decide), fun nl hnl => ?_⟩⟩
    have e6 := Ext.upd (o := .lst [.ref nt, .ref q2]) hnl
    have hnl6 : (upd H5 nl (.lst [.ref nt, .ref q2])) nl = some (.lst [.ref nt, .ref q2]) := upd_same
    have hn6 := e6 _ _ (e5 _ _ hn4)
    have hrl6 := e6 _ _ (e5 _ _ hrl4)
    have hnt6 := e6 _ _ hnt5
    have e16 := e15.trans e6
    generalize upd H5 nl (.lst [.ref nt, .ref q2]) = H6 at e6 hnl6 hn6 hrl6 hnt6 e16 ⊢
    refine ⟨_, rfl, nd, _, rfl, DPut.k (k := kS "reaches") hn6 (by show 5 < sizeLine; decide), ?_⟩
    rw [md_rea]
    have ne : ∀ {a : Addr} {o : HO}, H6 a = some o → (∀ kvs, o ≠ .dK kvs) → (upd H6 nd (.dK (mdD lr rl nl ls g.kd))) a = some o := fun h n => by
      rw [upd_ne (fun z => by rw [z, hn6] at h; exact n _ (Option.some.inj h).symm)]
      exact h
    have e17 : Ext H (upd H6 nd (.dK (mdD lr rl nl ls g.kd))) := ext_put e16 hn0
    refine ⟨_, rfl, k nd _ e17 ⟨lr, rl, nl, ls, l2_, l1_, nt, q2, upd_same, ⟨hm.r.ext e17, ne hrl6 (fun _ z => nomatch z), e17 _ _ hm.l2, e17 _ _ hm.l1, ne hnl6 (fun _ z => nomatch z), ne hnt6 (fun _ z => nomatch z), e17 _ _ hm.q2, e17 _ _ hm.s⟩⟩⟩
end
end Mc

set_option Elab.async false
set_option linter.all false
set_option maxRecDepth 100000
set_option maxHeartbeats 4000000
set_option exponentiation.threshold 20000
namespace Mc
open PySem PySem.Spec PyProof.Rows L2 ClX StX
open RZ
section
variable {P : Program} {w : World} {K : PySem.W.Frag} {mg : Str → Option Value} {base : Heap} {f U0 kX M0 R0 C0 aX mX : Addr} {mas : List Addr} {mc : Value} {fd : FuncData}
theorem sc_turns_right : FnScope ["_law_pot_here", "_law_meter", "_law_model_here", "_law_twin_here", "_law_other", "_law_mates", "_law_many", "_law_k", "_law_parts", "_law_at", "_law_deep", "_law_due", "_law_near", "_law_mate"] ["_law_pot_here", "_law_meter", "_law_model_here"] (defScope s_turns_right) := ⟨rfl, rfl, rfl, by decide +kernel, rfl, by decide +kernel, by decide +kernel⟩
def flF (g : GaugeM) : GaugeM := ⟨g.rs, g.le, g.ln, g.cl, g.re, g.rn, !g.kd⟩
theorem ok_tw {g : GaugeM} (ok : GOk g) (h : g.re.2 ≤ 12) : GOk (twF g) := ⟨ok.ok, ok.cl, ok.n0, ok.n1, ok.e0, ok.e1, ok.zn, ok.ze, ⟨ok.r0.1, by show g.re.1 ≤ 2 * g.re.2; have := ok.r0; omega, by show 2 * g.re.2 ≤ 24; omega⟩, ok.r1⟩
theorem ok_fl {g : GaugeM} (ok : GOk g) : GOk (flF g) := ⟨ok.ok, ok.cl, ok.e0, ok.e1, ok.n0, ok.n1, ok.ze, ok.zn, ok.r0, ok.r1⟩
theorem MdlAt.putK {H : Hp} {d z : Addr} {g : GaugeM} {kv : List (Key × V)} {o : HO} (h : MdlAt H d g) (hz : H z = some (.dK kv)) (n : d ≠ z) : MdlAt (upd H z o) d g := by
  have kp : ∀ {y : Addr} {u : HO}, H y = some u → (∀ kv, u ≠ .dK kv) → upd H z o y = some u := fun {y u} w nk => by
    rw [upd_ne (fun e => by rw [e, hz] at w; exact nk _ (Option.some.inj w).symm)]
    exact w
  obtain ⟨lr, ll, lq, ls, l1, l2, q1, q2, h1, i⟩ := h
  obtain ⟨as, r1, r2⟩ := i.r
  exact ⟨lr, ll, lq, ls, l1, l2, q1, q2, by rw [upd_ne n]; exact h1, ⟨⟨as, kp r1 (by intro kv z; cases z), pd_imp (fun a cs ⟨bs, w1, w2⟩ => ⟨bs, kp w1 (by intro kv z; cases z), pd_imp (fun c t w => kp w (by intro kv z; cases z)) w2⟩) r2⟩, kp i.l (by intro kv z; cases z), kp i.l1 (by intro kv z; cases z), kp i.l2 (by intro kv z; cases z), kp i.q (by intro kv z; cases z), kp i.q1 (by intro kv z; cases z), kp i.q2 (by intro kv z; cases z), kp i.s (by intro kv z; cases z)⟩⟩
theorem ite_kd {b : Bool} {F : V → Prop} (h : F (.str (kdS (!b)))) : if b = true then F (.str "sum") else F (.str "box") := by
  cases b <;> exact h
theorem ite_kdC {b : Bool} {σ : L2.St} {H : Hp} {Q : VK} (h : tC (.str (kdS (!b))) σ H Q) : if b = true then tC (.str "sum") σ H Q else tC (.str "box") σ H Q := by
  cases b <;> exact h
theorem if_vars {b : Bool} {k l : Nat} {σ : L2.St} {Q : VK} {H : Hp} {v w : V} (hk : ∀ Q : VK, Q v H → tVar k σ H Q) (hl : ∀ Q : VK, Q w H → tVar l σ H Q) (h : Q (if b = true then v else w) H) : if b = true then tVar k σ H Q else tVar l σ H Q := by
  cases b
  · exact hl Q h
  · exact hk Q h
theorem MsAt.put {H : Hp} {x z : Addr} {vs : List V} {o : HO} {ms : List (Int × Int)} (h : MsAt H x ms) (hz : H z = some (.lst vs)) (n : x ≠ z) : MsAt (upd H z o) x ms := by
  obtain ⟨cs, h1, h2⟩ := h
  exact ⟨cs, by rw [upd_ne n]; exact h1, pd_imp (fun c m w => by rw [upd_ne (fun y => by rw [y, hz] at w; cases w)]; exact w) h2⟩
def dqM (m : Int × Int) : PyData := .tuple [.int m.1, .int m.2]
def dqM_ (ms : List (Int × Int)) : PyData := .list (ms.map dqM)
def dqW (all : List (List (Int × Int))) : PyData := .list (all.map dqM_)
theorem dp_pd {α β : Type} {K : PySem.W.Frag} {H : Hp} {F : Addr → α → Prop} {f : α → PyData} : ∀ {as : List Addr} {bs : List α}, Paired F as bs → (∀ a b, F a b → Dp K H (.ref a) (f b)) → DpAll K H (as.map V.ref) (bs.map f)
  | _, _, .nil, _ => .nil
  | _, _, .cons h t, k => .cons (k _ _ h) (dp_pd (β := β) t k)
theorem pd_zip {α β : Type} {F : α → β → Prop} : ∀ {as : List α} {bs : List β}, Paired F as bs → ∀ q ∈ as.zip bs, F q.1 q.2
  | _, _, .nil, _, h => nomatch h
  | _ :: _, _ :: _, .cons h t, q, hq => by
    rcases List.mem_cons.mp hq with e | hq
    · rw [e]; exact h
    · exact pd_zip t q hq
theorem dp_ms {K : PySem.W.Frag} {H : Hp} : ∀ {ps : List (Addr × Int × Int)}, (∀ q ∈ ps, SqT K H q.1 [.int q.2.1, .int q.2.2]) → DpAll K H (ps.map fun q => V.ref q.1) (ps.map fun q => dqM q.2)
  | [], _ => .nil
  | q :: ps, h => .cons (.tup (h q List.mem_cons_self) (.cons (.int _) (.cons (.int _) .nil))) (dp_ms fun r hr => h r (List.mem_cons_of_mem _ hr))
theorem rcP_snd {mas : List Addr} (lz : mas.length = 9) (g : GaugeM) (k s : Nat) : (rcP mas g k s).map (·.2) = mvL.filter (rcB g k s) := by
  have e : (mas.zip mvL).map (·.2) = mvL := List.map_snd_zip (by rw [lz]; decide)
  conv => rhs; rw [← e]
  rw [List.filter_map]
  rfl
theorem dp_rcV {K : PySem.W.Frag} {mg : Str → Option Value} {mX : Addr} {mas : List Addr} {H : Hp} (RV : MovT K mg mX mas) (lz : mas.length = 9) {g : GaugeM} {k s : Nat} {l : Addr} (h : H l = some (.lst (rcV mas g k s))) : Dp K H (.ref l) (dqM_ (mvL.filter (rcB g k s))) := by
  refine .lst (SqL.of h) ?_
  rw [← rcP_snd lz, List.map_map]
  exact dp_ms fun q hq => pd_zip RV.at_ q ((List.mem_filter.mp hq).1) H
theorem mvL_sm : ∀ m ∈ mvL, m.1.natAbs < 2 ^ 64 ∧ m.2.natAbs < 2 ^ 64 := by decide
theorem sm_dqW (all : List (List (Int × Int))) (h : all.length ≤ 10) (hm : ∀ ms ∈ all, ms.length ≤ 9 ∧ ∀ m ∈ ms, m.1.natAbs < 2 ^ 64 ∧ m.2.natAbs < 2 ^ 64) : Sm 4 10 (dqW all) := ⟨by rw [List.length_map]; exact h, fun y hy => by
  obtain ⟨ms, hms, rfl⟩ := List.mem_map.mp hy
  obtain ⟨l9, hk⟩ := hm ms hms
  refine ⟨by rw [List.length_map]; omega, fun z hz => ?_⟩
  obtain ⟨m, hmm, rfl⟩ := List.mem_map.mp hz
  obtain ⟨k1, k2⟩ := hk m hmm
  refine ⟨(by show 2 ≤ 10; decide), fun x hx => ?_⟩
  simp only [List.mem_cons, List.not_mem_nil, or_false] at hx
  rcases hx with rfl | rfl
  · exact k1
  · exact k2⟩
theorem MdlAt.keepD {H H' : Hp} {d : Addr} {g : GaugeM} (h : MdlAt H d g) (kp : ∀ u o, noD o = true → H u = some o → H' u = some o) : MdlAt H' d g := by
  obtain ⟨lr, ll, lq, ls, l1, l2, q1, q2, h1, i⟩ := h
  obtain ⟨as, r1, r2⟩ := i.r
  exact ⟨lr, ll, lq, ls, l1, l2, q1, q2, kp _ _ rfl h1, ⟨⟨as, kp _ _ rfl r1, pd_imp (fun a cs ⟨bs, w1, w2⟩ => ⟨bs, kp _ _ rfl w1, pd_imp (fun c t w => kp _ _ rfl w) w2⟩) r2⟩, kp _ _ rfl i.l, kp _ _ rfl i.l1, kp _ _ rfl i.l2, kp _ _ rfl i.q, kp _ _ rfl i.q1, kp _ _ rfl i.q2, kp _ _ rfl i.s⟩⟩
structure J4 (C0 R0 M0 U0 p a d a2 d2 a3 d3 dm tw nd ml : Addr) (mas : List Addr) (g : GaugeM) (H0 B B2 B3 : Hp) (N : Addr → Prop) (H : Hp) : Prop where
  x : GSx C0 R0 M0 U0 mas B (fun y => (((N y ∨ y = a2) ∨ y = d2) ∨ y = a3) ∨ y = d3) H a d g
  y : GSx C0 R0 M0 U0 mas B2 (fun y => (y ∈ [p, a, d] ∨ y = a3) ∨ y = d3) H a2 d2 (twF g)
  z : GSx C0 R0 M0 U0 mas B3 (· ∈ [p, a, d, a2, d2]) H a3 d3 (flF g)
  hp : Pot H p
  md : MdlAt H dm g
  mt : MdlAt H tw (twF g)
  mo : MdlAt H nd (flF g)
  ml : H ml = some (.lst (([a, a2, a3, a] : List Addr).map V.ref))
  f : Frm [p, a, d] H0 H
theorem GSx.weak {C0 R0 M0 U0 a d : Addr} {mas : List Addr} {B H : Hp} {N N' : Addr → Prop} {g : GaugeM} (h : GSx C0 R0 M0 U0 mas B N H a d g) (s : ∀ x, N' x → N x) : GSx C0 R0 M0 U0 mas B N' H a d g := by
  obtain ⟨dx, m, tr, r1, r2, u, kvs, ha, gi, ex, ba, bd, bn, na, nd, tk, tn, hd, rc, rn, ky⟩ := h
  exact ⟨dx, m, tr, r1, r2, u, kvs, ha, gi, ex, ba, bd, fun x w => bn x (s x w), fun w => na (s _ w), fun w => nd (s _ w), tk, fun l e w => tn l e (s _ w), hd, rc, fun ph s' l e w => rn ph s' l e (s _ w), ky⟩
theorem frm_to {H0 H H' : Hp} {M : List Addr} {z : Addr} (F : Frm M H0 H) (f : Frm [z] H H') (h : z ∈ M ∨ H0 z = none) : Frm M H0 H' := fun a o e n => f _ _ (F _ _ e n) fun w => by
  rw [List.mem_singleton.mp w] at e n
  rcases h with h | h
  · exact n h
  · rw [h] at e; cases e
section
variable {C0 R0 M0 U0 p a d a2 d2 a3 d3 dm tw nd ml : Addr} {mas : List Addr} {g : GaugeM} {H0 B B2 B3 H H' : Hp} {N : Addr → Prop}
theorem J4.ext (j : J4 C0 R0 M0 U0 p a d a2 d2 a3 d3 dm tw nd ml mas g H0 B B2 B3 N H) (e : Ext H H') : J4 C0 R0 M0 U0 p a d a2 d2 a3 d3 dm tw nd ml mas g H0 B B2 B3 N H' := ⟨j.x.ext e, j.y.ext e, j.z.ext e, j.hp.frm (M := []) (Frm.ext e) (fun z => nomatch z), j.md.ext e, j.mt.ext e, j.mo.ext e, e _ _ j.ml, j.f.trans (Frm.ext e)⟩
theorem J4.draw (j : J4 C0 R0 M0 U0 p a d a2 d2 a3 d3 dm tw nd ml mas g H0 B B2 B3 N H) (np : N p) (f : Frm [p] H H') (hp' : Pot H' p) : J4 C0 R0 M0 U0 p a d a2 d2 a3 d3 dm tw nd ml mas g H0 B B2 B3 N H' := by
  have e := bare_frm f
  exact ⟨j.x.turn f (.inl (.inl (.inl (.inl np)))), j.y.turn f (.inl (.inl (by simp))), j.z.turn f (by simp), hp', (j.md.bare j.hp).ext e, (j.mt.bare j.hp).ext e, (j.mo.bare j.hp).ext e, e _ _ (bare_pk j.hp j.ml (noPot_refs _)), frm_to j.f f (.inl (by simp))⟩
theorem J4.dict (j : J4 C0 R0 M0 U0 p a d a2 d2 a3 d3 dm tw nd ml mas g H0 B B2 B3 N H) {c : Addr} (hc : IsD H c) (f : Frm [c] H H') (x' : GSx C0 R0 M0 U0 mas B (fun y => (((N y ∨ y = a2) ∨ y = d2) ∨ y = a3) ∨ y = d3) H' a d g) (y' : GSx C0 R0 M0 U0 mas B2 (fun y => (y ∈ [p, a, d] ∨ y = a3) ∨ y = d3) H' a2 d2 (twF g)) (z' : GSx C0 R0 M0 U0 mas B3 (· ∈ [p, a, d, a2, d2]) H' a3 d3 (flF g)) (m : c ∈ [p, a, d] ∨ H0 c = none) : J4 C0 R0 M0 U0 p a d a2 d2 a3 d3 dm tw nd ml mas g H0 B B2 B3 N H' := by
  have e := bare_frm f
  exact ⟨x', y', z', j.hp.frm f (pot_nd j.hp hc), (j.md.bareD hc).ext e, (j.mt.bareD hc).ext e, (j.mo.bareD hc).ext e, e _ _ (bareD_pk hc j.ml), frm_to j.f f m⟩
end
structure J5 (C0 R0 M0 U0 p a d a2 d2 a3 d3 D2 : Addr) (mas : List Addr) (g : GaugeM) (H0 B B2 B3 : Hp) (N : Addr → Prop) (Hd H : Hp) : Prop where
  x : GSx C0 R0 M0 U0 mas B (fun y => ((((N y ∨ y = a2) ∨ y = d2) ∨ y = a3) ∨ y = d3) ∨ y = D2) H a d g
  y : GSx C0 R0 M0 U0 mas B2 (fun y => ((y ∈ [p, a, d] ∨ y = a3) ∨ y = d3) ∨ y = D2) H a2 d2 (twF g)
  z : GSx C0 R0 M0 U0 mas B3 (fun y => y ∈ [p, a, d, a2, d2] ∨ y = D2) H a3 d3 (flF g)
  kp : ∀ u o, noD o = true → Hd u = some o → H u = some o
  f : Frm [p, a, d] H0 H
section
variable {C0 R0 M0 U0 p a d a2 d2 a3 d3 D2 : Addr} {mas : List Addr} {g : GaugeM} {H0 B B2 B3 Hd H H' : Hp} {N : Addr → Prop}
theorem J5.dom (j : J5 C0 R0 M0 U0 p a d a2 d2 a3 d3 D2 mas g H0 B B2 B3 N Hd H) (hp : Pot Hd p) (h2 : H D2 ≠ none) (dm : ∀ z, N z → H0 z ≠ none) : (∀ y, (((((N y ∨ y = a2) ∨ y = d2) ∨ y = a3) ∨ y = d3) ∨ y = D2) → H y ≠ none) ∧ (∀ y, (((y ∈ [p, a, d] ∨ y = a3) ∨ y = d3) ∨ y = D2) → H y ≠ none) ∧ (∀ y, (y ∈ [p, a, d, a2, d2] ∨ y = D2) → H y ≠ none) := by
  have n1 : H p ≠ none := by obtain ⟨_, _, w, _⟩ := hp; rw [j.kp _ _ rfl w]; exact fun z => nomatch z
  have n2 : H a ≠ none := by obtain ⟨_, _, _, _, w⟩ := j.x.isG; rw [w]; exact fun z => nomatch z
  have n3 : H d ≠ none := by obtain ⟨_, w⟩ := j.x.isD; rw [w]; exact fun z => nomatch z
  have n4 : H a2 ≠ none := by obtain ⟨_, _, _, _, w⟩ := j.y.isG; rw [w]; exact fun z => nomatch z
  have n5 : H d2 ≠ none := by obtain ⟨_, w⟩ := j.y.isD; rw [w]; exact fun z => nomatch z
  have n6 : H a3 ≠ none := by obtain ⟨_, _, _, _, w⟩ := j.z.isG; rw [w]; exact fun z => nomatch z
  have n7 : H d3 ≠ none := by obtain ⟨_, w⟩ := j.z.isD; rw [w]; exact fun z => nomatch z
  have nl : ∀ y, y ∈ [p, a, d] → H y ≠ none := fun y hy => by
    simp only [List.mem_cons, List.not_mem_nil, or_false] at hy
    rcases hy with rfl | rfl | rfl
    · exact n1
    · exact n2
    · exact n3
  refine ⟨fun y hy => ?_, fun y hy => ?_, fun y hy => ?_⟩
  · rcases hy with ((((hy | rfl) | rfl) | rfl) | rfl) | rfl
    · by_cases m : y ∈ [p, a, d]
      · exact nl y m
      · cases w : H0 y with
        | none => exact absurd w (dm y hy)
        | some o => rw [j.f _ _ w m]; exact fun z => nomatch z
    · exact n4
    · exact n5
    · exact n6
    · exact n7
    · exact h2
  · rcases hy with ((hy | rfl) | rfl) | rfl
    · exact nl y hy
    · exact n6
    · exact n7
    · exact h2
  · rcases hy with hy | rfl
    · simp only [List.mem_cons, List.not_mem_nil, or_false] at hy
      rcases hy with rfl | rfl | rfl | rfl | rfl
      · exact n1
      · exact n2
      · exact n3
      · exact n4
      · exact n5
    · exact h2
theorem J5.callA (j : J5 C0 R0 M0 U0 p a d a2 d2 a3 d3 D2 mas g H0 B B2 B3 N Hd H) (f1 : Frm [d] H H') (x' : GSx C0 R0 M0 U0 mas B (fun y => ((((N y ∨ y = a2) ∨ y = d2) ∨ y = a3) ∨ y = d3) ∨ y = D2) H' a d g) : J5 C0 R0 M0 U0 p a d a2 d2 a3 d3 D2 mas g H0 B B2 B3 N Hd H' := ⟨x', j.y.turn f1 (.inl (.inl (.inl (by simp)))), j.z.turn f1 (.inl (by simp)), fun u o n w => (bare_frm f1) _ _ (bareD_pk j.x.isD (j.kp u o n w) n), frm_to j.f f1 (.inl (by simp))⟩
theorem J5.callB (j : J5 C0 R0 M0 U0 p a d a2 d2 a3 d3 D2 mas g H0 B B2 B3 N Hd H) (f1 : Frm [d2] H H') (y' : GSx C0 R0 M0 U0 mas B2 (fun y => ((y ∈ [p, a, d] ∨ y = a3) ∨ y = d3) ∨ y = D2) H' a2 d2 (twF g)) (h : H0 d2 = none) : J5 C0 R0 M0 U0 p a d a2 d2 a3 d3 D2 mas g H0 B B2 B3 N Hd H' := ⟨j.x.turn f1 (.inl (.inl (.inl (.inr rfl)))), y', j.z.turn f1 (.inl (by simp)), fun u o n w => (bare_frm f1) _ _ (bareD_pk j.y.isD (j.kp u o n w) n), frm_to j.f f1 (.inr h)⟩
theorem J5.callC (j : J5 C0 R0 M0 U0 p a d a2 d2 a3 d3 D2 mas g H0 B B2 B3 N Hd H) (f1 : Frm [d3] H H') (z' : GSx C0 R0 M0 U0 mas B3 (fun y => y ∈ [p, a, d, a2, d2] ∨ y = D2) H' a3 d3 (flF g)) (h : H0 d3 = none) : J5 C0 R0 M0 U0 p a d a2 d2 a3 d3 D2 mas g H0 B B2 B3 N Hd H' := ⟨j.x.turn f1 (.inl (.inr rfl)), j.y.turn f1 (.inl (.inr rfl)), z', fun u o n w => (bare_frm f1) _ _ (bareD_pk j.z.isD (j.kp u o n w) n), frm_to j.f f1 (.inr h)⟩
end
def spTurns (C0 R0 M0 U0 : Addr) (mas : List Addr) : Sp := fun vs H Q _ => ∃ (p a d dm : Addr) (g : GaugeM) (B : Hp) (N : Addr → Prop), vs = [.ref p, .ref a, .ref dm] ∧ GSx C0 R0 M0 U0 mas B N H a d g ∧ N p ∧ (∀ z, N z → H z ≠ none) ∧ Pot H p ∧ MdlAt H dm g ∧ GOk g ∧ g.re.2 ≤ 12 ∧
  ∀ H', Frm [p, a, d] H H' → GSx C0 R0 M0 U0 mas B N H' a d g → Pot H' p → MdlAt H' dm g → Q (.bl true) H'
theorem ok_turns_right (F : FunD K "_law_turns_right" "_law_turns_right" (defArgs s_turns_right) (defBody s_turns_right) (defScope s_turns_right) [] [] f fd) (T : TB mg) (RU : GaugeT K mg U0 kX) (RV : MovT K mg mX mas) (tDict : mg "dict" = none) {ftwin : Addr} {fdtwin : FuncData} (Dtwin : Gd P w K mg base "_law_twin" 1 ["_law_model_here"] (spTwin) ftwin fdtwin) {fgauge : Addr} {fdgauge : FuncData} (Dgauge : Gd P w K mg base "_law_gauge" 10 ["_law_pot_here", "_law_model_here"] (spGauge5 C0 R0 M0 U0) fgauge fdgauge) {fdraw : Addr} {fddraw : FuncData} (Ddraw : Gd P w K mg base "_law_draw" 1 ["_law_pot_here", "_law_size"] (spDraw) fdraw fddraw) {fcounts : Addr} {fdcounts : FuncData} (Dcounts : Gd P w K mg base "_law_counts" 1 ["_law_rounds_here", "_law_many"] (spCounts5) fcounts fdcounts) {fdues : Addr} {fddues : FuncData} (Ddues : Gd P w K mg base "_law_dues" 5 ["_law_model_here", "_law_deep", "_law_sign_now"] (spDues) fdues fddues) {f_Gauge_reached : Addr} {fd_Gauge_reached : FuncData} (m_Gauge_reached : Meth K U0 "reached" f_Gauge_reached) (g_Gauge_reached : FnOk P w K mg base CX0 11 f_Gauge_reached fd_Gauge_reached ["self", "phase", "sign"] (spReached C0 R0 M0 U0 mas)) (b_Gauge_reached : Binds K fd_Gauge_reached ["self", "phase", "sign"] []) : FnOkG P w K mg base CX0 12 f fd ["_law_pot_here", "_law_meter", "_law_model_here"] (spTurns C0 R0 M0 U0 mas) := by
  refine okG F sc_turns_right (fun vs H Q E h => ?_) (fun cdv A outer s H vs Q E hr h => ?_)
  · obtain ⟨p, a, d, dm, g, B, N, rfl, X, np, dom, hp, md, ok, r12, k⟩ := h
    rfl
  · obtain ⟨p, a, d, dm, g, B, N, rfl, X, np, dom, hp, md, ok, r12, k⟩ := h
    refine ⟨_, (pss_cons (ps_par (i := 3) (j := 4) (by rfl) sc_turns_right.nd rfl rfl (by decide) rfl rfl (pa_cons (pe_gd Dtwin hr.room (by decide) (by rfl) (pa_cons (pv 2) pa_nil)) (pa_cons (pe_callTy (call_dictP rfl) (by rfl) tDict (by decide +kernel) (pa_cons (LiI.pe_listItems rfl (pv 2) (by rfl) T.list (by decide +kernel)) pa_nil)) pa_nil)) (by rfl))
      (pss_cons (ps_dput (hu_of hr.room) (pv 4) pe_str (pe_ifExp (pt_cmpR op_eq (pe_dget (hu_of hr.room) (pv 2) pe_str (fun _ _ => rfl)) pe_str (nomark _)) pe_str pe_str) rfl)
      (pss_cons (ps_par (i := 5) (j := 6) (by rfl) sc_turns_right.nd rfl rfl (by decide) rfl rfl (pa_cons (pe_lst (pa_cons (pv 1) (pa_cons (pe_gd Dgauge hr.room (by decide) (by rfl) (pa_cons (pv 0) (pa_cons (pv 3) pa_nil))) (pa_cons (pe_gd Dgauge hr.room (by decide) (by rfl) (pa_cons (pv 0) (pa_cons (pv 4) pa_nil))) (pa_cons (pv 1) pa_nil))))) (pa_cons (pe_callB call_len_seq (by rfl) T.len PySem.boot_len (pa_cons (pe_dget (hu_of hr.room) (pv 2) pe_str (fun _ _ => rfl)) pa_nil)) pa_nil)) (by rfl))
      (pss_cons (ps_for PassesOwn.never rfl (pi_range1 (by rfl) T.range (pa_cons (pv 6) pa_nil)) (pg_name (i := 7) sc_turns_right.nd rfl (.inr rfl)) (pss_cons (ps_set (i := 8) sc_turns_right.nd rfl (.inl rfl) (pe_gd Dcounts hr.room (by decide) (by rfl) (pa_cons (pe_lst (pa_cons (pe_ix ix_seq (pe_dget (hu_of hr.room) (pv 2) pe_str (fun _ _ => rfl)) (pv 7) (fun _ _ => rfl)) pa_nil)) (pa_cons pe_int pa_nil))))
      (pss_cons (ps_asg (pe_tup (pa_cons (pe_gd Ddraw hr.room (by decide) (by rfl) (pa_cons (pv 0) (pa_cons (pe_op op_mulW (pe_ix ix_seq (pv 8) pe_int (fun _ _ => rfl)) (pe_ix ix_seq (pv 8) pe_int (fun _ _ => rfl))) pa_nil))) (pa_cons (pe_ifExp (pt_cmpR op_gt (pv 7) pe_int (nomark _)) (pv 7) (pv 6)) pa_nil))) (pg_tup rfl (pgs_cons (pg_name (i := 9) sc_turns_right.nd rfl (.inr rfl)) (pgs_cons (pg_name (i := 10) sc_turns_right.nd rfl (.inr rfl)) pgs_nil))))
      (pss_cons (ps_setLc (i := 11) (own := [("_law_near", 12)]) (g := gName 12) (tt := tYes) rfl sc_turns_right.nd rfl rfl (sw_true rfl rfl rfl (by decide +kernel)) (pi_list (pe_lst (pa_cons (pv 2) (pa_cons (pv 3) (pa_cons (pv 4) (pa_cons (pv 2) pa_nil)))))) (blkOk_by (own := [("_law_near", 12)]) (N := ["_law_pot_here", "_law_meter", "_law_model_here", "_law_twin_here", "_law_other", "_law_mates", "_law_many", "_law_k", "_law_parts", "_law_at", "_law_deep", "_law_due", "_law_near", "_law_mate"]) (sc := defScope s_turns_right) (by decide +kernel)) (fun _ _ _ _ _ => (pg_name (i := 12) sc_turns_right.nd rfl (.inl rfl))) (fun _ _ _ _ _ => pts_nil) (fun _ _ _ _ _ => (pe_gd Ddues hr.room (by decide) (by rfl) (pa_cons (pv 12) (pa_cons (pv 10) (pa_cons (pv 9) pa_nil))))))
      (pss_one (ps_if (pt_cmpR op_ne (pe_callB (call_reprDK (K := K) hr rfl) (by rfl) T.repr boot_repr (pa_cons (pe_lc (own := [("_law_mate", 13)]) (g := gName 13) (tt := tYes) rfl sc_turns_right.nd (pi_list (pv 5)) (blkOk_by (own := [("_law_mate", 13)]) (N := ["_law_pot_here", "_law_meter", "_law_model_here", "_law_twin_here", "_law_other", "_law_mates", "_law_many", "_law_k", "_law_parts", "_law_at", "_law_deep", "_law_due", "_law_near", "_law_mate"]) (sc := defScope s_turns_right) (by decide +kernel)) (fun _ _ _ _ _ => (pg_name (i := 13) sc_turns_right.nd rfl (.inl rfl))) (fun _ _ _ _ _ => pts_nil) (fun _ _ _ _ _ => (pe_meth (pv 13) RU.cl m_Gauge_reached g_Gauge_reached (hr.room.mono (by decide)) b_Gauge_reached .nil pass0 (pa_cons (pv 7) (pa_cons (pv 9) pa_nil))))) pa_nil)) (pe_callB (call_reprDK (K := K) hr rfl) (by rfl) T.repr boot_repr (pa_cons (pv 11) pa_nil)) (nomark _)) (pss_one (ps_ret pe_bl)) pss_nil))))))
      (pss_one (ps_ret pe_bl)))))), ?_⟩
    have lz : mas.length = 9 := pd_len RV.at_
    have l1 := ok.ok.l1
    have l3 := ok.ok.l3
    obtain ⟨lr, ll, lq, ls, lt1, lt2, lq1, lq2, hdd, hm⟩ := id md
    refine ⟨_, rfl, dm, g, rfl, md, ok, fun tw H1 e1 hmt => ?_⟩
    refine ⟨_, rfl, dm, _, rfl, e1 _ _ hdd, fun H2 pp ts e2 _ _ _ hpp hts => ⟨pp, ts, _, rfl, SqL.of hpp, pd_imp (fun _ _ q => SqT.of q) hts, fun nd hnd => ?_⟩⟩
    rw [md_all]
    refine ⟨_, _, rfl, ?_⟩
    have hn3 : (upd H2 nd (.dK (mdD lr ll lq ls g.kd))) nd = some (.dK (mdD lr ll lq ls g.kd)) := upd_same
    have e3 := (e1.trans e2).trans (Ext.upd (o := .dK (mdD lr ll lq ls g.kd)) hnd)
    have e2' : Ext H1 H2 := e2
    have e23 := e2'.trans (Ext.upd (o := .dK (mdD lr ll lq ls g.kd)) hnd)
    have hnd0 : H nd = none := none_ext (e1.trans e2) hnd
    have ntw : tw ≠ nd := fun z => by
      obtain ⟨_, _, _, _, _, _, _, _, w, _⟩ := hmt
      rw [z, none_ext e2 hnd] at w
      cases w
    generalize upd H2 nd (.dK (mdD lr ll lq ls g.kd)) = H3 at hn3 e3 e23 ⊢
    have hk : decide (V.str (kdS g.kd) = V.str "box") = g.kd := by cases g.kd <;> decide +kernel
    refine ⟨_, rfl, dm, _, rfl, DGet.s (e3 _ _ hdd) (vk5 (by decide +kernel) (by decide +kernel) (by decide +kernel) (by decide +kernel)), rfl, _, rfl, ?_⟩
    rw [hk]
    show if g.kd = true then _ else _
    refine ite_kdC ?_
    refine ⟨_, rfl, nd, _, rfl, DPut.k (k := kS "kind") hn3 (by show 5 < sizeLine; decide), ?_⟩
    rw [md_kind]
    have e4 : Ext H (upd H3 nd (.dK (mdD lr ll lq ls (!g.kd)))) := ext_put e3 hnd0
    have hn4 : (upd H3 nd (.dK (mdD lr ll lq ls (!g.kd)))) nd = some (.dK (mdD lr ll lq ls (!g.kd))) := upd_same
    have hmt4 : MdlAt (upd H3 nd (.dK (mdD lr ll lq ls (!g.kd)))) tw (twF g) := by
      exact (hmt.ext e23).putK hn3 ntw
    generalize upd H3 nd (.dK (mdD lr ll lq ls (!g.kd))) = H4 at e4 hn4 hmt4 ⊢
    have md4 := md.ext e4
    have mo4 : MdlAt H4 nd (flF g) := ⟨lr, ll, lq, ls, lt1, lt2, lq1, lq2, hn4, ⟨hm.r.ext e4, e4 _ _ hm.l, e4 _ _ hm.l1, e4 _ _ hm.l2, e4 _ _ hm.q, e4 _ _ hm.q1, e4 _ _ hm.q2, e4 _ _ hm.s⟩⟩
    have X4 := X.ext e4
    have hp4 : Pot H4 p := hp.frm (M := []) (Frm.ext e4) (fun z => nomatch z)
    have okT := ok_tw ok r12
    have okF := ok_fl ok
    clear e1 e2 e3 e23 hn3 hnd hpp hts
    refine ⟨_, rfl, _, rfl, _, rfl, p, tw, twF g, rfl, hp4, hmt4, okT, fun a2 d2 H5 f5 hp5 a20 d20 hg2 => ?_⟩
    have X5 := ((X4.add a20).add d20).turn f5 (.inl (.inl np))
    have nn2 : ∀ z ∈ [p, a, d], H4 z ≠ none := fun z hz => by
      simp only [List.mem_cons, List.not_mem_nil, or_false] at hz
      rcases hz with rfl | rfl | rfl
      · obtain ⟨_, _, w, _⟩ := hp4; rw [w]; exact fun z => nomatch z
      · obtain ⟨_, _, _, _, w⟩ := X4.isG; rw [w]; exact fun z => nomatch z
      · obtain ⟨_, w⟩ := X4.isD; rw [w]; exact fun z => nomatch z
    have sf2 : ∀ z ∈ [p, a, d], IsG H5 z ∨ IsD H5 z ∨ Pot H5 z := fun z hz => by
      simp only [List.mem_cons, List.not_mem_nil, or_false] at hz
      rcases hz with rfl | rfl | rfl
      · exact .inr (.inr hp5)
      · exact .inl X5.isG
      · exact .inr (.inl X5.isD)
    obtain ⟨B2, X2⟩ := hg2.stN (mas := mas) [p, a, d] sf2 (fun m => nn2 _ m a20) (fun m => nn2 _ m d20)
    have mo5 := (mo4.bare hp4).ext (bare_frm f5)
    have mt5 := (hmt4.bare hp4).ext (bare_frm f5)
    have md5 := (md4.bare hp4).ext (bare_frm f5)
    have iG2 : IsG H5 a2 := by obtain ⟨dx', m1, tr1, b1, b2, w, _⟩ := hg2; exact ⟨_, _, _, _, w⟩
    have iD2 : IsD H5 d2 := by obtain ⟨dx', m1, tr1, b1, b2, _, _, w⟩ := hg2; exact ⟨_, w⟩
    have F5 : Frm [p, a, d] H H5 := frm_to (Frm.ext e4) f5 (.inl (by simp))
    refine ⟨_, rfl, _, rfl, p, nd, flF g, rfl, hp5, mo5, okF, fun a3 d3 H6 f6 hp6 a30 d30 hg3 => ?_⟩
    have X6 := ((X5.add a30).add d30).turn f6 (.inl (.inl (.inl (.inl np))))
    have Y6 := ((X2.add a30).add d30).turn f6 (.inl (.inl (by simp)))
    have nn3 : ∀ z ∈ [p, a, d, a2, d2], H5 z ≠ none := fun z hz => by
      simp only [List.mem_cons, List.not_mem_nil, or_false] at hz
      rcases hz with rfl | rfl | rfl | rfl | rfl
      · obtain ⟨_, _, w, _⟩ := hp5; rw [w]; exact fun z => nomatch z
      · obtain ⟨_, _, _, _, w⟩ := X5.isG; rw [w]; exact fun z => nomatch z
      · obtain ⟨_, w⟩ := X5.isD; rw [w]; exact fun z => nomatch z
      · obtain ⟨_, _, _, _, w⟩ := iG2; rw [w]; exact fun z => nomatch z
      · obtain ⟨_, w⟩ := iD2; rw [w]; exact fun z => nomatch z
    have sf3 : ∀ z ∈ [p, a, d, a2, d2], IsG H6 z ∨ IsD H6 z ∨ Pot H6 z := fun z hz => by
      simp only [List.mem_cons, List.not_mem_nil, or_false] at hz
      rcases hz with rfl | rfl | rfl | rfl | rfl
      · exact .inr (.inr hp6)
      · exact .inl X6.isG
      · exact .inr (.inl X6.isD)
      · exact .inl Y6.isG
      · exact .inr (.inl Y6.isD)
    obtain ⟨B3, Z6⟩ := hg3.stN (mas := mas) [p, a, d, a2, d2] sf3 (fun m => nn3 _ m a30) (fun m => nn3 _ m d30)
    have mo6 := (mo5.bare hp5).ext (bare_frm f6)
    have mt6 := (mt5.bare hp5).ext (bare_frm f6)
    have md6 := (md5.bare hp5).ext (bare_frm f6)
    have F6 : Frm [p, a, d] H H6 := frm_to F5 f6 (.inl (by simp))
    have a2H : H a2 = none := none_ext e4 a20
    have d2H : H d2 = none := none_ext e4 d20
    have d3H : H d3 = none := by
      cases q : H d3 with
      | none => rfl
      | some o =>
        have w := e4 _ _ q
        rw [f5 _ _ w (fun y => by
          obtain ⟨_, _, u, _⟩ := hp5
          rw [List.mem_singleton.mp y, u] at d30
          cases d30)] at d30
        cases d30
    clear hg2 hg3 X X4 X5 X2 mo4 mo5 mt5 md4 md5 hmt4 sf2 sf3 nn2 nn3 iG2 iD2 F5 f5 f6 hp4 hp5 a20 d20 a30 d30 hn4
    refine ⟨_, rfl, (by show 4 ≤ sizeLine; decide), fun ml hml => ?_⟩
    have e7 := Ext.upd (H := H6) (o := .lst [.ref a, .ref a2, .ref a3, .ref a]) hml
    have hml7 : (upd H6 ml (.lst [.ref a, .ref a2, .ref a3, .ref a])) ml = some (.lst (([a, a2, a3, a] : List Addr).map V.ref)) := upd_same
    generalize upd H6 ml (.lst [.ref a, .ref a2, .ref a3, .ref a]) = H7 at e7 hml7 ⊢
    have J7 : J4 C0 R0 M0 U0 p a d a2 d2 a3 d3 dm tw nd ml mas g H B B2 B3 N H7 := ⟨X6.ext e7, Y6.ext e7, Z6.ext e7, hp6.frm (M := []) (Frm.ext e7) (fun z => nomatch z), md6.ext e7, mt6.ext e7, mo6.ext e7, hml7, F6.trans (Frm.ext e7)⟩
    clear X6 Y6 Z6 mo6 mt6 md6 F6 hp6 e7 hml7 hml
    obtain ⟨lr, ll, lq, ls, lt1, lt2, lq1, lq2, hdd, hm⟩ := id J7.md
    obtain ⟨as, hr1, hr2⟩ := id hm.r
    have lrs : (as.map V.ref).length = g.rs.length := by rw [List.length_map, pd_len hr2]
    refine ⟨_, rfl, dm, _, rfl, DGet.s hdd vk1, lr, _, rfl, .inl (SqL.of hr1), ?_⟩
    rw [lrs]
    refine ⟨_, _, rfl, ?_⟩
    clear hdd hm hr1 hr2 lrs
    refine ⟨_, rfl, (g.rs.length : Nat), rfl, by omega, by omega, for_walk (walk_r (lo := 0)) (fun i σ H' => ∃ u7 u8 u9 u10 u11, σ = [some (.ref p), some (.ref a), some (.ref dm), some (.ref tw), some (.ref nd), some (.ref ml), some (.int (g.rs.length : Nat)), u7, u8, u9, u10, u11, none, none] ∧ J4 C0 R0 M0 U0 p a d a2 d2 a3 d3 dm tw nd ml mas g H B B2 B3 N H') ⟨none, none, none, none, none, rfl, J7⟩ (fun _ _ _ _ => trivial) ?_ ?_⟩
    · rintro i x σ H8 hx ⟨u7, u8, u9, u10, u11, rfl, J8⟩
      obtain ⟨hi, rfl⟩ := range_get hx
      have hi : i < g.rs.length := by simpa using hi
      have csg : g.rs[i]? = some (csF g i) := by
        show _ = some (g.rs.getD i [])
        rw [List.getD_eq_getElem?_getD, List.getElem?_eq_getElem hi]
        rfl
      have cm := List.mem_of_getElem? csg
      have h32 := ok.ok.h32 _ cm
      have pos := pos_cols (ok.ok.hc _ cm)
      have pc : colsF (csF g i) ≤ 32 := Nat.le_trans (Nat.le_mul_of_pos_right _ pos.2) h32
      have pr : rowsF (csF g i) ≤ 32 := Nat.le_trans (Nat.le_mul_of_pos_left _ pos.1) h32
      obtain ⟨lr, ll, lq, ls, lt1, lt2, lq1, lq2, hdd, hm⟩ := id J8.md
      obtain ⟨as, hr1, hr2⟩ := id hm.r
      obtain ⟨ca, hca, hcc⟩ := pd_get2 hr2 i (csF g i) csg
      refine ⟨_, rfl, dm, _, rfl, DGet.s hdd vk1, _, rfl, .inl ⟨lr, _, _, _, rfl, rfl, SqL.of hr1, atI_nat (j := i) (by rw [List.getElem?_map, hca]; rfl), (by show 1 ≤ sizeLine; decide), fun lc hlc => ⟨lc, [csF g i], 1, rfl, ⟨[ca], upd_same, .cons (cl_ext hcc (Ext.upd hlc)) .nil⟩, ok.ok.one cm, by decide, fun pt H9 e9 hpt => ?_⟩⟩⟩
      have J9 := J8.ext ((Ext.upd hlc).trans e9)
      have p1 : dcF [csF g i] 0 1 = colsF (csF g i) ∧ drF [csF g i] 0 1 = rowsF (csF g i) := ⟨Nat.one_mul _, Nat.one_mul _⟩
      rw [p1.1, p1.2] at hpt
      clear hdd hm hr1 hr2 hca hcc e9 hlc J8
      refine ⟨_, rfl, _, rfl, .inl ⟨pt, _, 0, _, rfl, rfl, SqL.of hpt, rfl, _, rfl, .inl ⟨pt, _, 1, _, rfl, rfl, SqL.of hpt, rfl, _, _, rfl, rfl, mulW (a := 6) (b := 6) (by omega) (by omega) (by decide) (by decide) (by decide), p, _, rfl, J9.hp, ?_, ?_, fun r Ha r0 r1 fa hpa => ?_⟩⟩⟩
      · have := Nat.mul_pos pos.1 pos.2
        show (0 : Int) < ((colsF (csF g i) * rowsF (csF g i) : Nat) : Int)
        omega
      · exact small_log (n := 12) (by show ((colsF (csF g i) * rowsF (csF g i) : Nat) : Int).natAbs < _; omega) (by decide) (by decide)
      obtain ⟨r, rfl⟩ := Int.eq_ofNat_of_zero_le r0
      have Ja := J9.draw np fa hpa
      have rs : r < (placesF (csF g i)).length := by
        rw [placesF_length]
        have : ((r : Nat) : Int) < ((colsF (csF g i) * rowsF (csF g i) : Nat) : Int) := r1
        omega
      clear J9 fa hpa r1
      refine ⟨_, rfl, _, _, rfl, rfl, _, rfl, ?_⟩
      refine if_vars (v := .int (i : Nat)) (w := .int (g.rs.length : Nat)) (fun Q q => ⟨_, rfl, q⟩) (fun Q q => ⟨_, rfl, q⟩) ?_
      obtain ⟨F, hF⟩ : ∃ F, F = ffF g.rs.length i := ⟨_, rfl⟩
      have eF : (if decide ((0 : Int) < ((i : Nat) : Int)) = true then V.int (i : Nat) else V.int (g.rs.length : Nat)) = V.int (F : Nat) := by
        rw [hF]
        unfold ffF
        by_cases z : i = 0
        · rw [if_pos z, if_neg (by rw [decide_eq_true_eq]; omega)]
        · rw [if_neg z, if_pos (decide_eq_true (by omega))]
      rw [eF]
      have F3 : F ≤ 3 := by rw [hF]; unfold ffF; split <;> omega
      have csF_ : csA g.rs F = csF g i := by
        show g.rs.getD (F % g.rs.length) [] = g.rs.getD i []
        have : F % g.rs.length = i := by
          rw [hF]
          unfold ffF
          by_cases z : i = 0
          · rw [if_pos z, Nat.mod_self, z]
          · rw [if_neg z, Nat.mod_eq_of_lt hi]
        rw [this]
      refine ⟨(by show 2 ≤ sizeLine; decide), fun t ht => ⟨t, _, rfl, SqT.of upd_same, rfl, _, _, rfl, _, _, rfl, rfl, ?_⟩⟩
      have Jb := Ja.ext (Ext.upd (o := .tup [.int (r : Nat), .int (F : Nat)]) ht)
      generalize upd Ha t (.tup [.int (r : Nat), .int (F : Nat)]) = Hb at Jb ⊢
      refine ⟨_, rfl, _, rfl, _, rfl, _, rfl, (by show 4 ≤ sizeLine; decide), fun nl hnl => ?_⟩
      have Jc := Jb.ext (Ext.upd (o := .lst [.ref dm, .ref tw, .ref nd, .ref dm]) hnl)
      have hnl2 : (upd Hb nl (.lst [.ref dm, .ref tw, .ref nd, .ref dm])) nl = some (.lst [.ref dm, .ref tw, .ref nd, .ref dm]) := upd_same
      generalize upd Hb nl (.lst [.ref dm, .ref tw, .ref nd, .ref dm]) = Hc at Jc hnl2 ⊢
      clear Ja Jb ht hnl
      have due : ∀ gg : GaugeM, GOk gg → gg.rs = g.rs → mvL.filter (dueB gg F (csA gg.rs F) r) = mvL.filter (rcB gg i r) := fun gg okk er => by
        have e1 : csA gg.rs F = csF gg i := by rw [er, csF_]; unfold csF; rw [er]
        have e2 : F = ffF gg.rs.length i := by rw [er]; exact hF
        rw [e1, e2]
        congr 1
        funext m
        exact due_one (gpos okk) (by rw [er]; exact hi) r m
      refine ⟨nl, rfl, ⟨_, SqL.of hnl2⟩, fun D hD => lc_walk walk_l (fun j H' => (∃ ys : List Addr, H' D = some (.lst (ys.map V.ref)) ∧ Paired (fun x ms => MsAt H' x ms ∧ x ≠ D) ys (([g, twF g, flF g, g].map fun gg => mvL.filter (rcB gg i r)).take j)) ∧ Ext Hc H') ⟨⟨[], upd_same, .nil⟩, Ext.upd hD⟩ (fun _ _ ⟨_, e⟩ => SqL.of (e _ _ hnl2)) ?_ ?_⟩
      · rintro j x Hd hx ⟨⟨ys, hyD, pys⟩, ed⟩
        have j4 : j < 4 := (List.getElem?_eq_some_iff.mp hx).1
        obtain ⟨dd, gg, rfl, hdd, okk, er, hgg⟩ : ∃ (dd : Addr) (gg : GaugeM), x = .ref dd ∧ MdlAt Hd dd gg ∧ GOk gg ∧ gg.rs = g.rs ∧ ([g, twF g, flF g, g].map fun gg => mvL.filter (rcB gg i r))[j]? = some (mvL.filter (rcB gg i r)) := by
          match j, hx with
          | 0, hx => cases hx; exact ⟨_, g, rfl, Jc.md.ext ed, ok, rfl, rfl⟩
          | 1, hx => cases hx; exact ⟨_, twF g, rfl, Jc.mt.ext ed, okT, rfl, rfl⟩
          | 2, hx => cases hx; exact ⟨_, flF g, rfl, Jc.mo.ext ed, okF, rfl, rfl⟩
          | 3, hx => cases hx; exact ⟨_, g, rfl, Jc.md.ext ed, ok, rfl, rfl⟩
        refine ⟨rfl, lc_yes ⟨_, rfl, _, rfl, _, rfl, dd, gg, F, r, rfl, hdd, okk, by omega, (by rw [er, csF_]; exact rs), fun l He ee l0 ms => ?_⟩⟩
        rw [due gg okk er] at ms
        have hyE := ee _ _ hyD
        have nl_ : l ≠ D := (ne_of_none hyD l0).symm
        refine ⟨_, hyE, by rw [List.length_map, pd_len pys, List.length_take, sizeLine_eq]; omega, ⟨ys ++ [l], by rw [upd_same, List.map_append]; rfl, ?_⟩, ext_put (ed.trans ee) hD⟩
        rw [take_snoc hgg]
        exact pd_snoc (pd_imp (fun x m w => ⟨(w.1.ext ee).put hyE w.2, w.2⟩) pys) ⟨ms.put hyE nl_, nl_⟩
      rintro Hd ⟨⟨ys, hyD, pys⟩, ed⟩
      have pys : Paired (fun x ms => MsAt Hd x ms ∧ x ≠ D) ys ([g, twF g, flF g, g].map fun gg => mvL.filter (rcB gg i r)) := pys
      have Jd := Jc.ext ed
      clear hnl2 due Jc ed hD
      refine ⟨_, rfl, ml, rfl, ⟨_, SqL.of Jd.ml⟩, fun D2 hD2 => lc_walk walk_l (fun j H' => (∃ qs : List Addr, H' D2 = some (.lst (qs.map V.ref)) ∧ Paired (fun q gg => H' q = some (.lst (rcV mas gg i r)) ∧ q ≠ D2) qs (([g, twF g, flF g, g] : List GaugeM).take j)) ∧ J5 C0 R0 M0 U0 p a d a2 d2 a3 d3 D2 mas g H B B2 B3 N Hd H') ⟨⟨[], upd_same, .nil⟩, ⟨(Jd.x.add hD2).ext (Ext.upd hD2), (Jd.y.add hD2).ext (Ext.upd hD2), (Jd.z.add hD2).ext (Ext.upd hD2), fun u o _ w => (Ext.upd hD2) _ _ w, Jd.f.trans (Frm.ext (Ext.upd hD2))⟩⟩ (fun _ _ ⟨_, j5⟩ => SqL.of (j5.kp _ _ rfl Jd.ml)) ?_ ?_⟩
      · rintro j x He hx ⟨⟨qs, hqD, pqs⟩, j5⟩
        have j4 : j < 4 := (List.getElem?_eq_some_iff.mp hx).1
        obtain ⟨dmx, dmy, dmz⟩ := j5.dom Jd.hp (by rw [hqD]; exact fun z => nomatch z) dom
        obtain ⟨aa, da, gg, rfl, hst, okk, er, hgg, hi2, step⟩ : ∃ (aa da : Addr) (gg : GaugeM), x = .ref aa ∧ GSt C0 R0 M0 U0 p mas He aa da gg ∧ GOk gg ∧ gg.rs = g.rs ∧ ([g, twF g, flF g, g] : List GaugeM)[j]? = some gg ∧ IsD He da ∧ (∀ Hf, Frm [da] He Hf → (∀ (B : Hp) (N : Addr → Prop), (∀ x, N x → He x ≠ none) → GSx C0 R0 M0 U0 mas B N He aa da gg → GSx C0 R0 M0 U0 mas B N Hf aa da gg) → J5 C0 R0 M0 U0 p a d a2 d2 a3 d3 D2 mas g H B B2 B3 N Hd Hf) := by
          match j, hx with
          | 0, hx => cases hx; exact ⟨a, d, g, rfl, j5.x.st (.inl (.inl (.inl (.inl (.inl np))))), ok, rfl, rfl, j5.x.isD, fun Hf f1 XX => j5.callA f1 (XX _ _ dmx j5.x)⟩
          | 1, hx => cases hx; exact ⟨a2, d2, twF g, rfl, j5.y.st (.inl (.inl (.inl (by simp)))), okT, rfl, rfl, j5.y.isD, fun Hf f1 XX => j5.callB f1 (XX _ _ dmy j5.y) d2H⟩
          | 2, hx => cases hx; exact ⟨a3, d3, flF g, rfl, j5.z.st (.inl (by simp)), okF, rfl, rfl, j5.z.isD, fun Hf f1 XX => j5.callC f1 (XX _ _ dmz j5.z) d3H⟩
          | 3, hx => cases hx; exact ⟨a, d, g, rfl, j5.x.st (.inl (.inl (.inl (.inl (.inl np))))), ok, rfl, rfl, j5.x.isD, fun Hf f1 XX => j5.callA f1 (XX _ _ dmx j5.x)⟩
        obtain ⟨dxk, mk', trk, rk1, rk2, uk, vk, hbk, gik⟩ := id hst.at
        have csg' : csF gg i = csF g i := by unfold csF; rw [er]
        refine ⟨rfl, lc_yes ⟨_, rfl, aa, dxk, _, rfl, hbk, rfl, _, rfl, _, rfl, p, aa, da, gg, i, r, rfl, hst, okk, (by rw [er]; exact hi), (by rw [csg']; exact rs), fun q Hf f1 q0 hq _ XX => ?_⟩⟩
        have j6 := step Hf f1 fun B N dm x => (XX B N dm x).weak fun _ w => .inl w
        have hqf := (bare_frm f1) _ _ (bareD_pk hi2 hqD)
        have nq : q ≠ D2 := (ne_of_none hqD q0).symm
        have fD : Frm [D2] Hf (upd Hf D2 (.lst (qs.map V.ref ++ [V.ref q]))) := Frm.put (List.mem_singleton.mpr rfl)
        refine ⟨_, hqf, by rw [List.length_map, pd_len pqs, List.length_take, sizeLine_eq]; omega, ⟨qs ++ [q], by rw [upd_same, List.map_append]; rfl, ?_⟩, ⟨j6.x.turn fD (.inr rfl), j6.y.turn fD (.inr rfl), j6.z.turn fD (.inr rfl), fun u o n w => fD _ _ (j6.kp u o n w) (fun z => by rw [List.mem_singleton.mp z, hD2] at w; cases w), ?_⟩⟩
        · rw [take_snoc hgg]
          exact pd_snoc (pd_imp (fun x m w => ⟨by rw [upd_ne w.2]; exact (bare_frm f1) _ _ (bareD_pk hi2 w.1), w.2⟩) pqs) ⟨by rw [upd_ne nq]; exact hq, nq⟩
        · refine frm_to j6.f fD (.inr ?_)
          cases w : H D2 with
          | none => rfl
          | some o =>
            exfalso
            by_cases m : D2 ∈ [p, a, d]
            · simp only [List.mem_cons, List.not_mem_nil, or_false] at m
              rcases m with m | m | m
              · obtain ⟨_, _, v, _⟩ := Jd.hp; rw [← m, hD2] at v; cases v
              · obtain ⟨_, _, _, _, v⟩ := Jd.x.isG; rw [← m, hD2] at v; cases v
              · obtain ⟨_, v⟩ := Jd.x.isD; rw [← m, hD2] at v; cases v
            · have := Jd.f _ _ w m
              rw [hD2] at this
              cases this
      rintro He ⟨⟨qs, hqD, pqs⟩, j5⟩
      have pqs : Paired (fun q gg => He q = some (.lst (rcV mas gg i r)) ∧ q ≠ D2) qs ([g, twF g, flF g, g] : List GaugeM) := pqs
      have dp2 : Dp K He (.ref D2) (dqW ([g, twF g, flF g, g].map fun gg => mvL.filter (rcB gg i r))) := by
        refine .lst (SqL.of hqD) ?_
        rw [List.map_map]
        exact dp_pd (β := Nat) pqs fun q gg w => dp_rcV RV lz w.1
      have dp1 : Dp K He (.ref D) (dqW ([g, twF g, flF g, g].map fun gg => mvL.filter (rcB gg i r))) := by
        refine .lst (SqL.of (j5.kp _ _ rfl hyD)) ?_
        exact dp_pd (β := Nat) pys fun x ms w => by
          obtain ⟨cs, w1, w2⟩ := w.1
          exact .lst (SqL.of (j5.kp _ _ rfl w1)) (dp_pd (β := Nat) w2 fun c m y => .tup (SqT.of (j5.kp _ _ rfl y)) (.cons (.int _) (.cons (.int _) .nil)))
      have sm := (sm_dqW ([g, twF g, flF g, g].map fun gg => mvL.filter (rcB gg i r)) (by show 4 ≤ 10; decide) (fun ms hms => by
        obtain ⟨gg, _, rfl⟩ := List.mem_map.mp hms
        exact ⟨Nat.le_trans (List.length_filter_le _ mvL) (by decide), fun m hm => mvL_sm m (List.mem_filter.mp hm).1⟩)).show (by decide)
      refine ⟨D2, _, rfl, dp2, sm.1, sm.2.1, sm.2.2.1, sm.2.2.2, _, rfl, D, _, rfl, dp1, sm.1, sm.2.1, sm.2.2.1, sm.2.2.2, rfl, _, rfl, ite2 (fun hz => ?_) (fun _ => ?_)⟩
      · exfalso
        have hz : (!decide (V.str (dqW ([g, twF g, flF g, g].map fun gg => mvL.filter (rcB gg i r))).shown = V.str (dqW ([g, twF g, flF g, g].map fun gg => mvL.filter (rcB gg i r))).shown)) = true := hz
        rw [decide_eq_true rfl] at hz
        cases hz
      · have kd : ∀ {dd : Addr} {gg : GaugeM}, MdlAt Hd dd gg → MdlAt He dd gg := fun w => w.keepD j5.kp
        obtain ⟨_, _, pw, pok⟩ := Jd.hp
        exact ⟨_, _, _, _, _, rfl, ⟨j5.x.weak (fun _ w => .inl w), j5.y.weak (fun _ w => .inl w), j5.z.weak (fun _ w => .inl w), ⟨_, _, j5.kp _ _ rfl pw, pok⟩, kd Jd.md, kd Jd.mt, kd Jd.mo, j5.kp _ _ rfl Jd.ml, j5.f⟩⟩
    rintro σ H8 ⟨u7, u8, u9, u10, u11, rfl, J8⟩
    exact k H8 J8.f (J8.x.weak (fun _ w => .inl (.inl (.inl (.inl w))))) J8.hp J8.md
end
end Mc

set_option Elab.async false
set_option linter.all false
set_option maxRecDepth 100000
set_option maxHeartbeats 4000000
/-! a set out of a long list of tuples of ints that has few different ones -/
namespace Mc
open PySem PySem.Spec PyProof.Rows L2
/-- few different ones among the first items -/
def Few (ks : List (Addr × List Int)) : Prop := ∀ j L, Got ks j L → (L.map (·.2)).Nodup → L.length < 63
section
variable {P : Program} {w : World} {A : Around} {E : Value → Shared → Prop} {s : Shared}
theorem upd_few {it S : Addr} {fs ws : List Addr} {Gn : Array GenState → Array GenState → Prop} {m : Nat} {Pw : Nat → Value → Prop} {Sw : Nat → Shared → Prop} {Rs : Result → Shared → Prop}
    (wk : WalksS P w A.in1 it fs ws Gn m Pw Sw) (nS : S ∉ fs) (ks : List (Addr × List Int)) (em : m = ks.length) (few : Few ks) (pv : ∀ j v, Pw j v → ∃ q, ks[j]? = some q ∧ v = .ref q.1)
    (hh : Heap) (tk : ∀ q ∈ ks, L2.IsT P w hh q.2 q.1) (nn : hh.get? S = none) (nw : ∀ c ∈ ws, hh.get? c = none) (un : A.in1.units < cLine) :
    ∀ (d j : Nat) (s : Shared), m - j = d → j ≤ m → Sw j s → (∀ c u, hh.get? c = some u → s.heap.get? c = some u) → (∃ L es ep t, SetTR P w s.heap S L es ep t ∧ Got ks j L) →
      (∀ z L es ep t, Moved (S :: ws) Gn s z → SetTR P w z.heap S L es ep t → Got ks m L → (∀ c u, hh.get? c = some u → z.heap.get? c = some u) → Rs (.ok (.ret .none)) z) →
      codeAny (model P w) A (.builtin "set.update.loop" ⟨[.ref S, .ref it], []⟩) Rs s := by
  have old : ∀ {y z : Shared}, Moved ws Gn y z → (∀ c u, hh.get? c = some u → y.heap.get? c = some u) → ∀ c u, hh.get? c = some u → z.heap.get? c = some u := fun mv o c u e =>
    mv.heap c u (fun q => by rw [nw c q] at e; cases e) (o c u e)
  have sS : S ∉ ws := fun q => nS (wk.sub _ q)
  intro d
  induction d with
  | zero =>
    intro j s ed lj hst o ⟨L, es, ep, t, R, gt⟩ fin
    obtain rfl : j = m := by omega
    refine codeAny_builtin F.entry_set_update_loop ?_
    rw [Around.under_plainId F.plain_set_update_loop _]
    show wpAny _ A.in1 (pyNext (.ref it) >>= _) _ _ s
    refine wpAny_bind (wk.done s _ _ hst fun z mv => ?_)
    have o' := old mv o
    have R' : SetTR P w z.heap S L es ep t := R.keep (fun u e => mv.heap S u sS e) fun q hq => isT_keep (tk q (List.mem_of_mem_take (gt.sub q hq))) o'
    show wpAny _ A.in1 (ret Value.none) _ _ z
    exact wpAny_pure (fin z L es ep t (mv.mono fun c hc => List.mem_cons_of_mem _ hc) R' gt o')
  | succ d ih =>
    intro j s ed lj hst o ⟨L, es, ep, t, R, gt⟩ fin
    have jl : j < m := by omega
    refine codeAny_builtin F.entry_set_update_loop ?_
    rw [Around.under_plainId F.plain_set_update_loop _]
    show wpAny _ A.in1 (pyNext (.ref it) >>= _) _ _ s
    refine wpAny_bind (wk.item j s _ _ jl hst fun v y vP hst' mv => ?_)
    obtain ⟨q, hq, rfl⟩ := pv j v vP
    have oy := old mv o
    have Ry : SetTR P w y.heap S L es ep t := R.keep (fun u e => mv.heap S u sS e) fun r hr => isT_keep (tk r (List.mem_of_mem_take (gt.sub r hr))) oy
    have xq : L2.IsT P w y.heap q.2 q.1 := isT_keep (tk q (List.mem_of_getElem? hq)) oy
    have small := few j L gt R.nd
    show wpAny _ A.in1 (holding [Value.ref q.1] (setAdd S (.ref q.1)) >>= _) _ _ y
    refine wpAny_bind (wpAny_holding ?_)
    unfold setAdd
    refine wpAny_holding (wpAny_bind (wpAny_pyHash_tuple un xq ?_))
    refine add_at (s := { y with toks := y.toks + (q.2.length + 1) }) Ry xq un (Nat.succ_lt_succ small) fun b h2 L2 es2 ep2 t2 only R2 k1 k2 => ?_
    have g2 : Got ks (j + 1) L2 := by
      by_cases c : q.2 ∈ L.map (·.2)
      · rw [k1 c]; exact gt.same hq c
      · exact gt.more hq (k2 c)
    have o2 : ∀ c u, hh.get? c = some u → h2.get? c = some u := fun c u e => by
      rw [only.2 c (fun z => by rw [z, nn] at e; cases e)]
      exact oy c u e
    refine wpAny_pure ⟨plainId_quiet F.plain_set_update_loop _, ih (j + 1) _ (by omega) jl (wk.frame _ y _ _ hst' (Nat.le_add_right _ _) fun c hc u e => ?_) o2 ⟨L2, es2, ep2, t2, R2, g2⟩ fun z L3 es3 ep3 t3 mv3 R3 g3 o3 => ?_⟩
    · rw [only.2 c (fun z : c = S => nS (z ▸ hc))]; exact e
    · refine fin z L3 es3 ep3 t3 (Moved.trans wk.gtrans ((mv.mono fun c hc => List.mem_cons_of_mem _ hc).then_heap (Nat.le_add_right _ _) fun c u hc e => ?_) mv3) R3 g3 o3
      rw [only.2 c (fun z : c = S => hc (by rw [z]; exact List.mem_cons_self))]; exact e
set_option maxRecDepth 100000 in
set_option maxHeartbeats 3200000 in
theorem call_set_few {l : Addr} {vs : Array Value} (ks : List (Addr × List Int)) {Q : Value → Shared → Prop} (hd : A.handled = none) (il : s.heap.IsList l vs) (ev : vs.toList = ks.map fun q => Value.ref q.1)
    (tk : ∀ q ∈ ks, L2.IsT P w s.heap q.2 q.1) (few : Few ks) (un : A.units + 3 < cLine)
    (fin : ∀ (h2 : Heap) (n : Nat) L es ep t, SetTR P w h2 s.heap.objs.size L es ep t → Got ks ks.length L → (∀ c u, s.heap.get? c = some u → h2.get? c = some u) → Q (.ref s.heap.objs.size) { s with heap := h2, toks := n }) :
    wpAny (model P w) A (call (.type "set") [.ref l]) Q E s := by
  have size : vs.size = ks.length := by
    rw [← Array.length_toList, ev, List.length_map]
  obtain ⟨c, tl, hmro⟩ := F.called_set.mro
  have hmade := F.called_set.made
  have hsub := F.called_set.sub
  refine wpAny_call (codeAny_of_tree ?_)
  show wpAny _ _ (callAny (.type "set") _) _ _ _
  refine wpAny_pure ⟨Code.quiet_builtin _ (by decide +kernel), codeAny_builtin F.entry_type_call ?_⟩
  rw [Around.under_plain (weight_type_call_type "set" [.ref l] []) rfl]
  have t1 := F.called_set.notType
  have t2 := F.called_set.canCreate
  have t3 := F.typeCall_set_1 (.ref l)
  repeat (any_goals (first | assumption | wp_step))
  obtain ⟨new, hnew⟩ : ∃ new : Obj, new = { cls := .type "set", dict := none, data := .set #[] 0 (.fresh 0 0 (!w.params.followText "set-order")) } := ⟨_, rfl⟩
  refine codeAny_mono (code_set_led1 (.ref l) (E := E) (Q₁ := fun v y => v = .ref s.heap.objs.size ∧ y = { s with heap := s.heap.push new }) ⟨rfl, by rw [hnew]⟩) fun r y hr => ?_
  cases r with
  | error e => exact hr
  | ok fl =>
    cases fl with
    | ret v =>
      obtain ⟨rfl, rfl⟩ := hr
      have at0 : (s.heap.push new).get? s.heap.objs.size = some new := Heap.get?_push_size _ (by rw [hnew]; rfl)
      have ty : Shared.TypeIs { s with heap := s.heap.push new } (.ref s.heap.objs.size) "set" := ⟨_, at0, by rw [hnew]⟩
      have i1 := F.called_set.init.lookup
      have i2 := F.called_set.init.bind (.ref s.heap.objs.size)
      repeat (any_goals (first | assumption | wp_step))
      refine codeAny_mono (codeAny_call_builtin (R := wants (fun v y => v = .none ∧ ∃ h2 n L es ep t, y = { s with heap := h2, toks := n } ∧ SetTR P w h2 s.heap.objs.size L es ep t ∧ Got ks ks.length L ∧
          (∀ c u, s.heap.get? c = some u → h2.get? c = some u)) E) F.called_set.init.plain F.entry_set_init (check_set_init_1 ty ?_)) fun r y hr => ?_
      · obtain ⟨ol, hol, hcl, nl, hdl⟩ := il
        obtain ⟨oc, od, oa, os⟩ := ol
        simp only at hcl hdl
        subst hcl; subst hdl
        have hol' : (s.heap.push new).get? l = some { cls := .type "list", dict := od, data := .seq vs nl, slots := os } := Heap.get?_push_of_some _ hol
        have j1 := F.sub_list_set
        have j2 := F.sub_list_frozenset
        have j3 : (Value.type "list" == Value.type "dict") = false := by decide
        have il1 : (s.heap.push new).IsList l vs := ⟨_, hol', rfl, nl, rfl⟩
        have lS : l < s.heap.objs.size := Heap.lt_size hol
        have h3 : A.in1.in1.in1.handled = none := by simp [hd]
        have z1 : (s.heap.push new).objs.size = s.heap.objs.size + 1 := Heap.size_push ..
        have nI : l ≠ (s.heap.push new).objs.size := by rw [z1]; exact Nat.ne_of_lt (Nat.lt_succ_of_lt lS)
        have nS : s.heap.objs.size ∉ [(s.heap.push new).objs.size, l] := by
          rw [z1]
          simp only [List.mem_cons, List.not_mem_nil, or_false, not_or]
          exact ⟨Nat.ne_of_lt (Nat.lt_succ_self _), Nat.ne_of_gt lS⟩
        have pv : ∀ (j : Nat) (v : Value), vs[j]? = some v → ∃ q, ks[j]? = some q ∧ v = .ref q.1 := fun j v hv => by
          have e : vs.toList[j]? = some v := by rw [Array.getElem?_toList]; exact hv
          rw [ev, List.getElem?_map] at e
          obtain ⟨q, h1, h2⟩ := Option.map_eq_some_iff.mp e
          exact ⟨q, h1, h2.symm⟩
        have free : ∀ c, s.heap.objs.size ≤ c → s.heap.get? c = none := fun c hc => by
          cases e : s.heap.get? c with
          | none => rfl
          | some u => exact absurd (Nat.lt_of_lt_of_le (Heap.lt_size e) hc) (Nat.lt_irrefl _)
        subst hnew
        unfold Builtin.«set.__init__» noKeywords Builtin.Frozenset.updateFrom
        generalize hPI : pyIter = PI
        wp_walk
        subst hPI
        refine wpAny_pyIter_list il1 ?_
        refine wpAny_bind (wpAny_runValue ?_)
        refine upd_few ((Walks.list h3 _ l nI vs).toS) (S := s.heap.objs.size) nS ks size few pv s.heap tk (free _ (Nat.le_refl _)) (fun c hc => free c (by
            rw [List.mem_singleton.mp hc, Heap.size_push]; exact Nat.le_succ _)) un (vs.size - 0) 0 _ (by omega) (Nat.zero_le _)
          ⟨⟨_, Heap.get?_push_size _ rfl, rfl, rfl⟩, (il1.push _)⟩ (fun c u e => Heap.get?_push_of_some _ (Heap.get?_push_of_some _ e)) ?g0 ?gR
        case g0 =>
          exact ⟨[], #[], 0, _, setTR_fresh (Heap.get?_push_of_some _ at0), Got.zero ks⟩
        case gR =>
          intro z L es ep t mv R gt o
          obtain ⟨h2, g2, d2, n2, o2⟩ := z
          cases (show g2 = s.gens from mv.gens)
          cases (show d2 = s.drawn from mv.drawn)
          cases (show o2 = s.os from mv.os)
          show wpAny _ _ _ _ _ _
          refine wpAny_pure ?_
          show wpAny _ _ (ret Value.none) _ _ _
          rw [size] at gt
          exact wpAny_pure ⟨rfl, h2, n2, L, es, ep, t, rfl, R, gt, o⟩
      · cases r with
        | error e => exact hr
        | ok fl =>
          cases fl with
          | ret v =>
            obtain ⟨rfl, h2, n, L, es, ep, t, rfl, R, gt, o⟩ := hr
            repeat (any_goals (first | assumption | wp_step))
            exact fin _ _ _ _ _ _ R gt o
          | _ => exact hr.elim
    | _ => exact hr.elim
end
section
variable {X : Cx}
/-- set(xs), xs a list of tuples of ints, few of them different -/
def rSetFew (K : PySem.W.Frag) (P : Program) (w : World) : List V → Hp → VK → Prop := fun vs H Q => ∃ (l : Addr) (ks : List (Addr × List Int)), vs = [V.ref l] ∧ SqL K H l (ks.map fun q => V.ref q.1) ∧ (∀ q ∈ ks, SqT K H q.1 (q.2.map V.int)) ∧ Few ks ∧
  ∀ a L, H a = none → (∀ q ∈ L, q ∈ ks) → (∀ q ∈ ks, q.2 ∈ L.map (·.2)) → Q (.ref a) (upd H a (SetTO P w a L))
theorem cr_setFew (hc : X.calm = true) (hu : X.A.units + 64 < cLine) : CallR X (.type "set") (rSetFew X.K X.prog X.w) := by
  intro pins s σ H vs us Q I r h
  obtain ⟨l, ks, rfl, hl, hk, few, q⟩ := h
  rw [Vals.ref1 r]
  obtain ⟨its, rv, pl, _⟩ := I.list hl
  refine call_set_few (P := X.prog) (w := X.w) ks (I.ok.hd hc) pl.isList (by simpa using refs_of_vals rv) (fun p hp => I.isT (hk p hp)) few (by omega) fun h2 n L es ep t R gt o => ?_
  refine ⟨.ref s.heap.objs.size, _, I.laid (t' := n) o (Nat.le_refl _) (setTO_new R.t0), rfl, q _ L (I.hok.fresh (Nat.le_refl _)) (fun p hp => List.mem_of_mem_take (gt.sub p hp)) fun p hp => gt.all p (by rw [List.take_length]; exact hp)⟩
end
end Mc

set_option Elab.async false
set_option linter.all false
set_option maxRecDepth 100000
set_option maxHeartbeats 4000000
/-! sorted of a set of pairs of any ints -/
namespace Mc
open PySem PySem.Spec PyProof.Rows L2 SrtO
theorem perm_lift {α β : Type} {f : α → β} : ∀ {a m : List β}, a.Perm m → ∀ l : List α, a = l.map f → ∃ l' : List α, l'.Perm l ∧ m = l'.map f := by
  intro a m h
  induction h with
  | nil => intro l e; exact ⟨l, .refl _, e⟩
  | cons x _ ih =>
    intro l e
    cases l with
    | nil => cases e
    | cons y r =>
      obtain ⟨e1, e2⟩ := List.cons.inj e
      obtain ⟨l', p, q⟩ := ih r e2
      exact ⟨y :: l', p.cons _, by rw [List.map_cons, ← e1, q]⟩
  | swap x y l0 =>
    intro l e
    match l, e with
    | u :: v :: r, e =>
      obtain ⟨e1, e2⟩ := List.cons.inj e
      obtain ⟨e2, e3⟩ := List.cons.inj e2
      exact ⟨v :: u :: r, List.Perm.swap _ _ _, by rw [e1, e2, e3]; rfl⟩
  | trans _ _ i1 i2 =>
    intro l e
    obtain ⟨l1, p1, q1⟩ := i1 l e
    obtain ⟨l2, p2, q2⟩ := i2 l1 q1
    exact ⟨l2, p2.trans p1, q2⟩
/-- the two ints of a pair -/
def kp (ns : List Int) : Int × Int := (ns.getD 0 0, ns.getD 1 0)
def kL (L : List (Addr × List Int)) : Value → Int × Int
  | .ref b => match L.find? (fun q => decide (q.1 = b)) with
    | some q => kp q.2
    | none => (0, 0)
  | _ => (0, 0)
section
variable {P : Program} {w : World} {A : Around} {E : Value → Shared → Prop} {s : Shared}
theorem kL_at {h : Heap} {L : List (Addr × List Int)} (ht : ∀ q ∈ L, L2.IsT P w h q.2 q.1) {q : Addr × List Int} (hq : q ∈ L) : kL L (.ref q.1) = kp q.2 := by
  have e0 : kL L (.ref q.1) = (match L.find? (fun r => decide (r.1 = q.1)) with | some q => kp q.2 | none => (0, 0)) := rfl
  rw [e0]
  cases e : L.find? (fun r => decide (r.1 = q.1)) with
  | none => exact absurd (List.find?_eq_none.mp e q hq) (by simp)
  | some r =>
    have hr := List.mem_of_find?_eq_some e
    have e1 : r.1 = q.1 := by simpa using List.find?_some e
    have t1 := ht r hr
    rw [e1] at t1
    show kp r.2 = kp q.2
    rw [t1.inj (ht q hq)]
theorem sorted_setP {a : Addr} {L : List (Addr × List Int)} {es : Array (Int × Value)} {ep : Nat} {t : SetTable} {Q : Value → Shared → Prop} (R : SetTR P w s.heap a L es ep t) (hh : A.handled = none) (h2 : ∀ p ∈ L, p.2.length = 2)
    (hQ : ∀ s' p (out : List Value) (L' : List (Addr × List Int)), (∀ b o, s.heap.get? b = some o → s'.heap.get? b = some o) → s'.gens = s.gens → s'.os = s.os → s.heap.objs.size ≤ p → (∃ c, s'.heap.get? p = some (seqObj "list" out.toArray c)) → out = L'.map (fun q => Value.ref q.1) → L'.Perm L →
      L'.Pairwise (fun q r => lexB (kp r.2) (kp q.2) = false) → Q (.ref p) s') : wpAny (model P w) A (call (.builtin "sorted") [.ref a]) Q E s := by
  obtain ⟨o, ho, hex, hd⟩ := R.ob
  have hz1 := R.size
  have hfew := R.few
  refine Calls.call_function_entry kind_sorted plain_sorted entry_sorted (args_sorted1 _) ?_
  unfold Builtin.«sorted»
  refine wpAny_bind (m := checkCount "sorted" 1 1 _) (wpAny_pure ?_)
  refine wpAny_bind (collect_set (A := A.in1) hh ⟨o, ho, hex.1, hd⟩ R.fits (by unfold scanBound; omega) R.tab.ris R.led fun s1 vs k1 hz g1 o1 pm => ?_)
  have hes : es.toList.map (·.2) = L.map fun q => Value.ref q.1 := by
    rw [R.rows]
    unfold rowsOf
    rw [List.map_map] <;> rfl
  rw [hes] at pm
  obtain ⟨L1, p1, e1⟩ := perm_lift pm.symm L rfl
  have vl : vs.length < 64 := by rw [e1, List.length_map, p1.length_eq]; exact hfew
  have vz : vs.length ≤ sizeLine := by rw [sizeLine_eq]; omega
  refine wpAny_bind (wpAny_newList ?_ vz)
  have hoL : (s1.heap.push (seqObj "list" vs.toArray 0)).get? s1.heap.objs.size = some (seqObj "list" vs.toArray 0) := Heap.get?_push_size _ rfl
  have hp : ∀ v ∈ vs, Srt.IsPair (s1.heap.push (seqObj "list" vs.toArray 0)) v (kL L v).1 (kL L v).2 := fun v hv => by
    rw [e1] at hv
    obtain ⟨q, hq, rfl⟩ := List.mem_map.mp hv
    have hqL := p1.mem_iff.mp hq
    obtain ⟨qo, items, n, hqo, hc, hdt, hi0⟩ := R.tup q hqL
    have k2 : q.2.length = 2 := h2 q hqL
    rw [kL_at R.tup hqL]
    obtain ⟨x, y, exy⟩ : ∃ x y, q.2 = [x, y] := by
      match q.2, k2 with
      | [x, y], _ => exact ⟨x, y, rfl⟩
    have hi : IntsAre items.toList [x, y] := by rw [← exy]; exact ints_of_items hi0
    clear hi0
    rw [exy]
    · have ho2 := Heap.get?_push_of_some (seqObj "list" vs.toArray 0) (k1 _ _ hqo)
      have sh : ∃ t u, items.toList = [Value.int x t, Value.int y u] := by
        generalize items.toList = xs at hi
        cases hi
        rename_i t vs2 h
        cases h
        rename_i u vs3 h
        cases h
        exact ⟨_, _, rfl⟩
      obtain ⟨t, u, et⟩ := sh
      have ei : items = #[Value.int x t, Value.int y u] := by
        rw [← Array.toArray_toList (xs := items), et]
      rw [ei] at hdt
      exact ⟨q.1, qo, t, u, n, rfl, ho2, hc, hdt⟩
  refine wpAny_bind (wpAny_holding (wpAny_call_entry slot_list_sort ⟨_, hoL, rfl⟩ entry_list_sort (list_sort_ord (s := { s1 with heap := s1.heap.push (seqObj "list" vs.toArray 0) }) (swo_lex (kL L)) hoL vz (fun h2 => pairs_sortableO (by omega) hp fun o e => ?_) fun out hs hb => ⟨_, rfl, ?_⟩) (args_list_sort _)))
  · have e' : some o = some (seqObj "list" vs.toArray 0) := e.symm.trans hoL
    cases e'
    intro c
    exact absurd (Value.type.inj c) (by decide)
  obtain ⟨c, hc⟩ := sortedHeap_at (vs := vs) (out := out.toArray) hoL
  obtain ⟨L', p2, e2⟩ := perm_lift (hb.perm.symm) L1 e1
  refine wpAny_pure ⟨_, rfl, hQ _ s1.heap.objs.size out L' (fun b u e => ?_) g1 o1 hz ⟨c, hc⟩ e2 (p2.trans p1) ?_⟩
  · have q := k1 b u e
    have hlt := Heap.lt_size q
    show (sortedHeap (s1.heap.push (seqObj "list" vs.toArray 0)) s1.heap.objs.size vs out.toArray).get? b = some u
    rw [sortedHeap_old (Nat.ne_of_lt hlt) (by rw [size_push']; exact Nat.lt_succ_of_lt hlt)]
    exact Heap.get?_push_of_some _ q
  · rw [e2] at hs
    refine List.Pairwise.imp_of_mem (fun {q r} hq hr z => ?_) (List.pairwise_map.mp hs)
    have a1 := kL_at R.tup ((p2.trans p1).mem_iff.mp hq)
    have a2 := kL_at R.tup ((p2.trans p1).mem_iff.mp hr)
    have z : lexB (kL L (.ref r.1)) (kL L (.ref q.1)) = false := z
    rw [a1, a2] at z
    exact z
end
section
variable {X : Cx}
/-- sorted(set), a set of pairs of ints -/
def rSortedP2 (K : PySem.W.Frag) (P : Program) (w : World) : List V → Hp → VK → Prop := fun vs H Q => ∃ (a : Addr) (L : List (Addr × List Int)), vs = [V.ref a] ∧ H a = some (SetTO P w a L) ∧ (∀ p ∈ L, SqT K H p.1 (p.2.map V.int)) ∧ (∀ p ∈ L, p.2.length = 2) ∧
  ∀ (L' : List (Addr × List Int)) (p : Addr), L'.Perm L → (L'.map (·.2)).Nodup → L'.Pairwise (fun q r => lexB (kp r.2) (kp q.2) = false) → H p = none → Q (.ref p) (upd H p (.lst (L'.map fun q => V.ref q.1)))
theorem cr_sortedP2 (hc : X.calm = true) : CallR X (.builtin "sorted") (rSortedP2 X.K X.prog X.w) := by
  intro pins s σ H vs us Q I r h
  obtain ⟨a, L, rfl, ha, hk, h2, q⟩ := h
  have R0 : SetT0 X.prog X.w s.heap a L := (I.hok a _ ha).1
  obtain ⟨es, ep, t, R⟩ := R0.full fun p hp => Inv.isT I (hk p hp)
  rw [Vals.ref1 r]
  refine sorted_setP R (I.ok.hd hc) h2 fun s' p out L' k g o hp hg hout pm pw => ?_
  have few : L'.length < 64 := by rw [pm.length_eq]; exact R.few
  have hn : H p = none := I.hok.fresh hp
  obtain ⟨c, hg⟩ := hg
  have J : Inv X pins σ (upd H p (.lst (L'.map fun q => V.ref q.1))) { s with heap := s'.heap, gens := s'.gens, drawn := s'.drawn, toks := s'.toks } :=
    I.call (ch := []) (Un.laid k hp hn) (I.hok.laid k hp ⟨by rw [List.length_map, sizeLine_eq]; omega, out, c, by rw [hout]; exact vals_of_refs L', hg⟩) (by rw [g]; exact I.bare) (fun _ z => nomatch z)
  obtain ⟨h', g', d', tk', os'⟩ := s'
  cases (show os' = s.os from o)
  exact ⟨.ref p, _, J, rfl, q L' p pm ((pm.map (·.2)).nodup_iff.mpr R.nd) pw hn⟩
end
end Mc

set_option Elab.async false
set_option linter.all false
set_option maxRecDepth 100000
set_option maxHeartbeats 4000000
set_option exponentiation.threshold 20000
namespace Mc
open PySem PySem.Spec PyProof.Rows L2 ClX StX
open RZ
section
variable {P : Program} {w : World} {K : PySem.W.Frag} {mg : Str → Option Value} {base : Heap} {f U0 kX M0 R0 C0 aX mX : Addr} {mas : List Addr} {mc : Value} {fd : FuncData}
/-- each place of a round is that of a sign -/
theorem place_sur : ∀ cs : List Cut, (∀ c ∈ cs, okC c) → ∀ x y : Nat, x < colsF cs → y < rowsF cs → ∃ t : Nat, (placesF cs)[t]? = some (((x : Int), (y : Int)) : Pr) := by
  refine snoc_ind ?_ ?_
  · intro _ x y hx hy
    have hx : x < 1 := hx
    have hy : y < 1 := hy
    exact ⟨0, by rw [show x = 0 by omega, show y = 0 by omega]; rfl⟩
  · intro cs c ih ok x y hx hy
    obtain ⟨b, m⟩ := c
    have hc := ok (b, m) (List.mem_append.mpr (.inr (.head _)))
    have m0 : 0 < m := by have h2 : 2 ≤ m := hc.1; omega
    have ih := ih fun d h => ok d (List.mem_append.mpr (.inl h))
    rw [colsF_snoc] at hx
    rw [rowsF_snoc] at hy
    have dm : ∀ t y : Nat, (t * m + y % m) / m = t ∧ (t * m + y % m) % m = y % m := fun t y => by
      have lt := Nat.mod_lt y m0
      constructor
      · rw [Nat.add_comm, Nat.add_mul_div_right _ _ m0, Nat.div_eq_of_lt lt, Nat.zero_add]
      · rw [Nat.add_comm, Nat.add_mul_mod_self_right, Nat.mod_eq_of_lt lt]
    have back : ∀ y : Nat, (((y / m : Nat) : Int)) * (m : Int) + ((y % m : Nat) : Int) = (y : Int) := fun y => by
      have := Nat.div_add_mod y m
      rw [Nat.mul_comm] at this
      rw [← Int.natCast_mul, ← Int.natCast_add, this]
    cases b
    · have hx : x < colsF cs * 1 := hx
      have hy : y < rowsF cs * m := hy
      obtain ⟨t, ht⟩ := ih x (y / m) (by omega) (Nat.div_lt_of_lt_mul (by rw [Nat.mul_comm]; exact hy))
      refine ⟨t * m + y % m, ?_⟩
      rw [placesF_get cs m0, (dm t y).1, (dm t y).2, ht]
      show some (((x : Int), (((y / m : Nat) : Int)) * (m : Int) + ((y % m : Nat) : Int)) : Pr) = _
      rw [back y]
    · have hx : x < colsF cs * m := hx
      have hy : y < rowsF cs * 1 := hy
      obtain ⟨t, ht⟩ := ih (x / m) y (Nat.div_lt_of_lt_mul (by rw [Nat.mul_comm]; exact hx)) (by omega)
      refine ⟨t * m + x % m, ?_⟩
      rw [placesF_get cs m0, (dm t x).1, (dm t x).2, ht]
      show some (((((x / m : Nat) : Int)) * (m : Int) + ((x % m : Nat) : Int), (y : Int)) : Pr) = _
      rw [back x]
/-- where both gaps are none, the move is reached -/
theorem rc_none {g : GaugeM} (p : GPos g) {ph s : Nat} {m : Int × Int} (h1 : (lgF m.1 (sdE g (ffF g.rs.length ph)) (plF (csF g ph) s).1 (colsF (csF g ph))).1 = 0) (h2 : (lgF m.2 (sdN g (ffF g.rs.length ph)) (plF (csF g ph) s).2 (rowsF (csF g ph))).1 = 0) (c1 : 0 < colsF (csF g ph)) (c2 : 0 < rowsF (csF g ph)) : rcB g ph s m = true := by
  have d := sd_pos p (ffF g.rs.length ph)
  have t1 := gt_num p (ffF g.rs.length ph)
  have t2 := (gt_pos p (ffF g.rs.length ph)).2.2
  have q1 := lg_pos (i := m.1) (part := (plF (csF g ph) s).1) d.1 (show (0 : Int) < colsF (csF g ph) by omega)
  have q2 := lg_pos (i := m.2) (part := (plF (csF g ph) s).2) d.2 (show (0 : Int) < rowsF (csF g ph) by omega)
  unfold rcB leF
  generalize lgF m.1 (sdE g (ffF g.rs.length ph)) (plF (csF g ph) s).1 (colsF (csF g ph)) = e at *
  generalize lgF m.2 (sdN g (ffF g.rs.length ph)) (plF (csF g ph) s).2 (rowsF (csF g ph)) = n at *
  have z : (jnF g.kd e n).1 = 0 ∧ 0 < (jnF g.kd e n).2 := by
    unfold jnF
    split
    · split
      · exact ⟨h2, q2⟩
      · exact ⟨h1, q1⟩
    · refine ⟨?_, Int.mul_pos q1 q2⟩
      show e.1 * n.2 + n.1 * e.2 = 0
      rw [h1, h2, Int.zero_mul, Int.zero_mul, Int.add_zero]
  refine decide_eq_true ?_
  rw [z.1, Int.zero_mul]
  exact Int.mul_pos t1 z.2
theorem rc_00 {g : GaugeM} (p : GPos g) {ph s : Nat} (hph : ph < g.rs.length) : rcB g ph s (0, 0) = true := by
  have c := cs_pos p.ok hph
  exact rc_none p rfl rfl (by have := c.1; omega) (by have := c.2; omega)
/-- all nine with some next sign -/
theorem rc_nine {g : GaugeM} (p : GPos g) {ph : Nat} (hph : ph < g.rs.length) : ∀ m ∈ mvL, ∃ t, t < (placesF (csF g ph)).length ∧ rcB g ph t m = true := by
  have c := cs_pos p.ok hph
  have c1 : 0 < colsF (csF g ph) := by have := c.1; omega
  have c2 : 0 < rowsF (csF g ph) := by have := c.2; omega
  have okc : ∀ c ∈ csF g ph, okC c := by
    refine p.ok.hc _ ?_
    unfold csF
    rw [List.getD_eq_getElem?_getD, List.getElem?_eq_getElem hph]
    exact List.getElem_mem _
  have key : ∀ (x y : Nat) (m : Int × Int), x < colsF (csF g ph) → y < rowsF (csF g ph) → (∀ s : Int × Int, (lgF m.1 s x (colsF (csF g ph))).1 = 0) → (∀ s : Int × Int, (lgF m.2 s y (rowsF (csF g ph))).1 = 0) → ∃ t, t < (placesF (csF g ph)).length ∧ rcB g ph t m = true := fun x y m hx hy h1 h2 => by
    obtain ⟨t, ht⟩ := place_sur _ okc x y hx hy
    have e : plF (csF g ph) t = ((x : Int), (y : Int)) := by
      unfold plF
      rw [List.getD_eq_getElem?_getD, ht]
      rfl
    exact ⟨t, (List.getElem?_eq_some_iff.mp ht).1, rc_none p (by rw [e]; exact h1 _) (by rw [e]; exact h2 _) c1 c2⟩
  have one : ∀ (i : Int) (n : Nat), (i = -1 ∨ i = 0 ∨ i = 1) → 0 < n → ∃ x : Nat, x < n ∧ ∀ s : Int × Int, (lgF i s x n).1 = 0 := fun i n hi hn => by
    rcases hi with rfl | rfl | rfl
    · refine ⟨0, hn, fun s => ?_⟩
      show s.1 * ((0 : Nat) : Int) = 0
      exact Int.mul_zero _
    · exact ⟨0, hn, fun s => rfl⟩
    · refine ⟨n - 1, by omega, fun s => ?_⟩
      show s.1 * ((n : Int) - ((n - 1 : Nat) : Int) - 1) = 0
      rw [show (n : Int) - ((n - 1 : Nat) : Int) - 1 = 0 by omega, Int.mul_zero]
  intro m hm
  have hm2 : (m.1 = -1 ∨ m.1 = 0 ∨ m.1 = 1) ∧ (m.2 = -1 ∨ m.2 = 0 ∨ m.2 = 1) := by
    revert m
    decide
  obtain ⟨x, hx, h1⟩ := one m.1 _ hm2.1 c1
  obtain ⟨y, hy, h2⟩ := one m.2 _ hm2.2 c2
  exact key x y m hx hy h1 h2
/-- the moves that some sign reaches, one sign behind the other -/
def snM (g : GaugeM) (ph n : Nat) : List (Int × Int) := (List.range n).flatMap fun t => mvL.filter (rcB g ph t)
theorem snM_succ (g : GaugeM) (ph n : Nat) : snM g ph (n + 1) = snM g ph n ++ mvL.filter (rcB g ph n) := by
  unfold snM
  rw [List.range_succ, List.flatMap_append]
  simp
theorem snM_len (g : GaugeM) (ph : Nat) : ∀ n, (snM g ph n).length ≤ 9 * n
  | 0 => Nat.le_refl _
  | n + 1 => by
    rw [snM_succ, List.length_append]
    have := snM_len g ph n
    have : (mvL.filter (rcB g ph n)).length ≤ 9 := List.length_filter_le _ mvL
    omega
theorem snM_sub {g : GaugeM} {ph n : Nat} {m : Int × Int} (h : m ∈ snM g ph n) : m ∈ mvL := by
  obtain ⟨t, _, h⟩ := List.mem_flatMap.mp h
  exact (List.mem_filter.mp h).1
theorem snM_all {g : GaugeM} (p : GPos g) {ph : Nat} (hph : ph < g.rs.length) (m : Int × Int) (hm : m ∈ mvL) : m ∈ snM g ph (placesF (csF g ph)).length := by
  obtain ⟨t, h1, h2⟩ := rc_nine p hph m hm
  exact List.mem_flatMap.mpr ⟨t, List.mem_range.mpr h1, List.mem_filter.mpr ⟨hm, h2⟩⟩
theorem pd_mem2 {α β : Type} {F : α → β → Prop} : ∀ {as : List α} {bs : List β}, Paired F as bs → ∀ a ∈ as, ∃ b ∈ bs, F a b
  | _, _, .nil, _, h => nomatch h
  | _, _, .cons h t, a, ha => by
    rcases List.mem_cons.mp ha with e | ha
    · exact ⟨_, List.mem_cons_self, by rw [e]; exact h⟩
    · obtain ⟨b, h1, h2⟩ := pd_mem2 t a ha
      exact ⟨b, List.mem_cons_of_mem _ h1, h2⟩
theorem pd_zipk {K : PySem.W.Frag} {H : Hp} : ∀ {cs : List Addr} {ms : List (Int × Int)}, Paired (fun c (m : Int × Int) => H c = some (.tup [.int m.1, .int m.2])) cs ms → ∃ ks : List (Addr × List Int), ks.map (·.1) = cs ∧ ks.map (·.2) = ms.map (fun m => [m.1, m.2]) ∧ ∀ q ∈ ks, SqT K H q.1 (q.2.map V.int)
  | _, _, .nil => ⟨[], rfl, rfl, fun _ z => nomatch z⟩
  | _, _, .cons (a := c) (b := m) h t => by
    obtain ⟨ks, e1, e2, h3⟩ := pd_zipk (K := K) t
    refine ⟨(c, [m.1, m.2]) :: ks, by rw [List.map_cons, e1], by rw [List.map_cons, e2]; rfl, fun q hq => ?_⟩
    rcases List.mem_cons.mp hq with e | hq
    · rw [e]; exact SqT.of h
    · exact h3 q hq
/-- at most nine different ones -/
theorem few_nine {ks : List (Addr × List Int)} {ms : List (Int × Int)} (e : ks.map (·.2) = ms.map (fun m => [m.1, m.2])) (h : ∀ m ∈ ms, m ∈ mvL) : Few ks := fun j L gt nd => by
  have sub : ∀ x ∈ L.map (·.2), x ∈ mvL.map fun m => [m.1, m.2] := fun x hx => by
    obtain ⟨q, hq, rfl⟩ := List.mem_map.mp hx
    have : q.2 ∈ ks.map (·.2) := List.mem_map.mpr ⟨q, List.mem_of_mem_take (gt.sub q hq), rfl⟩
    rw [e] at this
    obtain ⟨m, hm, e⟩ := List.mem_map.mp this
    rw [← e]
    exact List.mem_map.mpr ⟨m, h m hm, rfl⟩
  have := nd.length_le_of_subset sub
  rw [List.length_map, List.length_map] at this
  have : mvL.length = 9 := rfl
  omega
theorem nine_sorted {L L' ks : List (Addr × List Int)} {ms : List (Int × Int)} (e : ks.map (·.2) = ms.map (fun m => [m.1, m.2])) (h : ∀ m ∈ ms, m ∈ mvL) (al : ∀ m ∈ mvL, m ∈ ms) (sub : ∀ q ∈ L, q ∈ ks) (all : ∀ q ∈ ks, q.2 ∈ L.map (·.2)) (pm : L'.Perm L) (nd : (L'.map (·.2)).Nodup) (pw : L'.Pairwise (fun q r => SrtO.lexB (kp r.2) (kp q.2) = false)) : L'.map (·.2) = mvL.map fun m => [m.1, m.2] := by
  have inn : ∀ x ∈ L'.map (·.2), x ∈ mvL.map fun m => [m.1, m.2] := fun x hx => by
    obtain ⟨q, hq, rfl⟩ := List.mem_map.mp hx
    have : q.2 ∈ ks.map (·.2) := List.mem_map.mpr ⟨q, sub q (pm.mem_iff.mp hq), rfl⟩
    rw [e] at this
    obtain ⟨m, hm, e⟩ := List.mem_map.mp this
    rw [← e]
    exact List.mem_map.mpr ⟨m, h m hm, rfl⟩
  have out : ∀ x ∈ mvL.map (fun m => [m.1, m.2]), x ∈ L'.map (·.2) := fun x hx => by
    obtain ⟨m, hm, rfl⟩ := List.mem_map.mp hx
    have : [m.1, m.2] ∈ ks.map (·.2) := by rw [e]; exact List.mem_map.mpr ⟨m, al m hm, rfl⟩
    obtain ⟨q, hq, e2⟩ := List.mem_map.mp this
    rw [(pm.map (·.2)).mem_iff, ← e2]
    exact all q hq
  have nd2 : (mvL.map fun m : Int × Int => [m.1, m.2]).Nodup := by decide
  have perm : (L'.map (·.2)).Perm (mvL.map fun m => [m.1, m.2]) := (List.perm_ext_iff_of_nodup nd nd2).mpr fun x => ⟨inn x, out x⟩
  refine perm.eq_of_pairwise (le := fun a b => SrtO.lexB (kp b) (kp a) = false) (fun a b ha hb h1 h2 => ?_) (List.pairwise_map.mpr pw) (by decide)
  obtain ⟨m, _, rfl⟩ := List.mem_map.mp (inn a ha)
  obtain ⟨m2, _, rfl⟩ := List.mem_map.mp hb
  have h1 := SrtO.lexB_no.mp h1
  have h2 := SrtO.lexB_no.mp h2
  have h1 : ¬ (m2.1 < m.1 ∨ (m2.1 = m.1 ∧ m2.2 < m.2)) := h1
  have h2 : ¬ (m.1 < m2.1 ∨ (m.1 = m2.1 ∧ m.2 < m2.2)) := h2
  rw [show m.1 = m2.1 by omega, show m.2 = m2.2 by omega]
theorem none_to {H0 H : Hp} {M : List Addr} {z : Addr} (F : Frm M H0 H) (h : H z = none) : z ∈ M ∨ H0 z = none := by
  by_cases m : z ∈ M
  · exact .inl m
  · cases w : H0 z with
    | none => exact .inr rfl
    | some o => rw [F _ _ w m] at h; cases h
theorem sm_dqM {k : Nat} {ms : List (Int × Int)} (h9 : ms.length ≤ 9) (hm : ∀ m ∈ ms, m.1.natAbs < 2 ^ 64 ∧ m.2.natAbs < 2 ^ 64) : Sm (k + 3) 10 (dqM_ ms) := ⟨by rw [List.length_map]; omega, fun y hy => by
  obtain ⟨m, hmm, rfl⟩ := List.mem_map.mp hy
  obtain ⟨k1, k2⟩ := hm m hmm
  refine ⟨(by show 2 ≤ 10; decide), fun x hx => ?_⟩
  simp only [List.mem_cons, List.not_mem_nil, or_false] at hx
  rcases hx with rfl | rfl
  · exact k1
  · exact k2⟩
theorem sm_rc {k : Nat} (P : Int × Int → Bool) : Sm (k + 3) 10 (dqM_ (mvL.filter P)) := sm_dqM (List.length_filter_le _ mvL) fun m hm => mvL_sm m (List.mem_filter.mp hm).1
theorem any_00 {ms : List (Int × Int)} (h : (0, 0) ∈ ms) : (ms.map dqM).any (fun z => PyData.eqv z (.tuple [.int 0, .int 0])) = true := by
  refine List.any_eq_true.mpr ⟨_, List.mem_map.mpr ⟨_, h, rfl⟩, ?_⟩
  show PyData.eqv (.tuple [.int 0, .int 0]) (.tuple [.int 0, .int 0]) = true
  rw [eqv_ij]
  exact decide_eq_true rfl
theorem dp_msat {K : PySem.W.Frag} {H : Hp} {x : Addr} {ms : List (Int × Int)} (h : MsAt H x ms) : Dp K H (.ref x) (dqM_ ms) := by
  obtain ⟨cs, w1, w2⟩ := h
  exact .lst (SqL.of w1) (dp_pd (β := Int × Int) w2 fun c m y => .tup (SqT.of y) (.cons (.int _) (.cons (.int _) .nil)))
/-- at each fineness of the phase the same moves are due -/
theorem due_at {g : GaugeM} (ok : GOk g) {i n : Nat} (hi : i < g.rs.length) (hn : n % g.rs.length = i) (n0 : 0 < n) (s : Nat) : mvL.filter (dueB g n (csA g.rs n) s) = mvL.filter (rcB g i s) := by
  have ec : csA g.rs n = csF g i := by
    show g.rs.getD (n % g.rs.length) [] = g.rs.getD i []
    rw [hn]
  have en : ∃ k, n = ffF g.rs.length i + g.rs.length * k := by
    have dm := Nat.div_add_mod n g.rs.length
    rw [hn] at dm
    unfold ffF
    by_cases z : i = 0
    · rw [if_pos z]
      refine ⟨n / g.rs.length - 1, ?_⟩
      have : 0 < n / g.rs.length := by
        rcases Nat.eq_zero_or_pos (n / g.rs.length) with q | q
        · rw [q, Nat.mul_zero] at dm; omega
        · exact q
      obtain ⟨m, hm⟩ : ∃ m, n / g.rs.length = m + 1 := ⟨n / g.rs.length - 1, by omega⟩
      rw [hm, Nat.mul_succ] at dm
      rw [hm, Nat.add_sub_cancel]
      omega
    · rw [if_neg z]
      exact ⟨n / g.rs.length, by omega⟩
  obtain ⟨k, en⟩ := en
  rw [ec]
  congr 1
  funext m
  conv => lhs; rw [en]
  exact due_is (gpos ok) hi k s m
theorem DGet.pt {H : Hp} {q x : Addr} {z : List V} {ms : List (Int × Int)} (h : MsAt H x ms) (hq : H q = some (.lst z)) (n : x ≠ q) {o : HO} : MsAt (upd H q o) x ms := h.put hq n
theorem MsAt.turnD {H H' : Hp} {x d : Addr} {ms : List (Int × Int)} (h : MsAt H x ms) (hD : IsD H d) (f : Frm [d] H H') : MsAt H' x ms := by
  obtain ⟨cs, h1, h2⟩ := h
  exact ⟨cs, (bare_frm f) _ _ (bareD_pk hD h1), pd_imp (fun c m w => (bare_frm f) _ _ (bareD_pk hD w)) h2⟩
theorem dp_sorted {K : PySem.W.Frag} {H : Hp} {pp : Addr} {L : List (Addr × List Int)} (h : H pp = some (.lst (L.map fun q => V.ref q.1))) (e : L.map (·.2) = mvL.map fun m => [m.1, m.2]) (s : ∀ q ∈ L, SqT K H q.1 (q.2.map V.int)) : Dp K H (.ref pp) (dqM_ mvL) := by
  have e2 : L.map (fun q => PyData.tuple (q.2.map PyData.int)) = mvL.map dqM := by
    have := congrArg (List.map fun ns : List Int => PyData.tuple (ns.map PyData.int)) e
    rw [List.map_map, List.map_map] at this
    exact this
  have is : ∀ ns : List Int, DpAll K H (ns.map V.int) (ns.map PyData.int) := fun ns => by
    induction ns with
    | nil => exact .nil
    | cons n ns ih => exact .cons (.int _) ih
  have al : ∀ {M : List (Addr × List Int)}, (∀ q ∈ M, SqT K H q.1 (q.2.map V.int)) → DpAll K H (M.map fun q => V.ref q.1) (M.map fun q => PyData.tuple (q.2.map PyData.int)) := fun {M} => by
    induction M with
    | nil => intro _; exact .nil
    | cons q M ih => intro hq; exact .cons (.tup (hq q List.mem_cons_self) (is q.2)) (ih fun r hr => hq r (List.mem_cons_of_mem _ hr))
  have := al s
  rw [e2] at this
  exact .lst (SqL.of h) this
theorem MdlAt.frm2 {H H' : Hp} {dm p d : Addr} {g : GaugeM} (h : MdlAt H dm g) (hp : Pot H p) (hD : IsD H d) (f : Frm [p, d] H H') : MdlAt H' dm g := by
  have hD2 : IsD (Mc.bare p H) d := by
    obtain ⟨kv, w⟩ := hD
    refine ⟨kv, bare_at w fun z => ?_⟩
    obtain ⟨x, y, e, _⟩ := hp
    rw [z, e] at w
    cases w
  refine ((h.bare hp).bareD hD2).ext fun x o w => ?_
  have w1 := bare_ext _ _ _ _ w
  have w2 := bare_ext _ _ _ _ w1
  refine f _ _ w2 fun m => ?_
  simp only [List.mem_cons, List.not_mem_nil, or_false] at m
  rcases m with rfl | rfl
  · have : Mc.bare x H x = none := if_pos rfl
    rw [this] at w1; cases w1
  · have : Mc.bare x (Mc.bare p H) x = none := if_pos rfl
    rw [this] at w; cases w
def spCountsN : Sp := fun vs H Q _ => ∃ (l : Addr) (rs : List (List Cut)) (n : Nat), vs = [.ref l, .int n] ∧ RowsL H l rs ∧ OkC rs ∧ n ≤ 150 ∧ ∀ q H', Ext H H' → H q = none → H' q = some (.lst [.int (dcF rs 0 n : Nat), .int (drF rs 0 n : Nat)]) → Q (.ref q) H'
theorem ok_counts2 (F : FunD K "_law_counts" "_law_counts" (defArgs s_counts) (defBody s_counts) (defScope s_counts) [] [] f fd) (T : TB mg) : FnOk P w K mg base CX0 1 f fd ["_law_rounds_here", "_law_many"] (spCountsN) := by
  refine F.ok sc_counts (fun vs H Q E h => ?_) (fun cdv A outer s H vs Q E hr h => ?_)
  · obtain ⟨l, rs, n, rfl, hl, ok, hn, k⟩ := h
    rfl
  · obtain ⟨l, rs, n, rfl, hl, ok, hn, k⟩ := h
    refine ⟨_, (PSs.nox (pss_cons (ps_set (i := 2) sc_counts.nd rfl (.inl rfl) (pe_lst (pa_cons pe_int (pa_cons pe_int pa_nil))))
      (pss_cons (ps_for PassesOwn.never rfl (pi_range1 (by rfl) T.range (pa_cons (pv 1) pa_nil)) (pg_name (i := 3) sc_counts.nd rfl (.inl rfl)) (pss_one (ps_for PassesOwn.never rfl (pi_list (pe_ix ix_seq (pv 0) (pe_op op_mod (pv 3) (pe_callB call_len_seq (by rfl) T.len PySem.boot_len (pa_cons (pv 0) pa_nil))) (fun _ _ => rfl))) (pg_tup rfl (pgs_cons (pg_name (i := 4) sc_counts.nd rfl (.inl rfl)) (pgs_cons (pg_name (i := 5) sc_counts.nd rfl (.inl rfl)) pgs_nil))) (pss_one (ps_asg (pe_op op_mulW (pe_ix ix_seq (pv 2) (pe_callTy call_int1 (by rfl) T.int (by decide +kernel) (pa_cons (pe_cmpR op_eq (pv 4) pe_str (nomark _)) pa_nil)) (fun _ _ => rfl)) (pv 5)) (pg_sub (pv 2) (pe_callTy call_int1 (by rfl) T.int (by decide +kernel) (pa_cons (pe_cmpR op_eq (pv 4) pe_str (nomark _)) pa_nil)) set_list))))))
      (pss_one (ps_ret (pv 2)))))), ?_⟩
    obtain ⟨as, hl1, hpd⟩ := id hl
    have l1 := ok.l1
    have lr := pd_len hpd
    refine ⟨(by show 2 ≤ sizeLine; decide), fun q hq => ?_⟩
    have e0 := Ext.upd (H := H) (o := .lst [.int 1, .int 1]) hq
    refine ⟨_, rfl, n, rfl, by omega, by omega, for_walk walk_r (fun i σ H' => ∃ u1 u2 u3, σ = [some (.ref l), some (.int (n : Nat)), some (.ref q), u1, u2, u3] ∧ H' q = some (.lst [.int (dcF rs 0 i : Nat), .int (drF rs 0 i : Nat)]) ∧ Ext H H') ⟨none, none, none, rfl, upd_same, e0⟩ (fun _ _ _ _ => trivial) ?_ ?_⟩
    · rintro i x σ H' hx ⟨u1, u2, u3, rfl, hq', e⟩
      obtain ⟨hi, rfl⟩ := range_get hx
      have hi : i < n := by simpa using hi
      obtain ⟨a, ha, hca⟩ := pd_get2 hpd (i % rs.length) (csA rs i) (csA_get l1 i)
      obtain ⟨ts, hts, hpt⟩ := cl_ext hca e
      have hcs := ok.hc _ (csA_mem l1 i)
      have ds := dcf_smallC ok (show i ≤ 150 by omega)
      refine ⟨_, rfl, _, rfl, _, rfl, l, _, rfl, .inl (SqL.of (e _ _ hl1)), (i : Int), ((as.map V.ref).length : Int), rfl, rfl, ?_, .inl ⟨l, _, _, _, rfl, rfl, SqL.of (e _ _ hl1), ?_, a, rfl, ⟨_, SqL.of hts⟩, for_walk walk_l (fun j σ H2 => ∃ u2 u3, σ = [some (.ref l), some (.int (n : Nat)), some (.ref q), some (.int (i : Nat)), u2, u3] ∧ H2 q = some (.lst [.int (dcF rs 0 i * colsF ((csA rs i).take j) : Nat), .int (drF rs 0 i * rowsF ((csA rs i).take j) : Nat)]) ∧ Ext H H2 ∧ H2 a = some (.lst (ts.map V.ref)) ∧ Paired (fun t c => H2 t = some (.tup (cutV c))) ts (csA rs i)) ⟨u2, u3, rfl, by rw [hq']; simp [colsF, rowsF], e, hts, hpt⟩ (fun _ _ _ ⟨_, _, _, _, _, h, _⟩ => SqL.of h) ?_ ?_⟩⟩
      · rw [List.length_map, lr]
        show (0 : Int) < (rs.length : Int)
        omega
      · rw [List.length_map, lr]
        show atI (as.map V.ref) ((i % rs.length : Nat) : Int) = some (V.ref a)
        exact atI_nat (by rw [List.getElem?_map, ha]; rfl)
      · rintro j x σ H2 hx ⟨u2, u3, rfl, hq2, e2, ha2, hp2⟩
        obtain ⟨t, rfl, ⟨b, m⟩, hc, htc⟩ := refs_get hp2 hx
        have okc := hcs _ (List.mem_of_getElem? hc)
        have m4 : m ≤ 4 := okc.2
        have nqa : a ≠ q := fun z => by rw [z, hq2] at ha2; exact absurd ha2 (by intro w; have := congrArg noPot (Option.some.inj w); rw [noPot_refs] at this; cases this)
        have tl : (csA rs i).take j = (csA rs i).take j := rfl
        have le32 := ok.n.le i
        have hcol : colsF ((csA rs i).take j) ≤ 1024 ∧ rowsF ((csA rs i).take j) ≤ 1024 := cols_le (fun d hd => hcs d (List.mem_of_mem_take hd)) (by have := ok.h5 _ (csA_mem l1 i); rw [List.length_take]; omega)
        have zA : ((dcF rs 0 i * colsF ((csA rs i).take j) : Nat) : Int).natAbs < 2 ^ 800 := by
          have : dcF rs 0 i * colsF ((csA rs i).take j) ≤ 2 ^ 760 * 1024 := Nat.mul_le_mul (Nat.le_of_lt ds.1) hcol.1
          omega
        have zB : ((drF rs 0 i * rowsF ((csA rs i).take j) : Nat) : Int).natAbs < 2 ^ 800 := by
          have : drF rs 0 i * rowsF ((csA rs i).take j) ≤ 2 ^ 760 * 1024 := Nat.mul_le_mul (Nat.le_of_lt ds.2) hcol.2
          omega
        refine ⟨t, _, rfl, SqT.of htc, rfl, _, _, rfl, _, _, rfl, rfl, ?_⟩
        cases b
        · have hk : decide (V.str (axS false) = V.str "north") = true := by decide +kernel
          refine ⟨_, rfl, _, rfl, rfl, .inr ⟨_, rfl, ?_⟩⟩
          rw [hk]
          rw [if_pos rfl]
          refine .inl ⟨q, _, 1, _, rfl, rfl, SqL.of hq2, rfl, _, rfl, _, _, rfl, rfl, mulW zB (show ((m : Nat) : Int).natAbs < 2 ^ 3 by omega), _, rfl, _, rfl, rfl, .inr ⟨_, rfl, ?_⟩⟩
          rw [hk]
          rw [if_pos rfl]
          refine ⟨q, _, 1, 1, rfl, rfl, hq2, rfl, _, _, rfl, ?_, ext_put e2 hq, by rw [upd_ne nqa]; exact ha2, pd_imp (fun t' c' h => by rw [upd_ne (fun z => by rw [z, hq2] at h; cases h)]; exact h) hp2⟩
          rw [upd_same, take_snoc hc, colsF_snoc, rowsF_snoc]
          simp [Nat.mul_assoc, Int.mul_assoc]
        · have hk : decide (V.str (axS true) = V.str "north") = false := by decide +kernel
          refine ⟨_, rfl, _, rfl, rfl, .inr ⟨_, rfl, ?_⟩⟩
          rw [hk]
          rw [if_neg Bool.false_ne_true]
          refine .inl ⟨q, _, 0, _, rfl, rfl, SqL.of hq2, rfl, _, rfl, _, _, rfl, rfl, mulW zA (show ((m : Nat) : Int).natAbs < 2 ^ 3 by omega), _, rfl, _, rfl, rfl, .inr ⟨_, rfl, ?_⟩⟩
          rw [hk]
          rw [if_neg Bool.false_ne_true]
          refine ⟨q, _, 0, 0, rfl, rfl, hq2, rfl, _, _, rfl, ?_, ext_put e2 hq, by rw [upd_ne nqa]; exact ha2, pd_imp (fun t' c' h => by rw [upd_ne (fun z => by rw [z, hq2] at h; cases h)]; exact h) hp2⟩
          rw [upd_same, take_snoc hc, colsF_snoc, rowsF_snoc]
          simp [Nat.mul_assoc, Int.mul_assoc]
      · rintro σ H2 ⟨u2, u3, rfl, hq2, e2, ha2, hp2⟩
        rw [List.length_map, pd_len hp2, List.take_length] at hq2
        exact ⟨_, _, _, rfl, by rw [hq2]; show _ = some (HO.lst [V.int ((dcF rs 0 i * colsF (csA rs (0 + i)) : Nat) : Int), V.int ((drF rs 0 i * rowsF (csA rs (0 + i)) : Nat) : Int)]); rw [Nat.zero_add], e2⟩
    rintro σ H' ⟨u1, u2, u3, rfl, hq', e⟩
    rw [List.length_map, List.length_range] at hq'
    exact ⟨_, rfl, k q H' e hq hq'⟩

end
end Mc

set_option Elab.async false
set_option linter.all false
set_option maxRecDepth 100000
set_option maxHeartbeats 4000000
set_option exponentiation.threshold 20000
namespace Mc
open PySem PySem.Spec PyProof.Rows L2 ClX StX
open RZ
section
variable {P : Program} {w : World} {K : PySem.W.Frag} {mg : Str → Option Value} {base : Heap} {f U0 kX M0 R0 C0 aX mX : Addr} {mas : List Addr} {mc : Value} {fd : FuncData}
theorem sc_right : FnScope ["_law_pot_here", "_law_model_here", "_law_meter", "_law_many", "_law_k", "_law_seen", "_law_parts", "_law_fine_ones", "_law_sign_now", "_law_told", "_law_due", "_law_deep"] ["_law_pot_here"] (defScope s_right) := ⟨rfl, rfl, rfl, by decide +kernel, rfl, by decide +kernel, by decide +kernel⟩
def spRight6 : Sp := fun vs H Q _ => ∃ p : Addr, vs = [.ref p] ∧ Pot H p ∧ ∀ H', Frm [p] H H' → Q (.bl true) H'
theorem ok_right (F : FunD K "_law_right" "_law_right" (defArgs s_right) (defBody s_right) (defScope s_right) [] [] f fd) (T : TB mg) (RU : GaugeT K mg U0 kX) (RQ : RatT K mg R0) (RM : MapT K mg M0) (R : PlanT K mg C0 aX mc) (RV : MovT K mg mX mas) (tSorted : mg "sorted" = none) (tSet : mg "set" = none) {fmodel : Addr} {fdmodel : FuncData} (Dmodel : Gd P w K mg base "_law_model" 4 ["_law_pot_here"] (spModel5) fmodel fdmodel) {fgauge : Addr} {fdgauge : FuncData} (Dgauge : Gd P w K mg base "_law_gauge" 10 ["_law_pot_here", "_law_model_here"] (spGauge5 C0 R0 M0 U0) fgauge fdgauge) {fturns_right : Addr} {fdturns_right : FuncData} (Dturns_right : Gg P w K mg base "_law_turns_right" 12 ["_law_pot_here", "_law_meter", "_law_model_here"] (spTurns C0 R0 M0 U0 mas) fturns_right fdturns_right) {fdraw : Addr} {fddraw : FuncData} (Ddraw : Gd P w K mg base "_law_draw" 1 ["_law_pot_here", "_law_size"] (spDraw) fdraw fddraw) {fcounts2 : Addr} {fdcounts2 : FuncData} (Dcounts2 : Gd P w K mg base "_law_counts" 1 ["_law_rounds_here", "_law_many"] (spCountsN) fcounts2 fdcounts2) {fdues : Addr} {fddues : FuncData} (Ddues : Gd P w K mg base "_law_dues" 5 ["_law_model_here", "_law_deep", "_law_sign_now"] (spDues) fdues fddues) {fmoves : Addr} {fdmoves : FuncData} (Dmoves : Gd P w K mg base "_law_moves" 1 [] (spMoves) fmoves fdmoves) {f_Gauge_reached : Addr} {fd_Gauge_reached : FuncData} (m_Gauge_reached : Meth K U0 "reached" f_Gauge_reached) (g_Gauge_reached : FnOk P w K mg base CX0 11 f_Gauge_reached fd_Gauge_reached ["self", "phase", "sign"] (spReached C0 R0 M0 U0 mas)) (b_Gauge_reached : Binds K fd_Gauge_reached ["self", "phase", "sign"] []) (kReach : KBn K fd_Gauge_reached ["self", "phase", "sign"] 1 ["sign", "phase"] (fun us ws => us ++ pm [1, 0] ws) (fun vs zs => vs ++ pm [1, 0] zs)) : FnOkG P w K mg base CX0 13 f fd ["_law_pot_here"] (spRight6) := by
  refine okG F sc_right (fun vs H Q E h => ?_) (fun cdv A outer s H vs Q E hr h => ?_)
  · obtain ⟨p, rfl, hp, k⟩ := h
    rfl
  · obtain ⟨p, rfl, hp, k⟩ := h
    refine ⟨_, (pss_cons (ps_set (i := 1) sc_right.nd rfl (.inr rfl) (pe_gd Dmodel hr.room (by decide) (by rfl) (pa_cons (pv 0) pa_nil)))
      (pss_cons (ps_par (i := 2) (j := 3) (by rfl) sc_right.nd rfl rfl (by decide) rfl rfl (pa_cons (pe_gd Dgauge hr.room (by decide) (by rfl) (pa_cons (pv 0) (pa_cons (pv 1) pa_nil))) (pa_cons (pe_callB call_len_seq (by rfl) T.len PySem.boot_len (pa_cons (pe_dget (hu_of hr.room) (pv 1) pe_str (fun _ _ => rfl)) pa_nil)) pa_nil)) (by rfl))
      (pss_cons (ps_if (pt_not (pt_val (pe_gg Dturns_right hr (by decide) (by rfl) (pa_cons (pv 0) (pa_cons (pv 2) (pa_cons (pv 1) pa_nil)))))) (pss_one (ps_ret pe_bl)) pss_nil)
      (pss_cons (ps_for PassesOwn.never rfl (pi_range1 (by rfl) T.range (pa_cons (pv 3) pa_nil)) (pg_name (i := 4) sc_right.nd rfl (.inl rfl)) (pss_cons (ps_par (i := 5) (j := 6) (by rfl) sc_right.nd rfl rfl (by decide) rfl rfl (pa_cons (pe_lst pa_nil) (pa_cons (pe_gd Dcounts2 hr.room (by decide) (by rfl) (pa_cons (pe_lst (pa_cons (pe_ix ix_seq (pe_dget (hu_of hr.room) (pv 1) pe_str (fun _ _ => rfl)) (pv 4) (fun _ _ => rfl)) pa_nil)) (pa_cons pe_int pa_nil))) pa_nil)) (by rfl))
      (pss_cons (ps_set (i := 7) sc_right.nd rfl (.inl rfl) (pe_lst (pa_cons (pe_ifExp (pt_cmpR op_gt (pv 4) pe_int (nomark _)) (pv 4) (pv 3)) (pa_cons (pe_op op_add (pv 4) (pv 3)) (pa_cons (pe_op op_add (pv 4) (pe_op op_mulW (pv 3) (pe_op op_add pe_int (pe_gd Ddraw hr.room (by decide) (by rfl) (pa_cons (pv 0) (pa_cons pe_int pa_nil)))))) pa_nil)))))
      (pss_cons (ps_for PassesOwn.never rfl (pi_range1 (by rfl) T.range (pa_cons (pe_op op_mulW (pe_ix ix_seq (pv 6) pe_int (fun _ _ => rfl)) (pe_ix ix_seq (pv 6) pe_int (fun _ _ => rfl))) pa_nil)) (pg_name (i := 8) sc_right.nd rfl (.inr rfl)) (pss_cons (ps_asg (pe_tup (pa_cons (pe_meth (pv 2) RU.cl m_Gauge_reached g_Gauge_reached (hr.room.mono (by decide)) b_Gauge_reached .nil pass0 (pa_cons (pv 4) (pa_cons (pv 8) pa_nil))) (pa_cons (pe_gd Ddues hr.room (by decide) (by rfl) (pa_cons (pv 1) (pa_cons (pe_ix ix_seq (pv 7) pe_int (fun _ _ => rfl)) (pa_cons (pv 8) pa_nil)))) pa_nil))) (pg_tup rfl (pgs_cons (pg_name (i := 9) sc_right.nd rfl (.inl rfl)) (pgs_cons (pg_name (i := 10) sc_right.nd rfl (.inr rfl)) pgs_nil))))
      (pss_cons (ps_if (PW.pt (pw_or (pt_cmpR op_ne (pe_callB (call_reprDK (K := K) hr rfl) (by rfl) T.repr boot_repr (pa_cons (pv 9) pa_nil)) (pe_callB (call_reprDK (K := K) hr rfl) (by rfl) T.repr boot_repr (pa_cons (pv 10) pa_nil)) (nomark _)) (pw_or1 (pt_cmpR (op_notInD (hu65 hr.room)) (pe_tup (pa_cons pe_int (pa_cons pe_int pa_nil))) (pv 10) (by rfl))))) (pss_one (ps_ret pe_bl)) pss_nil)
      (pss_cons (ps_if (pt_not (pt_val (pe_callB (cr_all rfl) (by rfl) T.all (by decide +kernel) (pa_cons (pe_lc (own := [("_law_deep", 11)]) (g := gName 11) (tt := tYes) rfl sc_right.nd (pi_list (pv 7)) (blkOk_by (own := [("_law_deep", 11)]) (N := ["_law_pot_here", "_law_model_here", "_law_meter", "_law_many", "_law_k", "_law_seen", "_law_parts", "_law_fine_ones", "_law_sign_now", "_law_told", "_law_due", "_law_deep"]) (sc := defScope s_right) (by decide +kernel)) (fun _ _ _ _ _ => (pg_name (i := 11) sc_right.nd rfl (.inl rfl))) (fun _ _ _ _ _ => pts_nil) (fun _ _ _ _ _ => (pe_cmpR (op_eqDK (K := K) rfl (hu64 hr.room)) (pe_gd Ddues hr.room (by decide) (by rfl) (pa_cons (pv 1) (pa_cons (pv 11) (pa_cons (pv 8) pa_nil)))) (pv 10) (nomark _)))) pa_nil)))) (pss_one (ps_ret pe_bl)) pss_nil)
      (pss_cons (ps_expr (pe_bm0 PySem.F.plainAttrs_list PySem.F.slot_list_clear PySem.F.type_list_clear mt_clear (pv 9)))
      (pss_cons (ps_if (pt_cmpR op_ne (pe_callB (call_reprDK (K := K) hr rfl) (by rfl) T.repr boot_repr (pa_cons (pe_methK (pv 2) RU.cl m_Gauge_reached g_Gauge_reached (hr.room.mono (by decide)) kReach (pk_cons (pv 8) (pk_cons (pv 4) pk_nil))) pa_nil)) (pe_callB (call_reprDK (K := K) hr rfl) (by rfl) T.repr boot_repr (pa_cons (pv 10) pa_nil)) (nomark _)) (pss_one (ps_ret pe_bl)) pss_nil)
      (pss_one (ps_expr (pe_bm PySem.F.plainAttrs_list PySem.F.slot_list_extend PySem.F.type_list_extend mt_extend (pv 5) (pa_cons (pv 10) pa_nil))))))))))
      (pss_one (ps_if (pt_cmpR (op_neD (hu64 hr.room)) (pe_callB (cr_sortedP2 rfl) (by rfl) tSorted (by decide +kernel) (pa_cons (pe_callTy (cr_setFew rfl (hu64 hr.room)) (by rfl) tSet (by decide +kernel) (pa_cons (pv 5) pa_nil)) pa_nil)) (pe_call0 Dmoves.ok (hr.room.mono (by decide)) (by rfl) Dmoves.g Dmoves.kp Dmoves.b .nil pass0) (nomark _)) (pss_one (ps_ret pe_bl)) pss_nil))))))
      (pss_one (ps_ret pe_bl)))))), ?_⟩
    have lz : mas.length = 9 := pd_len RV.at_
    refine ⟨_, rfl, p, _, rfl, Bld.start hp, fun dm H1 B1 g b1 hd ok r12 => ?_⟩
    have hd1 := hd.ext b1.E
    have hp1 := b1.hp
    have F1 := b1.F
    have l1 := ok.ok.l1
    have l3 := ok.ok.l3
    clear hd b1
    refine ⟨_, rfl, _, rfl, p, dm, g, rfl, hp1, hd1, ok, fun a d H2 f2 hp2 a0 d0 hg => ?_⟩
    have hd2 := (hd1.bare hp1).ext (bare_frm f2)
    have a0 : H a = none := none_frm F1 hp1 a0
    have d0 : H d = none := none_frm F1 hp1 d0
    have F2 := F1.trans f2
    obtain ⟨B, X2⟩ := hg.stN (mas := mas) [p] (fun z hz => by rw [List.mem_singleton.mp hz]; exact .inr (.inr hp2)) (fun m => by obtain ⟨_, _, w, _⟩ := hp; rw [List.mem_singleton.mp m, w] at a0; cases a0) (fun m => by obtain ⟨_, _, w, _⟩ := hp; rw [List.mem_singleton.mp m, w] at d0; cases d0)
    clear hd1 f2 F1 hg hp1
    obtain ⟨lr, ll, lq, ls, lt1, lt2, lq1, lq2, hdd, hm⟩ := id hd2
    obtain ⟨as, hr1, hr2⟩ := id hm.r
    have lrs : (as.map V.ref).length = g.rs.length := by rw [List.length_map, pd_len hr2]
    refine ⟨_, rfl, dm, _, rfl, DGet.s hdd vk1, lr, _, rfl, .inl (SqL.of hr1), ?_⟩
    rw [lrs]
    refine ⟨_, _, rfl, ?_⟩
    clear hdd hm hr1 hr2 lrs
    have domp : ∀ {H' : Hp}, Pot H' p → ∀ z, z ∈ [p] → H' z ≠ none := fun {H'} h z hz => by
      obtain ⟨_, _, w, _⟩ := h
      rw [List.mem_singleton.mp hz, w]
      exact fun y => nomatch y
    refine ⟨_, rfl, _, rfl, _, rfl, p, a, d, dm, g, B, _, rfl, X2, List.mem_singleton.mpr rfl, domp hp2, hp2, hd2, ok, r12, fun H3 F3 X3 hp3 hd3 => ⟨_, rfl, iteF ?_⟩⟩
    have F3 : Frm [p, a, d] H H3 := fun x o w n => F3 _ _ (F2 _ _ w (fun m => n (by rw [List.mem_singleton.mp m]; exact List.mem_cons_self))) n
    clear X2 hp2 hd2
    refine ⟨_, rfl, (g.rs.length : Nat), rfl, by omega, by omega, for_walk (walk_r (lo := 0)) (fun i σ H' => ∃ u4 u5 u6 u7 u8 u9 u10 u11, σ = [some (.ref p), some (.ref dm), some (.ref a), some (.int (g.rs.length : Nat)), u4, u5, u6, u7, u8, u9, u10, u11] ∧ GSx C0 R0 M0 U0 mas B (· ∈ [p]) H' a d g ∧ Pot H' p ∧ MdlAt H' dm g ∧ Frm [p, a, d] H H') ⟨none, none, none, none, none, none, none, none, rfl, X3, hp3, hd3, F3⟩ (fun _ _ _ _ => trivial) ?_ ?_⟩
    · rintro i x σ H4 hx ⟨u4, u5, u6, u7, u8, u9, u10, u11, rfl, X4, hp4, hd4, F4⟩
      obtain ⟨hi, rfl⟩ := range_get hx
      have hi : i < g.rs.length := by simpa using hi
      have csg : g.rs[i]? = some (csF g i) := by
        show _ = some (g.rs.getD i [])
        rw [List.getD_eq_getElem?_getD, List.getElem?_eq_getElem hi]
        rfl
      have cm := List.mem_of_getElem? csg
      have h32 := ok.ok.h32 _ cm
      have pos := pos_cols (ok.ok.hc _ cm)
      have pc : colsF (csF g i) ≤ 32 := Nat.le_trans (Nat.le_mul_of_pos_right _ pos.2) h32
      have pr : rowsF (csF g i) ≤ 32 := Nat.le_trans (Nat.le_mul_of_pos_left _ pos.1) h32
      obtain ⟨lr, ll, lq, ls, lt1, lt2, lq1, lq2, hdd, hm⟩ := id hd4
      obtain ⟨as, hr1, hr2⟩ := id hm.r
      obtain ⟨ca, hca, hcc⟩ := pd_get2 hr2 i (csF g i) csg
      refine ⟨(by show 0 ≤ sizeLine; decide), fun se hse => ?_⟩
      have e5 := Ext.upd (H := H4) (o := .lst []) hse
      have hs5 : (upd H4 se (.lst [])) se = some (.lst []) := upd_same
      have X5 := (X4.add hse).ext e5
      have sp : se ≠ p := hp4.ne hse
      have hp5 : Pot (upd H4 se (.lst [])) p := hp4.frm (M := []) (Frm.ext e5) (fun z => nomatch z)
      generalize upd H4 se (.lst []) = H5 at e5 hs5 X5 hp5 ⊢
      refine ⟨_, rfl, dm, _, rfl, DGet.s (e5 _ _ hdd) vk1, _, rfl, .inl ⟨lr, _, _, _, rfl, rfl, SqL.of (e5 _ _ hr1), atI_nat (j := i) (by rw [List.getElem?_map, hca]; rfl), (by show 1 ≤ sizeLine; decide), fun lc hlc => ⟨lc, [csF g i], 1, rfl, ⟨[ca], upd_same, .cons (cl_ext hcc (e5.trans (Ext.upd hlc))) .nil⟩, ok.ok.one cm, by decide, fun pt H6 e6 pt0 hpt => ?_⟩⟩⟩
      have e6 := (Ext.upd hlc).trans e6
      have hp5x := hp5.frm (M := []) (Frm.ext (Ext.upd (o := .lst [.ref ca]) hlc)) (fun z => nomatch z)
      have X6 := X5.ext e6
      have hd6 := (hd4.ext e5).ext e6
      have hp6 := hp5.frm (M := []) (Frm.ext e6) (fun z => nomatch z)
      have hs6 := e6 _ _ hs5
      have F6 : Frm [p, d] H4 H6 := Frm.ext (e5.trans e6)
      have p1 : dcF [csF g i] 0 1 = colsF (csF g i) ∧ drF [csF g i] 0 1 = rowsF (csF g i) := ⟨Nat.one_mul _, Nat.one_mul _⟩
      rw [p1.1, p1.2] at hpt
      clear hdd hm hr1 hr2 hca hcc hlc e5 hs5 X5 hp5
      have npt : pt ≠ p := fun z => by
        obtain ⟨_, _, w, _⟩ := hp5x
        rw [← z, pt0] at w
        cases w
      obtain ⟨F, hF⟩ : ∃ F, F = ffF g.rs.length i := ⟨_, rfl⟩
      have eF : (if decide ((0 : Int) < ((i : Nat) : Int)) = true then V.int (i : Nat) else V.int (g.rs.length : Nat)) = V.int (F : Nat) := by
        rw [hF]
        unfold ffF
        by_cases z : i = 0
        · rw [if_pos z, if_neg (by rw [decide_eq_true_eq]; omega)]
        · rw [if_neg z, if_pos (decide_eq_true (by omega))]
      have F3 : F ≤ 3 := by rw [hF]; unfold ffF; split <;> omega
      have F0 : 0 < F := by rw [hF]; unfold ffF; split <;> omega
      have Fm : F % g.rs.length = i := by
        rw [hF]
        unfold ffF
        by_cases z : i = 0
        · rw [if_pos z, Nat.mod_self, z]
        · rw [if_neg z, Nat.mod_eq_of_lt hi]
      refine ⟨_, _, rfl, _, rfl, _, _, rfl, rfl, _, rfl, ?_⟩
      refine if_vars (v := .int (i : Nat)) (w := .int (g.rs.length : Nat)) (fun Q q => ⟨_, rfl, q⟩) (fun Q q => ⟨_, rfl, q⟩) ?_
      rw [eF]
      refine ⟨_, rfl, _, rfl, _, _, rfl, rfl, _, rfl, _, rfl, _, rfl, p, 9, rfl, hp6, by decide, by decide, fun r H7 r0 r1 f7 hp7 => ?_⟩
      obtain ⟨r, rfl⟩ := Int.eq_ofNat_of_zero_le r0
      have r9 : r < 9 := by omega
      refine ⟨_, _, rfl, rfl, _, _, rfl, rfl, mulW (a := 3) (b := 6) (by omega) (by omega) (by decide) (by decide) (by decide), _, _, rfl, rfl, (by show 3 ≤ sizeLine; decide), fun fo hfo => ?_⟩
      have X7 := X6.turn f7 (.inl (by simp))
      have hd7 := (hd6.bare hp6).ext (bare_frm f7)
      have hs7 := f7 _ _ hs6 (fun z => sp (List.mem_singleton.mp z))
      have hpt7 := f7 _ _ hpt (fun z => npt (List.mem_singleton.mp z))
      have F7 := frm_to F6 f7 (.inl (by simp))
      have e8 := Ext.upd (H := H7) (o := .lst [.int (F : Nat), .int ((i : Int) + (g.rs.length : Nat)), .int ((i : Int) + (g.rs.length : Int) * (2 + (r : Nat)))]) hfo
      have hfo8 : (upd H7 fo (.lst [.int (F : Nat), .int ((i : Int) + (g.rs.length : Nat)), .int ((i : Int) + (g.rs.length : Int) * (2 + (r : Nat)))])) fo = some (.lst (([F, i + g.rs.length, i + g.rs.length * (2 + r)] : List Nat).map fun k : Nat => V.int k)) := upd_same
      have hp8 : Pot (upd H7 fo (.lst [.int (F : Nat), .int ((i : Int) + (g.rs.length : Nat)), .int ((i : Int) + (g.rs.length : Int) * (2 + (r : Nat)))])) p := hp7.frm (M := []) (Frm.ext e8) (fun z => nomatch z)
      have nsf : se ≠ fo := fun z => by rw [← z, hs7] at hfo; cases hfo
      generalize upd H7 fo (.lst [.int (F : Nat), .int ((i : Int) + (g.rs.length : Nat)), .int ((i : Int) + (g.rs.length : Int) * (2 + (r : Nat)))]) = H8 at e8 hfo8 hp8 ⊢
      have X8 := X7.ext e8
      have hd8 := hd7.ext e8
      have hs8 := e8 _ _ hs7
      have hpt8 := e8 _ _ hpt7
      have F8 := F7.trans (Frm.ext e8)
      clear X7 hd7 hs7 hpt7 F7 hfo e8 X6 hd6 hp6 hs6 F6 f7 hp7 hpt hp5x pt0 e6
      refine ⟨_, rfl, .inl ⟨pt, _, 0, _, rfl, rfl, SqL.of hpt8, rfl, _, rfl, .inl ⟨pt, _, 1, _, rfl, rfl, SqL.of hpt8, rfl, _, _, rfl, rfl, mulW (a := 6) (b := 6) (by omega) (by omega) (by decide) (by decide) (by decide), ((colsF (csF g i) * rowsF (csF g i) : Nat) : Int), rfl, by omega, by omega, for_walk (walk_r (lo := 0)) (fun t σ H' => ∃ u8 u9 u10 u11, ∃ cs : List Addr, σ = [some (.ref p), some (.ref dm), some (.ref a), some (.int (g.rs.length : Nat)), some (.int (i : Nat)), some (.ref se), some (.ref pt), some (.ref fo), u8, u9, u10, u11] ∧ GSx C0 R0 M0 U0 mas B (fun y => y ∈ [p] ∨ y = se) H' a d g ∧ Pot H' p ∧ Frm [p, d] H4 H' ∧ H' se = some (.lst (cs.map V.ref)) ∧ Paired (fun c (m : Int × Int) => H' c = some (.tup [.int m.1, .int m.2])) cs (snM g i t) ∧ H' fo = some (.lst (([F, i + g.rs.length, i + g.rs.length * (2 + r)] : List Nat).map fun k : Nat => V.int k))) ⟨u8, u9, u10, u11, [], rfl, X8, hp8, F8, hs8, .nil, hfo8⟩ (fun _ _ _ _ => trivial) ?_ ?_⟩⟩⟩
      · rintro t x σ H9 hx ⟨u8, u9, u10, u11, cs, rfl, X9, hp9, F9, hs9, pcs, hfo9⟩
        have hd9 := hd4.frm2 hp4 X4.isD F9
        obtain ⟨ht, rfl⟩ := range_get hx
        have ht : t < colsF (csF g i) * rowsF (csF g i) := ht
        have ts : t < (placesF (csF g i)).length := by rw [placesF_length]; exact ht
        have dom9 : ∀ y, (y ∈ [p] ∨ y = se) → H9 y ≠ none := fun y hy => by
          rcases hy with hy | rfl
          · exact domp hp9 y hy
          · rw [hs9]; exact fun z => nomatch z
        obtain ⟨dxk, mk', trk, rk1, rk2, uk, vk, hbk, gik⟩ := id X9.at
        refine ⟨_, rfl, a, dxk, _, rfl, hbk, rfl, _, rfl, _, rfl, p, a, d, g, i, t, rfl, X9.st (.inl (by simp)), ok, hi, ts, fun q Ha f1 q0 hq _ XX => ?_⟩
        have Xa := XX _ _ dom9 X9
        have hpa := hp9.frm f1 (pot_nd hp9 X9.isD)
        have hda := (hd9.bareD X9.isD).ext (bare_frm f1)
        have hsa := (bare_frm f1) _ _ (bareD_pk X9.isD hs9)
        have hfoa := (bare_frm f1) _ _ (bareD_pk X9.isD hfo9)
        have pcsa := pd_imp (fun c m w => (bare_frm f1) _ _ (bareD_pk X9.isD w)) pcs
        have Fa := frm_to F9 f1 (.inl (by simp))
        have hqF := none_to F9 q0
        have nqs : q ≠ se := fun z => by rw [z, hs9] at q0; cases q0
        have nqf : q ≠ fo := fun z => by rw [z, hfo9] at q0; cases q0
        have nqp : q ≠ p := fun z => by obtain ⟨_, _, w, _⟩ := hp9; rw [z, w] at q0; cases q0
        have iD9 := X9.isD
        clear X9 hp9 F9 hbk gik XX dom9
        refine ⟨_, rfl, _, rfl, .inl ⟨fo, _, 0, _, rfl, rfl, SqL.of hfoa, rfl, _, rfl, dm, g, F, t, rfl, hda, ok, by omega, ?_, fun l Hb eb l0 ms => ?_⟩⟩
        · rw [show csA g.rs F = csF g i by show g.rs.getD (F % g.rs.length) [] = g.rs.getD i []; rw [Fm]]
          exact ts
        rw [due_at ok hi Fm F0] at ms
        refine ⟨(by show 2 ≤ sizeLine; decide), fun tt htt => ⟨tt, _, rfl, SqT.of upd_same, rfl, _, _, rfl, _, _, rfl, rfl, ?_⟩⟩
        have ec := Ext.upd (o := .tup [.ref q, .ref l]) htt
        generalize upd Hb tt (.tup [.ref q, .ref l]) = Hc at ec ⊢
        have eac := eb.trans ec
        have Xc := Xa.ext eac
        have hpc := hpa.frm (M := []) (Frm.ext eac) (fun z => nomatch z)
        have hdc := hda.ext eac
        have hsc := eac _ _ hsa
        have hfoc := eac _ _ hfoa
        have pcsc := pd_imp (fun c m w => eac _ _ w) pcsa
        have Fc := Fa.trans (Frm.ext eac)
        have hqc := eac _ _ hq
        have msc := ms.ext ec
        have nlq : l ≠ q := fun z => by rw [z, hq] at l0; cases l0
        have f9c := f1.trans (Frm.ext eac)
        clear Xa hpa hda hsa hfoa pcsa Fa hq l0 ms htt eb ec eac f1
        have smo := (sm_rc (k := 1) (rcB g i t)).show (by decide)
        have shp := (sm_rc (k := 1) (rcB g i t)).shaped (by decide)
        have m00 : (0, 0) ∈ mvL.filter (rcB g i t) := List.mem_filter.mpr ⟨by decide, rc_00 (gpos ok) hi⟩
        refine ⟨_, rfl, q, _, rfl, dp_rcV RV lz hqc, smo.1, smo.2.1, smo.2.2.1, smo.2.2.2, _, rfl, l, _, rfl, dp_msat msc, smo.1, smo.2.1, smo.2.2.1, smo.2.2.2, rfl, _, rfl, ite2 (fun hz => absurd hz (by simp)) (fun _ => ?_)⟩
        refine ⟨(by show 2 ≤ sizeLine; decide), fun t2 ht2 => ⟨_, rfl, .tuple [.int 0, .int 0], (mvL.filter (rcB g i t)).map dqM, .tup (SqT.of upd_same) (.cons (.int _) (.cons (.int _) .nil)), dp_msat (msc.ext (Ext.upd ht2)), shaped_ij 0 0, shp, ?_⟩⟩
        rw [any_00 m00]
        refine ⟨_, rfl, ite2 (fun hz => absurd hz (by decide)) (fun _ => ?_)⟩
        have ed := Ext.upd (o := .tup [.int 0, .int 0]) ht2
        generalize upd Hc t2 (.tup [.int 0, .int 0]) = Hd at ed ⊢
        have Xd := Xc.ext ed
        have hpd := hpc.frm (M := []) (Frm.ext ed) (fun z => nomatch z)
        have hdd := hdc.ext ed
        have hsd := ed _ _ hsc
        have hfod := ed _ _ hfoc
        have pcsd := pd_imp (fun c m w => ed _ _ w) pcsc
        have Fd := Fc.trans (Frm.ext ed)
        have hqd := ed _ _ hqc
        have msd := msc.ext ed
        have f9d := f9c.trans (Frm.ext ed)
        clear Xc hpc hdc hsc hfoc pcsc Fc hqc msc ht2 ed f9c
        refine ⟨_, rfl, fo, rfl, ⟨_, SqL.of hfod⟩, fun D hD => lc_walk walk_l (fun j H' => H' D = some (.lst (List.replicate j (.bl true))) ∧ Ext Hd H') ⟨upd_same, Ext.upd hD⟩ (fun _ _ ⟨_, e⟩ => SqL.of (e _ _ hfod)) ?_ ?_⟩
        · rintro j x He hx ⟨hDe, ee⟩
          have j3 : j < 3 := (List.getElem?_eq_some_iff.mp hx).1
          obtain ⟨n, rfl, nm, n0, n100⟩ : ∃ n : Nat, x = .int n ∧ n % g.rs.length = i ∧ 0 < n ∧ n ≤ 100 := by
            match j, hx with
            | 0, hx => cases hx; exact ⟨F, rfl, Fm, F0, by omega⟩
            | 1, hx => cases hx; exact ⟨i + g.rs.length, rfl, by rw [Nat.add_mod_right, Nat.mod_eq_of_lt hi], by omega, by omega⟩
            | 2, hx =>
              cases hx
              refine ⟨i + g.rs.length * (2 + r), rfl, by rw [Nat.add_mul_mod_self_left, Nat.mod_eq_of_lt hi], ?_, ?_⟩
              · have := Nat.mul_pos l1 (show 0 < 2 + r by omega)
                omega
              · have := Nat.mul_le_mul l3 (show 2 + r ≤ 10 by omega)
                omega
          refine ⟨rfl, lc_yes ⟨_, rfl, _, rfl, _, rfl, dm, g, n, t, rfl, hdd.ext ee, ok, n100, ?_, fun l2 Hf ef l20 ms2 => ?_⟩⟩
          · rw [show csA g.rs n = csF g i by show g.rs.getD (n % g.rs.length) [] = g.rs.getD i []; rw [nm]]
            exact ts
          rw [due_at ok hi nm n0] at ms2
          refine ⟨_, rfl, dqM_ (mvL.filter (rcB g i t)), dqM_ (mvL.filter (rcB g i t)), dp_msat ms2, dp_msat ((msd.ext ee).ext ef), shp, shp, ?_⟩
          rw [SeqAt.eqv_refl _ (sm_rc (k := 1) (rcB g i t)).ok.c]
          refine ⟨_, ef _ _ hDe, ?_, ?_, ext_put (ee.trans ef) hD⟩
          · rw [List.length_replicate, sizeLine_eq]
            omega
          · rw [upd_same, rep_put]
        rintro He ⟨hDe, ee⟩
        refine ⟨D, List.replicate 3 true, rfl, SqL.of (by rw [List.map_replicate]; exact hDe), ?_⟩
        rw [all_rep]
        refine ⟨_, rfl, iteF ?_⟩
        have Xe := Xd.ext ee
        have hpe := hpd.frm (M := []) (Frm.ext ee) (fun z => nomatch z)
        have hde := hdd.ext ee
        have hse := ee _ _ hsd
        have hfoe := ee _ _ hfod
        have pcse := pd_imp (fun c m w => ee _ _ w) pcsd
        have Fe_ := Fd.trans (Frm.ext ee)
        have hqe := ee _ _ hqd
        have mse := msd.ext ee
        have f9e := f9d.trans (Frm.ext ee)
        clear Xd hpd hdd hsd hfod pcsd Fd hqd msd hD hDe ee f9d
        refine ⟨_, rfl, .inl ⟨rfl, _, SqL.of hqe⟩, q, _, rfl, rfl, hqe, ?_⟩
        have fq : Frm [q] He (upd He q (.lst [])) := Frm.put (List.mem_singleton.mpr rfl)
        have Xf := Xe.turn fq (.inr rfl)
        have hpf := hpe.frm fq (fun z => nqp (List.mem_singleton.mp z).symm)
        have f9f := frm_to f9e fq (.inr q0)
        have b9 := bare_frm f9f
        have hdf := (hd9.bareD iD9).ext b9
        have hsf := b9 _ _ (bareD_pk iD9 hs9)
        have hfof := b9 _ _ (bareD_pk iD9 hfo9)
        have pcsf := pd_imp (fun c m w => b9 _ _ (bareD_pk iD9 w)) pcs
        have Ff := frm_to Fe_ fq hqF
        have msf := mse.put (o := .lst []) hqe nlq
        have hqf : (upd He q (.lst [])) q = some (.lst []) := upd_same
        clear Xe hpe hde hse hfoe pcse Fe_ mse f9e f9f b9 hd9 hs9 hfo9 pcs iD9
        generalize upd He q (.lst []) = Hf at fq Xf hpf hdf hsf hfof pcsf Ff msf hqf ⊢
        have domf : ∀ y, ((y ∈ [p] ∨ y = se) ∨ y = q) → Hf y ≠ none := fun y hy => by
          rcases hy with (hy | rfl) | rfl
          · exact domp hpf y hy
          · rw [hsf]; exact fun z => nomatch z
          · rw [hqf]; exact fun z => nomatch z
        obtain ⟨dx2, mk2, tr2, rj1, rj2, uj, vj, hbj, gij⟩ := id Xf.at
        refine ⟨_, rfl, a, dx2, _, rfl, hbj, rfl, _, rfl, _, rfl, rfl, p, a, d, g, i, t, rfl, Xf.st (.inl (.inl (by simp))), ok, hi, ts, fun q2 Hg f2 q20 hq2 _ XX2 => ?_⟩
        have Xg := XX2 _ _ domf Xf
        have b2 := bare_frm f2
        have msg := msf.turnD Xf.isD f2
        have hpg := hpf.frm f2 (pot_nd hpf Xf.isD)
        have hdg := (hdf.bareD Xf.isD).ext b2
        have hsg := b2 _ _ (bareD_pk Xf.isD hsf)
        have hfog := b2 _ _ (bareD_pk Xf.isD hfof)
        have pcsg := pd_imp (fun c m w => b2 _ _ (bareD_pk Xf.isD w)) pcsf
        have Fg := frm_to Ff f2 (.inl (by simp))
        clear Xf hpf hdf hsf hfof pcsf Ff msf hqf hbj gij XX2 domf b2 f2 q20 fq hqe hqF
        refine ⟨q2, _, rfl, dp_rcV RV lz hq2, smo.1, smo.2.1, smo.2.2.1, smo.2.2.2, _, rfl, l, _, rfl, dp_msat msg, smo.1, smo.2.1, smo.2.2.1, smo.2.2.2, rfl, _, rfl, ite2 (fun hz => absurd hz (by simp)) (fun _ => ?_)⟩
        obtain ⟨cs2, hlg, pcs2⟩ := id msg
        have len1 : cs.length ≤ 9 * t := by rw [pd_len pcsg]; exact snM_len g i t
        have len2 : cs2.length ≤ 9 := by rw [pd_len pcs2]; exact List.length_filter_le _ mvL
        refine ⟨_, rfl, .inl ⟨rfl, _, SqL.of hsg⟩, _, rfl, se, l, _, _, rfl, rfl, hsg, hlg, by rw [List.length_map, List.length_map, sizeLine_eq]; omega, ?_⟩
        have fs : Frm [se] Hg (upd Hg se (.lst (cs.map V.ref ++ cs2.map V.ref))) := Frm.put (List.mem_singleton.mpr rfl)
        have Xh := (Xg.turn fs (.inl (.inl (.inr rfl)))).weak (N' := fun y => y ∈ [p] ∨ y = se) fun _ w => .inl (.inl w)
        have up : ∀ {c : Addr} {xs : List V}, Hg c = some (.tup xs) → (upd Hg se (.lst (cs.map V.ref ++ cs2.map V.ref))) c = some (.tup xs) := fun {c xs} w => by
          rw [upd_ne (fun z => by rw [z, hsg] at w; cases w)]
          exact w
        refine ⟨_, _, _, _, cs ++ cs2, rfl, Xh, hpg.frm fs (fun z => sp (List.mem_singleton.mp z).symm), frm_to Fg fs (.inr hse), by rw [upd_same, List.map_append], ?_, by rw [upd_ne nsf.symm]; exact hfog⟩
        rw [snM_succ]
        exact pd_app (pd_imp (fun c m w => up w) pcsg) (pd_imp (fun c m w => up w) pcs2)
      rintro σ H9 ⟨u8, u9, u10, u11, cs, rfl, X9, hp9, F9, hs9, pcs, hfo9⟩
      have hd9 := hd4.frm2 hp4 X4.isD F9
      have pcs : Paired (fun c (m : Int × Int) => H9 c = some (.tup [.int m.1, .int m.2])) cs (snM g i (placesF (csF g i)).length) := by
        rw [List.length_map, List.length_range] at pcs
        rw [placesF_length]
        exact pcs
      obtain ⟨ks, e1, e2, hks⟩ := pd_zipk (K := K) pcs
      have ecs : cs.map V.ref = ks.map fun q => V.ref q.1 := by rw [← e1, List.map_map]; rfl
      have two : ∀ q ∈ ks, q.2.length = 2 := fun q hq => by
        have : q.2 ∈ ks.map (·.2) := List.mem_map.mpr ⟨q, hq, rfl⟩
        rw [e2] at this
        obtain ⟨m, _, e⟩ := List.mem_map.mp this
        rw [← e]
        rfl
      refine ⟨_, rfl, se, ks, rfl, SqL.of (by rw [← ecs]; exact hs9), hks, few_nine e2 (fun m hm => snM_sub hm), fun sa L sa0 sub all => ?_⟩
      have ea := Ext.upd (o := SetTO P w sa L) sa0
      have hsa : (upd H9 sa (SetTO P w sa L)) sa = some (SetTO P w sa L) := upd_same
      refine ⟨sa, L, rfl, hsa, fun q hq => SqT.ext (hks q (sub q hq)) ea, fun q hq => two q (sub q hq), fun L' pp pm nd pw pp0 => ?_⟩
      have eb := Ext.upd (o := .lst (L'.map fun q => V.ref q.1)) pp0
      have hpp : (upd (upd H9 sa (SetTO P w sa L)) pp (.lst (L'.map fun q => V.ref q.1))) pp = some (.lst (L'.map fun q => V.ref q.1)) := upd_same
      have enine := nine_sorted e2 (fun m hm => snM_sub hm) (fun m hm => snM_all (gpos ok) hi m hm) sub all pm nd pw
      refine ⟨rfl, fun ml Hc ec hml => ?_⟩
      have smm := (sm_dqM (k := 1) (ms := mvL) (by decide) mvL_sm).shaped (by decide)
      refine ⟨dqM_ mvL, dqM_ mvL, dp_sorted (ec _ _ hpp) enine (fun q hq => SqT.ext (hks q (sub q (pm.mem_iff.mp hq))) ((ea.trans eb).trans ec)), dp_msat hml, smm, smm, ?_⟩
      rw [SeqAt.eqv_refl _ (sm_dqM (k := 1) (ms := mvL) (by decide) mvL_sm).ok.c]
      refine ⟨_, rfl, ite2 (fun hz => absurd hz (by decide)) (fun _ => ?_)⟩
      have e9c := (ea.trans eb).trans ec
      exact ⟨_, _, _, _, _, _, _, _, rfl, (X9.ext e9c).weak fun _ w => .inl w, hp9.frm (M := []) (Frm.ext e9c) (fun z => nomatch z), hd9.ext e9c, fun x o w n => (F9.trans (Frm.ext e9c)) _ _ (F4 _ _ w n) (fun m => n (by simp only [List.mem_cons, List.not_mem_nil, or_false] at m ⊢; exact m.elim .inl fun z => .inr (.inr z)))⟩
    rintro σ H9 ⟨u4, u5, u6, u7, u8, u9, u10, u11, rfl, X9, hp9, hd9, F9⟩
    refine k H9 (fun x o w n => F9 _ _ w fun m => ?_)
    simp only [List.mem_cons, List.not_mem_nil, or_false] at m
    rcases m with m | m | m
    · exact n (List.mem_singleton.mpr m)
    · rw [m, a0] at w; cases w
    · rw [m, d0] at w; cases w
theorem sc_law : FnScope ["_law_script", "_law_k"] ["_law_script"] (defScope s_law) := ⟨rfl, rfl, rfl, by decide +kernel, rfl, by decide +kernel, by decide +kernel⟩
theorem ext_frm {H H1 H2 : Hp} {q : Addr} (e : Ext H H1) (f : Frm [q] H1 H2) (hq : H q = none) : Ext H H2 := fun a o z => f a o (e a o z) fun m => by
  rw [List.mem_singleton.mp m, hq] at z
  cases z
theorem span (n : Int) : 1 ≤ (if (if 3 < n then 3 else n) > 1 then (if 3 < n then 3 else n) else 1) ∧ (if (if 3 < n then 3 else n) > 1 then (if 3 < n then 3 else n) else 1) ≤ 3 := by
  constructor <;> (split <;> split <;> omega)
theorem ok_law (F : FunD K "law" "law" (defArgs s_law) (defBody s_law) (defScope s_law) [] [] f fd) (T : TB mg) {fpot : Addr} {fdpot : FuncData} (Dpot : Gd P w K mg base "_law_pot" 1 ["_law_script", "_law_k"] (spPot K) fpot fdpot) {fright : Addr} {fdright : FuncData} (Dright : Gg P w K mg base "_law_right" 13 ["_law_pot_here"] (spRight6) fright fdright) : FnOkG P w K mg base CX0 14 f fd ["_law_script"] (spLaw K) := by
  refine okG F sc_law (fun vs H Q E h => ?_) (fun cdv A outer s H vs Q E hr h => ?_)
  · obtain ⟨l, ns, rfl, hl, k⟩ := h
    rfl
  · obtain ⟨l, ns, rfl, hl, k⟩ := h
    refine ⟨_, (pss_one (ps_ret (pe_callB (cr_all rfl) (by rfl) T.all (by decide +kernel) (pa_cons (pe_lc (own := [("_law_k", 1)]) (g := gName 1) (tt := tYes) rfl sc_law.nd (pi_range1 (by rfl) T.range (pa_cons (pe_callB (call_max2 rfl) (by rfl) T.max (by decide +kernel) (pa_cons pe_int (pa_cons (pe_callB (call_min2 rfl) (by rfl) T.min (by decide +kernel) (pa_cons (pe_callB call_len_seq (by rfl) T.len PySem.boot_len (pa_cons (pv 0) pa_nil)) (pa_cons pe_int pa_nil))) pa_nil))) pa_nil)) (blkOk_by (own := [("_law_k", 1)]) (N := ["_law_script", "_law_k"]) (sc := defScope s_law) (by decide +kernel)) (fun _ _ _ _ _ => (pg_name (i := 1) sc_law.nd rfl (.inl rfl))) (fun _ _ _ _ _ => pts_nil) (fun _ _ _ _ _ => (pe_gg Dright hr (by decide) (by rfl) (pa_cons (pe_gd Dpot hr.room (by decide) (by rfl) (pa_cons (pv 0) (pa_cons (pv 1) pa_nil))) pa_nil)))) pa_nil)))), ?_⟩
    refine ⟨_, rfl, l, _, rfl, .inl hl, _, _, rfl, _, _, rfl, _, rfl, Int.le_trans (by decide) (span _).1, Int.lt_of_le_of_lt (span _).2 (by decide), fun D hD => lc_walk (walk_r (lo := 0)) (fun i H' => H' D = some (.lst (List.replicate i (.bl true))) ∧ Ext H H') ⟨upd_same, Ext.upd hD⟩ (fun _ _ _ => trivial) ?_ ?_⟩
    · rintro i x H' hx ⟨hD2, e⟩
      obtain ⟨hi, rfl⟩ := range_get hx
      have hs := (span ((List.map V.int ns).length : Int)).2
      have hi4 : i < 64 := Nat.lt_of_lt_of_le hi (Nat.le_trans (Int.toNat_le.mpr hs) (by decide))
      refine ⟨rfl, lc_yes ⟨_, rfl, _, rfl, l, ns, i, rfl, hl.ext e, hi4, fun q H1 hq F1 hp1 => ?_⟩⟩
      have e1 : Ext H' H1 := fun a o z => F1 a o z (fun m => nomatch m)
      refine ⟨q, rfl, hp1, fun H3 F3 => ?_⟩
      have e3 := ext_frm e1 F3 hq
      refine ⟨_, e3 _ _ hD2, by rw [List.length_replicate, sizeLine_eq]; omega, ?_, ext_put (e.trans e3) hD⟩
      rw [upd_same, rep_put]
    · rintro H2 ⟨hD2, e⟩
      obtain ⟨N, hN⟩ : ∃ N, H2 D = some (.lst (List.replicate N (.bl true))) := ⟨_, hD2⟩
      refine ⟨D, List.replicate N true, rfl, SqL.of (by rw [hN, List.map_replicate]), ?_⟩
      rw [all_rep]
      exact k H2
end
end Mc

set_option Elab.async false
set_option linter.all false
set_option maxRecDepth 100000
set_option maxHeartbeats 4000000
set_option exponentiation.threshold 20000
namespace Mc
open PySem PySem.Spec PyProof.Rows L2 ClX StX
open RZ
section
variable {P : Program} {w : World} {K : PySem.W.Frag} {mg : Str → Option Value} {base : Heap} {f U0 kX M0 R0 C0 aX mX : Addr} {mas : List Addr} {mc : Value} {fd : FuncData}
theorem sc_Ratio___add : FnScope ["self", "other", "number", "top"] ["self", "other"] (defScope s_Ratio___add) := ⟨rfl, rfl, rfl, by decide +kernel, rfl, by decide +kernel, by decide +kernel⟩
theorem ok_Ratio___add (F : FunD K "__add__" "Ratio.__add__" (defArgs s_Ratio___add) (defBody s_Ratio___add) (defScope s_Ratio___add) [] [] f fd) (T : TB mg) (RQ : RatT K mg R0) {p_Ratio_top f_Ratio_top : Addr} {fd_Ratio_top : FuncData} (m_Ratio_top : PropOf K R0 "top" p_Ratio_top f_Ratio_top) (g_Ratio_top : FnOk P w K mg base CX0 1 f_Ratio_top fd_Ratio_top ["self"] (spTopR R0)) (b_Ratio_top : Binds K fd_Ratio_top ["self"] []) {p_Ratio_bottom f_Ratio_bottom : Addr} {fd_Ratio_bottom : FuncData} (m_Ratio_bottom : PropOf K R0 "bottom" p_Ratio_bottom f_Ratio_bottom) (g_Ratio_bottom : FnOk P w K mg base CX0 1 f_Ratio_bottom fd_Ratio_bottom ["self"] (spBotR R0)) (b_Ratio_bottom : Binds K fd_Ratio_bottom ["self"] []) {fas_ratio : Addr} {fdas_ratio : FuncData} (Das_ratio : Gd P w K mg base "as_ratio" 4 ["value"] (spAsR R0) fas_ratio fdas_ratio) {fI : Addr} {fdI : FuncData} {dsI : List Value} (MI : Mk K R0 fI) (GI : FnOk P w K mg base CX0 2 fI fdI ["self", "top", "bottom"] (spInitR R0)) (bI2 : Binds K fdI ["self", "top", "bottom"] []) (hdI : Vals [.int 1] dsI) (bI1 : Binds K fdI ["self", "top", "bottom"] dsI) : FnOk P w K mg base CX0 5 f fd ["self", "other"] (spAddR R0) := by
  refine F.ok sc_Ratio___add (fun vs H Q E h => ?_) (fun cdv A outer s H vs Q E hr h => ?_)
  · obtain ⟨p, x, a, b, c, d, m1, m2, rfl, hp, hx, za, zb, zc, zd, hm1, hm2, hmm, k⟩ := h
    rfl
  · obtain ⟨p, x, a, b, c, d, m1, m2, rfl, hp, hx, za, zb, zc, zd, hm1, hm2, hmm, k⟩ := h
    refine ⟨_, (PSs.nox (pss_cons (ps_set (i := 2) sc_Ratio___add.nd rfl (.inl rfl) (pe_gd Das_ratio hr (by decide) (by rfl) (pa_cons (pv 1) pa_nil)))
      (pss_cons (ps_set (i := 3) sc_Ratio___add.nd rfl (.inl rfl) (pe_op op_add (pe_op op_mulW (pe_fld (pv 0) rfl) (pe_prop (pv 2) RQ.cl m_Ratio_bottom g_Ratio_bottom (hr.mono (by decide)) b_Ratio_bottom .nil pass0 rfl)) (pe_op op_mulW (pe_prop (pv 2) RQ.cl m_Ratio_top g_Ratio_top (hr.mono (by decide)) b_Ratio_top .nil pass0 rfl) (pe_fld (pv 0) rfl))))
      (pss_one (ps_ret (pe_make MI GI (hr.mono (by decide)) (by rfl) RQ.mgR bI2 .nil pass0 (pa_cons (pv 3) (pa_cons (pe_op op_mulW (pe_fld (pv 0) rfl) (pe_prop (pv 2) RQ.cl m_Ratio_bottom g_Ratio_bottom (hr.mono (by decide)) b_Ratio_bottom .nil pass0 rfl)) pa_nil)))))))), ?_⟩
    refine ⟨_, rfl, x, c, d, rfl, hx, fun q H1 e1 hq => ?_⟩
    obtain ⟨hb, dx, hp1⟩ := hp.ext e1
    obtain ⟨hd, dq, hq1⟩ := id hq
    have l1 := red_le a b
    have l2 := red_le c d
    have za1 := b4000 za l1.1
    have zb1 := b4000 zb l1.2
    have zc1 := b4000 zc l2.1
    have zd1 := b4000 zd l2.2

    have q1 : redD a b * redD c d ≠ 0 := Int.mul_ne_zero (by have := redD_pos (a := a) (b := b) (by omega); omega) (by have := redD_pos (a := c) (b := d) (by omega); omega)
    have q2 : (redD a b * redD c d).natAbs < 2 ^ 8000 := Nat.lt_of_lt_of_le (wide_lt zb1 zd1) (Nat.pow_le_pow_right (by decide) hmm)
    refine ⟨_, rfl, p, R0, dx, _, _, rfl, hp1, RQ.cl, RQ.nT, fl_top _ _, _, rfl, q, dq, _, rfl, hq1, q, _, _, rfl, ⟨dq, hq1⟩, _, _, rfl, rfl, (mulW za1 zd1 hm1 hm2 (by omega)), _, rfl, q, dq, _, rfl, hq1, q, _, _, rfl, ⟨dq, hq1⟩, _, rfl, p, R0, dx, _, _, rfl, hp1, RQ.cl, RQ.nB, fl_bottom _ _, _, _, rfl, rfl, (mulW zc1 zb1 hm2 hm1 (by omega)), _, _, rfl, rfl, _, rfl, ?_⟩
    refine ⟨_, rfl, p, R0, dx, _, _, rfl, hp1, RQ.cl, RQ.nB, fl_bottom _ _, _, rfl, q, dq, _, rfl, hq1, q, _, _, rfl, ⟨dq, hq1⟩, _, _, rfl, rfl, (mulW zb1 zd1 hm1 hm2 (by omega)), ?_⟩
    refine fun x dx hx hdx ne => ⟨x, dx, _, _, rfl, upd_same, q1, q2, fun H' F1 h1 => ⟨rfl, ?_⟩⟩
    obtain ⟨m1, m2⟩ := red_addR (a := a) (c := c) hb hd
    exact k x H' (e1.trans (made_ext hx hdx F1)) ⟨Int.mul_pos hb hd, dx, by rw [h1, m1, m2]⟩
end
end Mc

set_option Elab.async false
set_option linter.all false
set_option maxRecDepth 100000
set_option maxHeartbeats 4000000
namespace Mc
open PySem PySem.Spec PyProof.Rows L2
open PySem.W (Frag)
open He (ga ba)
theorem tupAB_ok {a : Addr} {vs : List V} {K : Frag} (e : tupAB a vs K = true) : ∀ H, SqT K H a vs := by
  unfold tupAB at e
  cases q : K.lookup a with
  | none => rw [q] at e; cases e
  | some o =>
    obtain ⟨oc, od, dt, osl⟩ := o
    rw [q] at e
    cases oc with
    | type c => cases od with
      | none => cases dt with
        | seq its n =>
          obtain ⟨h1, h2⟩ := ba (show (decide (c = "tuple") && (decide (its.size ≤ sizeLine) && He.relAll vs its.toList)) = true from e)
          obtain ⟨h3, h4⟩ := ba h2
          have hc : c = "tuple" := of_decide_eq_true h1
          subst hc
          exact fun H => .inr ⟨_, its, n, q, rfl, rfl, of_decide_eq_true h3, He.relAll_ok h4⟩
        | _ => cases e
      | some a => cases dt <;> cases e
    | _ => cases od <;> cases dt <;> cases e
theorem pd_of_zip {α β : Type} {F : α → β → Prop} : ∀ {as : List α} {bs : List β}, as.length = bs.length → (∀ q ∈ as.zip bs, F q.1 q.2) → Paired F as bs
  | [], [], _, _ => .nil
  | a :: as, b :: bs, l, h => .cons (h (a, b) List.mem_cons_self) (pd_of_zip (by simpa using l) fun q hq => h q (List.mem_cons_of_mem _ hq))
theorem movB_ok {K : Frag} {mg : Str → Option Value} (g : mg "MOVES" = some (.ref (ga K "MOVES"))) (e : movB K = true) : MovT K mg (ga K "MOVES") (mvA K) := by
  obtain ⟨h1, h2⟩ := ba e
  obtain ⟨h3, h4⟩ := ba h2
  exact ⟨g, tupAB_ok h1, pd_of_zip (by rw [of_decide_eq_true h3]; rfl) fun q hq => tupAB_ok (List.all_eq_true.mp h4 q hq)⟩
end Mc

set_option Elab.async false
set_option linter.all false
set_option maxRecDepth 100000
set_option maxHeartbeats 4000000
set_option exponentiation.threshold 20000
namespace Mc
open PySem PySem.Spec PyProof.Rows L2 He
/-- Ratio's __init__: the bottom by default, or given -/
theorem bind_d1 {K : PySem.W.Frag} {f : Addr} {fd : FuncData} (F : FunD K "__init__" "Ratio.__init__" (defArgs s_Ratio___init) (defBody s_Ratio___init) (defScope s_Ratio___init) [.int 1] [] f fd) : ∃ ds, Vals [V.int 1] ds ∧ Binds K fd ["self", "top", "bottom"] ds :=
  F.binds1 (ps := ["self", "top", "bottom"]) 2 0 (by simp) rfl fun _ _ _ _ _ _ _ us its h1 h2 => match us, h1, its, h2 with | [_, _], _, [_], _ => ⟨_, rfl, rfl⟩
theorem bind_d2 {K : PySem.W.Frag} {f : Addr} {fd : FuncData} (F : FunD K "__init__" "Ratio.__init__" (defArgs s_Ratio___init) (defBody s_Ratio___init) (defScope s_Ratio___init) [.int 1] [] f fd) : Binds K fd ["self", "top", "bottom"] [] := by
  obtain ⟨d0, v0, bI⟩ := F.binds1 (ps := ["self", "top", "bottom"]) 3 1 (by simp) rfl fun _ _ _ _ _ _ _ us its h1 h2 => match us, h1, its, h2 with | [_, _, _], _, [_], _ => ⟨_, rfl, rfl⟩
  cases v0
  exact bI
section
variable {P : Program} {w : World} {K : PySem.W.Frag} {mg : Str → Option Value} {base h : Heap}
open PySem.W (Frag)
theorem all_law {fa : Addr} (X : K.In h) (G : h.Ns mainGlobals mg) (hfa : mg "law" = some (.ref fa)) (c : SaysP fcts dfs K) :
    ∃ fd : FuncData, (∀ (s : Shared) (v : Value), BindsTo s fd ⟨[v], []⟩ [("_law_script", v)]) ∧ ∀ base : Heap, K.In base → base.Ns mainGlobals mg → FnOkG P w K mg base CX0 14 fa fd ["_law_script"] (spLaw K) := by
  have R : PlanT K mg (ga K "Plan") (ga K "AXES") (.type "type") := ⟨clsB_ok (c.fact 0), noatB_ok (c.fact 1), noatB_ok (c.fact 2), noatB_ok (c.fact 3), noatB_ok (c.fact 4), gloB_ok X G (c.fact 5), intB_ok X G (c.fact 6), intB_ok X G (c.fact 7), intB_ok X G (c.fact 8), gloB_ok X G (c.fact 9), (tupPB_ok (c.fact 10)).1, (tupPB_ok (c.fact 10)).2, crdB_ok (c.fact 11), cvB_ok (c.fact 12), cvB_ok (c.fact 13), cvB_ok (c.fact 14)⟩
  have RE : PlanE K (ga K "Plan") := ⟨of_decide_eq_true (c.fact 17), of_decide_eq_true (c.fact 18), of_decide_eq_true (c.fact 19), of_decide_eq_true (c.fact 20), of_decide_eq_true (c.fact 21), of_decide_eq_true (c.fact 22), fun x hx => of_decide_eq_true (List.all_eq_true.mp (c.fact 15) x hx), fun x hx => List.all_eq_true.mp (c.fact 16) x hx⟩
  have RQ : RatT K mg (ga K "Ratio") := ⟨clsB_ok (c.fact 23), noatB_ok (c.fact 24), noatB_ok (c.fact 25), gloB_ok X G (c.fact 26), blB_ok X G (c.fact 27), of_decide_eq_true (c.fact 28), of_decide_eq_true (c.fact 18), of_decide_eq_true (c.fact 19), of_decide_eq_true (c.fact 29), of_decide_eq_true (c.fact 30), of_decide_eq_true (c.fact 31), of_decide_eq_true (c.fact 32), of_decide_eq_true (c.fact 33), of_decide_eq_true (c.fact 34)⟩
  have RM : MapT K mg (ga K "Map") := ⟨clsB_ok (c.fact 35), noatB_ok (c.fact 36), noatB_ok (c.fact 37), noatB_ok (c.fact 38), noatB_ok (c.fact 39), gloB_ok X G (c.fact 40), of_decide_eq_true (c.fact 41), of_decide_eq_true (c.fact 18), of_decide_eq_true (c.fact 19), of_decide_eq_true (c.fact 42), of_decide_eq_true (c.fact 43), of_decide_eq_true (c.fact 44)⟩
  have RU : GaugeT K mg (ga K "Gauge") (ga K "KINDS") := ⟨clsB_ok (c.fact 45), noatB_ok (c.fact 46), noatB_ok (c.fact 47), noatB_ok (c.fact 48), noatB_ok (c.fact 49), noatB_ok (c.fact 50), gloB_ok X G (c.fact 51), gloB_ok X G (c.fact 52), (tupPB_ok (c.fact 53)).1, (tupPB_ok (c.fact 53)).2⟩
  have RV : MovT K mg (ga K "MOVES") (mvA K) := movB_ok (gloB_ok X G (c.fact 54)) (c.fact 55)
  have tSorted : mg "sorted" = none := freeB_ok X G (c.fact 56)
  have tSet : mg "set" = none := freeB_ok X G (c.fact 57)
  have tDict : mg "dict" = none := freeB_ok X G (c.fact 58)
  have T : TB mg := tbB_ok X G (c.fact 59)
  have hL : mg "law" = some (.ref (ga K "law")) := gloB_ok X G (c.fact 147)
  have e := hfa.symm.trans hL
  cases e
  obtain ⟨fdl, Fl⟩ : ∃ fd, FD K "law" "law" s_law (gAt "law" K) fd := c.def_ 85 (d := ⟨gAt "law", "law", "law", s_law, []⟩) rfl
  refine ⟨fdl, fun s v => Fl.bindsA (ps := ["_law_script"]) (fun _ _ _ _ _ _ us hl => match us, hl with | [_], _ => rfl) s [v] rfl, fun base hK hG => ?_⟩
  obtain ⟨fd__law_pot, F__law_pot⟩ : ∃ fd, FD K "_law_pot" "_law_pot" sPot (gAt "_law_pot" K) fd := c.def_ 0 (d := ⟨gAt "_law_pot", "_law_pot", "_law_pot", sPot, []⟩) rfl
  have Dpot : Gd P w K mg base "_law_pot" 1 ["_law_script", "_law_k"] (spPot K) (gAt "_law_pot" K) fd__law_pot := ⟨gloB_ok X G (c.fact 60), F__law_pot.kp, F__law_pot.bindsN fun _ _ _ _ _ _ us hl => match us, hl with | [_, _], _ => rfl, ok_pot F__law_pot.fun T⟩
  obtain ⟨fd__law_draw, F__law_draw⟩ : ∃ fd, FD K "_law_draw" "_law_draw" sDraw (gAt "_law_draw" K) fd := c.def_ 1 (d := ⟨gAt "_law_draw", "_law_draw", "_law_draw", sDraw, []⟩) rfl
  have Ddraw : Gd P w K mg base "_law_draw" 1 ["_law_pot_here", "_law_size"] (spDraw) (gAt "_law_draw" K) fd__law_draw := ⟨gloB_ok X G (c.fact 61), F__law_draw.kp, F__law_draw.bindsN fun _ _ _ _ _ _ us hl => match us, hl with | [_, _], _ => rfl, ok_draw F__law_draw.fun T.divmod T.int⟩
  obtain ⟨fd__law_pick, F__law_pick⟩ : ∃ fd, FD K "_law_pick" "_law_pick" sPick (gAt "_law_pick" K) fd := c.def_ 2 (d := ⟨gAt "_law_pick", "_law_pick", "_law_pick", sPick, []⟩) rfl
  have Dpick : Gd P w K mg base "_law_pick" 2 ["_law_pot_here", "_law_some"] (spPick) (gAt "_law_pick" K) fd__law_pick := ⟨gloB_ok X G (c.fact 62), F__law_pick.kp, F__law_pick.bindsN fun _ _ _ _ _ _ us hl => match us, hl with | [_, _], _ => rfl, ok_pick F__law_pick.fun Ddraw T.len⟩
  obtain ⟨fd__law_rounds, F__law_rounds⟩ : ∃ fd, FD K "_law_rounds" "_law_rounds" s_rounds (gAt "_law_rounds" K) fd := c.def_ 3 (d := ⟨gAt "_law_rounds", "_law_rounds", "_law_rounds", s_rounds, []⟩) rfl
  have Drounds : Gd P w K mg base "_law_rounds" 3 ["_law_pot_here"] (spRounds5) (gAt "_law_rounds" K) fd__law_rounds := ⟨gloB_ok X G (c.fact 63), F__law_rounds.kp, F__law_rounds.bindsN fun _ _ _ _ _ _ us hl => match us, hl with | [_], _ => rfl, ok_rounds F__law_rounds T Ddraw Dpick⟩
  obtain ⟨fd__law_length, F__law_length⟩ : ∃ fd, FD K "_law_length" "_law_length" s_length (gAt "_law_length" K) fd := c.def_ 4 (d := ⟨gAt "_law_length", "_law_length", "_law_length", s_length, []⟩) rfl
  have Dlength : Gd P w K mg base "_law_length" 3 ["_law_pot_here"] (spLength5) (gAt "_law_length" K) fd__law_length := ⟨gloB_ok X G (c.fact 64), F__law_length.kp, F__law_length.bindsN fun _ _ _ _ _ _ us hl => match us, hl with | [_], _ => rfl, ok_length F__law_length T Ddraw Dpick⟩
  obtain ⟨fd__law_reach, F__law_reach⟩ : ∃ fd, FD K "_law_reach" "_law_reach" s_reach (gAt "_law_reach" K) fd := c.def_ 5 (d := ⟨gAt "_law_reach", "_law_reach", "_law_reach", s_reach, []⟩) rfl
  have Dreach : Gd P w K mg base "_law_reach" 3 ["_law_pot_here"] (spReach5) (gAt "_law_reach" K) fd__law_reach := ⟨gloB_ok X G (c.fact 65), F__law_reach.kp, F__law_reach.bindsN fun _ _ _ _ _ _ us hl => match us, hl with | [_], _ => rfl, ok_reach F__law_reach T Ddraw Dpick⟩
  obtain ⟨fd__law_model, F__law_model⟩ : ∃ fd, FD K "_law_model" "_law_model" s_model (gAt "_law_model" K) fd := c.def_ 6 (d := ⟨gAt "_law_model", "_law_model", "_law_model", s_model, []⟩) rfl
  have Dmodel : Gd P w K mg base "_law_model" 4 ["_law_pot_here"] (spModel5) (gAt "_law_model" K) fd__law_model := ⟨gloB_ok X G (c.fact 66), F__law_model.kp, F__law_model.bindsN fun _ _ _ _ _ _ us hl => match us, hl with | [_], _ => rfl, ok_model F__law_model T Ddraw Dpick Drounds Dlength Dreach⟩
  obtain ⟨fd_is_int, F_is_int⟩ : ∃ fd, FD K "is_int" "is_int" s_is_int (gAt "is_int" K) fd := c.def_ 7 (d := ⟨gAt "is_int", "is_int", "is_int", s_is_int, []⟩) rfl
  have Dis_int : Gd P w K mg base "is_int" 1 ["value"] (spIsInt) (gAt "is_int" K) fd_is_int := ⟨gloB_ok X G (c.fact 67), F_is_int.kp, F_is_int.bindsN fun _ _ _ _ _ _ us hl => match us, hl with | [_], _ => rfl, ok_is_int F_is_int T ⟩
  obtain ⟨fd_Ratio___init__, F_Ratio___init__⟩ : ∃ fd, FunD K "__init__" "Ratio.__init__" (defArgs s_Ratio___init) (defBody s_Ratio___init) (defScope s_Ratio___init) [.int 1] [] (mAt "Ratio" "__init__" K) fd := c.def_ 8 (d := ⟨mAt "Ratio" "__init__", "__init__", "Ratio.__init__", s_Ratio___init, [.int 1]⟩) rfl
  have MI : Mk K (ga K "Ratio") (mAt "Ratio" "__init__" K) := mkB_ok (c.fact 68)
  have GI : FnOk P w K mg base CX0 2 (mAt "Ratio" "__init__" K) fd_Ratio___init__ ["self", "top", "bottom"] (spInitR (ga K "Ratio")) := ok_Ratio___init F_Ratio___init__ T RQ Dis_int
  obtain ⟨dsI, hdI, bI1⟩ := bind_d1 F_Ratio___init__
  have bI2 := bind_d2 F_Ratio___init__
  obtain ⟨fd__law_passed, F__law_passed⟩ : ∃ fd, FD K "_law_passed" "_law_passed" s_passed (gAt "_law_passed" K) fd := c.def_ 9 (d := ⟨gAt "_law_passed", "_law_passed", "_law_passed", s_passed, []⟩) rfl
  have Dpassed : Gd P w K mg base "_law_passed" 4 ["_law_pot_here", "_law_pair"] (spPassed5 (ga K "Ratio")) (gAt "_law_passed" K) fd__law_passed := ⟨gloB_ok X G (c.fact 69), F__law_passed.kp, F__law_passed.bindsN fun _ _ _ _ _ _ us hl => match us, hl with | [_, _], _ => rfl, ok_passed F__law_passed T RQ Ddraw MI GI bI2 hdI bI1⟩
  obtain ⟨fd_is_list, F_is_list⟩ : ∃ fd, FD K "is_list" "is_list" s_is_list (gAt "is_list" K) fd := c.def_ 10 (d := ⟨gAt "is_list", "is_list", "is_list", s_is_list, []⟩) rfl
  have Dis_list : Gd P w K mg base "is_list" 1 ["value"] (spIsList K) (gAt "is_list" K) fd_is_list := ⟨gloB_ok X G (c.fact 70), F_is_list.kp, F_is_list.bindsN fun _ _ _ _ _ _ us hl => match us, hl with | [_], _ => rfl, ok_is_list F_is_list T ⟩
  obtain ⟨fd_is_tuple_of, F_is_tuple_of⟩ : ∃ fd, FD K "is_tuple_of" "is_tuple_of" s_is_tuple_of (gAt "is_tuple_of" K) fd := c.def_ 11 (d := ⟨gAt "is_tuple_of", "is_tuple_of", "is_tuple_of", s_is_tuple_of, []⟩) rfl
  have Dis_tuple_of : Gd P w K mg base "is_tuple_of" 1 ["value", "many"] (spTupOf) (gAt "is_tuple_of" K) fd_is_tuple_of := ⟨gloB_ok X G (c.fact 71), F_is_tuple_of.kp, F_is_tuple_of.bindsN fun _ _ _ _ _ _ us hl => match us, hl with | [_, _], _ => rfl, ok_is_tuple_of F_is_tuple_of T ⟩
  obtain ⟨fd_is_axis, F_is_axis⟩ : ∃ fd, FD K "is_axis" "is_axis" s_is_axis (gAt "is_axis" K) fd := c.def_ 12 (d := ⟨gAt "is_axis", "is_axis", "is_axis", s_is_axis, []⟩) rfl
  have Dis_axis : Gd P w K mg base "is_axis" 1 ["value"] (spAxis) (gAt "is_axis" K) fd_is_axis := ⟨gloB_ok X G (c.fact 72), F_is_axis.kp, F_is_axis.bindsN fun _ _ _ _ _ _ us hl => match us, hl with | [_], _ => rfl, ok_is_axis F_is_axis T R⟩
  obtain ⟨fd__is_parts, F__is_parts⟩ : ∃ fd, FD K "_is_parts" "_is_parts" s_is_parts (gAt "_is_parts" K) fd := c.def_ 13 (d := ⟨gAt "_is_parts", "_is_parts", "_is_parts", s_is_parts, []⟩) rfl
  have Dis_parts : Gd P w K mg base "_is_parts" 2 ["value"] (spParts) (gAt "_is_parts" K) fd__is_parts := ⟨gloB_ok X G (c.fact 73), F__is_parts.kp, F__is_parts.bindsN fun _ _ _ _ _ _ us hl => match us, hl with | [_], _ => rfl, ok_is_parts F__is_parts T R Dis_int⟩
  obtain ⟨fd__is_cut, F__is_cut⟩ : ∃ fd, FD K "_is_cut" "_is_cut" s_is_cut (gAt "_is_cut" K) fd := c.def_ 14 (d := ⟨gAt "_is_cut", "_is_cut", "_is_cut", s_is_cut, []⟩) rfl
  have Dis_cut : Gd P w K mg base "_is_cut" 3 ["value"] (spCut) (gAt "_is_cut" K) fd__is_cut := ⟨gloB_ok X G (c.fact 74), F__is_cut.kp, F__is_cut.bindsN fun _ _ _ _ _ _ us hl => match us, hl with | [_], _ => rfl, ok_is_cut F__is_cut T Dis_tuple_of Dis_axis Dis_parts⟩
  obtain ⟨fd__is_cuts, F__is_cuts⟩ : ∃ fd, FD K "_is_cuts" "_is_cuts" s_is_cuts (gAt "_is_cuts" K) fd := c.def_ 15 (d := ⟨gAt "_is_cuts", "_is_cuts", "_is_cuts", s_is_cuts, []⟩) rfl
  have Dis_cuts : Gd P w K mg base "_is_cuts" 4 ["value"] (spCuts K) (gAt "_is_cuts" K) fd__is_cuts := ⟨gloB_ok X G (c.fact 75), F__is_cuts.kp, F__is_cuts.bindsN fun _ _ _ _ _ _ us hl => match us, hl with | [_], _ => rfl, ok_is_cuts F__is_cuts T R Dis_list Dis_cut⟩
  obtain ⟨fd__within, F__within⟩ : ∃ fd, FD K "_within" "_within" s_within (gAt "_within" K) fd := c.def_ 16 (d := ⟨gAt "_within", "_within", "_within", s_within, []⟩) rfl
  have Dwithin : Gd P w K mg base "_within" 1 ["place", "axis", "parts", "part"] (spWithin) (gAt "_within" K) fd__within := ⟨gloB_ok X G (c.fact 76), F__within.kp, F__within.bindsN fun _ _ _ _ _ _ us hl => match us, hl with | [_, _, _, _], _ => rfl, ok_within F__within T ⟩
  obtain ⟨fd__places_of, F__places_of⟩ : ∃ fd, FD K "_places_of" "_places_of" s_places_of (gAt "_places_of" K) fd := c.def_ 17 (d := ⟨gAt "_places_of", "_places_of", "_places_of", s_places_of, []⟩) rfl
  have Dplaces_of : Gd P w K mg base "_places_of" 2 ["cuts"] (spPlaces K) (gAt "_places_of" K) fd__places_of := ⟨gloB_ok X G (c.fact 77), F__places_of.kp, F__places_of.bindsN fun _ _ _ _ _ _ us hl => match us, hl with | [_], _ => rfl, ok_places_of F__places_of T Dwithin⟩
  obtain ⟨fd__parts_of, F__parts_of⟩ : ∃ fd, FD K "_parts_of" "_parts_of" s_parts_of (gAt "_parts_of" K) fd := c.def_ 18 (d := ⟨gAt "_parts_of", "_parts_of", "_parts_of", s_parts_of, []⟩) rfl
  have Dparts_of : Gd P w K mg base "_parts_of" 3 ["cuts"] (spPartsOf K) (gAt "_parts_of" K) fd__parts_of := ⟨gloB_ok X G (c.fact 78), F__parts_of.kp, F__parts_of.bindsN fun _ _ _ _ _ _ us hl => match us, hl with | [_], _ => rfl, ok_parts_of F__parts_of T Dplaces_of⟩
  obtain ⟨fd__multiplied, F__multiplied⟩ : ∃ fd, FD K "_multiplied" "_multiplied" s_multiplied (gAt "_multiplied" K) fd := c.def_ 19 (d := ⟨gAt "_multiplied", "_multiplied", "_multiplied", s_multiplied, []⟩) rfl
  have Dmultiplied : Gd P w K mg base "_multiplied" 1 ["all_parts"] (spMul K) (gAt "_multiplied" K) fd__multiplied := ⟨gloB_ok X G (c.fact 79), F__multiplied.kp, F__multiplied.bindsN fun _ _ _ _ _ _ us hl => match us, hl with | [_], _ => rfl, ok_multiplied F__multiplied T ⟩
  obtain ⟨fd__check_rounds, F__check_rounds⟩ : ∃ fd, FD K "_check_rounds" "_check_rounds" s_check_rounds (gAt "_check_rounds" K) fd := c.def_ 20 (d := ⟨gAt "_check_rounds", "_check_rounds", "_check_rounds", s_check_rounds, []⟩) rfl
  have Dcheck_rounds : Gd P w K mg base "_check_rounds" 5 ["rounds"] (spCheck K) (gAt "_check_rounds" K) fd__check_rounds := ⟨gloB_ok X G (c.fact 80), F__check_rounds.kp, F__check_rounds.bindsN fun _ _ _ _ _ _ us hl => match us, hl with | [_], _ => rfl, ok_check_rounds F__check_rounds T R Dis_cuts Dparts_of Dmultiplied⟩
  obtain ⟨fd__plain_cuts, F__plain_cuts⟩ : ∃ fd, FD K "_plain_cuts" "_plain_cuts" s_plain_cuts (gAt "_plain_cuts" K) fd := c.def_ 21 (d := ⟨gAt "_plain_cuts", "_plain_cuts", "_plain_cuts", s_plain_cuts, []⟩) rfl
  have Dplain_cuts : Gd P w K mg base "_plain_cuts" 1 ["cuts"] (spPlain K) (gAt "_plain_cuts" K) fd__plain_cuts := ⟨gloB_ok X G (c.fact 81), F__plain_cuts.kp, F__plain_cuts.bindsN fun _ _ _ _ _ _ us hl => match us, hl with | [_], _ => rfl, ok_plain_cuts F__plain_cuts T R⟩
  obtain ⟨fd_Plan___init__, F_Plan___init__⟩ : ∃ fd, FD K "__init__" "Plan.__init__" s_Plan___init (mAt "Plan" "__init__" K) fd := c.def_ 22 (d := ⟨mAt "Plan" "__init__", "__init__", "Plan.__init__", s_Plan___init, []⟩) rfl
  have MkP : Mk K (ga K "Plan") (mAt "Plan" "__init__" K) := mkB_ok (c.fact 82)
  have GP : FnR P w K mg base CX0 6 (mAt "Plan" "__init__" K) (spPlanI K (ga K "Plan")) := ok_Plan___init F_Plan___init__ T R Dcheck_rounds Dplain_cuts Dparts_of Dplaces_of Dmultiplied
  obtain ⟨fd__law_plan, F__law_plan⟩ : ∃ fd, FD K "_law_plan" "_law_plan" s_plan (gAt "_law_plan" K) fd := c.def_ 23 (d := ⟨gAt "_law_plan", "_law_plan", "_law_plan", s_plan, []⟩) rfl
  have Dplan : Gd P w K mg base "_law_plan" 8 ["_law_rounds_here"] (spPlan5 (ga K "Plan")) (gAt "_law_plan" K) fd__law_plan := ⟨gloB_ok X G (c.fact 83), F__law_plan.kp, F__law_plan.bindsN fun _ _ _ _ _ _ us hl => match us, hl with | [_], _ => rfl, ok_plan F__law_plan T R MkP GP⟩
  obtain ⟨fd_check_plan, F_check_plan⟩ : ∃ fd, FD K "check_plan" "check_plan" s_check_plan (gAt "check_plan" K) fd := c.def_ 24 (d := ⟨gAt "check_plan", "check_plan", "check_plan", s_check_plan, []⟩) rfl
  have Dcheck_plan : Gd P w K mg base "check_plan" 1 ["plan"] (spChkPlan (ga K "Plan")) (gAt "check_plan" K) fd_check_plan := ⟨gloB_ok X G (c.fact 84), F_check_plan.kp, F_check_plan.bindsN fun _ _ _ _ _ _ us hl => match us, hl with | [_], _ => rfl, ok_check_plan F_check_plan T R RE⟩
  obtain ⟨fd_Ratio_sign, F_Ratio_sign⟩ : ∃ fd, FD K "sign" "Ratio.sign" s_Ratio_sign (wAt "property" "Ratio" "sign" K) fd := c.def_ 25 (d := ⟨wAt "property" "Ratio" "sign", "sign", "Ratio.sign", s_Ratio_sign, []⟩) rfl
  have m_Ratio_sign : PropOf K (ga K "Ratio") "sign" (mAt "Ratio" "sign" K) (wAt "property" "Ratio" "sign" K) := prpB_ok (c.fact 85)
  have g_Ratio_sign : FnOk P w K mg base CX0 1 (wAt "property" "Ratio" "sign" K) fd_Ratio_sign ["self"] (spSignR (ga K "Ratio")) := ok_Ratio_sign F_Ratio_sign T RQ
  have b_Ratio_sign : Binds K fd_Ratio_sign ["self"] [] := F_Ratio_sign.bindsN fun _ _ _ _ _ _ us hl => match us, hl with | [_], _ => rfl
  have Dis_intV : Gd P w K mg base "is_int" 1 ["value"] (spIsIntV (ga K "Ratio")) (gAt "is_int" K) fd_is_int := ⟨gloB_ok X G (c.fact 67), F_is_int.kp, F_is_int.bindsN fun _ _ _ _ _ _ us hl => match us, hl with | [_], _ => rfl, ok_is_intV F_is_int T RQ⟩
  obtain ⟨fd_is_number, F_is_number⟩ : ∃ fd, FD K "is_number" "is_number" s_is_number (gAt "is_number" K) fd := c.def_ 26 (d := ⟨gAt "is_number", "is_number", "is_number", s_is_number, []⟩) rfl
  have Dis_number : Gd P w K mg base "is_number" 2 ["value"] (spIsNumV (ga K "Ratio")) (gAt "is_number" K) fd_is_number := ⟨gloB_ok X G (c.fact 86), F_is_number.kp, F_is_number.bindsN fun _ _ _ _ _ _ us hl => match us, hl with | [_], _ => rfl, ok_is_number F_is_number T RQ Dis_intV⟩
  obtain ⟨fd_as_ratio, F_as_ratio⟩ : ∃ fd, FD K "as_ratio" "as_ratio" s_as_ratio (gAt "as_ratio" K) fd := c.def_ 27 (d := ⟨gAt "as_ratio", "as_ratio", "as_ratio", s_as_ratio, []⟩) rfl
  have Das_ratio : Gd P w K mg base "as_ratio" 4 ["value"] (spAsR (ga K "Ratio")) (gAt "as_ratio" K) fd_as_ratio := ⟨gloB_ok X G (c.fact 87), F_as_ratio.kp, F_as_ratio.bindsN fun _ _ _ _ _ _ us hl => match us, hl with | [_], _ => rfl, ok_as_ratio F_as_ratio T RQ MI GI bI2 hdI bI1⟩
  obtain ⟨fd_is_above_0, F_is_above_0⟩ : ∃ fd, FD K "is_above_0" "is_above_0" s_is_above_0 (gAt "is_above_0" K) fd := c.def_ 28 (d := ⟨gAt "is_above_0", "is_above_0", "is_above_0", s_is_above_0, []⟩) rfl
  have Dis_above_0 : Gd P w K mg base "is_above_0" 5 ["value"] (spAboveR (ga K "Ratio")) (gAt "is_above_0" K) fd_is_above_0 := ⟨gloB_ok X G (c.fact 88), F_is_above_0.kp, F_is_above_0.bindsN fun _ _ _ _ _ _ us hl => match us, hl with | [_], _ => rfl, ok_is_above_0 F_is_above_0 T RQ m_Ratio_sign g_Ratio_sign b_Ratio_sign Dis_number Das_ratio⟩
  obtain ⟨fd__are_closed, F__are_closed⟩ : ∃ fd, FD K "_are_closed" "_are_closed" s_are_closed (gAt "_are_closed" K) fd := c.def_ 29 (d := ⟨gAt "_are_closed", "_are_closed", "_are_closed", s_are_closed, []⟩) rfl
  have Dare_closed : Gd P w K mg base "_are_closed" 2 ["value"] (spClosed K) (gAt "_are_closed" K) fd__are_closed := ⟨gloB_ok X G (c.fact 89), F__are_closed.kp, F__are_closed.bindsN fun _ _ _ _ _ _ us hl => match us, hl with | [_], _ => rfl, ok_are_closed F__are_closed T R Dis_list Dis_axis⟩
  obtain ⟨fd_Map___init__, F_Map___init__⟩ : ∃ fd, FD K "__init__" "Map.__init__" s_Map___init (mAt "Map" "__init__" K) fd := c.def_ 30 (d := ⟨mAt "Map" "__init__", "__init__", "Map.__init__", s_Map___init, []⟩) rfl
  have MIM : Mk K (ga K "Map") (mAt "Map" "__init__" K) := mkB_ok (c.fact 90)
  have GIM : FnOk P w K mg base CX0 7 (mAt "Map" "__init__" K) fd_Map___init__ ["self", "plan", "east", "north", "closed"] (spMapI K (ga K "Plan") (ga K "Ratio") (ga K "Map")) := ok_Map___init F_Map___init__ T R RM RE Dcheck_plan Dis_above_0 Dare_closed Das_ratio
  have kbM : KBn K fd_Map___init__ ["self", "plan", "east", "north", "closed"] 4 ["closed"] (fun us ws => us ++ ws) (fun vs zs => vs ++ zs) := F_Map___init__.kb 4 ["closed"] (fun _ _ _ _ _ _ us ws h1 h2 => match us, h1, ws, h2 with | [_, _, _, _], _, [_], _ => rfl) fun a b => a.append b
  obtain ⟨fd__law_area, F__law_area⟩ : ∃ fd, FD K "_law_area" "_law_area" s_area (gAt "_law_area" K) fd := c.def_ 31 (d := ⟨gAt "_law_area", "_law_area", "_law_area", s_area, []⟩) rfl
  have Darea : Gd P w K mg base "_law_area" 9 ["_law_pot_here", "_law_model_here"] (spArea5 (ga K "Plan") (ga K "Ratio") (ga K "Map")) (gAt "_law_area" K) fd__law_area := ⟨gloB_ok X G (c.fact 91), F__law_area.kp, F__law_area.bindsN fun _ _ _ _ _ _ us hl => match us, hl with | [_, _], _ => rfl, ok_area F__law_area T RM Dpassed Dplan MIM GIM kbM⟩
  obtain ⟨fd_check_area, F_check_area⟩ : ∃ fd, FD K "check_area" "check_area" s_check_area (gAt "check_area" K) fd := c.def_ 32 (d := ⟨gAt "check_area", "check_area", "check_area", s_check_area, []⟩) rfl
  have Dcheck_area : Gd P w K mg base "check_area" 1 ["area"] (spChkArea (ga K "Plan") (ga K "Ratio") (ga K "Map")) (gAt "check_area" K) fd_check_area := ⟨gloB_ok X G (c.fact 92), F_check_area.kp, F_check_area.bindsN fun _ _ _ _ _ _ us hl => match us, hl with | [_], _ => rfl, ok_check_area F_check_area T RM⟩
  obtain ⟨fd_Ratio_top, F_Ratio_top⟩ : ∃ fd, FD K "top" "Ratio.top" s_Ratio_top (wAt "property" "Ratio" "top" K) fd := c.def_ 33 (d := ⟨wAt "property" "Ratio" "top", "top", "Ratio.top", s_Ratio_top, []⟩) rfl
  have m_Ratio_top : PropOf K (ga K "Ratio") "top" (mAt "Ratio" "top" K) (wAt "property" "Ratio" "top" K) := prpB_ok (c.fact 93)
  have g_Ratio_top : FnOk P w K mg base CX0 1 (wAt "property" "Ratio" "top" K) fd_Ratio_top ["self"] (spTopR (ga K "Ratio")) := ok_Ratio_top F_Ratio_top T RQ
  have b_Ratio_top : Binds K fd_Ratio_top ["self"] [] := F_Ratio_top.bindsN fun _ _ _ _ _ _ us hl => match us, hl with | [_], _ => rfl
  obtain ⟨fd_Ratio_bottom, F_Ratio_bottom⟩ : ∃ fd, FD K "bottom" "Ratio.bottom" s_Ratio_bottom (wAt "property" "Ratio" "bottom" K) fd := c.def_ 34 (d := ⟨wAt "property" "Ratio" "bottom", "bottom", "Ratio.bottom", s_Ratio_bottom, []⟩) rfl
  have m_Ratio_bottom : PropOf K (ga K "Ratio") "bottom" (mAt "Ratio" "bottom" K) (wAt "property" "Ratio" "bottom" K) := prpB_ok (c.fact 94)
  have g_Ratio_bottom : FnOk P w K mg base CX0 1 (wAt "property" "Ratio" "bottom" K) fd_Ratio_bottom ["self"] (spBotR (ga K "Ratio")) := ok_Ratio_bottom F_Ratio_bottom T RQ
  have b_Ratio_bottom : Binds K fd_Ratio_bottom ["self"] [] := F_Ratio_bottom.bindsN fun _ _ _ _ _ _ us hl => match us, hl with | [_], _ => rfl
  obtain ⟨fd_Ratio_is_below, F_Ratio_is_below⟩ : ∃ fd, FD K "is_below" "Ratio.is_below" s_Ratio_is_below (mAt "Ratio" "is_below" K) fd := c.def_ 35 (d := ⟨mAt "Ratio" "is_below", "is_below", "Ratio.is_below", s_Ratio_is_below, []⟩) rfl
  have m_Ratio_is_below : Meth K (ga K "Ratio") "is_below" (mAt "Ratio" "is_below" K) := metB_ok (c.fact 95)
  have g_Ratio_is_below : FnOk P w K mg base CX0 5 (mAt "Ratio" "is_below" K) fd_Ratio_is_below ["self", "other"] (spBelowR (ga K "Ratio")) := ok_Ratio_is_below F_Ratio_is_below T RQ m_Ratio_top g_Ratio_top b_Ratio_top m_Ratio_bottom g_Ratio_bottom b_Ratio_bottom Das_ratio
  have b_Ratio_is_below : Binds K fd_Ratio_is_below ["self", "other"] [] := F_Ratio_is_below.bindsN fun _ _ _ _ _ _ us hl => match us, hl with | [_, _], _ => rfl
  obtain ⟨fd__is_reach, F__is_reach⟩ : ∃ fd, FD K "_is_reach" "_is_reach" s_is_reach (gAt "_is_reach" K) fd := c.def_ 36 (d := ⟨gAt "_is_reach", "_is_reach", "_is_reach", s_is_reach, []⟩) rfl
  have Dis_reach : Gd P w K mg base "_is_reach" 6 ["value"] (spReach (ga K "Ratio")) (gAt "_is_reach" K) fd__is_reach := ⟨gloB_ok X G (c.fact 96), F__is_reach.kp, F__is_reach.bindsN fun _ _ _ _ _ _ us hl => match us, hl with | [_], _ => rfl, ok_is_reach F__is_reach T RQ Dis_above_0 MI GI bI2 hdI bI1 m_Ratio_is_below g_Ratio_is_below b_Ratio_is_below⟩
  obtain ⟨fd__check_reaches, F__check_reaches⟩ : ∃ fd, FD K "_check_reaches" "_check_reaches" s_check_reaches (gAt "_check_reaches" K) fd := c.def_ 37 (d := ⟨gAt "_check_reaches", "_check_reaches", "_check_reaches", s_check_reaches, []⟩) rfl
  have Dcheck_reaches : Gd P w K mg base "_check_reaches" 7 ["east", "north"] (spChkReaches (ga K "Ratio")) (gAt "_check_reaches" K) fd__check_reaches := ⟨gloB_ok X G (c.fact 97), F__check_reaches.kp, F__check_reaches.bindsN fun _ _ _ _ _ _ us hl => match us, hl with | [_, _], _ => rfl, ok_check_reaches F__check_reaches T Dis_reach⟩
  obtain ⟨fd_is_kind, F_is_kind⟩ : ∃ fd, FD K "is_kind" "is_kind" s_is_kind (gAt "is_kind" K) fd := c.def_ 38 (d := ⟨gAt "is_kind", "is_kind", "is_kind", s_is_kind, []⟩) rfl
  have Dis_kind : Gd P w K mg base "is_kind" 1 ["value"] (spKind) (gAt "is_kind" K) fd_is_kind := ⟨gloB_ok X G (c.fact 98), F_is_kind.kp, F_is_kind.bindsN fun _ _ _ _ _ _ us hl => match us, hl with | [_], _ => rfl, ok_is_kind F_is_kind T RU⟩
  obtain ⟨fd_check_kind, F_check_kind⟩ : ∃ fd, FD K "check_kind" "check_kind" s_check_kind (gAt "check_kind" K) fd := c.def_ 39 (d := ⟨gAt "check_kind", "check_kind", "check_kind", s_check_kind, []⟩) rfl
  have Dcheck_kind : Gd P w K mg base "check_kind" 2 ["kind"] (spChkKind) (gAt "check_kind" K) fd_check_kind := ⟨gloB_ok X G (c.fact 99), F_check_kind.kp, F_check_kind.bindsN fun _ _ _ _ _ _ us hl => match us, hl with | [_], _ => rfl, ok_check_kind F_check_kind T Dis_kind⟩
  obtain ⟨fd_Gauge___init__, F_Gauge___init__⟩ : ∃ fd, FD K "__init__" "Gauge.__init__" s_Gauge___init (mAt "Gauge" "__init__" K) fd := c.def_ 40 (d := ⟨mAt "Gauge" "__init__", "__init__", "Gauge.__init__", s_Gauge___init, []⟩) rfl
  have MIU : Mk K (ga K "Gauge") (mAt "Gauge" "__init__" K) := mkB_ok (c.fact 100)
  have GIU : FnOk P w K mg base CX0 8 (mAt "Gauge" "__init__" K) fd_Gauge___init__ ["self", "area", "east", "north", "kind"] (spGaugeI (ga K "Plan") (ga K "Ratio") (ga K "Map") (ga K "Gauge")) := ok_Gauge___init F_Gauge___init__ T RU Dcheck_area Dcheck_reaches Dcheck_kind Das_ratio
  have bIU : Binds K fd_Gauge___init__ ["self", "area", "east", "north", "kind"] [] := F_Gauge___init__.bindsN fun _ _ _ _ _ _ us hl => match us, hl with | [_, _, _, _, _], _ => rfl
  obtain ⟨fd__law_gauge, F__law_gauge⟩ : ∃ fd, FD K "_law_gauge" "_law_gauge" s_gauge (gAt "_law_gauge" K) fd := c.def_ 41 (d := ⟨gAt "_law_gauge", "_law_gauge", "_law_gauge", s_gauge, []⟩) rfl
  have Dgauge : Gd P w K mg base "_law_gauge" 10 ["_law_pot_here", "_law_model_here"] (spGauge5 (ga K "Plan") (ga K "Ratio") (ga K "Map") (ga K "Gauge")) (gAt "_law_gauge" K) fd__law_gauge := ⟨gloB_ok X G (c.fact 101), F__law_gauge.kp, F__law_gauge.bindsN fun _ _ _ _ _ _ us hl => match us, hl with | [_, _], _ => rfl, ok_gauge F__law_gauge T RU Dpassed Darea MIU GIU bIU⟩
  obtain ⟨fd__law_twin, F__law_twin⟩ : ∃ fd, FD K "_law_twin" "_law_twin" s_twin (gAt "_law_twin" K) fd := c.def_ 42 (d := ⟨gAt "_law_twin", "_law_twin", "_law_twin", s_twin, []⟩) rfl
  have Dtwin : Gd P w K mg base "_law_twin" 1 ["_law_model_here"] (spTwin) (gAt "_law_twin" K) fd__law_twin := ⟨gloB_ok X G (c.fact 102), F__law_twin.kp, F__law_twin.bindsN fun _ _ _ _ _ _ us hl => match us, hl with | [_], _ => rfl, ok_twin F__law_twin T tDict⟩
  obtain ⟨fd__law_counts, F__law_counts⟩ : ∃ fd, FD K "_law_counts" "_law_counts" s_counts (gAt "_law_counts" K) fd := c.def_ 43 (d := ⟨gAt "_law_counts", "_law_counts", "_law_counts", s_counts, []⟩) rfl
  have Dcounts : Gd P w K mg base "_law_counts" 1 ["_law_rounds_here", "_law_many"] (spCounts5) (gAt "_law_counts" K) fd__law_counts := ⟨gloB_ok X G (c.fact 103), F__law_counts.kp, F__law_counts.bindsN fun _ _ _ _ _ _ us hl => match us, hl with | [_, _], _ => rfl, ok_counts F__law_counts T ⟩
  obtain ⟨fd__law_moves, F__law_moves⟩ : ∃ fd, FD K "_law_moves" "_law_moves" s_moves (gAt "_law_moves" K) fd := c.def_ 44 (d := ⟨gAt "_law_moves", "_law_moves", "_law_moves", s_moves, []⟩) rfl
  have Dmoves : Gd P w K mg base "_law_moves" 1 [] (spMoves) (gAt "_law_moves" K) fd__law_moves := ⟨gloB_ok X G (c.fact 104), F__law_moves.kp, F__law_moves.bindsN fun _ _ _ _ _ _ us hl => match us, hl with | [], _ => rfl, ok_moves F__law_moves T ⟩
  obtain ⟨fd__law_is_less, F__law_is_less⟩ : ∃ fd, FD K "_law_is_less" "_law_is_less" s_is_less (gAt "_law_is_less" K) fd := c.def_ 45 (d := ⟨gAt "_law_is_less", "_law_is_less", "_law_is_less", s_is_less, []⟩) rfl
  have Dis_less : Gd P w K mg base "_law_is_less" 1 ["_law_one", "_law_other"] (spLess5) (gAt "_law_is_less" K) fd__law_is_less := ⟨gloB_ok X G (c.fact 105), F__law_is_less.kp, F__law_is_less.bindsN fun _ _ _ _ _ _ us hl => match us, hl with | [_, _], _ => rfl, ok_is_less F__law_is_less T ⟩
  obtain ⟨fd__law_top_at, F__law_top_at⟩ : ∃ fd, FD K "_law_top_at" "_law_top_at" s_top_at (gAt "_law_top_at" K) fd := c.def_ 46 (d := ⟨gAt "_law_top_at", "_law_top_at", "_law_top_at", s_top_at, []⟩) rfl
  have Dtop_at : Gd P w K mg base "_law_top_at" 2 ["_law_model_here", "_law_counts_here"] (spTopAt5) (gAt "_law_top_at" K) fd__law_top_at := ⟨gloB_ok X G (c.fact 106), F__law_top_at.kp, F__law_top_at.bindsN fun _ _ _ _ _ _ us hl => match us, hl with | [_, _], _ => rfl, ok_top_at F__law_top_at T Dis_less⟩
  obtain ⟨fd__law_top, F__law_top⟩ : ∃ fd, FD K "_law_top" "_law_top" s_top (gAt "_law_top" K) fd := c.def_ 47 (d := ⟨gAt "_law_top", "_law_top", "_law_top", s_top, []⟩) rfl
  have Dtop : Gd P w K mg base "_law_top" 3 ["_law_model_here", "_law_deep"] (spTop5) (gAt "_law_top" K) fd__law_top := ⟨gloB_ok X G (c.fact 107), F__law_top.kp, F__law_top.bindsN fun _ _ _ _ _ _ us hl => match us, hl with | [_, _], _ => rfl, ok_top F__law_top T Dcounts Dtop_at⟩
  obtain ⟨fd__law_spot, F__law_spot⟩ : ∃ fd, FD K "_law_spot" "_law_spot" s_spot (gAt "_law_spot" K) fd := c.def_ 48 (d := ⟨gAt "_law_spot", "_law_spot", "_law_spot", s_spot, []⟩) rfl
  have Dspot : Gd P w K mg base "_law_spot" 1 ["_law_cuts", "_law_sign_now"] (spSpot) (gAt "_law_spot" K) fd__law_spot := ⟨gloB_ok X G (c.fact 108), F__law_spot.kp, F__law_spot.bindsN fun _ _ _ _ _ _ us hl => match us, hl with | [_, _], _ => rfl, ok_spot F__law_spot T ⟩
  obtain ⟨fd__law_share, F__law_share⟩ : ∃ fd, FD K "_law_share" "_law_share" s_share (gAt "_law_share" K) fd := c.def_ 49 (d := ⟨gAt "_law_share", "_law_share", "_law_share", s_share, []⟩) rfl
  have Dshare : Gd P w K mg base "_law_share" 1 ["_law_part", "_law_at", "_law_many"] (spShare) (gAt "_law_share" K) fd__law_share := ⟨gloB_ok X G (c.fact 109), F__law_share.kp, F__law_share.bindsN fun _ _ _ _ _ _ us hl => match us, hl with | [_, _, _], _ => rfl, ok_share F__law_share T ⟩
  obtain ⟨fd__law_sum, F__law_sum⟩ : ∃ fd, FD K "_law_sum" "_law_sum" s_sum (gAt "_law_sum" K) fd := c.def_ 50 (d := ⟨gAt "_law_sum", "_law_sum", "_law_sum", s_sum, []⟩) rfl
  have Dsum : Gd P w K mg base "_law_sum" 1 ["_law_one", "_law_other"] (spSum) (gAt "_law_sum" K) fd__law_sum := ⟨gloB_ok X G (c.fact 110), F__law_sum.kp, F__law_sum.bindsN fun _ _ _ _ _ _ us hl => match us, hl with | [_, _], _ => rfl, ok_sum F__law_sum T ⟩
  obtain ⟨fd__law_is_due, F__law_is_due⟩ : ∃ fd, FD K "_law_is_due" "_law_is_due" s_is_due (gAt "_law_is_due" K) fd := c.def_ 51 (d := ⟨gAt "_law_is_due", "_law_is_due", "_law_is_due", s_is_due, []⟩) rfl
  have Dis_due : Gd P w K mg base "_law_is_due" 4 ["_law_model_here", "_law_deep", "_law_sign_now", "_law_i", "_law_j"] (spIsDue) (gAt "_law_is_due" K) fd__law_is_due := ⟨gloB_ok X G (c.fact 111), F__law_is_due.kp, F__law_is_due.bindsN fun _ _ _ _ _ _ us hl => match us, hl with | [_, _, _, _, _], _ => rfl, ok_is_due F__law_is_due T Dcounts Dis_less Dtop Dspot Dshare Dsum⟩
  obtain ⟨fd__law_dues, F__law_dues⟩ : ∃ fd, FD K "_law_dues" "_law_dues" s_dues (gAt "_law_dues" K) fd := c.def_ 52 (d := ⟨gAt "_law_dues", "_law_dues", "_law_dues", s_dues, []⟩) rfl
  have Ddues : Gd P w K mg base "_law_dues" 5 ["_law_model_here", "_law_deep", "_law_sign_now"] (spDues) (gAt "_law_dues" K) fd__law_dues := ⟨gloB_ok X G (c.fact 112), F__law_dues.kp, F__law_dues.bindsN fun _ _ _ _ _ _ us hl => match us, hl with | [_, _, _], _ => rfl, ok_dues F__law_dues T Dmoves Dis_due⟩
  obtain ⟨fd_Map_plan, F_Map_plan⟩ : ∃ fd, FD K "plan" "Map.plan" s_Map_plan (wAt "property" "Map" "plan" K) fd := c.def_ 53 (d := ⟨wAt "property" "Map" "plan", "plan", "Map.plan", s_Map_plan, []⟩) rfl
  have m_Map_plan : PropOf K (ga K "Map") "plan" (mAt "Map" "plan" K) (wAt "property" "Map" "plan" K) := prpB_ok (c.fact 113)
  have g_Map_plan : FnOk P w K mg base CX0 1 (wAt "property" "Map" "plan" K) fd_Map_plan ["self"] (spMPlan (ga K "Plan") (ga K "Ratio") (ga K "Map")) := ok_Map_plan F_Map_plan T RM
  have b_Map_plan : Binds K fd_Map_plan ["self"] [] := F_Map_plan.bindsN fun _ _ _ _ _ _ us hl => match us, hl with | [_], _ => rfl
  obtain ⟨fd_is_count, F_is_count⟩ : ∃ fd, FD K "is_count" "is_count" s_is_count (gAt "is_count" K) fd := c.def_ 54 (d := ⟨gAt "is_count", "is_count", "is_count", s_is_count, []⟩) rfl
  have Dis_count : Gd P w K mg base "is_count" 2 ["value"] (spCount) (gAt "is_count" K) fd_is_count := ⟨gloB_ok X G (c.fact 114), F_is_count.kp, F_is_count.bindsN fun _ _ _ _ _ _ us hl => match us, hl with | [_], _ => rfl, ok_is_count F_is_count T Dis_int⟩
  obtain ⟨fd_is_count_below, F_is_count_below⟩ : ∃ fd, FD K "is_count_below" "is_count_below" s_is_count_below (gAt "is_count_below" K) fd := c.def_ 55 (d := ⟨gAt "is_count_below", "is_count_below", "is_count_below", s_is_count_below, []⟩) rfl
  have Dis_count_below : Gd P w K mg base "is_count_below" 3 ["value", "bound"] (spBelow) (gAt "is_count_below" K) fd_is_count_below := ⟨gloB_ok X G (c.fact 115), F_is_count_below.kp, F_is_count_below.bindsN fun _ _ _ _ _ _ us hl => match us, hl with | [_, _], _ => rfl, ok_is_count_below F_is_count_below T Dis_count⟩
  obtain ⟨fd_Plan___len__, F_Plan___len__⟩ : ∃ fd, FD K "__len__" "Plan.__len__" s_Plan___len (mAt "Plan" "__len__" K) fd := c.def_ 56 (d := ⟨mAt "Plan" "__len__", "__len__", "Plan.__len__", s_Plan___len, []⟩) rfl
  have mLen : Meth K (ga K "Plan") "__len__" (mAt "Plan" "__len__" K) := metB_ok (c.fact 116)
  have Glen : FnOk P w K mg base CX0 1 (mAt "Plan" "__len__" K) fd_Plan___len__ ["self"] (spLen (ga K "Plan")) := ok_Plan___len F_Plan___len__ T R
  have bLen : Binds K fd_Plan___len__ ["self"] [] := F_Plan___len__.bindsN fun _ _ _ _ _ _ us hl => match us, hl with | [_], _ => rfl
  obtain ⟨fd_check_phase, F_check_phase⟩ : ∃ fd, FD K "check_phase" "check_phase" s_check_phase (gAt "check_phase" K) fd := c.def_ 57 (d := ⟨gAt "check_phase", "check_phase", "check_phase", s_check_phase, []⟩) rfl
  have Dcheck_phase : Gd P w K mg base "check_phase" 4 ["plan", "phase"] (spPhaseOk (ga K "Plan")) (gAt "check_phase" K) fd_check_phase := ⟨gloB_ok X G (c.fact 117), F_check_phase.kp, F_check_phase.bindsN fun _ _ _ _ _ _ us hl => match us, hl with | [_, _], _ => rfl, ok_check_phase F_check_phase T R Dis_count_below mLen Glen bLen⟩
  obtain ⟨fd_Plan_signs, F_Plan_signs⟩ : ∃ fd, FD K "signs" "Plan.signs" s_Plan_signs (mAt "Plan" "signs" K) fd := c.def_ 58 (d := ⟨mAt "Plan" "signs", "signs", "Plan.signs", s_Plan_signs, []⟩) rfl
  have mSg : Meth K (ga K "Plan") "signs" (mAt "Plan" "signs" K) := metB_ok (c.fact 118)
  have Gsg : FnOk P w K mg base CX0 5 (mAt "Plan" "signs" K) fd_Plan_signs ["self", "phase"] (spSigns (ga K "Plan")) := ok_Plan_signs F_Plan_signs T R Dcheck_phase
  have bSg : Binds K fd_Plan_signs ["self", "phase"] [] := F_Plan_signs.bindsN fun _ _ _ _ _ _ us hl => match us, hl with | [_, _], _ => rfl
  obtain ⟨fd_check_sign, F_check_sign⟩ : ∃ fd, FD K "check_sign" "check_sign" s_check_sign (gAt "check_sign" K) fd := c.def_ 59 (d := ⟨gAt "check_sign", "check_sign", "check_sign", s_check_sign, []⟩) rfl
  have Dcheck_sign : Gd P w K mg base "check_sign" 6 ["plan", "phase", "sign"] (spSignOk (ga K "Plan")) (gAt "check_sign" K) fd_check_sign := ⟨gloB_ok X G (c.fact 119), F_check_sign.kp, F_check_sign.bindsN fun _ _ _ _ _ _ us hl => match us, hl with | [_, _, _], _ => rfl, ok_check_sign F_check_sign T R Dis_count_below mSg Gsg bSg⟩
  obtain ⟨fd_Gauge_area, F_Gauge_area⟩ : ∃ fd, FD K "area" "Gauge.area" s_Gauge_area (wAt "property" "Gauge" "area" K) fd := c.def_ 60 (d := ⟨wAt "property" "Gauge" "area", "area", "Gauge.area", s_Gauge_area, []⟩) rfl
  have m_Gauge_area : PropOf K (ga K "Gauge") "area" (mAt "Gauge" "area" K) (wAt "property" "Gauge" "area" K) := prpB_ok (c.fact 120)
  have g_Gauge_area : FnOk P w K mg base CX0 1 (wAt "property" "Gauge" "area" K) fd_Gauge_area ["self"] (spGArea (ga K "Plan") (ga K "Ratio") (ga K "Map") (ga K "Gauge")) := ok_Gauge_area F_Gauge_area T RU
  have b_Gauge_area : Binds K fd_Gauge_area ["self"] [] := F_Gauge_area.bindsN fun _ _ _ _ _ _ us hl => match us, hl with | [_], _ => rfl
  obtain ⟨fd_first_fineness, F_first_fineness⟩ : ∃ fd, FD K "first_fineness" "first_fineness" s_first_fineness (gAt "first_fineness" K) fd := c.def_ 61 (d := ⟨gAt "first_fineness", "first_fineness", "first_fineness", s_first_fineness, []⟩) rfl
  have Dfirst_fineness : Gd P w K mg base "first_fineness" 3 ["gauge", "phase"] (spFirstF (ga K "Plan") (ga K "Ratio") (ga K "Map") (ga K "Gauge")) (gAt "first_fineness" K) fd_first_fineness := ⟨gloB_ok X G (c.fact 121), F_first_fineness.kp, F_first_fineness.bindsN fun _ _ _ _ _ _ us hl => match us, hl with | [_, _], _ => rfl, ok_first_fineness F_first_fineness T R RM RU m_Gauge_area g_Gauge_area b_Gauge_area m_Map_plan g_Map_plan b_Map_plan mLen Glen bLen⟩
  obtain ⟨fd_Gauge_reaches, F_Gauge_reaches⟩ : ∃ fd, FD K "reaches" "Gauge.reaches" s_Gauge_reaches (wAt "property" "Gauge" "reaches" K) fd := c.def_ 62 (d := ⟨wAt "property" "Gauge" "reaches", "reaches", "Gauge.reaches", s_Gauge_reaches, []⟩) rfl
  have m_Gauge_reaches : PropOf K (ga K "Gauge") "reaches" (mAt "Gauge" "reaches" K) (wAt "property" "Gauge" "reaches" K) := prpB_ok (c.fact 122)
  have g_Gauge_reaches : FnOk P w K mg base CX0 1 (wAt "property" "Gauge" "reaches" K) fd_Gauge_reaches ["self"] (spGReaches (ga K "Plan") (ga K "Ratio") (ga K "Map") (ga K "Gauge")) := ok_Gauge_reaches F_Gauge_reaches T RU
  have b_Gauge_reaches : Binds K fd_Gauge_reaches ["self"] [] := F_Gauge_reaches.bindsN fun _ _ _ _ _ _ us hl => match us, hl with | [_], _ => rfl
  obtain ⟨fd_Map_east, F_Map_east⟩ : ∃ fd, FD K "east" "Map.east" s_Map_east (wAt "property" "Map" "east" K) fd := c.def_ 63 (d := ⟨wAt "property" "Map" "east", "east", "Map.east", s_Map_east, []⟩) rfl
  have m_Map_east : PropOf K (ga K "Map") "east" (mAt "Map" "east" K) (wAt "property" "Map" "east" K) := prpB_ok (c.fact 123)
  have g_Map_east : FnOk P w K mg base CX0 1 (wAt "property" "Map" "east" K) fd_Map_east ["self"] (spMEast (ga K "Plan") (ga K "Ratio") (ga K "Map")) := ok_Map_east F_Map_east T RM
  have b_Map_east : Binds K fd_Map_east ["self"] [] := F_Map_east.bindsN fun _ _ _ _ _ _ us hl => match us, hl with | [_], _ => rfl
  obtain ⟨fd_Map_north, F_Map_north⟩ : ∃ fd, FD K "north" "Map.north" s_Map_north (wAt "property" "Map" "north" K) fd := c.def_ 64 (d := ⟨wAt "property" "Map" "north", "north", "Map.north", s_Map_north, []⟩) rfl
  have m_Map_north : PropOf K (ga K "Map") "north" (mAt "Map" "north" K) (wAt "property" "Map" "north" K) := prpB_ok (c.fact 124)
  have g_Map_north : FnOk P w K mg base CX0 1 (wAt "property" "Map" "north" K) fd_Map_north ["self"] (spMNorth (ga K "Plan") (ga K "Ratio") (ga K "Map")) := ok_Map_north F_Map_north T RM
  have b_Map_north : Binds K fd_Map_north ["self"] [] := F_Map_north.bindsN fun _ _ _ _ _ _ us hl => match us, hl with | [_], _ => rfl
  obtain ⟨fd_Plan_parts, F_Plan_parts⟩ : ∃ fd, FD K "parts" "Plan.parts" s_Plan_parts (mAt "Plan" "parts" K) fd := c.def_ 65 (d := ⟨mAt "Plan" "parts", "parts", "Plan.parts", s_Plan_parts, []⟩) rfl
  have mPa : Meth K (ga K "Plan") "parts" (mAt "Plan" "parts" K) := metB_ok (c.fact 125)
  have Gpa : FnOk P w K mg base CX0 5 (mAt "Plan" "parts" K) fd_Plan_parts ["self", "phase"] (spPartsM (ga K "Plan")) := ok_Plan_parts F_Plan_parts T R Dcheck_phase
  have bPa : Binds K fd_Plan_parts ["self", "phase"] [] := F_Plan_parts.bindsN fun _ _ _ _ _ _ us hl => match us, hl with | [_, _], _ => rfl
  obtain ⟨fd_Plan_growth, F_Plan_growth⟩ : ∃ fd, FD K "growth" "Plan.growth" s_Plan_growth (wAt "property" "Plan" "growth" K) fd := c.def_ 66 (d := ⟨wAt "property" "Plan" "growth", "growth", "Plan.growth", s_Plan_growth, []⟩) rfl
  have pGr : PropOf K (ga K "Plan") "growth" (mAt "Plan" "growth" K) (wAt "property" "Plan" "growth" K) := prpB_ok (c.fact 126)
  have Ggr : FnOk P w K mg base CX0 1 (wAt "property" "Plan" "growth" K) fd_Plan_growth ["self"] (spGrowth (ga K "Plan")) := ok_Plan_growth F_Plan_growth T R
  have bGr : Binds K fd_Plan_growth ["self"] [] := F_Plan_growth.bindsN fun _ _ _ _ _ _ us hl => match us, hl with | [_], _ => rfl
  obtain ⟨fd__power, F__power⟩ : ∃ fd, FD K "_power" "_power" s_power (gAt "_power" K) fd := c.def_ 67 (d := ⟨gAt "_power", "_power", "_power", s_power, []⟩) rfl
  have Dpower : Gd P w K mg base "_power" 1 ["base", "exponent"] (spPower) (gAt "_power" K) fd__power := ⟨gloB_ok X G (c.fact 127), F__power.kp, F__power.bindsN fun _ _ _ _ _ _ us hl => match us, hl with | [_, _], _ => rfl, ok_power F__power T ⟩
  obtain ⟨fd_counts_at, F_counts_at⟩ : ∃ fd, FD K "counts_at" "counts_at" s_counts_at (gAt "counts_at" K) fd := c.def_ 68 (d := ⟨gAt "counts_at", "counts_at", "counts_at", s_counts_at, []⟩) rfl
  have Dcounts_at : Gd P w K mg base "counts_at" 6 ["plan", "f"] (spCounts (ga K "Plan")) (gAt "counts_at" K) fd_counts_at := ⟨gloB_ok X G (c.fact 128), F_counts_at.kp, F_counts_at.bindsN fun _ _ _ _ _ _ us hl => match us, hl with | [_, _], _ => rfl, ok_counts_at F_counts_at T R mLen Glen bLen mPa Gpa bPa pGr Ggr bGr Dmultiplied Dpower⟩
  obtain ⟨fd_Ratio_over, F_Ratio_over⟩ : ∃ fd, FD K "over" "Ratio.over" s_Ratio_over (mAt "Ratio" "over" K) fd := c.def_ 69 (d := ⟨mAt "Ratio" "over", "over", "Ratio.over", s_Ratio_over, []⟩) rfl
  have m_Ratio_over : Meth K (ga K "Ratio") "over" (mAt "Ratio" "over" K) := metB_ok (c.fact 129)
  have g_Ratio_over : FnOk P w K mg base CX0 5 (mAt "Ratio" "over" K) fd_Ratio_over ["self", "other"] (spOverR (ga K "Ratio")) := ok_Ratio_over F_Ratio_over T RQ m_Ratio_top g_Ratio_top b_Ratio_top m_Ratio_bottom g_Ratio_bottom b_Ratio_bottom m_Ratio_sign g_Ratio_sign b_Ratio_sign Das_ratio MI GI bI2 hdI bI1
  have b_Ratio_over : Binds K fd_Ratio_over ["self", "other"] [] := F_Ratio_over.bindsN fun _ _ _ _ _ _ us hl => match us, hl with | [_, _], _ => rfl
  obtain ⟨fd_sides_at, F_sides_at⟩ : ∃ fd, FD K "sides_at" "sides_at" s_sides_at (gAt "sides_at" K) fd := c.def_ 70 (d := ⟨gAt "sides_at", "sides_at", "sides_at", s_sides_at, []⟩) rfl
  have Dsides_at : Gd P w K mg base "sides_at" 7 ["area", "f"] (spSides (ga K "Plan") (ga K "Ratio") (ga K "Map")) (gAt "sides_at" K) fd_sides_at := ⟨gloB_ok X G (c.fact 130), F_sides_at.kp, F_sides_at.bindsN fun _ _ _ _ _ _ us hl => match us, hl with | [_, _], _ => rfl, ok_sides_at F_sides_at T R RQ RM m_Map_plan g_Map_plan b_Map_plan m_Map_east g_Map_east b_Map_east m_Map_north g_Map_north b_Map_north Dcounts_at m_Ratio_over g_Ratio_over b_Ratio_over⟩
  obtain ⟨fd_smaller, F_smaller⟩ : ∃ fd, FD K "smaller" "smaller" s_smaller (gAt "smaller" K) fd := c.def_ 71 (d := ⟨gAt "smaller", "smaller", "smaller", s_smaller, []⟩) rfl
  have Dsmaller : Gd P w K mg base "smaller" 6 ["one", "other"] (spSmaller (ga K "Ratio")) (gAt "smaller" K) fd_smaller := ⟨gloB_ok X G (c.fact 131), F_smaller.kp, F_smaller.bindsN fun _ _ _ _ _ _ us hl => match us, hl with | [_, _], _ => rfl, ok_smaller F_smaller T RQ m_Ratio_is_below g_Ratio_is_below b_Ratio_is_below⟩
  obtain ⟨fd_Ratio___mul__, F_Ratio___mul__⟩ : ∃ fd, FD K "__mul__" "Ratio.__mul__" s_Ratio___mul (mAt "Ratio" "__mul__" K) fd := c.def_ 72 (d := ⟨mAt "Ratio" "__mul__", "__mul__", "Ratio.__mul__", s_Ratio___mul, []⟩) rfl
  have m_Ratio___mul__ : Meth K (ga K "Ratio") "__mul__" (mAt "Ratio" "__mul__" K) := metB_ok (c.fact 132)
  have o_Ratio___mul__ : OwnB K (ga K "Ratio") "mul" (mAt "Ratio" "__mul__" K) := ownOB_ok (c.fact 133)
  have g_Ratio___mul__ : FnOk P w K mg base CX0 5 (mAt "Ratio" "__mul__" K) fd_Ratio___mul__ ["self", "other"] (spMulR (ga K "Ratio")) := ok_Ratio___mul F_Ratio___mul__ T RQ m_Ratio_top g_Ratio_top b_Ratio_top m_Ratio_bottom g_Ratio_bottom b_Ratio_bottom Das_ratio MI GI bI2 hdI bI1
  have b_Ratio___mul__ : Binds K fd_Ratio___mul__ ["self", "other"] [] := F_Ratio___mul__.bindsN fun _ _ _ _ _ _ us hl => match us, hl with | [_, _], _ => rfl
  obtain ⟨fd_greatest_at, F_greatest_at⟩ : ∃ fd, FD K "greatest_at" "greatest_at" s_greatest_at (gAt "greatest_at" K) fd := c.def_ 73 (d := ⟨gAt "greatest_at", "greatest_at", "greatest_at", s_greatest_at, []⟩) rfl
  have Dgreatest_at : Gd P w K mg base "greatest_at" 8 ["gauge", "f"] (spGreatest (ga K "Plan") (ga K "Ratio") (ga K "Map") (ga K "Gauge")) (gAt "greatest_at" K) fd_greatest_at := ⟨gloB_ok X G (c.fact 134), F_greatest_at.kp, F_greatest_at.bindsN fun _ _ _ _ _ _ us hl => match us, hl with | [_, _], _ => rfl, ok_greatest_at F_greatest_at T RU m_Gauge_area g_Gauge_area b_Gauge_area m_Gauge_reaches g_Gauge_reaches b_Gauge_reaches Dsides_at Dsmaller o_Ratio___mul__ g_Ratio___mul__ b_Ratio___mul__⟩
  obtain ⟨fd_Gauge_kind, F_Gauge_kind⟩ : ∃ fd, FD K "kind" "Gauge.kind" s_Gauge_kind (wAt "property" "Gauge" "kind" K) fd := c.def_ 74 (d := ⟨wAt "property" "Gauge" "kind", "kind", "Gauge.kind", s_Gauge_kind, []⟩) rfl
  have m_Gauge_kind : PropOf K (ga K "Gauge") "kind" (mAt "Gauge" "kind" K) (wAt "property" "Gauge" "kind" K) := prpB_ok (c.fact 135)
  have g_Gauge_kind : FnOk P w K mg base CX0 1 (wAt "property" "Gauge" "kind" K) fd_Gauge_kind ["self"] (spGKind (ga K "Plan") (ga K "Ratio") (ga K "Map") (ga K "Gauge")) := ok_Gauge_kind F_Gauge_kind T RU
  have b_Gauge_kind : Binds K fd_Gauge_kind ["self"] [] := F_Gauge_kind.bindsN fun _ _ _ _ _ _ us hl => match us, hl with | [_], _ => rfl
  obtain ⟨fd_Plan_place_of, F_Plan_place_of⟩ : ∃ fd, FD K "place_of" "Plan.place_of" s_Plan_place_of (mAt "Plan" "place_of" K) fd := c.def_ 75 (d := ⟨mAt "Plan" "place_of", "place_of", "Plan.place_of", s_Plan_place_of, []⟩) rfl
  have mPo : Meth K (ga K "Plan") "place_of" (mAt "Plan" "place_of" K) := metB_ok (c.fact 136)
  have Gpo : FnOk P w K mg base CX0 7 (mAt "Plan" "place_of" K) fd_Plan_place_of ["self", "phase", "sign"] (spPlaceOf (ga K "Plan")) := ok_Plan_place_of F_Plan_place_of T R Dcheck_sign
  have bPo : Binds K fd_Plan_place_of ["self", "phase", "sign"] [] := F_Plan_place_of.bindsN fun _ _ _ _ _ _ us hl => match us, hl with | [_, _, _], _ => rfl
  obtain ⟨fd__least_gap, F__least_gap⟩ : ∃ fd, FD K "_least_gap" "_least_gap" s_least_gap (gAt "_least_gap" K) fd := c.def_ 76 (d := ⟨gAt "_least_gap", "_least_gap", "_least_gap", s_least_gap, []⟩) rfl
  have Dleast_gap : Gd P w K mg base "_least_gap" 6 ["many", "side", "part", "parts"] (spLeastG (ga K "Ratio")) (gAt "_least_gap" K) fd__least_gap := ⟨gloB_ok X G (c.fact 137), F__least_gap.kp, F__least_gap.bindsN fun _ _ _ _ _ _ us hl => match us, hl with | [_, _, _, _], _ => rfl, ok_least_gap F__least_gap T RQ MI GI bI2 hdI bI1 o_Ratio___mul__ g_Ratio___mul__ b_Ratio___mul__⟩
  obtain ⟨fd_Ratio___add__, F_Ratio___add__⟩ : ∃ fd, FD K "__add__" "Ratio.__add__" s_Ratio___add (mAt "Ratio" "__add__" K) fd := c.def_ 77 (d := ⟨mAt "Ratio" "__add__", "__add__", "Ratio.__add__", s_Ratio___add, []⟩) rfl
  have m_Ratio___add__ : Meth K (ga K "Ratio") "__add__" (mAt "Ratio" "__add__" K) := metB_ok (c.fact 138)
  have o_Ratio___add__ : OwnB K (ga K "Ratio") "add" (mAt "Ratio" "__add__" K) := ownOB_ok (c.fact 139)
  have g_Ratio___add__ : FnOk P w K mg base CX0 5 (mAt "Ratio" "__add__" K) fd_Ratio___add__ ["self", "other"] (spAddR (ga K "Ratio")) := ok_Ratio___add F_Ratio___add__ T RQ m_Ratio_top g_Ratio_top b_Ratio_top m_Ratio_bottom g_Ratio_bottom b_Ratio_bottom Das_ratio MI GI bI2 hdI bI1
  have b_Ratio___add__ : Binds K fd_Ratio___add__ ["self", "other"] [] := F_Ratio___add__.bindsN fun _ _ _ _ _ _ us hl => match us, hl with | [_, _], _ => rfl
  obtain ⟨fd_greater, F_greater⟩ : ∃ fd, FD K "greater" "greater" s_greater (gAt "greater" K) fd := c.def_ 78 (d := ⟨gAt "greater", "greater", "greater", s_greater, []⟩) rfl
  have Dgreater : Gd P w K mg base "greater" 6 ["one", "other"] (spGreater (ga K "Ratio")) (gAt "greater" K) fd_greater := ⟨gloB_ok X G (c.fact 140), F_greater.kp, F_greater.bindsN fun _ _ _ _ _ _ us hl => match us, hl with | [_, _], _ => rfl, ok_greater F_greater T RQ m_Ratio_is_below g_Ratio_is_below b_Ratio_is_below⟩
  obtain ⟨fd_joined, F_joined⟩ : ∃ fd, FD K "joined" "joined" s_joined (gAt "joined" K) fd := c.def_ 79 (d := ⟨gAt "joined", "joined", "joined", s_joined, []⟩) rfl
  have Djoined : Gd P w K mg base "joined" 7 ["kind", "gaps"] (spJoined (ga K "Ratio")) (gAt "joined" K) fd_joined := ⟨gloB_ok X G (c.fact 141), F_joined.kp, F_joined.bindsN fun _ _ _ _ _ _ us hl => match us, hl with | [_, _], _ => rfl, ok_joined F_joined T RQ o_Ratio___add__ g_Ratio___add__ b_Ratio___add__ Dgreater⟩
  obtain ⟨fd__least, F__least⟩ : ∃ fd, FD K "_least" "_least" s_least (gAt "_least" K) fd := c.def_ 80 (d := ⟨gAt "_least", "_least", "_least", s_least, []⟩) rfl
  have Dleast : Gd P w K mg base "_least" 9 ["gauge", "phase", "sign", "move"] (spLeast K (ga K "Plan") (ga K "Ratio") (ga K "Map") (ga K "Gauge")) (gAt "_least" K) fd__least := ⟨gloB_ok X G (c.fact 142), F__least.kp, F__least.bindsN fun _ _ _ _ _ _ us hl => match us, hl with | [_, _, _, _], _ => rfl, ok_least F__least T R RM RU RQ m_Gauge_area g_Gauge_area b_Gauge_area m_Map_plan g_Map_plan b_Map_plan m_Gauge_kind g_Gauge_kind b_Gauge_kind Dfirst_fineness Dsides_at mPo Gpo bPo mPa Gpa bPa Dleast_gap Djoined⟩
  obtain ⟨fd__reached_with, F__reached_with⟩ : ∃ fd, FD K "_reached_with" "_reached_with" s_reached_with (gAt "_reached_with" K) fd := c.def_ 81 (d := ⟨gAt "_reached_with", "_reached_with", "_reached_with", s_reached_with, []⟩) rfl
  have Dreached_with : Gd P w K mg base "_reached_with" 10 ["gauge", "phase", "sign"] (spReachedW K (ga K "Plan") (ga K "Ratio") (ga K "Map") (ga K "Gauge") (mvA K)) (gAt "_reached_with" K) fd__reached_with := ⟨gloB_ok X G (c.fact 143), F__reached_with.kp, F__reached_with.bindsN fun _ _ _ _ _ _ us hl => match us, hl with | [_, _, _], _ => rfl, ok_reached_with F__reached_with T RQ RV Dfirst_fineness Dgreatest_at Dleast m_Ratio_is_below g_Ratio_is_below b_Ratio_is_below⟩
  obtain ⟨fd_Gauge_reached, F_Gauge_reached⟩ : ∃ fd, FD K "reached" "Gauge.reached" s_Gauge_reached (mAt "Gauge" "reached" K) fd := c.def_ 82 (d := ⟨mAt "Gauge" "reached", "reached", "Gauge.reached", s_Gauge_reached, []⟩) rfl
  have m_Gauge_reached : Meth K (ga K "Gauge") "reached" (mAt "Gauge" "reached" K) := metB_ok (c.fact 144)
  have g_Gauge_reached : FnOk P w K mg base CX0 11 (mAt "Gauge" "reached" K) fd_Gauge_reached ["self", "phase", "sign"] (spReached (ga K "Plan") (ga K "Ratio") (ga K "Map") (ga K "Gauge") (mvA K)) := ok_Gauge_reached F_Gauge_reached T R RM RU m_Map_plan g_Map_plan b_Map_plan Dcheck_sign Dreached_with
  have b_Gauge_reached : Binds K fd_Gauge_reached ["self", "phase", "sign"] [] := F_Gauge_reached.bindsN fun _ _ _ _ _ _ us hl => match us, hl with | [_, _, _], _ => rfl
  obtain ⟨fd__law_turns_right, F__law_turns_right⟩ : ∃ fd, FD K "_law_turns_right" "_law_turns_right" s_turns_right (gAt "_law_turns_right" K) fd := c.def_ 83 (d := ⟨gAt "_law_turns_right", "_law_turns_right", "_law_turns_right", s_turns_right, []⟩) rfl
  have Dturns_right : Gg P w K mg base "_law_turns_right" 12 ["_law_pot_here", "_law_meter", "_law_model_here"] (spTurns (ga K "Plan") (ga K "Ratio") (ga K "Map") (ga K "Gauge") (mvA K)) (gAt "_law_turns_right" K) fd__law_turns_right := ⟨gloB_ok X G (c.fact 145), F__law_turns_right.kp, F__law_turns_right.bindsN fun _ _ _ _ _ _ us hl => match us, hl with | [_, _, _], _ => rfl, ok_turns_right F__law_turns_right T RU RV tDict Dtwin Dgauge Ddraw Dcounts Ddues m_Gauge_reached g_Gauge_reached b_Gauge_reached⟩
  have Dcounts2 : Gd P w K mg base "_law_counts" 1 ["_law_rounds_here", "_law_many"] (spCountsN) (gAt "_law_counts" K) fd__law_counts := ⟨gloB_ok X G (c.fact 103), F__law_counts.kp, F__law_counts.bindsN fun _ _ _ _ _ _ us hl => match us, hl with | [_, _], _ => rfl, ok_counts2 F__law_counts T ⟩
  have kReach : KBn K fd_Gauge_reached ["self", "phase", "sign"] 1 ["sign", "phase"] (fun us ws => us ++ pm [1, 0] ws) (fun vs zs => vs ++ pm [1, 0] zs) := F_Gauge_reached.kb 1 ["sign", "phase"] (fun _ _ _ _ _ _ us ws h1 h2 => match us, h1, ws, h2 with | [_], _, [_, _], _ => rfl) fun a b => a.append (pm_vals b _)
  obtain ⟨fd__law_right, F__law_right⟩ : ∃ fd, FD K "_law_right" "_law_right" s_right (gAt "_law_right" K) fd := c.def_ 84 (d := ⟨gAt "_law_right", "_law_right", "_law_right", s_right, []⟩) rfl
  have Dright : Gg P w K mg base "_law_right" 13 ["_law_pot_here"] (spRight6) (gAt "_law_right" K) fd__law_right := ⟨gloB_ok X G (c.fact 146), F__law_right.kp, F__law_right.bindsN fun _ _ _ _ _ _ us hl => match us, hl with | [_], _ => rfl, ok_right F__law_right T RU RQ RM R RV tSorted tSet Dmodel Dgauge Dturns_right Ddraw Dcounts2 Ddues Dmoves m_Gauge_reached g_Gauge_reached b_Gauge_reached kReach⟩
  exact (ok_law Fl T Dpot Dright)
end
end Mc

set_option Elab.async false
set_option linter.all false
set_option maxRecDepth 100000
set_option maxHeartbeats 0
open PySem PySem.W PySem.Calls PyProof.Rows
theorem PySem.Challenge.cw_movecells_k54_reached_moves_holds : PySem.Challenge.rw_movecells_k54_reached_moves.Holds := by
  w_on; o_law
  refine HandSHeadRun.head_imp (r := OpenLaw.row PySem.Challenge.rw_movecells_k54_reached_moves) (q := view (OpenLaw.row PySem.Challenge.rw_movecells_k54_reached_moves).prog [0, 109]) (H := Mc.hkk) (ob := Mc.hob) (M := 12000) (loose := Mc.hnames) (d := HandSHeadRun.topDef (OpenLaw.row PySem.Challenge.rw_movecells_k54_reached_moves).prog 109) (kwd := []) Mc.hob_eq Mc.hrun (by kernel_rfl) (by kernel_rfl) (by kernel_rfl) (by rfl) (by first | assumption | decide +kernel) (by decide +kernel) ⟨rfl, rfl, rfl, rfl, rfl, by decide +kernel⟩ ?hw ?hc
  case hw => w_witness2
  case hc =>
    refine Mc.walkGE (l := PySem.Challenge.rw_movecells_k54_reached_moves) (n := 63) (k := 14) (x := "_law_script") rfl (by decide) (by kernel_rfl) ⟨⟨rfl, by decide, by decide⟩, rfl⟩ ?F
    intro w mg fa h Y G hmg0
    obtain ⟨K, KX, c⟩ := Y
    have hmg : mg ("law" : PySem.Str) = some (.ref fa) := by
      have e : (HandSHeadRun.topDef (OpenLaw.row PySem.Challenge.rw_movecells_k54_reached_moves).prog 109).name = ("law" : PySem.Str) := by kernel_rfl
      rw [← e]
      exact hmg0
    obtain ⟨fd, hb, hF⟩ := Mc.all_law (P := (PySem.Challenge.rw_movecells_k54_reached_moves).prog) (w := w) KX G hmg c
    exact ⟨K, fd, KX, hb, hF⟩

